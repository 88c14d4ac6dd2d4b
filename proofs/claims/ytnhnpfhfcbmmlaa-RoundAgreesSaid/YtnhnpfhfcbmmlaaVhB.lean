/- The document's Bytes, Like, Same. Conditions: those stated. -/
import Derived.Test.YtnhnpfhfcbmmlaaVhA
namespace Go.Proofs.Ytnhnpfhfcbmmlaa
open Go Go.RowKit
set_option linter.unusedVariables false
set_option linter.unusedSimpArgs false

/-- While a command's bytes are made: the bytes so far, its numbers, its box. -/
structure BtS (w0 w : World) (p : Nat) (x : Cm) (v : Value) (out : List Int) (ao : Option Addr) (c : Nat) (ns : List Int) (an : Option Addr) (cn : Nat) : Prop where
  out : w.ownsRow w0.heap.size 5 1 (.slice ao out.length c) out.length (u8s out)
  ns : w.ownsRow w0.heap.size 3 1 (.slice an ns.length cn) ns.length (i64s ns)
  box : BxC w p x v
  bel : Below w0.heap.size w0 w
theorem BtS.later {w0 w w' : World} {p c cn : Nat} {x : Cm} {v : Value} {out ns : List Int} {ao an : Option Addr} (h : BtS w0 w p x v out ao c ns an cn) (hb : Below w.heap.size w w') : BtS w0 w' p x v out ao c ns an cn :=
  ⟨owns_bel h.out hb, owns_bel h.ns hb, h.box.later hb, bl_tr h.bel hb⟩
theorem BtS.app {w0 w w8 : World} {p c cn c8 k : Nat} {x : Cm} {v : Value} {out ns ms : List Int} {ao an a8 : Option Addr} (h : BtS w0 w p x v out ao c ns an cn) (hk : (ns ++ ms).length = k) (ho : w8.ownsRow w0.heap.size 3 1 (.slice a8 k c8) k (i64s ns ++ i64s ms)) (hg : w.grownBy w8 (Value.slice an ns.length cn).ownBlock) : BtS w0 w8 p x v out ao c (ns ++ ms) a8 c8 := by
  have hT := tch_grown hg
  subst hk
  refine ⟨hT.own h.out (fun g hg2 e => own_kinds h.out h.ns (by decide) g hg2 e.symm), by rw [← i64s_app]; exact ho, hT.at h.box (fun e => own_ne_box h.ns h.box (by decide) p e.symm rfl), ?_⟩
  exact h.bel.trans (hT.below (fun k hk => (h.ns.lt k hk.symm).1) h.bel.size)
theorem BtS.eight {w0 w w8 : World} {p c cn c8 : Nat} {x : Cm} {v : Value} {out out2 ns : List Int} {ao an a8 : Option Addr} (h : BtS w0 w p x v out ao c ns an cn) (ho : OwR w w8 w0.heap.size out2 ao out.length c a8 c8) : BtS w0 w8 p x v out2 a8 c8 ns an cn := by
  have hT := ho.tch
  refine ⟨ho.own, hT.own h.ns (fun g hg2 e => own_kinds h.out h.ns (by decide) g e.symm hg2), hT.at h.box (fun e => own_ne_box h.out h.box (by decide) p e.symm rfl), ?_⟩
  exact h.bel.trans (hT.below (fun k hk => (h.out.lt k hk.symm).1) h.bel.size)
theorem i64s_new (w : World) (ms : List Int) (C : Array Value) (hC : C = (i64s ms).toArray) : ∀ j u, (i64s ms)[j]? = some u → (w.alloc (.cells C 3)).cell? ((⟨w.heap.size, 0, none⟩ : Addr).add j) = some u := by
  subst hC
  intro j u hu
  rw [Go.WideShapes.add_plain]
  exact cells_new w (i64s ms) 3 (0, 0) j u hu
theorem ends_few {l : List Cm} (h : ∀ c ∈ l, c.es.length ≤ 400) : ends l ≤ 400 * l.length := by
  induction l with
  | nil => simp [ends]
  | cons c l ih =>
    have h1 := h c List.mem_cons_self
    have h2 := ih (fun x hx => h x (List.mem_cons_of_mem _ hx))
    simp only [ends, List.length_cons]
    omega
theorem i64_num {x : Cm} (h : TyC x) : ∀ b ∈ numC x, i64c b := by
  obtain ⟨f1, f2, f3⟩ := fitI_head h
  intro b hb
  unfold numC at hb
  rcases List.mem_append.1 hb with hb | hb
  · have e : head9 x = [x.node, x.boot, x.seq, x.time, x.kind] ++ [x.vip, x.proto, x.port, (x.es.length : Int)] := rfl
    rw [e] at hb
    have := fitI_app f1 f2 b hb
    unfold i64c
    omega
  · rcases List.mem_append.1 hb with hb | hb
    · unfold numEs at hb
      obtain ⟨e, he, hb⟩ := List.mem_flatMap.1 hb
      have := fitI_end (h.es e he) b hb
      unfold i64c
      omega
    · have := f3 b hb
      unfold i64c
      omega
def GotN8 (w : World) (l : List Int) (e : Ending) (w' : World) : Prop := (∃ ao c, e = .returned (.slice ao l.length c) ∧ w'.ownsRow w.heap.size 5 1 (.slice ao l.length c) l.length (u8s l)) ∧ Below w.heap.size w w'
set_option maxRecDepth 100000 in
set_option maxHeartbeats 8000000 in
theorem bytesR_c (ls : List Cm) (vs : List Value) (a : Option Addr) (n c : Nat) (w : World) (hI : InC w a n c ls vs) (hn : n ≤ 256) (hes : ∀ x ∈ ls, x.es.length ≤ 400) :
    Calls Try.prog 60 #[.slice a n c] w (GotN8 w (bytesL ls)) := by
  obtain ⟨i0, hi0, hz0, hz1, hz2⟩ := info_parts info3
  have hlen := hI.len
  have hroom := hI.room
  have HI := Lib.hid hI
  have HES := Lib.hid hes
  have E0 := eight_c (n : Int) ⟨by omega, by omega⟩ w.heap.size [] none 0 w ⟨rfl, .inl ⟨rfl, rfl⟩⟩ (by simp) (Nat.le_refl _)
  simp only [List.length_nil, Nat.zero_add, List.nil_append] at E0
  have HE0 := Lib.hid E0
  clear hI hes E0
  go_enter Try.func60, Try.ntmps60
  go_wp2_with fail
  refine HE0.out.mono ?_
  rintro e w1 ⟨a1, c1, rfl, ho1⟩
  have S0 : Hid (8 = (nb ((n : Int) :: numL (ls.take 0))).length ∧ w1.ownsRow w.heap.size 5 1 (.slice a1 8 c1) 8 (u8s (nb ((n : Int) :: numL (ls.take 0)))) ∧ Below w.heap.size w w1) := Lib.hid ⟨rfl, by simpa [nb, numL, b8_len] using ho1.own, ho1.tch.below (fun k hk => by cases hk) (Nat.le_refl _)⟩
  clear ho1 HE0
  go_wp2
  go_loopw [3, 4, 5, 6, 7, 8, 9] (fun ov iv _ _ _ _ _ wr => ∃ (i mm : Nat) (ao : Option Addr) (cm : Nat), i ≤ n ∧ iv = .int .i64 i ∧ ov = .slice ao mm cm ∧ Hid (mm = (nb ((n : Int) :: numL (ls.take i))).length ∧ wr.ownsRow w.heap.size 5 1 (.slice ao mm cm) mm (u8s (nb ((n : Int) :: numL (ls.take i)))) ∧ Below w.heap.size w wr)) (fun _ iv _ _ _ _ _ _ => n - (intOf iv).toNat)
  case atStart => exact ⟨0, 8, a1, c1, by omega, rfl, rfl, S0⟩
  case round =>
    obtain ⟨i, mm, ao, cm, hi, rfl, rfl, HS⟩ := hrel
    obtain ⟨w3, rfl⟩ : ∃ v, v = wr := ⟨_, rfl⟩
    clear S0
    by_cases hlt : i < n
    · have ii : (i : Int) < (n : Int) := by omega
      have i0' : (0 : Int) ≤ (i : Int) := by omega
      have ic : (i : Int) ≤ (c : Int) := by omega
      have hI2 := HI.out.below HS.out.2.2
      obtain ⟨b1, o1, rfl⟩ := HI.out.block (by omega)
      obtain ⟨k0, k1, k2, k3, k4, k5, k6, k7, k8, k9, k10, k11⟩ := hI2.cell hlt
      obtain ⟨a2, n2, c2, hv, hE0⟩ := HI.out.ends i hlt
      have ht := HI.out.ty hlt
      rw [hv] at k8
      have hmem := memC (ls := ls) (i := i) (by omega)
      have HTK : Hid (ls.take (i + 1) = ls.take i ++ [ls.getD i cm0]) := Lib.hid (take_moreC ls (i := i) (by omega))
      have HLE : Hid ((nb ((n : Int) :: numL (ls.take i))).length ≤ 2500000) := Lib.hid (by
        have h1 := ends_few (l := ls.take i) (fun x hx => HES.out x (List.mem_of_mem_take hx))
        rw [nb_len, List.length_cons, numL_len]
        rw [List.length_take] at h1 ⊢
        omega)
      obtain ⟨x, hx⟩ : ∃ x, x = ls.getD i cm0 := ⟨_, rfl⟩
      rw [← hx] at k0 k1 k2 k3 k4 k5 k6 k7 k9 k10 k11 hE0 ht hmem HTK
      have hel := hE0.len
      have hn2 : n2 ≤ 400 := by rw [← hel]; exact HES.out x hmem
      have hroom2 := hE0.room
      have HEL := Lib.hid hel
      have HTY := Lib.hid ht
      have v1 := w64_u ht.vip
      have v2 := w64_u ht.dip
      have v3 := w64_u ht.cvip
      obtain ⟨w4, hw4⟩ : ∃ w4, w4 = w3.alloc (x.obj (.slice a2 n2 c2)) := ⟨_, rfl⟩
      have hA := bxC_new w3 x (.slice a2 n2 c2)
      have hb4 : Below w3.heap.size w3 w4 := by rw [hw4]; exact bl_al (Below.refl _ _) _
      obtain ⟨p4, hp4⟩ : ∃ p4, p4 = w3.heap.size := ⟨_, rfl⟩
      rw [← hp4, ← hw4] at hA
      have HW4 := Lib.hid (And.intro hw4 hp4)
      have HE0 := Lib.hid hE0
      have HMM := Lib.hid HS.out.1
      have HBA : Hid (w4.ownsRow w.heap.size 5 1 (.slice ao (nb ((n : Int) :: numL (ls.take i))).length cm) (nb ((n : Int) :: numL (ls.take i))).length (u8s (nb ((n : Int) :: numL (ls.take i)))) ∧ BxC w4 p4 x (.slice a2 n2 c2) ∧ Below w.heap.size w w4) := Lib.hid ⟨by have := owns_bel HS.out.2.1 hb4; rwa [HMM.out] at this, hA, bl_tr HS.out.2.2 hb4⟩
      have HNX : Hid (nb ((n : Int) :: numL (ls.take (i + 1))) = nb ((n : Int) :: numL (ls.take i)) ++ nb (numC x)) := Lib.hid (by rw [HTK.out, numL_app, numL_one, nb_cons, nb_cons, nb_app, List.append_assoc])
      obtain ⟨d0, d1, d2, d3, d4, d5, d6, d7, d8, d9, d10, d11⟩ := hA.at.lit
      clear hx ht hE0 hv hI2 hmem hw4 hb4 hp4 hA hel HS
      go_upto_region 6 with fail
      rw [show w3.alloc (.cells #[.int .i64 x.node, .int .i64 x.boot, .int .i64 x.seq, .int .i64 x.time, .int .i64 x.kind, .int .u32 x.vip, .int .i64 x.proto, .int .i64 x.port, .slice a2 n2 c2, .int .u32 x.dip, .int .u32 x.cvip, .bool x.up] tyC) = w4 from HW4.out.1.symm, ← HW4.out.2]
      clear k0 k1 k2 k3 k4 k5 k6 k7 k8 k9 k10 k11
      go_upto_region 7 with fail
      obtain ⟨w5, hw5⟩ : ∃ w5, w5 = w4.alloc (.cells #[.int .i64 x.node, .int .i64 x.boot, .int .i64 x.seq, .int .i64 x.time, .int .i64 x.kind, .int .i64 x.vip, .int .i64 x.proto, .int .i64 x.port, .int .i64 (n2 : Int)] 3) := ⟨_, rfl⟩
      rw [← hw5]
      have HB5 : Hid (9 = (head9 x ++ numEs (x.es.take 0)).length ∧ BtS w w5 p4 x (.slice a2 n2 c2) (nb ((n : Int) :: numL (ls.take i))) ao cm (head9 x ++ numEs (x.es.take 0)) (some ⟨w4.heap.size, 0, none⟩) 9) := Lib.hid (by
        have hb5 : Below w4.heap.size w4 w5 := by rw [hw5]; exact bl_al (Below.refl _ _) _
        have h9 : head9 x = [x.node, x.boot, x.seq, x.time, x.kind, x.vip, x.proto, x.port, (n2 : Int)] := by unfold head9; rw [HEL.out]
        have e0 : head9 x ++ numEs (x.es.take 0) = head9 x := by simp [numEs]
        rw [e0]
        refine ⟨rfl, owns_bel HBA.out.1 hb5, ?_, HBA.out.2.1.later hb5, bl_tr HBA.out.2.2 hb5⟩
        rw [h9, hw5]
        exact own_litI w4 _ _ rfl 9 w.heap.size rfl HBA.out.2.2.size (by unfold maxLen; omega))
      clear hw5 HBA HW4 v1 d0 d1 d2 d3 d4 d5 d6 d7 d8 d9 d10 d11
      go_wp2
      obtain ⟨q4, hq4⟩ : ∃ q, q = w4.heap.size := ⟨_, rfl⟩
      rw [← hq4] at HB5 ⊢
      clear hq4
      go_loopw [6, 7, 8] (fun lv jv _ wr => ∃ (j nn : Nat) (an : Option Addr) (cn : Nat), j ≤ n2 ∧ nn ≤ 9 + 3 * j ∧ jv = .int .i64 j ∧ lv = .slice an nn cn ∧ Hid (nn = (head9 x ++ numEs (x.es.take j)).length ∧ BtS w wr p4 x (.slice a2 n2 c2) (nb ((n : Int) :: numL (ls.take i))) ao cm (head9 x ++ numEs (x.es.take j)) an cn)) (fun _ jv _ _ => n2 - (intOf jv).toNat)
      case atStart => exact ⟨0, 9, _, 9, by omega, by omega, rfl, rfl, HB5⟩
      case round =>
        obtain ⟨j, nn, an, cn, hj, hnn, rfl, rfl, HT⟩ := hrel
        obtain ⟨w6, rfl⟩ : ∃ v, v = wr := ⟨_, rfl⟩
        clear HB5
        obtain ⟨d0, d1, d2, d3, d4, d5, d6, d7, d8, d9, d10, d11⟩ := HT.out.2.box.at.lit
        by_cases hlj : j < n2
        · have jj : (j : Int) < (n2 : Int) := by omega
          have j0' : (0 : Int) ≤ (j : Int) := by omega
          have jc : (j : Int) ≤ (c2 : Int) := by omega
          obtain ⟨b3, o3, rfl⟩ := HE0.out.block (by omega)
          have hE6 := HE0.out.below HT.out.2.bel
          obtain ⟨f0, f1, f2⟩ := hE6.cell hlj
          have hte := HE0.out.typ _ (memE (es := x.es) (i := j) (by have := HE0.out.len; omega))
          have HTE := Lib.hid (take_moreE x.es (i := j) (by have := HE0.out.len; omega))
          obtain ⟨y, hy⟩ : ∃ y, y = x.es.getD j en0 := ⟨_, rfl⟩
          rw [← hy] at f0 f1 f2 hte HTE
          obtain ⟨y0, y1, y2⟩ := y
          have v4 : wrap64 y0 = y0 := w64_u hte.1
          obtain ⟨w7, hw7⟩ : ∃ w7, w7 = w6.alloc (.cells #[.int .u32 y0, .int .i64 y1, .int .i64 y2] tyE) := ⟨_, rfl⟩
          have hEn := enAt_new w6 ⟨y0, y1, y2⟩
          have hbe : Below w6.heap.size w6 w7 := by rw [hw7]; exact bl_al (Below.refl _ _) _
          obtain ⟨p6, hp6⟩ : ∃ p6, p6 = w6.heap.size := ⟨_, rfl⟩
          have HW7 := Lib.hid (And.intro hw7 hp6)
          rw [← hp6, show w6.alloc (En.obj ⟨y0, y1, y2⟩) = w7 from hw7.symm] at hEn
          obtain ⟨g0, g1, g2⟩ := hEn
          have HB7 := Lib.hid (HT.out.2.later hbe)
          have HN := Lib.hid HT.out.1
          clear hy hte hE6 hw7 hp6 hbe HT
          go_upto_region 11 with fail
          rw [show w6.alloc (.cells #[.int .u32 y0, .int .i64 y1, .int .i64 y2] tyE) = w7 from HW7.out.1.symm, ← HW7.out.2]
          clear f0 f1 f2 d0 d1 d2 d3 d4 d5 d6 d7 d8 d9 d10 d11
          have HO7 : Hid ((w7.alloc (.cells #[.int .i64 y0, .int .i64 y1, .int .i64 y2] 3)).ownsRow w.heap.size 3 1 (.slice an nn cn) nn (i64s (head9 x ++ numEs (x.es.take j)))) := Lib.hid (by have := HB7.out.ns.alloc (.cells #[.int .i64 y0, .int .i64 y1, .int .i64 y2] 3); rwa [← HN.out] at this)
          have HN7 := Lib.hid (i64s_new w7 [y0, y1, y2] #[.int .i64 y0, .int .i64 y1, .int .i64 y2] rfl)
          have hw7s : w.heap.size ≤ (w7.alloc (.cells #[.int .i64 y0, .int .i64 y1, .int .i64 y2] 3)).heap.size := by have := HB7.out.bel.size; simp; omega
          go_wp2_with (at_builtin; refine wpList_append_own _ rfl (.tmp 62) (.tmp 70) 98 rfl w.heap.size 3 i0 (.int .i64 0) 1 8 Try.underlying98 hi0 hz0 hz1 hz2 rfl (by decide) _ nn (i64s (head9 x ++ numEs (x.es.take j))) rfl HO7.out ⟨w7.heap.size, 0, none⟩ 3 3 (i64s [y0, y1, y2]) rfl rfl HN7.out (i64s_one _) (by unfold maxLen; omega) (by omega) hw7s ?_)
          intro v8 w8 hown8 hg8 _
          obtain ⟨a8, c8, rfl⟩ := own_form hown8
          have HB8 : Hid (nn + 3 = (head9 x ++ numEs (x.es.take (j + 1))).length ∧ BtS w w8 p4 x (.slice (some ⟨b3, o3, none⟩) n2 c2) (nb ((n : Int) :: numL (ls.take i))) ao cm (head9 x ++ numEs (x.es.take (j + 1))) a8 c8) := Lib.hid (by
            have e1 : head9 x ++ numEs (x.es.take (j + 1)) = head9 x ++ numEs (x.es.take j) ++ [y0, y1, y2] := by rw [HTE.out, numEs_app, numEs_one, List.append_assoc]; rfl
            have e2 : nn + 3 = (head9 x ++ numEs (x.es.take (j + 1))).length := by rw [e1, List.length_append, ← HN.out]; rfl
            have hb := HB7.out.later (bl_al (Below.refl _ _) (.cells #[.int .i64 y0, .int .i64 y1, .int .i64 y2] 3))
            refine ⟨e2, ?_⟩
            have := hb.app (ms := [y0, y1, y2]) (k := nn + 3) (by rw [← e1, e2]) hown8 (by rw [← HN.out]; exact hg8)
            rw [e1]
            exact this)
          clear hown8 hg8 HO7 HN7 hw7s g0 g1 g2
          go_wp2
          go_roundw
          case rel => exact ⟨j + 1, nn + 3, a8, c8, by omega, by omega, by go_num, rfl, HB8⟩
          case measure => simp [intOf]; omega
        · have jj : ¬ (j : Int) < (n2 : Int) := by omega
          obtain rfl : j = n2 := by omega
          have HB6 : Hid (nn = (head9 x ++ numEs x.es).length ∧ BtS w w6 p4 x (.slice a2 j c2) (nb ((n : Int) :: numL (ls.take i))) ao cm (head9 x ++ numEs x.es) an cn) := Lib.hid (by have := HT.out; rwa [show x.es.take j = x.es from List.take_of_length_le (by have := HEL.out; omega)] at this)
          clear HT
          have HO7 : Hid ((w6.alloc (.cells #[.int .i64 x.dip, .int .i64 x.cvip] 3)).ownsRow w.heap.size 3 1 (.slice an nn cn) nn (i64s (head9 x ++ numEs x.es))) := Lib.hid (by have := HB6.out.2.ns.alloc (.cells #[.int .i64 x.dip, .int .i64 x.cvip] 3); rwa [← HB6.out.1] at this)
          have HN7 := Lib.hid (i64s_new w6 [x.dip, x.cvip] #[.int .i64 x.dip, .int .i64 x.cvip] rfl)
          have hw6s : w.heap.size ≤ (w6.alloc (.cells #[.int .i64 x.dip, .int .i64 x.cvip] 3)).heap.size := by have := HB6.out.2.bel.size; simp; omega
          go_wp2_with (at_builtin; refine wpList_append_own _ rfl (.tmp 72) (.tmp 79) 98 rfl w.heap.size 3 i0 (.int .i64 0) 1 8 Try.underlying98 hi0 hz0 hz1 hz2 rfl (by decide) _ nn (i64s (head9 x ++ numEs x.es)) rfl HO7.out ⟨w6.heap.size, 0, none⟩ 2 2 (i64s [x.dip, x.cvip]) rfl rfl HN7.out (i64s_one _) (by unfold maxLen; omega) (by omega) hw6s ?_)
          intro v7 w7 hown7 hg7 _
          obtain ⟨a7, c7, rfl⟩ := own_form hown7
          have HB7 : Hid (nn + 2 = (head9 x ++ numEs x.es ++ [x.dip, x.cvip]).length ∧ BtS w w7 p4 x (.slice a2 j c2) (nb ((n : Int) :: numL (ls.take i))) ao cm (head9 x ++ numEs x.es ++ [x.dip, x.cvip]) a7 c7) := Lib.hid (by
            have e2 : nn + 2 = (head9 x ++ numEs x.es ++ [x.dip, x.cvip]).length := by rw [List.length_append, ← HB6.out.1]; rfl
            have hb := HB6.out.2.later (bl_al (Below.refl _ _) (.cells #[.int .i64 x.dip, .int .i64 x.cvip] 3))
            exact ⟨e2, hb.app (ms := [x.dip, x.cvip]) (k := nn + 2) e2.symm hown7 (by rw [← HB6.out.1]; exact hg7)⟩)
          obtain ⟨n7, hn7⟩ : ∃ n7, n7 = nn + 2 := ⟨_, rfl⟩
          have hn7b : n7 ≤ 1220 := by omega
          rw [← hn7] at HB7 ⊢
          have HN7L := Lib.hid HB7.out.1
          have HB7 := Lib.hid HB7.out.2
          clear hown7 hg7 HO7 HN7 hw6s hn7 hnn HB6 v2 v3 d0 d1 d2 d3 d4 d5 d6 d7 d8 d9 d10 d11
          obtain ⟨n2, rfl⟩ : ∃ m, m = j := ⟨_, rfl⟩
          obtain ⟨d0, d1, d2, d3, d4, d5, d6, d7, d8, d9, d10, d11⟩ := HB7.out.box.at.lit
          cases hu : x.up with
          | true =>
            rw [hu] at d11
            have eu : ub x.up = 1 := by rw [hu]; rfl
            have HU := Lib.hid eu
            have HO7 := Lib.hid ((HB7.out.ns).alloc (.cells #[.int .i64 1] 3))
            have HN7 := Lib.hid (i64s_new w7 [1] #[.int .i64 1] rfl)
            have HL7 := Lib.hid (HB7.out.bel.size)
            clear hu eu
            rw [show (head9 x ++ numEs x.es ++ [x.dip, x.cvip]).length = n7 from HN7L.out.symm] at HO7
            have hw7s : w.heap.size ≤ (w7.alloc (.cells #[.int .i64 1] 3)).heap.size := by have := HL7.out; simp; omega
            go_wp2_with (at_builtin; refine wpList_append_own _ rfl (.tmp 83) (.tmp 84) 98 rfl w.heap.size 3 i0 (.int .i64 0) 1 8 Try.underlying98 hi0 hz0 hz1 hz2 rfl (by decide) _ n7 (i64s (head9 x ++ numEs x.es ++ [x.dip, x.cvip])) rfl HO7.out ⟨w7.heap.size, 0, none⟩ 1 1 (i64s [1]) rfl rfl HN7.out (i64s_one _) (by unfold maxLen; omega) (by omega) hw7s ?_)
            intro v8 w8 hown8 hg8 _
            obtain ⟨a8, c8, rfl⟩ := own_form hown8
            have HB8 : Hid (n7 + 1 = (numC x).length ∧ BtS w w8 p4 x (.slice a2 n2 c2) (nb ((n : Int) :: numL (ls.take i))) ao cm (numC x) a8 c8) := Lib.hid (by
              have e1 : numC x = head9 x ++ numEs x.es ++ [x.dip, x.cvip] ++ [1] := by unfold numC tail3; rw [HU.out]; simp only [List.append_assoc]; rfl
              have e2 : n7 + 1 = (numC x).length := by rw [e1, List.length_append, ← HN7L.out]; rfl
              have hb := HB7.out.later (bl_al (Below.refl _ _) (.cells #[.int .i64 1] 3))
              refine ⟨e2, ?_⟩
              have := hb.app (ms := [1]) (k := n7 + 1) (by rw [← e1, e2]) hown8 (by rw [← HN7L.out]; exact hg8)
              rw [e1]
              exact this)
            clear hown8 hg8 HO7 HN7 HL7 hw7s d0 d1 d2 d3 d4 d5 d6 d7 d8 d9 d10 d11
            obtain ⟨N8, hN8⟩ : ∃ N8, N8 = n7 + 1 := ⟨_, rfl⟩
            rw [← hN8] at HB8 ⊢
            have hm204 : N8 ≤ 1300 := by omega
            clear hN8
            have HM8 := Lib.hid (show mm = (nb ((n : Int) :: numL (ls.take i)) ++ nb ((numC x).take 0)).length by simpa [nb] using HMM.out)
            have HS8 : Hid (BtS w w8 p4 x (.slice a2 n2 c2) (nb ((n : Int) :: numL (ls.take i)) ++ nb ((numC x).take 0)) ao cm (numC x) a8 c8) := Lib.hid (by have := HB8.out.2; simpa [nb] using this)
            have HN8 := Lib.hid HB8.out.1
            clear HB8
            go_wp2
            go_loopw [3, 9] (fun ov tv wr => ∃ (t m8 : Nat) (ao : Option Addr) (cm : Nat), t ≤ N8 ∧ tv = .int .i64 t ∧ ov = .slice ao m8 cm ∧ Hid (m8 = (nb ((n : Int) :: numL (ls.take i)) ++ nb ((numC x).take t)).length) ∧ Hid (BtS w wr p4 x (.slice a2 n2 c2) (nb ((n : Int) :: numL (ls.take i)) ++ nb ((numC x).take t)) ao cm (numC x) a8 c8)) (fun _ tv _ => N8 - (intOf tv).toNat)
            case atStart => exact ⟨0, mm, ao, cm, by omega, rfl, rfl, HM8, HS8⟩
            case round =>
              obtain ⟨t, m8, ao9, cm9, ht8, rfl, rfl, HM9, HS9⟩ := hrel
              obtain ⟨w9, rfl⟩ : ∃ v, v = wr := ⟨_, rfl⟩
              clear HM8 HS8
              by_cases hlt8 : t < N8
              · have tt : (t : Int) < (N8 : Int) := by omega
                have t0' : (0 : Int) ≤ (t : Int) := by omega
                have hfit : fitI (numC x) := fun b hb => by have := i64_num HTY.out b hb; unfold i64c at this; omega
                have hI9 : InI w9 a8 N8 c8 (numC x) := own_inI (by have := HS9.out.ns; rwa [← HN8.out] at this) HN8.out.symm hfit
                obtain ⟨b9, o9, rfl⟩ := in_blockI hI9 (by omega)
                have hc9 := in_cellI hI9 t hlt8
                have tc : (t : Int) ≤ (c8 : Int) := by have := hI9.room; omega
                have HTK9 : Hid (nb ((numC x).take (t + 1)) = nb ((numC x).take t) ++ b8 ((numC x).getD t 0)) := Lib.hid (by rw [take_more (numC x) 0 (by have := HN8.out; omega), nb_app, nb_one])
                have hlen9 : (nb ((n : Int) :: numL (ls.take i)) ++ nb ((numC x).take t)).length ≤ 4194304 := by have := HLE.out; rw [List.length_append, nb_len (List.take _ _), List.length_take]; omega
                obtain ⟨y, hy⟩ : ∃ y, y = (numC x).getD t 0 := ⟨_, rfl⟩
                have hyi : i64c y := by have := fitI_at hfit (j := t) (by have := HN8.out; omega); rw [← hy] at this; unfold i64c; omega
                rw [← hy] at hc9 HTK9
                have E8 := eight_c y hyi w.heap.size _ ao9 cm9 w9 HS9.out.out hlen9 HS9.out.bel.size
                rw [← HM9.out] at E8
                have HE8 := Lib.hid E8
                clear hfit hI9 hlen9 hy hyi E8
                go_wp2_with fail
                refine HE8.out.mono ?_
                rintro e w10 ⟨a10, c10, rfl, ho10⟩
                have HM10 : Hid (m8 + 8 = (nb ((n : Int) :: numL (ls.take i)) ++ nb ((numC x).take (t + 1))).length) := Lib.hid (by rw [HTK9.out, ← List.append_assoc, List.length_append, b8_len, HM9.out])
                have HS10 : Hid (BtS w w10 p4 x (.slice a2 n2 c2) (nb ((n : Int) :: numL (ls.take i)) ++ nb ((numC x).take (t + 1))) a10 c10 (numC x) (some ⟨b9, o9, none⟩) c8) := Lib.hid (by
                  rw [HM9.out] at ho10
                  have := HS9.out.eight ho10
                  rw [HTK9.out, ← List.append_assoc]
                  exact this)
                clear ho10 HE8 hc9
                go_wp2
                go_roundw
                case rel => exact ⟨t + 1, m8 + 8, a10, c10, by omega, by go_num, rfl, HM10, HS10⟩
                case measure => simp [intOf]; omega
              · have tt : ¬ (t : Int) < (N8 : Int) := by omega
                obtain rfl : t = N8 := by omega
                have HF : Hid (m8 = (nb ((n : Int) :: numL (ls.take (i + 1)))).length ∧ w9.ownsRow w.heap.size 5 1 (.slice ao9 m8 cm9) m8 (u8s (nb ((n : Int) :: numL (ls.take (i + 1))))) ∧ Below w.heap.size w w9) := Lib.hid (by
                  have e1 : (numC x).take t = numC x := List.take_of_length_le (by have := HN8.out; omega)
                  have h1 := HM9.out
                  have h2 := HS9.out
                  rw [e1, ← HNX.out] at h1 h2
                  refine ⟨h1, ?_, h2.bel⟩
                  rw [h1]
                  exact h2.out)
                clear HM9 HS9
                go_wp2
                go_roundw
                case rel => exact ⟨i + 1, m8, ao9, cm9, by omega, by go_num, rfl, HF⟩
                case measure => simp [intOf]; omega
          | false =>
            rw [hu] at d11
            have eu : ub x.up = 0 := by rw [hu]; rfl
            have HU := Lib.hid eu
            have HO7 := Lib.hid ((HB7.out.ns).alloc (.cells #[.int .i64 0] 3))
            have HN7 := Lib.hid (i64s_new w7 [0] #[.int .i64 0] rfl)
            have HL7 := Lib.hid (HB7.out.bel.size)
            clear hu eu
            rw [show (head9 x ++ numEs x.es ++ [x.dip, x.cvip]).length = n7 from HN7L.out.symm] at HO7
            have hw7s : w.heap.size ≤ (w7.alloc (.cells #[.int .i64 0] 3)).heap.size := by have := HL7.out; simp; omega
            go_wp2_with (at_builtin; refine wpList_append_own _ rfl (.tmp 86) (.tmp 87) 98 rfl w.heap.size 3 i0 (.int .i64 0) 1 8 Try.underlying98 hi0 hz0 hz1 hz2 rfl (by decide) _ n7 (i64s (head9 x ++ numEs x.es ++ [x.dip, x.cvip])) rfl HO7.out ⟨w7.heap.size, 0, none⟩ 1 1 (i64s [0]) rfl rfl HN7.out (i64s_one _) (by unfold maxLen; omega) (by omega) hw7s ?_)
            intro v8 w8 hown8 hg8 _
            obtain ⟨a8, c8, rfl⟩ := own_form hown8
            have HB8 : Hid (n7 + 1 = (numC x).length ∧ BtS w w8 p4 x (.slice a2 n2 c2) (nb ((n : Int) :: numL (ls.take i))) ao cm (numC x) a8 c8) := Lib.hid (by
              have e1 : numC x = head9 x ++ numEs x.es ++ [x.dip, x.cvip] ++ [0] := by unfold numC tail3; rw [HU.out]; simp only [List.append_assoc]; rfl
              have e2 : n7 + 1 = (numC x).length := by rw [e1, List.length_append, ← HN7L.out]; rfl
              have hb := HB7.out.later (bl_al (Below.refl _ _) (.cells #[.int .i64 0] 3))
              refine ⟨e2, ?_⟩
              have := hb.app (ms := [0]) (k := n7 + 1) (by rw [← e1, e2]) hown8 (by rw [← HN7L.out]; exact hg8)
              rw [e1]
              exact this)
            clear hown8 hg8 HO7 HN7 HL7 hw7s d0 d1 d2 d3 d4 d5 d6 d7 d8 d9 d10 d11
            obtain ⟨N8, hN8⟩ : ∃ N8, N8 = n7 + 1 := ⟨_, rfl⟩
            rw [← hN8] at HB8 ⊢
            have hm204 : N8 ≤ 1300 := by omega
            clear hN8
            have HM8 := Lib.hid (show mm = (nb ((n : Int) :: numL (ls.take i)) ++ nb ((numC x).take 0)).length by simpa [nb] using HMM.out)
            have HS8 : Hid (BtS w w8 p4 x (.slice a2 n2 c2) (nb ((n : Int) :: numL (ls.take i)) ++ nb ((numC x).take 0)) ao cm (numC x) a8 c8) := Lib.hid (by have := HB8.out.2; simpa [nb] using this)
            have HN8 := Lib.hid HB8.out.1
            clear HB8
            go_wp2
            go_loopw [3, 9] (fun ov tv wr => ∃ (t m8 : Nat) (ao : Option Addr) (cm : Nat), t ≤ N8 ∧ tv = .int .i64 t ∧ ov = .slice ao m8 cm ∧ Hid (m8 = (nb ((n : Int) :: numL (ls.take i)) ++ nb ((numC x).take t)).length) ∧ Hid (BtS w wr p4 x (.slice a2 n2 c2) (nb ((n : Int) :: numL (ls.take i)) ++ nb ((numC x).take t)) ao cm (numC x) a8 c8)) (fun _ tv _ => N8 - (intOf tv).toNat)
            case atStart => exact ⟨0, mm, ao, cm, by omega, rfl, rfl, HM8, HS8⟩
            case round =>
              obtain ⟨t, m8, ao9, cm9, ht8, rfl, rfl, HM9, HS9⟩ := hrel
              obtain ⟨w9, rfl⟩ : ∃ v, v = wr := ⟨_, rfl⟩
              clear HM8 HS8
              by_cases hlt8 : t < N8
              · have tt : (t : Int) < (N8 : Int) := by omega
                have t0' : (0 : Int) ≤ (t : Int) := by omega
                have hfit : fitI (numC x) := fun b hb => by have := i64_num HTY.out b hb; unfold i64c at this; omega
                have hI9 : InI w9 a8 N8 c8 (numC x) := own_inI (by have := HS9.out.ns; rwa [← HN8.out] at this) HN8.out.symm hfit
                obtain ⟨b9, o9, rfl⟩ := in_blockI hI9 (by omega)
                have hc9 := in_cellI hI9 t hlt8
                have tc : (t : Int) ≤ (c8 : Int) := by have := hI9.room; omega
                have HTK9 : Hid (nb ((numC x).take (t + 1)) = nb ((numC x).take t) ++ b8 ((numC x).getD t 0)) := Lib.hid (by rw [take_more (numC x) 0 (by have := HN8.out; omega), nb_app, nb_one])
                have hlen9 : (nb ((n : Int) :: numL (ls.take i)) ++ nb ((numC x).take t)).length ≤ 4194304 := by have := HLE.out; rw [List.length_append, nb_len (List.take _ _), List.length_take]; omega
                obtain ⟨y, hy⟩ : ∃ y, y = (numC x).getD t 0 := ⟨_, rfl⟩
                have hyi : i64c y := by have := fitI_at hfit (j := t) (by have := HN8.out; omega); rw [← hy] at this; unfold i64c; omega
                rw [← hy] at hc9 HTK9
                have E8 := eight_c y hyi w.heap.size _ ao9 cm9 w9 HS9.out.out hlen9 HS9.out.bel.size
                rw [← HM9.out] at E8
                have HE8 := Lib.hid E8
                clear hfit hI9 hlen9 hy hyi E8
                go_wp2_with fail
                refine HE8.out.mono ?_
                rintro e w10 ⟨a10, c10, rfl, ho10⟩
                have HM10 : Hid (m8 + 8 = (nb ((n : Int) :: numL (ls.take i)) ++ nb ((numC x).take (t + 1))).length) := Lib.hid (by rw [HTK9.out, ← List.append_assoc, List.length_append, b8_len, HM9.out])
                have HS10 : Hid (BtS w w10 p4 x (.slice a2 n2 c2) (nb ((n : Int) :: numL (ls.take i)) ++ nb ((numC x).take (t + 1))) a10 c10 (numC x) (some ⟨b9, o9, none⟩) c8) := Lib.hid (by
                  rw [HM9.out] at ho10
                  have := HS9.out.eight ho10
                  rw [HTK9.out, ← List.append_assoc]
                  exact this)
                clear ho10 HE8 hc9
                go_wp2
                go_roundw
                case rel => exact ⟨t + 1, m8 + 8, a10, c10, by omega, by go_num, rfl, HM10, HS10⟩
                case measure => simp [intOf]; omega
              · have tt : ¬ (t : Int) < (N8 : Int) := by omega
                obtain rfl : t = N8 := by omega
                have HF : Hid (m8 = (nb ((n : Int) :: numL (ls.take (i + 1)))).length ∧ w9.ownsRow w.heap.size 5 1 (.slice ao9 m8 cm9) m8 (u8s (nb ((n : Int) :: numL (ls.take (i + 1))))) ∧ Below w.heap.size w w9) := Lib.hid (by
                  have e1 : (numC x).take t = numC x := List.take_of_length_le (by have := HN8.out; omega)
                  have h1 := HM9.out
                  have h2 := HS9.out
                  rw [e1, ← HNX.out] at h1 h2
                  refine ⟨h1, ?_, h2.bel⟩
                  rw [h1]
                  exact h2.out)
                clear HM9 HS9
                go_wp2
                go_roundw
                case rel => exact ⟨i + 1, m8, ao9, cm9, by omega, by go_num, rfl, HF⟩
                case measure => simp [intOf]; omega
    · have ii : ¬ (i : Int) < (n : Int) := by omega
      obtain rfl : i = n := by omega
      have HF : Hid (GotN8 w (bytesL ls) (.returned (.slice ao mm cm)) w3) := Lib.hid (by
        have h := HS.out
        have e1 : nb ((i : Int) :: numL (ls.take i)) = bytesL ls := by unfold bytesL; rw [taken_end hlen, hlen]
        rw [e1] at h
        obtain ⟨h1, h2, h3⟩ := h
        rw [h1] at h2 ⊢
        exact ⟨⟨ao, cm, rfl, h2⟩, h3⟩)
      clear HS
      go_wp2
      go_ret
      exact HF.out
end Go.Proofs.Ytnhnpfhfcbmmlaa
