/- The document's store: Put. Conditions: as it states. -/
import Derived.Test.YtpbgccidhpfmgaaSdB
namespace Go.Proofs.Ytpbgccidhpfmgaa
open Go Go.RowKit Go.Maps
set_option linter.unusedVariables false
set_option linter.unusedSimpArgs false

def insV (x : Pv) : List Pv → List Pv
  | [] => [x]
  | e :: l => if x.1.k < e.1.k then x :: e :: l else e :: insV x l
theorem insV_map (x : Pv) (ps : List Pv) : (insV x ps).map (·.1) = insP x.1 (ps.map (·.1)) := by
  induction ps with
  | nil => rfl
  | cons e ps ih =>
    by_cases h : x.1.k < e.1.k
    · simp only [insV, insP, List.map_cons, if_pos h]
    · simp only [insV, insP, List.map_cons, if_neg h, ih]
theorem insV_none {x : Pv} {ps : List Pv} (h : ∀ y ∈ ps, ¬ x.1.k < y.1.k) : insV x ps = ps ++ [x] := by
  induction ps with
  | nil => rfl
  | cons e ps ih =>
    simp only [insV, if_neg (h e List.mem_cons_self), List.cons_append]
    rw [ih (fun y hy => h y (List.mem_cons_of_mem _ hy))]
theorem insV_first {x e : Pv} {ps : List Pv} (h : ∀ y ∈ ps, ¬ x.1.k < y.1.k) (he : x.1.k < e.1.k) : insV x (ps ++ [e]) = ps ++ [x] ++ [e] := by
  induction ps with
  | nil => simp only [List.nil_append, insV, if_pos he]; rfl
  | cons a ps ih =>
    simp only [List.cons_append, insV, if_neg (h a List.mem_cons_self)]
    rw [ih (fun y hy => h y (List.mem_cons_of_mem _ hy))]
theorem insV_some {x e : Pv} {ps : List Pv} (h : ∃ y ∈ ps, x.1.k < y.1.k) : insV x (ps ++ [e]) = insV x ps ++ [e] := by
  induction ps with
  | nil => obtain ⟨y, hy, _⟩ := h; cases hy
  | cons a ps ih =>
    by_cases ha : x.1.k < a.1.k
    · simp only [List.cons_append, insV, if_pos ha]
    · simp only [List.cons_append, insV, if_neg ha]
      rw [ih]
      obtain ⟨y, hy, hl⟩ := h
      rcases List.mem_cons.1 hy with rfl | hy
      · exact absurd hl ha
      · exact ⟨y, hy, hl⟩
/-- While it is put in its place. -/
def InsR (x : Pv) (ts : List Pv) (d : Bool) (qs : List Pv) : Prop := (d = false ∧ (∀ y ∈ ts, ¬ x.1.k < y.1.k) ∧ qs = ts) ∨ (d = true ∧ (∃ y ∈ ts, x.1.k < y.1.k) ∧ qs = insV x ts)
theorem InsR.first {x e : Pv} {ts qs : List Pv} (h : InsR x ts false qs) (he : x.1.k < e.1.k) : InsR x (ts ++ [e]) true (qs ++ [x] ++ [e]) := by
  rcases h with ⟨_, h1, rfl⟩ | ⟨h, _⟩
  · exact .inr ⟨rfl, ⟨e, by simp, he⟩, (insV_first h1 he).symm⟩
  · cases h
theorem InsR.next {x e : Pv} {ts qs : List Pv} {d : Bool} (h : InsR x ts d qs) (he : d = true ∨ ¬ x.1.k < e.1.k) : InsR x (ts ++ [e]) d (qs ++ [e]) := by
  rcases h with ⟨rfl, h1, rfl⟩ | ⟨rfl, h1, rfl⟩
  · rcases he with he | he
    · cases he
    · refine .inl ⟨rfl, fun y hy => ?_, rfl⟩
      rcases List.mem_append.1 hy with hy | hy
      · exact h1 y hy
      · rw [List.mem_singleton] at hy; subst hy; exact he
  · obtain ⟨y, hy, hl⟩ := h1
    exact .inr ⟨rfl, ⟨y, List.mem_append_left _ hy, hl⟩, (insV_some ⟨y, hy, hl⟩).symm⟩
theorem InsR.len {x : Pv} {ts qs : List Pv} {d : Bool} (h : InsR x ts d qs) : qs.length ≤ ts.length + 1 := by
  rcases h with ⟨_, _, rfl⟩ | ⟨_, _, rfl⟩
  · omega
  · have : ∀ l : List Pv, (insV x l).length = l.length + 1 := fun l => by
      induction l with
      | nil => rfl
      | cons a l ih => simp only [insV]; split <;> simp [ih]
    rw [this]; exact Nat.le_refl _
theorem InsR.endT {x : Pv} {ts qs : List Pv} (h : InsR x ts true qs) : qs = insV x ts := by
  rcases h with ⟨h, _⟩ | ⟨_, _, h⟩
  · cases h
  · exact h
theorem InsR.endF {x : Pv} {ts qs : List Pv} (h : InsR x ts false qs) : qs ++ [x] = insV x ts := by
  rcases h with ⟨_, h1, rfl⟩ | ⟨h, _⟩
  · exact (insV_none h1).symm
  · cases h
theorem blt (a b : Ky) : Op.bytesLess (⟨a.toArray⟩ : ByteArray).toList (⟨b.toArray⟩ : ByteArray).toList = decide (a < b) := by
  rw [ByteArray.toList_eq, ByteArray.toList_eq]
  exact bytesLess_eq a b
/-- What Put leaves. -/
theorem RsK.put {w w1 : World} {B : Nat} {G : Nat → Prop} {q : Nat} {size : Int} {a1 a2 : Option Addr} {c1 c2 : Nat} {ps qs : List Pv} (h : RsK w B G q size a1 c1 a2 c2 ps qs) (hB : B ≤ w.heap.size) (hb : Below w.heap.size w w1) {a3 : Option Addr} {c3 : Nat} {rs : List Pv} {N : Nat} (hN : w.heap.size ≤ N) (hp : PsN w1 N (fun k => G k ∨ w.heap.size ≤ k) B (.slice a3 rs.length c3) rs)
    (hs : SrtP (rs.map (·.1))) (ho : ∀ x ∈ rs, OkP x.1) (hl : usedP (rs.map (·.1)) ≤ 67108864) : RsTo w B G q size (rs.map (·.1)) (qs.map (·.1)) (w1.setCell ⟨q, 0, none⟩ (.slice a3 rs.length c3)) := by
  have hk := (h.keep (tch_new hb) (fun _ _ h => h)).more w.heap.size hB
  have hpv : PsV w1 (fun k => G k ∨ (w.heap.size ≤ k ∧ k < w1.heap.size)) B (.slice a3 rs.length c3) rs :=
    ⟨own_base hp.row (Nat.le_trans hB hN), fun x hx => ⟨(hp.rows x hx).1, (hp.rows x hx).2.1, fun g hg => by
      rcases (hp.rows x hx).2.2 g hg with h1 | h1
      · exact .inl h1
      · exact .inr ⟨h1, ((hp.rows x hx).1.lt g hg).2⟩⟩, fun g hg => .inr ⟨Nat.le_trans hN (hp.row.lt g hg).1, (hp.row.lt g hg).2⟩⟩
  obtain ⟨k1, k2⟩ := hk.set0 hpv hs ho hl
  exact ⟨_, ⟨_, _, _, _, _, _, k1, rfl, rfl⟩, fun k hk => hk.imp id (fun h => h.1), ((tch_new hb).mono (fun _ h => h.elim)).trans k2⟩
theorem cells_two (w : World) (u v : Value) (W : World) (h : W = w.alloc (.cells #[u, v] tyP)) : W.cell? ⟨w.heap.size, 0, none⟩ = some u ∧ W.cell? ⟨w.heap.size, 1, none⟩ = some v := by
  subst h
  exact ⟨by simp, by simp⟩
set_option maxRecDepth 100000 in
set_option maxHeartbeats 8000000 in
theorem rput_c (B : Nat) (G : Nat → Prop) (q : Nat) (size : Int) (l m : List Pr) (k : Ky) (a : Option Addr) (n c : Nat) (r : List Int) (w : World) (h : RsS w B G q size l m) (hB : B ≤ w.heap.size) (hk : k.length ≤ maxLen) (hr : In w a n c r) (hn : n ≤ 140737488355328) :
    Calls Try.prog 36 #[.pointer (some ⟨q, 0, none⟩), sv k, .slice a n c] w fun e w' => e = .returned (.int .i64 (putN size k r l : Nat)) ∧ RsTo w B G q size (putL size k r l) m w' := by
  obtain rfl : n = r.length := hr.len.symm
  by_cases hkk : OkK k
  · obtain ⟨a1, c1, a2, c2, ps, qs0, hK, e1, e2⟩ := h
    subst e1
    subst e2
    obtain ⟨i0, hi0, hy0, hy1, hy2⟩ := info_parts infoP
    obtain ⟨k0, hk0, hz0, hz1, hz2⟩ := info_parts info5
    have hk1 := hkk.1
    have hk2 := hkk.2
    have h1 : ¬ ((k.length : Int) < 1) := by omega
    have h2 : ¬ ((64 : Int) < (k.length : Int)) := by omega
    have HKK := Lib.hid hkk
    have HK := Lib.hid hK
    have HR := Lib.hid hr
    have HBw := Lib.hid hB
    have e0 := hK.cs.1
    have CW := Lib.hid (rwithout_c G B a1 ps.length c1 ps k w hK.now hK.lens.1 rfl)
    have hpl := hK.lens.1
    clear hK hkk hr hB
    go_enter Try.func36, Try.ntmps36
    go_wp2_with fail
    refine CW.out.mono ?_
    rintro e w2 ⟨ao, co, rs, rfl, hmap, hN, hb2⟩
    have hcl : usedP (rs.map (·.1)) ≤ 67108864 := by rw [hmap]; exact Nat.le_trans (used_cut_le k _) HK.out.len.1
    have hrl : rs.length ≤ 67108864 := by have h3 := congrArg List.length hmap; rw [List.length_map] at h3; rw [h3]; exact Nat.le_trans (len_cut_le k _) (by rw [List.length_map]; exact hpl)
    have HV2 := Lib.hid (hN.toV HBw.out)
    have hd0 : Below w2.heap.size w2 w2.drew := (Below.refl _ _).drew
    have CU := Lib.hid (fun U (hU : Below w2.heap.size w2 U) => rused_c _ B ao rs.length co rs U (HV2.out.tch (tch_new hU) (fun _ _ h => h) (fun _ h => h.elim)) (by omega) rfl (by omega))
    have HK2 := Lib.hid (HK.out.keep (tch_new hb2) (fun _ _ h => h))
    have HB2 := Lib.hid hb2
    have HMP := Lib.hid hmap
    have HN := Lib.hid hN
    obtain ⟨u, hu⟩ : ∃ u, u = usedP (rs.map (·.1)) := ⟨_, rfl⟩
    rw [← hu] at CU hcl
    have HU := Lib.hid hu
    have hS0 : w2.drew.cell? ⟨q, 2, none⟩ = some (.int .i64 size) := HK2.out.cs.2.2
    have W1 : Hid (IntKind.i64.wrap ((u : Int) + (k.length : Int)) = (u : Int) + (k.length : Int)) := Lib.hid (IntWalk.i64_in _ (by omega))
    have W2 : Hid (IntKind.i64.wrap ((u : Int) + (k.length : Int) + (r.length : Int)) = ((u + k.length + r.length : Nat) : Int)) := Lib.hid (by rw [IntWalk.i64_in _ (by omega)]; omega)
    have w1' : ∀ [Inhabited Nat], IntKind.i64.wrap ((u : Int) + (k.length : Int)) = (u : Int) + (k.length : Int) := by intro _; exact W1.out
    have w2' : ∀ [Inhabited Nat], IntKind.i64.wrap ((u : Int) + (k.length : Int) + (r.length : Int)) = ((u + k.length + r.length : Nat) : Int) := by intro _; exact W2.out
    clear hu hmap hN hb2 CW e0
    go_wp2_with fail
    go_region_held3 (fun wx => wx.cell? ⟨q, 2, none⟩ = some (.int .i64 size)) (first | (with_reducible exact hS0) | (with_reducible assumption) | fail)
      (first | (go_at_call 74; (with_reducible refine (CU.out _ hd0).mono ?_); rintro e w3 ⟨rfl, ht3⟩; have hS3 := ht3.cell hS0 (fun h => h)) | fail)
    have HT3 := Lib.hid ((tch_new hd0).trans ht3)
    have HB3 := Lib.hid (bl_tr HB2.out (non_below HT3.out))
    have HN3 := Lib.hid (HN.out.tch HT3.out (fun _ _ h => h) (fun _ h => h.elim))
    clear hS0 hS3 hd0 ht3 CU HK2 HV2
    try rw [W1.out]
    try rw [W2.out]
    clear w1' w2' W1 W2
    by_cases hfull : size < ((u + k.length + r.length : Nat) : Int)
    · have HE : Hid (putN size k r (ps.map (·.1)) = 5) := Lib.hid (putN_full HKK.out (by rw [← HMP.out, ← HU.out]; exact hfull))
      have HF : Hid (RsTo w B G q size (putL size k r (ps.map (·.1))) (qs0.map (·.1)) w3) := Lib.hid (by
        rw [putL_same (by rw [HE.out]; decide)]
        exact ⟨G, ⟨_, _, _, _, _, _, HK.out.keep (tch_new HB3.out) (fun _ _ h => h), rfl, rfl⟩, fun k hk => .inl hk, (tch_new HB3.out).mono (fun _ h => h.elim)⟩)
      go_wp2
      go_ret
      exact ⟨by rw [HE.out]; rfl, HF.out⟩
    · have HE : Hid (putN size k r (ps.map (·.1)) = 0) := Lib.hid (putN_ok HKK.out (by rw [← HMP.out, ← HU.out]; exact hfull))
      have hszl := HK.out.sz
      have hnl : r.length ≤ 67108864 := by omega
      have hal0 : Below w3.heap.size w3 (w3.alloc (.cells #[] 5)) := bl_al (Below.refl _ _) _
      have own0 := World.ownsRow_made (e := 5) (size := 1) w3 #[] 0 (Nat.le_refl _) (by decide) rfl
      have HA1 := Lib.hid ((HR.out.below HB3.out).below hal0)
      have HBA0 := Lib.hid hal0
      clear hal0
      go_wp2_with (at_builtin; refine append_any rfl _ _ 74 rfl w3.heap.size 5 k0 (.int .u8 0) 1 1 Try.underlying74 hk0 hz0 hz1 hz2 rfl (by decide) _ 0 [] rfl own0 a r.length c (u8s r) rfl HA1.out.zero ?d1 HA1.out.cells (u8s_one r) ?d2 ?d3 ?d4 ?_)
      case d1 => unfold u8s; rw [List.length_map]
      case d2 => unfold maxLen; omega
      intro v1 w4 hown hgrow
      have HB4 := Lib.hid (HBA0.out.grown hgrow (by simp) (fun k hk => by cases hk; exact Nat.le_refl _))
      have hown' : w4.ownsRow w3.heap.size 5 1 v1 r.length (u8s r) := by
        exact hown
      obtain ⟨ra, rc, hv1⟩ := own_form hown'
      subst hv1
      obtain ⟨X, hX⟩ : ∃ X, X = w4.alloc (.cells #[.string ⟨k.toArray⟩, .slice ra r.length rc] tyP) := ⟨_, rfl⟩
      have hbX : Below w4.heap.size w4 X := by rw [hX]; exact bl_al (Below.refl _ _) _
      obtain ⟨x0, x1⟩ := cells_two w4 (sv k) (.slice ra r.length rc) X hX
      have hX1 : X.heap.size = w4.heap.size + 1 := by rw [hX]; simp
      obtain ⟨qx, hqx⟩ : ∃ qx, qx = w4.heap.size := ⟨_, rfl⟩
      rw [← hqx] at x0 x1 hX1
      obtain ⟨F2, hF2⟩ : ∃ F2 : Nat → Prop, F2 = (fun k => G k ∨ w.heap.size ≤ k) := ⟨_, rfl⟩
      have hws : w.heap.size ≤ w3.heap.size := HB3.out.size
      have HRX : Hid (RowF X F2 B (.slice ra r.length rc) r) := Lib.hid (by
        rw [hF2]
        exact ⟨own_base (owns_bel hown' hbX) (Nat.le_trans HBw.out hws), HR.out.fit, fun g hg => .inr (Nat.le_trans hws (hown'.lt g hg).1)⟩)
      have hbxt : Below w3.heap.size w3 X := bl_tr HB4.out hbX
      have HNX : Hid (PsN X w.heap.size F2 B (.slice ao rs.length co) rs) := Lib.hid (by
        have h6 := HN3.out.tch (tch_new hbxt) (fun _ _ h => h) (fun _ h => h.elim)
        rw [hF2]
        exact ⟨h6.row, fun x hx => (h6.rows x hx).mono (fun k hk => .inl hk)⟩)
      have HVX := Lib.hid (HNX.out.toV HBw.out)
      have HBXW := Lib.hid (bl_tr HB3.out hbxt)
      obtain ⟨N2, hN2⟩ : ∃ N2, N2 = X.heap.size := ⟨_, rfl⟩
      have HN2E := Lib.hid (show N2 ≤ X.heap.size by omega)
      have HN2F := Lib.hid hN2
      have HNW : Hid (w.heap.size ≤ N2) := Lib.hid (by rw [hN2]; exact HBXW.out.size)
      have HX := Lib.hid hX
      have HQX := Lib.hid hqx
      have HFF := Lib.hid hF2
      have HX01 := Lib.hid (And.intro x0 x1)
      clear hown hgrow hown' own0 HA1 HBA0 HB4 hbX hX1 hqx hX hF2 hws hbxt hN2 x0 x1 HT3 HN3 HN
      go_upto_region 9 with fail
      rw [← HX.out, ← HQX.out]
      clear HX HQX
      go_wp2
      go_loopw [8, 9, 11] (fun v d i wr => ∃ (j : Nat) (db : Bool) (qs : List Pv), j ≤ rs.length ∧ i = .int .i64 j ∧ d = .bool db ∧ Hid (InsR ((⟨k, r⟩ : Pr), (.slice ra r.length rc : Value)) (rs.take j) db qs) ∧ Hid (PsN wr N2 F2 B v qs) ∧ Hid (Below X.heap.size X wr)) (fun _ _ i _ => rs.length - (intOf i).toNat)
      case atStart => exact ⟨0, false, [], by omega, rfl, rfl, Lib.hid (.inl ⟨rfl, by simp, rfl⟩), Lib.hid (PsN.nil X), Lib.hid (Below.refl _ _)⟩
      case round =>
        obtain ⟨j, db, qs, hj, rfl, rfl, HI, HN, HB⟩ := hrel
        have hqlen : qs.length ≤ 67108866 := by have h7 := HI.out.len; rw [List.length_take] at h7; omega
        by_cases hlj : j < rs.length
        · obtain ⟨g, a3, c3, eg, hcap, _, hcX0, hcX1, ev, hrow0⟩ := HVX.out.at hlj
          subst eg
          have hTS := take_snocV hlj
          obtain ⟨x, hx⟩ : ∃ x, x = rs.getD j pv0 := ⟨_, rfl⟩
          rw [← hx] at hcX0 hcX1 hrow0 ev hTS
          have hxe : x = (x.1, (.slice a3 x.1.b.length c3 : Value)) := by rw [← ev]
          have HRW : Hid (RowF X F2 B (.slice a3 x.1.b.length c3) x.1.b) := Lib.hid (hrow0.mono (fun k hk => by
            rcases hk with hk | hk
            · exact hk
            · rw [HFF.out]; exact .inr hk.1))
          have HCX := Lib.hid (And.intro hcX0 hcX1)
          have hrow := HRW.out.tch (tch_new HB.out) (fun _ h => h.elim)
          have hc0 := cell_later HB.out hcX0
          have hc1 := cell_later HB.out hcX1
          have HXE := Lib.hid hxe
          have HTS := Lib.hid hTS
          have ilj : (j : Int) < (rs.length : Int) := by omega
          have j0 : (0 : Int) ≤ (j : Int) := by omega
          have ilc : (rs.length : Int) ≤ (co : Int) := by omega
          obtain ⟨y0, y1⟩ : wr.cell? ⟨qx, 0, none⟩ = some (sv k) ∧ wr.cell? ⟨qx, 1, none⟩ = some (.slice ra r.length rc) := ⟨cell_later HB.out HX01.out.1, cell_later HB.out HX01.out.2⟩
          clear hcX0 hcX1 hrow0 ev hTS hx hxe
          cases db with
          | true =>
            have HI2 : Hid (InsR ((⟨k, r⟩ : Pr), (.slice ra r.length rc : Value)) (rs.take (j + 1)) true (qs ++ [(x.1, (.slice a3 x.1.b.length c3 : Value))])) := Lib.hid (by rw [HTS.out, ← HXE.out]; exact HI.out.next (.inl rfl))
            have halc : Below wr.heap.size wr (wr.alloc (.cells #[(sv x.1.k), (.slice a3 x.1.b.length c3)] tyP)) := bl_al (Below.refl _ _) _
            have HNAc := Lib.hid (HN.out.tch (tch_new halc) (fun _ _ h => h) (fun _ h => h.elim))
            have HRAc := Lib.hid (hrow.tch (tch_new halc) (fun _ h => h.elim))
            have HBAc := Lib.hid (bl_tr HB.out halc)
            have HBSc := Lib.hid (show N2 ≤ (wr.alloc (.cells #[(sv x.1.k), (.slice a3 x.1.b.length c3)] tyP)).heap.size from by have := HBAc.out.size; have := HN2E.out; omega)
            have HCPc := Lib.hid (cells_pair wr (sv x.1.k) (.slice a3 x.1.b.length c3))
            clear halc
            go_wp2_with (at_builtin; refine append_any rfl _ _ 70 rfl N2 tyP i0 (.agg #[.string ⟨#[]⟩, .slice none 0 0]) 2 40 Try.underlying70 hi0 hy0 hy1 hy2 rfl (by decide) _ qs.length (cellsP qs) rfl HNAc.out.row (some ⟨wr.heap.size, 0, none⟩) 1 1 [(sv x.1.k), (.slice a3 x.1.b.length c3)] rfl (fun e => by cases e) rfl HCPc.out ?c1c ?c2c ?c3c HBSc.out ?_)
            case c1c => first | exact ⟨rfl, rfl⟩ | (intro u hu; simp at hu; rcases hu with rfl | rfl <;> rfl)
            case c2c => (try simp only [List.length_append, List.length_cons, List.length_nil]); unfold maxLen; omega
            case c3c => (try simp only [List.length_append, List.length_cons, List.length_nil]); omega
            intro v1 w5 hoc hgc
            have HN5 : Hid (PsN w5 N2 F2 B v1 (qs ++ [(x.1, (.slice a3 x.1.b.length c3 : Value))])) := Lib.hid (HNAc.out.app (x := (x.1, (.slice a3 x.1.b.length c3 : Value))) HRAc.out (by first | exact hoc | (rw [List.length_append]; exact hoc)) hgc)
            have HB5 := Lib.hid (HBAc.out.grown hgc HBAc.out.size (fun k hk => by have := (HNAc.out.row.lt k hk).1; have := HN2F.out; omega))
            clear hoc hgc HNAc HRAc HBAc HBSc HCPc HN HB
            go_wp2
            go_roundw
            case rel => exact ⟨j + 1, true, _, by omega, by go_num, rfl, HI2, HN5, HB5⟩
            case measure => simp [intOf]; omega
          | false =>
            by_cases hlt : k < x.1.k
            · have hb1 := (blt k x.1.k).trans (decide_eq_true hlt)
              have hb2 : Op.bytesLess k x.1.k = true := (bytesLess_eq k x.1.k).trans (decide_eq_true hlt)
              have HI2 : Hid (InsR ((⟨k, r⟩ : Pr), (.slice ra r.length rc : Value)) (rs.take (j + 1)) true (qs ++ [((⟨k, r⟩ : Pr), (.slice ra r.length rc : Value))] ++ [(x.1, (.slice a3 x.1.b.length c3 : Value))])) := Lib.hid (by rw [HTS.out, ← HXE.out]; exact HI.out.first hlt)
              have hql1 : qs.length + 1 ≤ 67108867 := by omega
              have hala : Below wr.heap.size wr (wr.alloc (.cells #[(sv k), (.slice ra r.length rc)] tyP)) := bl_al (Below.refl _ _) _
              have HNAa := Lib.hid (HN.out.tch (tch_new hala) (fun _ _ h => h) (fun _ h => h.elim))
              have HRAa := Lib.hid ((HRX.out.tch (tch_new HB.out) (fun _ h => h.elim)).tch (tch_new hala) (fun _ h => h.elim))
              have HBAa := Lib.hid (bl_tr HB.out hala)
              have HBSa := Lib.hid (show N2 ≤ (wr.alloc (.cells #[(sv k), (.slice ra r.length rc)] tyP)).heap.size from by have := HBAa.out.size; have := HN2E.out; omega)
              have HCPa := Lib.hid (cells_pair wr (sv k) (.slice ra r.length rc))
              clear hala
              go_wp2_with (at_builtin; refine append_any rfl _ _ 70 rfl N2 tyP i0 (.agg #[.string ⟨#[]⟩, .slice none 0 0]) 2 40 Try.underlying70 hi0 hy0 hy1 hy2 rfl (by decide) _ qs.length (cellsP qs) rfl HNAa.out.row (some ⟨wr.heap.size, 0, none⟩) 1 1 [(sv k), (.slice ra r.length rc)] rfl (fun e => by cases e) rfl HCPa.out ?c1a ?c2a ?c3a HBSa.out ?_)
              case c1a => first | exact ⟨rfl, rfl⟩ | (intro u hu; simp at hu; rcases hu with rfl | rfl <;> rfl)
              case c2a => (try simp only [List.length_append, List.length_cons, List.length_nil]); unfold maxLen; omega
              case c3a => (try simp only [List.length_append, List.length_cons, List.length_nil]); omega
              intro v1 w5 hoa hga
              have HN5 : Hid (PsN w5 N2 F2 B v1 (qs ++ [((⟨k, r⟩ : Pr), (.slice ra r.length rc : Value))])) := Lib.hid (HNAa.out.app (x := ((⟨k, r⟩ : Pr), (.slice ra r.length rc : Value))) HRAa.out (by first | exact hoa | (rw [List.length_append]; exact hoa)) hga)
              have HB5 := Lib.hid (HBAa.out.grown hga HBAa.out.size (fun k hk => by have := (HNAa.out.row.lt k hk).1; have := HN2F.out; omega))
              clear hoa hga HNAa HRAa HBAa HBSa HCPa HN HB
              clear hc0 hc1 y0 y1 hrow
              have hrow := HRW.out.tch (tch_new HB5.out) (fun _ h => h.elim)
              have hc0 := cell_later HB5.out HCX.out.1
              have hc1 := cell_later HB5.out HCX.out.2
              have halb : Below w5.heap.size w5 (w5.alloc (.cells #[(sv x.1.k), (.slice a3 x.1.b.length c3)] tyP)) := bl_al (Below.refl _ _) _
              have HNAb := Lib.hid (HN5.out.tch (tch_new halb) (fun _ _ h => h) (fun _ h => h.elim))
              have HRAb := Lib.hid (hrow.tch (tch_new halb) (fun _ h => h.elim))
              have HBAb := Lib.hid (bl_tr HB5.out halb)
              have HBSb := Lib.hid (show N2 ≤ (w5.alloc (.cells #[(sv x.1.k), (.slice a3 x.1.b.length c3)] tyP)).heap.size from by have := HBAb.out.size; have := HN2E.out; omega)
              have HCPb := Lib.hid (cells_pair w5 (sv x.1.k) (.slice a3 x.1.b.length c3))
              clear halb
              go_wp2_with (at_builtin; refine append_any rfl _ _ 70 rfl N2 tyP i0 (.agg #[.string ⟨#[]⟩, .slice none 0 0]) 2 40 Try.underlying70 hi0 hy0 hy1 hy2 rfl (by decide) _ (qs ++ [((⟨k, r⟩ : Pr), (.slice ra r.length rc : Value))]).length (cellsP (qs ++ [((⟨k, r⟩ : Pr), (.slice ra r.length rc : Value))])) rfl HNAb.out.row (some ⟨w5.heap.size, 0, none⟩) 1 1 [(sv x.1.k), (.slice a3 x.1.b.length c3)] rfl (fun e => by cases e) rfl HCPb.out ?c1b ?c2b ?c3b HBSb.out ?_)
              case c1b => first | exact ⟨rfl, rfl⟩ | (intro u hu; simp at hu; rcases hu with rfl | rfl <;> rfl)
              case c2b => (try simp only [List.length_append, List.length_cons, List.length_nil]); unfold maxLen; omega
              case c3b => (try simp only [List.length_append, List.length_cons, List.length_nil]); omega
              intro v2 w6 hob hgb
              have HN6 : Hid (PsN w6 N2 F2 B v2 ((qs ++ [((⟨k, r⟩ : Pr), (.slice ra r.length rc : Value))]) ++ [(x.1, (.slice a3 x.1.b.length c3 : Value))])) := Lib.hid (HNAb.out.app (x := (x.1, (.slice a3 x.1.b.length c3 : Value))) HRAb.out (by first | exact hob | (rw [List.length_append]; exact hob)) hgb)
              have HB6 := Lib.hid (HBAb.out.grown hgb HBAb.out.size (fun k hk => by have := (HNAb.out.row.lt k hk).1; have := HN2F.out; omega))
              clear hob hgb HNAb HRAb HBAb HBSb HCPb HN5 HB5
              go_wp2
              go_roundw
              case rel => exact ⟨j + 1, true, _, by omega, by go_num, rfl, HI2, HN6, HB6⟩
              case measure => simp [intOf]; omega
            · have hb1 := (blt k x.1.k).trans (decide_eq_false hlt)
              have hb2 : Op.bytesLess k x.1.k = false := (bytesLess_eq k x.1.k).trans (decide_eq_false hlt)
              have HI2 : Hid (InsR ((⟨k, r⟩ : Pr), (.slice ra r.length rc : Value)) (rs.take (j + 1)) false (qs ++ [(x.1, (.slice a3 x.1.b.length c3 : Value))])) := Lib.hid (by rw [HTS.out, ← HXE.out]; exact HI.out.next (.inr hlt))
              have halc : Below wr.heap.size wr (wr.alloc (.cells #[(sv x.1.k), (.slice a3 x.1.b.length c3)] tyP)) := bl_al (Below.refl _ _) _
              have HNAc := Lib.hid (HN.out.tch (tch_new halc) (fun _ _ h => h) (fun _ h => h.elim))
              have HRAc := Lib.hid (hrow.tch (tch_new halc) (fun _ h => h.elim))
              have HBAc := Lib.hid (bl_tr HB.out halc)
              have HBSc := Lib.hid (show N2 ≤ (wr.alloc (.cells #[(sv x.1.k), (.slice a3 x.1.b.length c3)] tyP)).heap.size from by have := HBAc.out.size; have := HN2E.out; omega)
              have HCPc := Lib.hid (cells_pair wr (sv x.1.k) (.slice a3 x.1.b.length c3))
              clear halc
              go_wp2_with (at_builtin; refine append_any rfl _ _ 70 rfl N2 tyP i0 (.agg #[.string ⟨#[]⟩, .slice none 0 0]) 2 40 Try.underlying70 hi0 hy0 hy1 hy2 rfl (by decide) _ qs.length (cellsP qs) rfl HNAc.out.row (some ⟨wr.heap.size, 0, none⟩) 1 1 [(sv x.1.k), (.slice a3 x.1.b.length c3)] rfl (fun e => by cases e) rfl HCPc.out ?c1c ?c2c ?c3c HBSc.out ?_)
              case c1c => first | exact ⟨rfl, rfl⟩ | (intro u hu; simp at hu; rcases hu with rfl | rfl <;> rfl)
              case c2c => (try simp only [List.length_append, List.length_cons, List.length_nil]); unfold maxLen; omega
              case c3c => (try simp only [List.length_append, List.length_cons, List.length_nil]); omega
              intro v1 w5 hoc hgc
              have HN5 : Hid (PsN w5 N2 F2 B v1 (qs ++ [(x.1, (.slice a3 x.1.b.length c3 : Value))])) := Lib.hid (HNAc.out.app (x := (x.1, (.slice a3 x.1.b.length c3 : Value))) HRAc.out (by first | exact hoc | (rw [List.length_append]; exact hoc)) hgc)
              have HB5 := Lib.hid (HBAc.out.grown hgc HBAc.out.size (fun k hk => by have := (HNAc.out.row.lt k hk).1; have := HN2F.out; omega))
              clear hoc hgc HNAc HRAc HBAc HBSc HCPc HN HB
              go_wp2
              go_roundw
              case rel => exact ⟨j + 1, false, _, by omega, by go_num, rfl, HI2, HN5, HB5⟩
              case measure => simp [intOf]; omega
        · have hjn : j = rs.length := by omega
          have HTK : Hid (rs.take j = rs) := Lib.hid (List.take_of_length_le (by omega))
          have ilj : ¬ ((j : Int) < (rs.length : Int)) := by omega
          have FIN : Hid (∀ (W : World) (av : Option Addr) (cv : Nat) (ts : List Pv) (nn : Nat), nn = ts.length → ts = insV ((⟨k, r⟩ : Pr), (.slice ra r.length rc : Value)) rs → PsN W N2 F2 B (.slice av nn cv) ts → Below X.heap.size X W → RsTo w B G q size (putL size k r (ps.map (·.1))) (qs0.map (·.1)) (W.setCell ⟨q, 0, none⟩ (.slice av nn cv))) := Lib.hid (fun W av cv ts nn hnn hts hpn hbw => by
            subst hnn
            have hbW := bl_tr HBXW.out hbw
            have hm : ts.map (·.1) = putP k r (ps.map (·.1)) := by rw [hts, insV_map, HMP.out]; rfl
            have h8 := HK.out.put HBw.out hbW HNW.out (by rw [HFF.out] at hpn; exact hpn) (by rw [hm]; exact srt_put HK.out.srt.1) (fun x hx => by
              have h9 : x.1 ∈ ts.map (·.1) := List.mem_map.2 ⟨x, hx, rfl⟩
              rw [hm] at h9
              exact ok_put (fun e he => by obtain ⟨y, hy, rfl⟩ := List.mem_map.1 he; exact HK.out.ok.1 y hy) HKK.out HR.out.fit _ h9) (by
              rw [hm, used_put, ← HMP.out, ← HU.out]
              omega)
            rw [putL_put HE.out, ← hm]
            exact h8)
          have HCQ := Lib.hid (fun (W : World) (hbw : Below X.heap.size X W) => (HK.out.keep (tch_new (bl_tr HBXW.out hbw)) (fun _ _ h => h)))
          obtain ⟨y0, y1⟩ : wr.cell? ⟨qx, 0, none⟩ = some (sv k) ∧ wr.cell? ⟨qx, 1, none⟩ = some (.slice ra r.length rc) := ⟨cell_later HB.out HX01.out.1, cell_later HB.out HX01.out.2⟩
          cases db with
          | true =>
            obtain ⟨av, cv, hav⟩ := own_form HN.out.row
            subst hav
            have HQE : Hid (qs = insV ((⟨k, r⟩ : Pr), (.slice ra r.length rc : Value)) rs) := Lib.hid (by have := HI.out.endT; rwa [HTK.out] at this)
            have hcq := HCQ.out wr HB.out
            have z0 := hcq.cs.1
            have zf := hcq.free 0
            have HFN := Lib.hid (FIN.out wr av cv qs _ rfl HQE.out HN.out HB.out)
            clear hcq
            go_wp2
            go_ret
            exact ⟨by rw [HE.out]; rfl, HFN.out⟩
          | false =>
            have HQE : Hid (qs ++ [((⟨k, r⟩ : Pr), (.slice ra r.length rc : Value))] = insV ((⟨k, r⟩ : Pr), (.slice ra r.length rc : Value)) rs) := Lib.hid (by have := HI.out.endF; rwa [HTK.out] at this)
            have hql1 : qs.length + 1 ≤ 67108867 := by omega
            have hald : Below wr.heap.size wr (wr.alloc (.cells #[(sv k), (.slice ra r.length rc)] tyP)) := bl_al (Below.refl _ _) _
            have HNAd := Lib.hid (HN.out.tch (tch_new hald) (fun _ _ h => h) (fun _ h => h.elim))
            have HRAd := Lib.hid ((HRX.out.tch (tch_new HB.out) (fun _ h => h.elim)).tch (tch_new hald) (fun _ h => h.elim))
            have HBAd := Lib.hid (bl_tr HB.out hald)
            have HBSd := Lib.hid (show N2 ≤ (wr.alloc (.cells #[(sv k), (.slice ra r.length rc)] tyP)).heap.size from by have := HBAd.out.size; have := HN2E.out; omega)
            have HCPd := Lib.hid (cells_pair wr (sv k) (.slice ra r.length rc))
            clear hald
            go_wp2_with (at_builtin; refine append_any rfl _ _ 70 rfl N2 tyP i0 (.agg #[.string ⟨#[]⟩, .slice none 0 0]) 2 40 Try.underlying70 hi0 hy0 hy1 hy2 rfl (by decide) _ qs.length (cellsP qs) rfl HNAd.out.row (some ⟨wr.heap.size, 0, none⟩) 1 1 [(sv k), (.slice ra r.length rc)] rfl (fun e => by cases e) rfl HCPd.out ?c1d ?c2d ?c3d HBSd.out ?_)
            case c1d => first | exact ⟨rfl, rfl⟩ | (intro u hu; simp at hu; rcases hu with rfl | rfl <;> rfl)
            case c2d => (try simp only [List.length_append, List.length_cons, List.length_nil]); unfold maxLen; omega
            case c3d => (try simp only [List.length_append, List.length_cons, List.length_nil]); omega
            intro v1 w5 hod hgd
            have HN5 : Hid (PsN w5 N2 F2 B v1 (qs ++ [((⟨k, r⟩ : Pr), (.slice ra r.length rc : Value))])) := Lib.hid (HNAd.out.app (x := ((⟨k, r⟩ : Pr), (.slice ra r.length rc : Value))) HRAd.out (by first | exact hod | (rw [List.length_append]; exact hod)) hgd)
            have HB5 := Lib.hid (HBAd.out.grown hgd HBAd.out.size (fun k hk => by have := (HNAd.out.row.lt k hk).1; have := HN2F.out; omega))
            clear hod hgd HNAd HRAd HBAd HBSd HCPd HN HB
            obtain ⟨av, cv, hav⟩ := own_form HN5.out.row
            subst hav
            have hcq := HCQ.out w5 HB5.out
            have z0 := hcq.cs.1
            have zf := hcq.free 0
            have HFN := Lib.hid (FIN.out w5 av cv _ (qs.length + 1) (by rw [List.length_append]; rfl) HQE.out (by have h9 := HN5.out; rw [List.length_append] at h9; exact h9) HB5.out)
            clear hcq
            go_wp2
            go_ret
            exact ⟨by rw [HE.out]; rfl, HFN.out⟩
  · have HE := Lib.hid (putN_bad (size := size) (r := r) (l := l) hkk)
    have HS : Hid (RsTo w B G q size (putL size k r l) m w) := Lib.hid (by rw [putL_same (by rw [HE.out]; decide)]; exact ⟨G, h, fun k hk => .inl hk, Tch.refl _ _⟩)
    have hlk : (k.length : Int) ≤ 9223372036854775807 := by unfold maxLen at hk; omega
    by_cases h1 : (k.length : Int) < 1
    · clear h hr hkk
      go_enter Try.func36, Try.ntmps36
      go_wp2
      go_ret
      exact ⟨by rw [HE.out]; rfl, HS.out⟩
    · have h2 : (64 : Int) < (k.length : Int) := by unfold OkK at hkk; omega
      clear h hr hkk
      go_enter Try.func36, Try.ntmps36
      go_wp2
      go_ret
      exact ⟨by rw [HE.out]; rfl, HS.out⟩
end Go.Proofs.Ytpbgccidhpfmgaa
