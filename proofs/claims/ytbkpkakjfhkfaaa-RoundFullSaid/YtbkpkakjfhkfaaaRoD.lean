/- A round: wants, find, copies of logs, Stage. Conditions: those stated. -/
import Derived.Test.YtbkpkakjfhkfaaaRoC
namespace Go.Proofs.Ytbkpkakjfhkfaaa
open Go Go.RowKit
set_option linter.unusedVariables false
set_option linter.unusedSimpArgs false

theorem enWa : ∀ args w, (callFunc 121 args).run Try.prog w = .ok (.enter 121 args) w := enters_of Try.func121 (by kernel_rfl) rfl
theorem enW1 : ∀ args w, (callFunc 132 args).run Try.prog w = .ok (.enter 132 args) w := enters_of Try.func132 (by kernel_rfl) rfl
set_option maxRecDepth 100000 in
set_option maxHeartbeats 2000000 in
theorem wants_c (w : World) (p : Nat) (r : Rd) (v : Value) (a1 : Option Addr) (c1 : Nat) (v1 : List Value) (h : ROb w p r (.slice a1 r.want.length c1) v) (ho : OkR r) (hI : InC w a1 r.want.length c1 r.want v1) (x : Cm) (hx : TyC x) (a : Option Addr) (n c : Nat) :
    Calls Try.prog 121 #[.pointer (some ⟨p, 0, none⟩), x.val (.slice a n c)] w fun e w' => e = .returned (.bool (wantsC r.want x)) ∧ Below w.heap.size w w' := by
  have hp0 : ((some (⟨p, 0, none⟩ : Addr)) == none) = false := rfl
  obtain ⟨w1, hw1⟩ : ∃ w1, w1 = w.alloc (x.obj (.slice a n c)) := ⟨_, rfl⟩
  have hb1 : Below w.heap.size w w1 := by rw [hw1]; exact bl_al (Below.refl _ _) _
  have hA := bxC_new w x (.slice a n c)
  rw [← hw1] at hA
  obtain ⟨t, ht⟩ : ∃ t, t = w.heap.size := ⟨_, rfl⟩
  rw [← ht] at hA
  have HW := Lib.hid (And.intro hw1 ht)
  have HB := Lib.hid hb1
  have c11 := ((h.below hb1).cs ho.len).c11
  have CC := Lib.hid (containsC_c (fun y => x.nm == y.nm) 132 #[] #[.pointer (some ⟨t, 0, none⟩)] enW1 r.want v1 a1 r.want.length c1 w1 (hI.below hb1) (by have := ho.one; omega) (fun W hW y ay ny cy hy => wants1_c x y hx hy t (.slice a n c) ay ny cy W (hA.later hW)))
  obtain ⟨k, hk⟩ : ∃ k, k = r.want.length := ⟨_, rfl⟩
  rw [← hk] at c11 CC
  obtain ⟨R, hR⟩ : ∃ R, R = r.want.any (fun y => x.nm == y.nm) := ⟨_, rfl⟩
  rw [← hR] at CC
  have HR : Hid (wantsC r.want x = R) := Lib.hid (by rw [hR]; rfl)
  clear h ho hI hx hw1 hb1 hA ht hk hR
  go_enter Try.func121, Try.ntmps121
  go_upto_region 1 with fail
  rw [show w.alloc (.cells (x.arr (.slice a n c)) tyC) = w1 from HW.out.1.symm, ← HW.out.2]
  go_wp2_with fail
  refine CC.out.mono ?_
  rintro e w2 ⟨rfl, hb2⟩
  have HB2 := Lib.hid (bl_tr HB.out hb2)
  clear hb2 CC c11
  go_wp2
  go_ret
  exact ⟨by rw [HR.out]; rfl, HB2.out⟩
set_option maxRecDepth 100000 in
set_option maxHeartbeats 2000000 in
theorem find_c (w : World) (p : Nat) (r : Rd) (a1 a2 : Option Addr) (c1 c2 : Nat) (v1 v2 : List Value) (h : ROb w p r (.slice a1 r.want.length c1) (.slice a2 r.log.length c2)) (ho : OkR r) (hI : InC w a1 r.want.length c1 r.want v1) (hL : InC w a2 r.log.length c2 r.log v2) :
    Calls Try.prog 98 #[.pointer (some ⟨p, 0, none⟩)] w fun e w' => e = .returned (.int .i64 (findR r)) ∧ Below w.heap.size w w' := by
  have hp0 : ((some (⟨p, 0, none⟩ : Addr)) == none) = false := rfl
  have c15 := (h.cs ho.len).c15
  have CC := Lib.hid (indexC_c (wantsC r.want) 121 #[.pointer (some ⟨p, 0, none⟩)] #[] enWa r.log v2 a2 r.log.length c2 w hL (by have := ho.few; omega) (fun W hW y ay ny cy hy => wants_c W p r _ a1 c1 v1 (h.below hW) ho (hI.below hW) y hy ay ny cy))
  have hlow := idxC_low (wantsC r.want) r.log
  have hfew := ho.few
  obtain ⟨k, hk⟩ : ∃ k, k = r.log.length := ⟨_, rfl⟩
  rw [← hk] at c15 CC hlow hfew
  obtain ⟨R, hR⟩ : ∃ R, R = idxC (wantsC r.want) r.log := ⟨_, rfl⟩
  rw [← hR] at CC hlow
  have HR : Hid (findR r = 1 + R) := Lib.hid (by rw [hR]; rfl)
  have hw1 : ∀ [Inhabited Nat], IntKind.i64.wrap (1 + R) = 1 + R := by intro _; exact IntWalk.i64_in _ (by omega)
  clear h ho hI hL hk hR
  go_enter Try.func98, Try.ntmps98
  go_wp2_with fail
  refine CC.out.mono ?_
  rintro e w2 ⟨rfl, hb2⟩
  have HB2 := Lib.hid hb2
  clear hb2 CC c15
  go_wp2
  go_ret
  exact ⟨by rw [HR.out]; rfl, HB2.out⟩
set_option maxRecDepth 100000 in
set_option maxHeartbeats 4000000 in
theorem copyK_c (ls : List Cm) (vs : List Value) (a : Option Addr) (n c : Nat) (w : World) (hI : InC w a n c ls vs) (hn : n ≤ 1048576) (hes : ∀ x ∈ ls, x.es.length ≤ 1048576) :
    Calls Try.prog 94 #[.slice a n c] w (GotC w ls) := by
  obtain ⟨j0, hj0, hy0, hy1, hy2⟩ := info_parts infoE
  obtain ⟨i0, hi0, hz0, hz1, hz2⟩ := info_parts infoC
  have hlen := hI.len
  have hroom := hI.room
  have HI := Lib.hid hI
  have HES := Lib.hid hes
  have S0 : Hid (∃ ao c vs, (Value.slice none 0 0 = .slice ao 0 c) ∧ OwC w w.heap.size (ls.take 0) ao c vs) := Lib.hid ⟨none, 0, [], rfl, owC_nil w _⟩
  have HB0 := Lib.hid (Below.refl w.heap.size w)
  clear hI hes
  go_enter Try.func94, Try.ntmps94
  go_wp2
  go_loopw [3, 5, 8] (fun rv _ iv wr => ∃ i : Nat, i ≤ n ∧ iv = .int .i64 i ∧ Hid (∃ ao c vs, rv = .slice ao i c ∧ OwC wr w.heap.size (ls.take i) ao c vs) ∧ Hid (Below w.heap.size w wr)) (fun _ _ iv _ => n - (intOf iv).toNat)
  case atStart => exact ⟨0, by omega, rfl, S0, HB0⟩
  case round =>
    obtain ⟨i, hi, rfl, HS, HB⟩ := hrel
    obtain ⟨w3, rfl⟩ : ∃ v, v = wr := ⟨_, rfl⟩
    clear S0 HB0
    obtain ⟨ao, cm, vm, erv, hO⟩ := HS.out
    subst erv
    clear HS
    have hlt3 : w.heap.size ≤ w3.heap.size := HB.out.size
    by_cases hlt : i < n
    · have ii : (i : Int) < (n : Int) := by omega
      have i0' : (0 : Int) ≤ (i : Int) := by omega
      have ic : (i : Int) ≤ (c : Int) := by omega
      have hI2 := HI.out.below HB.out
      obtain ⟨b1, o1, rfl⟩ := HI.out.block (by omega)
      obtain ⟨k0, k1, k2, k3, k4, k5, k6, k7, k8, k9, k10, k11⟩ := hI2.cell hlt
      obtain ⟨a2, n2, c2, hv, hE⟩ := hI2.ends i hlt
      have ht := HI.out.ty hlt
      rw [hv] at k8
      have hmem := memC (ls := ls) (i := i) (by omega)
      have HTK : Hid (ls.take (i + 1) = ls.take i ++ [ls.getD i cm0] ∧ (ls.take i).length = i) := Lib.hid ⟨take_moreC ls (i := i) (by omega), by rw [List.length_take]; omega⟩
      obtain ⟨x, hx⟩ : ∃ x, x = ls.getD i cm0 := ⟨_, rfl⟩
      rw [← hx] at k0 k1 k2 k3 k4 k5 k6 k7 k9 k10 k11 hE ht hmem HTK
      have hn2 : n2 ≤ 1048576 := by rw [← hE.len]; exact HES.out x hmem
      have hel := hE.len
      have HEL := Lib.hid hel
      obtain ⟨w4, hw4⟩ : ∃ w4, w4 = w3.alloc (x.obj (.slice a2 n2 c2)) := ⟨_, rfl⟩
      have hA := bxC_new w3 x (.slice a2 n2 c2)
      have hb4 : Below w3.heap.size w3 w4 := by rw [hw4]; exact bl_al (Below.refl _ _) _
      have hs4 : w4.heap.size = w3.heap.size + 1 := by rw [hw4]; simp
      obtain ⟨p4, hp4⟩ : ∃ p4, p4 = w3.heap.size := ⟨_, rfl⟩
      rw [← hp4, ← hw4] at hA
      have HP4 : Hid (p4 = w3.heap.size ∧ w4.heap.size = p4 + 1 ∧ w.heap.size ≤ p4) := Lib.hid ⟨hp4, by omega, by omega⟩
      have HW4 := Lib.hid (And.intro hw4 hp4)
      have HB4 := Lib.hid (bl_tr HB.out hb4)
      have HO4 := Lib.hid (hO.later hb4)
      have HE4 := Lib.hid (hE.below hb4)
      have HA4 := Lib.hid hA
      have HBLT := Lib.hid hO.own
      have HOB : Hid (∀ g, (Value.slice ao i cm).ownBlock = some g → g < p4) := Lib.hid (fun g hg => by have := (hO.own.lt g (by rw [HTK.out.2]; exact hg)).2; omega)
      have HVB : Hid (∀ j, j < (ls.take i).length → ∀ g, (vm.getD j undef).ownBlock = some g → g < p4) := Lib.hid (fun j hj g hg => by
        obtain ⟨a3, c3, e, ho⟩ := hO.ends j hj
        rw [e] at hg
        have := (ho.lt g hg).2
        omega)
      obtain ⟨d0, d1, d2, d3, d4, d5, d6, d7, d8, d9, d10, d11⟩ := hA.at.lit
      have df := hA.free 8
      clear hx ht hE hv hI2 hmem hw4 hb4 hp4 hA hs4 hel hO
      go_upto_region 5 with fail
      rw [show w3.alloc (.cells #[.int .i64 x.node, .int .i64 x.boot, .int .i64 x.seq, .int .i64 x.time, .int .i64 x.kind, .int .u32 x.vip, .int .i64 x.proto, .int .i64 x.port, .slice a2 n2 c2, .int .u32 x.dip, .int .u32 x.cvip, .bool x.up] tyC) = w4 from HW4.out.1.symm, ← HW4.out.2]
      clear k0 k1 k2 k3 k4 k5 k6 k7 k8 k9 k10 k11
      have HZ2 := Lib.hid HE4.out.zero
      have HCL : Hid ((cellsE x.es).length = n2 * 3) := Lib.hid (by rw [cellsE_len, HEL.out])
      have HCE := Lib.hid HE4.out.cells
      have HBS : Hid (w.heap.size ≤ w4.heap.size) := Lib.hid HB4.out.size
      go_wp2_with (at_builtin; refine append_any rfl (.const (.slice none 0 0)) (.tmp 14) 38 rfl w.heap.size tyE j0 (.agg #[.int .u32 0, .int .i64 0, .int .i64 0]) 3 24 Try.underlying38 hj0 hy0 hy1 hy2 rfl (by decide) (.slice none 0 0) 0 [] rfl ⟨rfl, .inl ⟨rfl, rfl⟩⟩ a2 n2 c2 (cellsE x.es) rfl HZ2.out HCL.out HCE.out (cellsE_one' x.es) (by unfold maxLen; omega) (by omega) HBS.out ?_)
      intro v5 w5 hown5 hg5
      obtain ⟨a5, c5, rfl⟩ := own_form hown5
      try simp only [Nat.zero_add, List.nil_append] at hown5
      have hb5 : Below w4.heap.size w4 w5 := (tch_grown hg5).below (fun k hk => by cases hk) (Nat.le_refl _)
      have hO5 := HO4.out.later hb5
      have hA5 := HA4.out.later hb5
      have hne5 : ∀ g, (Value.slice a5 n2 c5).ownBlock = some g → g ≠ p4 := own_ne_box hown5 hA5 (by decide)
      obtain ⟨w6, hw6⟩ : ∃ w6, w6 = w5.setCell ⟨p4, 8, none⟩ (.slice a5 n2 c5) := ⟨_, rfl⟩
      have hT6 : Tch (· = p4) w5 w6 := by rw [hw6]; exact tch_set w5 ⟨p4, 8, none⟩ _
      have hA6 : BxC w6 p4 x (.slice a5 n2 c5) := by rw [hw6]; exact hA5.set8 _
      have hs6 : w6.heap.size = w5.heap.size := by rw [hw6]; simp
      have hO6 : OwC w6 w.heap.size (ls.take i) ao cm vm := ⟨hT6.own hO5.own (fun g hg e => by
        have := HOB.out g (by rw [HTK.out.2] at hg; exact hg); omega), hO5.vlen, hO5.ends.tch hT6 (fun j hj g hg e => by have := HVB.out j hj g hg; omega)⟩
      have hE6 : w6.ownsRow w.heap.size tyE 3 (.slice a5 n2 c5) n2 (cellsE x.es) := hT6.own hown5 (fun g hg e => hne5 g hg e)
      have hB6 : Below w.heap.size w w6 := (bl_tr HB4.out hb5).trans (hT6.below (fun k hk => by have := HP4.out; omega) (by have := HB4.out.size; have := hb5.size; omega))
      have df5 := hA5.free 8
      have dc5 := hA5.at.lit.2.2.2.2.2.2.2.2.1
      have HW6 := Lib.hid hw6
      have HO6 := Lib.hid hO6
      have HE6 := Lib.hid hE6
      have HB6 := Lib.hid hB6
      have HA6 := Lib.hid hA6
      clear hown5 hg5 hb5 hO5 hA5 hw6 hT6 hA6 hs6 hO6 hE6 hB6 d0 d1 d2 d3 d4 d5 d6 d7 d8 d9 d10 d11 df HBLT hne5
      go_upto_region 6 with fail
      rw [← HW6.out]
      clear df5 dc5
      obtain ⟨d0, d1, d2, d3, d4, d5, d6, d7, d8, d9, d10, d11⟩ := HA6.out.at.lit
      have HOO : Hid ((w6.alloc (.cells #[.int .i64 x.node, .int .i64 x.boot, .int .i64 x.seq, .int .i64 x.time, .int .i64 x.kind, .int .u32 x.vip, .int .i64 x.proto, .int .i64 x.port, .slice a5 n2 c5, .int .u32 x.dip, .int .u32 x.cvip, .bool x.up] tyC)).ownsRow w.heap.size tyC 12 (.slice ao i cm) i (cellsC (ls.take i) vm)) := Lib.hid (by have := HO6.out.own; rw [HTK.out.2] at this; exact this.alloc _)
      have HNN := Lib.hid (cs_new w6 x (.slice a5 n2 c5))
      have HO1 := Lib.hid (cs_one1 x (v := .slice a5 n2 c5) rfl)
      go_wp2_with (at_builtin; refine wpList_append_own _ rfl (.tmp 18) (.tmp 20) 22 rfl w.heap.size tyC i0 _ 12 104 Try.underlying22 hi0 hz0 hz1 hz2 rfl (by decide) _ i (cellsC (ls.take i) vm) rfl HOO.out ⟨w6.heap.size, 0, none⟩ 1 1 (x.cs (.slice a5 n2 c5)) rfl rfl HNN.out HO1.out (by unfold maxLen; omega) (by omega) (by have := HB6.out.size; simp; omega) ?_)
      intro v8 w8 hown8 hg8 _
      obtain ⟨a8, c8, rfl⟩ := own_form hown8
      have hb7 := bl_al (Below.refl w6.heap.size w6) (.cells (x.arr (.slice a5 n2 c5)) tyC)
      have hO7 := HO6.out.later hb7
      have hE7 := owns_bel HE6.out hb7
      have HF : Hid (∃ ao c vs, (Value.slice a8 (i + 1) c8 = .slice ao (i + 1) c) ∧ OwC w8 w.heap.size (ls.take (i + 1)) ao c vs) := Lib.hid (by
        have e2 := HEL.out
        refine ⟨a8, c8, vm ++ [.slice a5 n2 c5], rfl, ?_⟩
        rw [HTK.out.1]
        refine hO7.more (x := x) (a2 := a5) (c2 := c5) (by rw [e2]) (by rw [e2]; exact hE7) ?_ (by rw [HTK.out.2]; exact hg8)
        rw [HTK.out.2]
        exact hown8)
      have HB8 : Hid (Below w.heap.size w w8) := Lib.hid ((HB6.out.alloc HB6.out.size _).grown hg8 (by have := HB6.out.size; simp; omega) (fun k hk => (HOO.out.lt k hk).1))
      clear hown8 hg8 hb7 hO7 hE7 HOO HNN HO1 d0 d1 d2 d3 d4 d5 d6 d7 d8 d9 d10 d11
      go_wp2
      go_roundw
      case rel => exact ⟨i + 1, by omega, by go_num, HF, HB8⟩
      case measure => simp [intOf]; omega
    · have ii : ¬ (i : Int) < (n : Int) := by omega
      obtain rfl : i = n := by omega
      have HF : Hid (GotC w ls (.returned (.slice ao i cm)) w3) := Lib.hid ⟨⟨ao, cm, vm, by rw [hlen], by rw [taken_end hlen] at hO; exact hO⟩, HB.out⟩
      clear hO
      go_wp2
      go_ret
      exact HF.out

set_option maxRecDepth 100000 in
theorem stage_c (w : World) (p : Nat) (r : Rd) (u v : Value) (h : ROb w p r u v) (ho : OkR r) :
    Calls Try.prog 51 #[.pointer (some ⟨p, 0, none⟩)] w fun e w' => e = .returned (.int .i64 r.stage) ∧ Below w.heap.size w w' := by
  have hp0 : ((some (⟨p, 0, none⟩ : Addr)) == none) = false := rfl
  have c12 := (h.cs ho.len).c12
  have HB := Lib.hid (Below.refl w.heap.size w)
  clear h ho
  go_enter Try.func51, Try.ntmps51
  go_wp2
  go_ret
  exact ⟨rfl, HB.out⟩
set_option maxRecDepth 100000 in
theorem stage_n (w : World) :
    Calls Try.prog 51 #[.pointer none] w fun e w' => e = .returned (.int .i64 0) ∧ Below w.heap.size w w' := by
  have hp0 : ((none : Option Addr) == none) = true := rfl
  have HB := Lib.hid (Below.refl w.heap.size w)
  go_enter Try.func51, Try.ntmps51
  go_wp2
  go_ret
  exact ⟨rfl, HB.out⟩
end Go.Proofs.Ytbkpkakjfhkfaaa
