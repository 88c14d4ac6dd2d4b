/- Messages in memory; the document's Same; slices.Clone at int; codec.Make. Conditions: those stated. -/
import Derived.Test.YtlmkmbpikhagiaaSeA
import Derived.Test.YtlmkmbpikhagiaaIntA
import Derived.Test.YtlmkmbpikhagiaaNumB
import Derived.Deep.CutRange
import Derived.Deep.RegionHeld3
import Derived.Lib.AppendZeros
import Derived.Lib.SliceRun
namespace Go.Proofs.Ytlmkmbpikhagiaa
open Go Go.RowKit
set_option linter.unusedVariables false
set_option linter.unusedSimpArgs false

structure Mg where
  kind : Int
  nums : List Int
  data : List Int
abbrev errnoM (n : Int) : Value := .iface 30 (.int .i64 n)
abbrev mcs (kind : Int) (a : Option Addr) (n c : Nat) (b : Option Addr) (k d : Nat) : Array Value := #[.int .i64 kind, .slice a n c, .slice b k d]
abbrev mval (kind : Int) (a : Option Addr) (n c : Nat) (b : Option Addr) (k d : Nat) : Value := .agg (mcs kind a n c b k d)
abbrev mobj (kind : Int) (a : Option Addr) (n c : Nat) (b : Option Addr) (k d : Nat) : Obj := .cells (mcs kind a n c b k d) 40
/-- A message in a block. -/
structure MAt (w : World) (q : Nat) (kind : Int) (a : Option Addr) (n c : Nat) (b : Option Addr) (k d : Nat) : Prop where
  c0 : w.cell? ⟨q, 0, none⟩ = some (.int .i64 kind)
  c1 : w.cell? ⟨q, 1, none⟩ = some (.slice a n c)
  c2 : w.cell? ⟨q, 2, none⟩ = some (.slice b k d)
theorem MAt.new (w : World) (kind : Int) (a : Option Addr) (n c : Nat) (b : Option Addr) (k d : Nat) : MAt (w.alloc (mobj kind a n c b k d)) w.heap.size kind a n c b k d := by
  constructor <;> simp [go_sem]
theorem MAt.lt {w : World} {q : Nat} {kind : Int} {a : Option Addr} {n c : Nat} {b : Option Addr} {k d : Nat} (h : MAt w q kind a n c b k d) : q < w.heap.size := World.block_lt_of_cell? _ _ h.c0
theorem MAt.below {w w' : World} {q S : Nat} {kind : Int} {a : Option Addr} {n c : Nat} {b : Option Addr} {k d : Nat} (h : MAt w q kind a n c b k d) (hB : Below S w w') (hq : q < S) : MAt w' q kind a n c b k d :=
  ⟨(hB.cell (p := ⟨q, 0, none⟩) hq).trans h.c0, (hB.cell (p := ⟨q, 1, none⟩) hq).trans h.c1, (hB.cell (p := ⟨q, 2, none⟩) hq).trans h.c2⟩
/-- A message's box, and that nothing old has turned. -/
structure MBox (w : World) (kind : Int) (a : Option Addr) (n c : Nat) (b : Option Addr) (k d : Nat) (wx : World) : Prop where
  here : MAt wx w.heap.size kind a n c b k d
  below : Below w.heap.size w wx
theorem MBox.start (w : World) (kind : Int) (a : Option Addr) (n c : Nat) (b : Option Addr) (k d : Nat) : ∃ W, w.alloc (mobj kind a n c b k d) = W ∧ MBox w kind a n c b k d W := ⟨_, rfl, MAt.new _ _ _ _ _ _ _ _, bl_al (Below.refl _ _) _⟩
theorem MBox.next {w : World} {kind : Int} {a : Option Addr} {n c : Nat} {b : Option Addr} {k d : Nat} {wx wy : World} (h : MBox w kind a n c b k d wx) (hb : Below wx.heap.size wx wy) : MBox w kind a n c b k d wy := ⟨h.here.below hb h.here.lt, bl_tr h.below hb⟩
theorem MBox.next2 {w : World} {kind : Int} {a : Option Addr} {n c : Nat} {b : Option Addr} {k d : Nat} {wx wy : World} (h : MBox w kind a n c b k d wx) (hb : Below (w.heap.size + 1) wx wy) : MBox w kind a n c b k d wy := ⟨h.here.below hb (Nat.lt_succ_self _), h.below.trans (hb.mono (by omega))⟩
/-- A message's two rows. -/
structure MIn (w : World) (a : Option Addr) (n c : Nat) (b : Option Addr) (k d : Nat) (m : Mg) : Prop where
  nums : InI w a n c m.nums
  data : In w b k d m.data
theorem MIn.below {w w' : World} {a : Option Addr} {n c : Nat} {b : Option Addr} {k d : Nat} {m : Mg} (h : MIn w a n c b k d m) (hb : Below w.heap.size w w') : MIn w' a n c b k d m := ⟨h.nums.below hb, h.data.below hb⟩
set_option maxRecDepth 100000 in
set_option maxHeartbeats 2000000 in
theorem refSame_any (m r : Mg) (a : Option Addr) (n c : Nat) (b : Option Addr) (k d : Nat) (a' : Option Addr) (n' c' : Nat) (b' : Option Addr) (k' d' : Nat) (w : World) (hI : MIn w a n c b k d m) (hJ : MIn w a' n' c' b' k' d' r) (hn : n ≤ 4611686018427387904) (z : Bool) (hz : z = true ↔ m = r) :
    Calls Try.prog 31 #[mval m.kind a n c b k d, mval r.kind a' n' c' b' k' d'] w fun e w' => e = .returned (.bool z) ∧ Below w.heap.size w w' := by
  obtain ⟨W, hW⟩ : ∃ W, W = (w.alloc (mobj m.kind a n c b k d)).alloc (mobj r.kind a' n' c' b' k' d') := ⟨_, rfl⟩
  have hs1 : (w.alloc (mobj m.kind a n c b k d)).heap.size = w.heap.size + 1 := by simp
  have HM : Hid (MAt W w.heap.size m.kind a n c b k d) := Lib.hid (by rw [hW]; exact (MAt.new w m.kind a n c b k d).below (bl_al (Below.refl _ _) _) (by omega))
  have HR : Hid (MAt W (w.heap.size + 1) r.kind a' n' c' b' k' d') := Lib.hid (by rw [hW, ← hs1]; exact MAt.new _ _ _ _ _ _ _ _)
  have HBW : Hid (Below w.heap.size w W) := Lib.hid (by rw [hW]; exact bl_al (bl_al (Below.refl _ _) _) _)
  have HSZ : Hid (W.heap.size = w.heap.size + 2) := Lib.hid (by rw [hW]; simp)
  have HIW := Lib.hid (hI.below HBW.out)
  have HJW := Lib.hid (hJ.below HBW.out)
  have HW := Lib.hid hW
  have HZ := Lib.hid hz
  have hno : (m.kind = r.kind ∧ m.nums.length = r.nums.length ∧ m.data = r.data → False) → z = false := fun h => by
    cases hzz : z with
    | false => rfl
    | true => exact absurd (by rw [hz.1 hzz]; exact ⟨rfl, rfl, rfl⟩) h
  have HNO := Lib.hid hno
  clear hI hJ hW hz hs1 hno
  obtain ⟨q0, hq0⟩ : ∃ q, q = w.heap.size := ⟨_, rfl⟩
  obtain ⟨q1, hq1⟩ : ∃ q, q = w.heap.size + 1 := ⟨_, rfl⟩
  rw [← hq0] at HM
  rw [← hq1] at HR
  have HQ0 := Lib.hid hq0
  have HQ1 := Lib.hid hq1
  clear hq0 hq1
  have sA := str_of HIW.out.data.here HIW.out.data.len
  have sB := str_of HJW.out.data.here HJW.out.data.len
  obtain ⟨e0, e1, e2⟩ := HM.out
  obtain ⟨f0, f1, f2⟩ := HR.out
  have sq := str_eq HIW.out.data.fit HJW.out.data.fit
  obtain ⟨s, hs⟩ : ∃ s, s = strOfNums m.data := ⟨_, rfl⟩
  obtain ⟨t, ht⟩ : ∃ s, s = strOfNums r.data := ⟨_, rfl⟩
  rw [← hs] at sA sq
  rw [← ht] at sB sq
  clear hs ht
  by_cases hk : m.kind = r.kind
  · have qk : (m.kind != r.kind) = false := by simpa using hk
    by_cases hnn : n = n'
    · have qn : ((n : Int) != (n' : Int)) = false := by simp [hnn]
      by_cases hd : m.data = r.data
      · have qd : (s.toList == t.toList) = true := by simp [sq, same, hd]
        have HB0 := Lib.hid (Below.refl W.heap.size W)
        have HEQ : Hid (m.nums = r.nums → z = true) := Lib.hid (fun h => HZ.out.2 (by
          obtain ⟨mk, mn, md⟩ := m
          obtain ⟨rk, rn, rd⟩ := r
          simp only at hk hd h
          rw [hk, hd, h]))
        have HNE : Hid (m.nums ≠ r.nums → z = false) := Lib.hid (fun h => by
          cases hzz : z with
          | false => rfl
          | true => exact absurd (by rw [HZ.out.1 hzz]) h)
        subst hnn
        clear hk hd qn HNO sq
        go_enter Try.func31, Try.ntmps31
        go_upto_region 1 with fail
        rw [← HW.out, ← HQ1.out, ← HQ0.out]
        clear HW
        go_wp2
        go_loopw [5] (fun i wr => ∃ j : Nat, j ≤ n ∧ i = .int .i64 j ∧ Hid (m.nums.take j = r.nums.take j) ∧ Hid (Below W.heap.size W wr)) (fun i _ => n - (intOf i).toNat)
        case atStart => exact ⟨0, by omega, rfl, Lib.hid rfl, HB0⟩
        case round =>
          obtain ⟨j, hj, rfl, hE, hB⟩ := hrel
          clear HB0 sA sB e0 e1 e2 f0 f1 f2 qk qd
          obtain ⟨e0, e1, e2⟩ := HM.out.below hB.out HM.out.lt
          obtain ⟨f0, f1, f2⟩ := HR.out.below hB.out HR.out.lt
          by_cases hlj : j < n
          · obtain ⟨b1, o1, rfl⟩ := in_blockI HIW.out.nums (by omega)
            obtain ⟨b2, o2, rfl⟩ := in_blockI HJW.out.nums (by omega)
            have c1 := in_cellI (HIW.out.nums.below hB.out) j hlj
            have c2 := in_cellI (HJW.out.nums.below hB.out) j hlj
            have ilj : (j : Int) < (n : Int) := by omega
            have hdj : decide ((j : Int) < (n : Int)) = true := decide_eq_true ilj
            have j0 : (0 : Int) ≤ (j : Int) := by omega
            by_cases e : m.nums.getD j 0 = r.nums.getD j 0
            · have HS := Lib.hid (take_step hE.out (by rw [HIW.out.nums.len]; exact hlj) (by rw [HJW.out.nums.len]; exact hlj) e)
              rw [← e] at c2
              obtain ⟨x, hx⟩ : ∃ x, x = m.nums.getD j 0 := ⟨_, rfl⟩
              rw [← hx] at c1 c2
              have qx : (x != x) = false := by simp
              clear hx e
              go_wp2
              go_quiet (fail)
              go_wp2
              go_roundw
              case rel => exact ⟨j + 1, by omega, by go_num, HS, Lib.hid (below_drewN hB.out _)⟩
              case measure => simp [intOf]; omega
            · have HZF := Lib.hid (HNE.out (differ e))
              obtain ⟨x, hx⟩ : ∃ x, x = m.nums.getD j 0 := ⟨_, rfl⟩
              obtain ⟨y, hy⟩ : ∃ y, y = r.nums.getD j 0 := ⟨_, rfl⟩
              rw [← hx] at c1
              rw [← hy] at c2
              have qx : (x != y) = true := by rw [hx, hy]; simpa using e
              clear hx hy e
              go_wp2
              go_quiet (fail)
              go_wp2
              go_ret
              exact ⟨congrArg (fun z => Ending.returned (Value.bool z)) HZF.out.symm, HBW.out.trans ((below_drewN hB.out _).mono HBW.out.size)⟩
          · have HZT := Lib.hid (HEQ.out (take_end hE.out HIW.out.nums.len HJW.out.nums.len hlj))
            have ilj : ¬ ((j : Int) < (n : Int)) := by omega
            go_wp2
            go_ret
            exact ⟨congrArg (fun z => Ending.returned (Value.bool z)) HZT.out.symm, HBW.out.trans (hB.out.mono HBW.out.size)⟩
      · have qd : (s.toList == t.toList) = false := by simp [sq, same, hd]
        have HZF := Lib.hid (HNO.out (fun h => hd h.2.2))
        clear hk hnn hd HNO sq
        go_enter Try.func31, Try.ntmps31
        go_upto_region 1 with fail
        rw [← HW.out, ← HQ1.out, ← HQ0.out]
        clear HW
        go_wp2
        go_ret
        exact ⟨congrArg (fun z => Ending.returned (Value.bool z)) HZF.out.symm, HBW.out⟩
    · have qn : ((n : Int) != (n' : Int)) = true := by simp; omega
      have HZF := Lib.hid (HNO.out (fun h => hnn (by rw [← HIW.out.nums.len, ← HJW.out.nums.len]; exact h.2.1)))
      clear hk hnn HNO sq
      go_enter Try.func31, Try.ntmps31
      go_upto_region 1 with fail
      rw [← HW.out, ← HQ1.out, ← HQ0.out]
      clear HW
      go_wp2
      go_ret
      exact ⟨congrArg (fun z => Ending.returned (Value.bool z)) HZF.out.symm, HBW.out⟩
  · have qk : (m.kind != r.kind) = true := by simpa using hk
    have HZF := Lib.hid (HNO.out (fun h => hk h.1))
    clear hk HNO sq
    go_enter Try.func31, Try.ntmps31
    go_upto_region 1 with fail
    rw [← HW.out, ← HQ1.out, ← HQ0.out]
    clear HW
    go_wp2
    go_ret
    exact ⟨congrArg (fun z => Ending.returned (Value.bool z)) HZF.out.symm, HBW.out⟩
theorem MAt.of {w : World} {q : Nat} {kind : Int} {a : Option Addr} {n c : Nat} {b : Option Addr} {k d : Nat} (h : w.heap[q]? = some (.cells (mcs kind a n c b k d) 40 (0, 0))) : MAt w q kind a n c b k d := by
  constructor <;> (rw [cell_of_row w q _ _ _ _ h]; rfl)
def GotV (w : World) (m : Mg) (e : Ending) (w' : World) : Prop :=
  ∃ a n c b k d, e = .returned (mval m.kind a n c b k d) ∧ n = m.nums.length ∧ k = m.data.length ∧ w'.ownsRow w.heap.size 3 1 (.slice a n c) n (i64s m.nums) ∧ w'.ownsRow w.heap.size 5 1 (.slice b k d) k (u8s m.data) ∧ Below w.heap.size w w'
/-- Numbers in new memory. -/
def GotI (w : World) (l : List Int) (e : Ending) (w' : World) : Prop :=
  ∃ a n c, e = .returned (.slice a n c) ∧ n = l.length ∧ w'.ownsRow w.heap.size 3 1 (.slice a n c) n (i64s l) ∧ Below w.heap.size w w'
set_option maxRecDepth 100000 in
theorem iclone_any (l : List Int) (a : Option Addr) (n cap : Nat) (w : World) (hA : InI w a n cap l) (hn : n ≤ 17592186043904) :
    Calls Try.prog 59 #[.slice a n cap] w (GotI w l) := by
  obtain ⟨i0, hi0, hz0, hz1, hz2⟩ := info_parts info3
  have HA := Lib.hid hA
  cases a with
  | none =>
    obtain ⟨rfl, rfl⟩ := hA.zero rfl
    have hnil : ∀ w : World, (binOp .eql 37 (.slice none 0 0) (.slice none 0 0)).run Try.prog w = .ok (.bool true) w := fun w => by
      simp only [binOp]
      simp [Op.equal, Op.maxDepth, Lib.run_equalIn_slice_nil w 9999 37 3 none 0 0 0 0 Try.underlying37]
    clear hA
    go_enter Try.func59, Try.ntmps59
    go_wp2
    go_ret
    have hl : l = [] := List.eq_nil_of_length_eq_zero HA.out.len
    subst hl
    exact ⟨none, 0, 0, rfl, rfl, World.ownsRow_nil _ _ _ _, Below.refl _ _⟩
  | some ad =>
    clear hA
    have hnil : ∀ w : World, (binOp .eql 37 (.slice (some ad) n cap) (.slice none 0 0)).run Try.prog w = .ok (.bool false) w := fun w => by
      simp only [binOp]
      simp [Op.equal, Op.maxDepth, Lib.run_equalIn_slice_nil w 9999 37 3 (some ad) n cap 0 0 Try.underlying37]
    go_enter Try.func59, Try.ntmps59
    have own0 := World.ownsRow_made (e := 3) (size := 1) w #[] 0 (Nat.le_refl _) (by decide) rfl
    have HA1 := Lib.hid (HA.out.below (bl_al (Below.refl _ _) (.cells #[] 3)))
    go_wp2_with (at_builtin; refine append_any rfl (.tmp 5) (.tmp 6) 37 rfl w.heap.size 3 i0 (.int .i64 0) 1 8 Try.underlying37 hi0 hz0 hz1 hz2 rfl (by decide) _ 0 [] rfl own0 (some ad) n cap (i64s l) rfl HA1.out.zero ?c1 HA1.out.cells (i64s_one l) ?c2 ?c3 ?c4 ?_)
    case c1 => unfold i64s; rw [List.length_map, HA.out.len]; omega
    case c2 => unfold maxLen; omega
    case c3 => omega
    case c4 => simp
    intro v1 w2 hown hgrow
    have HB2 := Lib.hid ((bl_al (Below.refl w.heap.size w) (.cells #[] 3)).grown hgrow (by simp) (fun k hk => by cases hk; exact Nat.le_refl _))
    obtain ⟨ao, c1, rfl⟩ := own_form hown
    have HO := Lib.hid hown
    clear hgrow own0 HA1 hown
    go_wp2
    go_ret
    exact ⟨ao, n, c1, rfl, HA.out.len.symm, HO.out, HB2.out⟩

/-- A message without data, of new memory. -/
def GotM (w : World) (m : Mg) (e : Ending) (w' : World) : Prop :=
  ∃ a n c, e = .returned (mval m.kind a n c none 0 0) ∧ n = m.nums.length ∧ w'.ownsRow w.heap.size 3 1 (.slice a n c) n (i64s m.nums) ∧ Below w.heap.size w w'
set_option maxRecDepth 100000 in
/-- Make. -/
theorem make_t (kind : Int) (a : Option Addr) (n c : Nat) (l : List Int) (w : World) (hI : InI w a n c l) (hn : n ≤ 17592186043904) :
    Calls Try.prog 49 #[.int .i64 kind, .slice a n c] w (GotM w ⟨kind, l, []⟩) := by
  obtain ⟨W, hW⟩ : ∃ W, W = w.alloc (mobj 0 none 0 0 none 0 0) := ⟨_, rfl⟩
  have HB := Lib.hid (show Below w.heap.size w W by rw [hW]; exact bl_al (Below.refl _ _) _)
  have HQ : Hid (W.heap[w.heap.size]? = some (.cells (mcs 0 none 0 0 none 0 0) 40 (0, 0))) := Lib.hid (by rw [hW]; exact heap_alloc_new _ _)
  have CC := Lib.hid (iclone_any l a n c W (hI.below HB.out) hn)
  have HW := Lib.hid hW
  obtain ⟨q0, hq0⟩ : ∃ q, q = w.heap.size := ⟨_, rfl⟩
  have HQ0 := Lib.hid hq0
  clear hI hW hq0
  go_enter Try.func49, Try.ntmps49
  go_upto_region 1 with fail
  rw [← HW.out, ← HQ0.out]
  clear HW
  go_wp2_with fail
  refine CC.out.mono ?_
  rintro e w1 ⟨a1, n1, c1, rfl, hn1, hown, hb⟩
  have hz1 : w1.heap[q0]? = some (.cells (mcs 0 none 0 0 none 0 0) 40 (0, 0)) := by rw [HQ0.out]; exact (hb.block _ (lt_of_block HQ.out)).trans HQ.out
  have HB1 := Lib.hid (bl_tr HB.out hb)
  have HO1 := Lib.hid (own_base hown HB.out.size)
  have HL := Lib.hid hn1
  have HLT : Hid (q0 < W.heap.size) := Lib.hid (by rw [HQ0.out]; exact lt_of_block HQ.out)
  have HO1' := Lib.hid hown
  obtain ⟨z0, z1, z2⟩ := MAt.of hz1
  have zf := fun o => frozen_of_row w1 q0 o _ _ hz1
  clear hown hb hn1 hz1 CC
  go_wp2
  refine bodyPost_ret (v := mval kind a1 n1 c1 none 0 0) (by simp [results, Try.results49, go_sem, z0, z1, z2]) rfl ?_
  refine ⟨a1, n1, c1, rfl, HL.out, ?_, ?_⟩
  · refine own_base (B := W.heap.size) ?_ HB.out.size
    iterate 3 (refine ownsRow_setCell_below ?_ HLT.out _)
    exact HO1'.out
  · rw [HQ0.out]
    iterate 3 (refine Below.setCell ?_ (by first | exact Nat.le_refl _ | simp) _)
    exact HB1.out
end Go.Proofs.Ytlmkmbpikhagiaa
