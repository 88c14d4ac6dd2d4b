/- Contract of packet's read: no packet. -/
import Derived.Test.YtfbmeoiaedlgoaaRdA
namespace Go.Proofs.Ytfbmeoiaedlgoaa
open Go Go.RowKit
set_option linter.unusedVariables false
set_option linter.unusedSimpArgs false

abbrev zeroV : Value := .agg #[.int .i64 0, .int .i64 0, .int .i64 0, .int .i64 0, .int .u32 0, .int .i64 0, .int .u32 0, .int .i64 0, .int .u32 0, .int .u32 0, .int .i64 0, .int .i64 0, .slice none 0 0]
set_option maxRecDepth 100000 in
set_option maxHeartbeats 1000000 in
theorem read_short (a : Option Addr) (n c : Nat) (h20 : n < 20) (w : World) :
    Calls Try.prog 36 #[.slice a n c] w fun e w' => e = .returned (.tuple #[zeroV, .bool false]) ∧ Below w.heap.size w w' := by
  go_enter Try.func36, Try.ntmps36
  go_wp2
  refine bodyPost_ret (v := .tuple #[zeroV, .bool false]) (by simp [results, Try.results36, go_sem]) rfl ⟨rfl, ?_⟩
  exact (bl_al (Below.refl _ _) _)
abbrev zeroCs : Array Value := #[.int .i64 0, .int .i64 0, .int .i64 0, .int .i64 0, .int .u32 0, .int .i64 0, .int .u32 0, .int .i64 0, .int .u32 0, .int .u32 0, .int .i64 0, .int .i64 0, .slice none 0 0]
/-- What read holds: its result's block, the packet's block q. -/
structure Rd (w : World) (q : Nat) (p : Pk) (a : Option Addr) (n c : Nat) (wx : World) : Prop where
  here : wx.heap[q]? = some (.cells (p.cs a n c) 49 (0, 0))
  zero : wx.heap[w.heap.size]? = some (.cells zeroCs 49 (0, 0))
  lt : w.heap.size < q
  below : Below w.heap.size w wx
theorem PkAt.of {w : World} {b : Nat} {p : Pk} {a : Option Addr} {n c : Nat} (h : w.heap[b]? = some (.cells (p.cs a n c) 49 (0, 0))) : PkAt w b p a n c := by
  constructor <;> (rw [cell_of_row w b _ _ _ _ h]; rfl)
theorem Rd.pk {w : World} {q : Nat} {p : Pk} {a : Option Addr} {n c : Nat} {wx : World} (h : Rd w q p a n c wx) : PkAt wx q p a n c := PkAt.of h.here
theorem Rd.zk {w : World} {q : Nat} {p : Pk} {a : Option Addr} {n c : Nat} {wx : World} (h : Rd w q p a n c wx) : PkAt wx w.heap.size ⟨0, 0, 0, 0, 0, 0, 0, 0, 0, 0, 0, 0, []⟩ none 0 0 := PkAt.of h.zero
theorem Rd.free {w : World} {q : Nat} {p : Pk} {a : Option Addr} {n c : Nat} {wx : World} (h : Rd w q p a n c wx) (o : Nat) : wx.frozen? ⟨q, o, none⟩ = false := frozen_of_row wx q o _ _ h.here
theorem Rd.zfree {w : World} {q : Nat} {p : Pk} {a : Option Addr} {n c : Nat} {wx : World} (h : Rd w q p a n c wx) (o : Nat) : wx.frozen? ⟨w.heap.size, o, none⟩ = false := frozen_of_row wx w.heap.size o _ _ h.zero
theorem Rd.drew {w : World} {q : Nat} {p : Pk} {a : Option Addr} {n c : Nat} {wx : World} (h : Rd w q p a n c wx) : Rd w q p a n c wx.drew := ⟨h.here, h.zero, h.lt, h.below.drew⟩
theorem Rd.set {w : World} {q : Nat} {p p' : Pk} {a a' : Option Addr} {n c n' c' : Nat} {wx : World} (h : Rd w q p a n c wx) (k : Nat) (v : Value) (hc : (p.cs a n c).setIfInBounds k v = p'.cs a' n' c') : Rd w q p' a' n' c' (wx.setCell ⟨q, k, none⟩ v) := by
  have h1 := heap_setCell_same wx q k _ _ v h.here
  rw [hc] at h1
  have := h.lt
  exact ⟨h1, by rw [heap_setCell_other _ _ _ _ (by show w.heap.size ≠ q; omega)]; exact h.zero, h.lt, h.below.setCell (p := ⟨q, k, none⟩) (by show w.heap.size ≤ q; omega) v⟩
theorem Rd.later {w : World} {q : Nat} {p : Pk} {a : Option Addr} {n c : Nat} {wx wy : World} (h : Rd w q p a n c wx) (hb : Below wx.heap.size wx wy) : Rd w q p a n c wy :=
  ⟨(hb.block q (lt_of_block h.here)).trans h.here, (hb.block _ (lt_of_block h.zero)).trans h.zero, h.lt, bl_tr h.below hb⟩

/-- What the first header says, as a packet. -/
def ipk (l : List Int) : Pk := ⟨l.getD 1 0, n2 l 4, l.getD 8 0, l.getD 9 0, n4 l 12, 0, n4 l 16, 0, 0, 0, 0, 0, []⟩
theorem readIP_pk (l : List Int) (b off n c : Nat) (w : World) (hI : In w (some ⟨b, off, none⟩) n c l) (h20 : 20 ≤ n) (hn : n ≤ 4611686018427387904) (p : Pk) (hp : p = ipk l) :
    Calls Try.prog 49 #[.slice (some ⟨b, off, none⟩) n c] w fun e w' => e = .returned (p.val none 0 0) ∧ Below w.heap.size w w' := by
  subst hp
  exact readIP_any l b off n c w hI h20 hn

set_option maxRecDepth 100000 in
set_option maxHeartbeats 1000000 in
theorem read_low (l : List Int) (b off n c K : Nat) (w : World) (hI : In w (some ⟨b, off, none⟩) n c l) (h20 : 20 ≤ n) (hn : n ≤ 4611686018427387904) (hK : (l.getD 9 0 = 17 ∧ (K : Int) = 8) ∨ (l.getD 9 0 ≠ 17 ∧ (K : Int) = 20)) (hs : n < 20 + K) :
    Calls Try.prog 36 #[.slice (some ⟨b, off, none⟩) n c] w fun e w' => e = .returned (.tuple #[zeroV, .bool false]) ∧ Below w.heap.size w w' := by
  have hcap := hI.room
  have HI := Lib.hid hI
  obtain ⟨p, hp⟩ : ∃ p, p = ipk l := ⟨_, rfl⟩
  have hp9 : p.proto = l.getD 9 0 := by rw [hp]; rfl
  rw [← hp9] at hK
  have HP := Lib.hid hp
  have HL := Lib.hid (fun w => headLen_is p.proto K hK w)
  have h20i : (20 : Int) ≤ (n : Int) := by omega
  have h20c : (20 : Int) ≤ (c : Int) := by omega
  have hlt : ((n - 20 : Nat) : Int) < (K : Int) := by omega
  have hsub : (n : Int) - 20 = ((n - 20 : Nat) : Int) := by omega
  obtain ⟨m, hm⟩ : ∃ m, m = n - 20 := ⟨_, rfl⟩
  rw [← hm] at hlt hsub
  obtain ⟨R, hR⟩ : ∃ R, w.alloc (.cells zeroCs 49) = R := ⟨_, rfl⟩
  have hB : Below w.heap.size w R := by rw [← hR]; exact bl_al (Below.refl _ _) _
  have hz : R.heap[w.heap.size]? = some (.cells zeroCs 49 (0, 0)) := by rw [← hR]; exact heap_alloc_new _ _
  have HR := Lib.hid hR
  have HB := Lib.hid hB
  have HZ := Lib.hid hz
  clear hI hK hR hB hz hp hp9
  go_enter Try.func36, Try.ntmps36
  go_wp2_with fail
  rw [HR.out]
  refine (readIP_pk l b off n c _ (HI.out.below HB.out) h20 hn p HP.out).mono ?_
  rintro e w1 ⟨rfl, hb⟩
  have HB1 := Lib.hid (bl_tr HB.out hb)
  have HZ1 : Hid (w1.heap[w.heap.size]? = some (.cells zeroCs 49 (0, 0))) := Lib.hid ((hb.block _ (lt_of_block HZ.out)).trans HZ.out)
  clear hb HB HZ HR
  go_wp2_with fail
  all_goals
    have HX : Hid (Rd w w1.heap.size p none 0 0 (w1.alloc (p.obj none 0 0))) := Lib.hid ⟨heap_alloc_new _ _, by rw [heap_alloc_old _ _ (lt_of_block HZ1.out)]; exact HZ1.out, lt_of_block HZ1.out, HB1.out.alloc HB1.out.size _⟩
    refine (HL.out _).mono ?_
    rintro e _ ⟨rfl, rfl⟩
    obtain ⟨q, hq⟩ : ∃ q, q = w1.heap.size := ⟨_, rfl⟩
    obtain ⟨X, hX⟩ : ∃ X, X = w1.alloc (p.obj none 0 0) := ⟨_, rfl⟩
    rw [← hX, ← hq] at HX
    rw [← hX]
    obtain ⟨z0, z1, z2, z3, z4, z5, z6, z7, z8, z9, z10, z11, z12⟩ := HX.out.zk
    have zf := HX.out.zfree
    clear hX HZ1 HB1
    go_wp2
    refine bodyPost_ret (v := .tuple #[zeroV, .bool false]) (by simp [results, Try.results36, go_sem, z0, z1, z2, z3, z4, z5, z6, z7, z8, z9, z10, z11, z12]) rfl ⟨rfl, ?_⟩
    iterate 13 (refine Below.setCell ?_ (by first | exact Nat.le_refl _ | simp) _)
    exact HX.out.below
end Go.Proofs.Ytfbmeoiaedlgoaa
