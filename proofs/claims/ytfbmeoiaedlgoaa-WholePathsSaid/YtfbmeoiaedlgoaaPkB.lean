/- Contract of packet.Check: no error at a packet in form, error 9 at any other. Condition: the row's length is at most 2^62. -/
import Derived.Test.YtfbmeoiaedlgoaaPkA
namespace Go.Proofs.Ytfbmeoiaedlgoaa
open Go Go.RowKit
set_option linter.unusedVariables false
set_option linter.unusedSimpArgs false

/-- A packet lies in a block. -/
structure PkAt (w : World) (b : Nat) (p : Pk) (a : Option Addr) (n c : Nat) : Prop where
  c0 : w.cell? ⟨b, 0, none⟩ = some (.int .i64 p.tos)
  c1 : w.cell? ⟨b, 1, none⟩ = some (.int .i64 p.id)
  c2 : w.cell? ⟨b, 2, none⟩ = some (.int .i64 p.ttl)
  c3 : w.cell? ⟨b, 3, none⟩ = some (.int .i64 p.proto)
  c4 : w.cell? ⟨b, 4, none⟩ = some (.int .u32 p.src)
  c5 : w.cell? ⟨b, 5, none⟩ = some (.int .i64 p.sp)
  c6 : w.cell? ⟨b, 6, none⟩ = some (.int .u32 p.dst)
  c7 : w.cell? ⟨b, 7, none⟩ = some (.int .i64 p.dp)
  c8 : w.cell? ⟨b, 8, none⟩ = some (.int .u32 p.seq)
  c9 : w.cell? ⟨b, 9, none⟩ = some (.int .u32 p.ack)
  c10 : w.cell? ⟨b, 10, none⟩ = some (.int .i64 p.flags)
  c11 : w.cell? ⟨b, 11, none⟩ = some (.int .i64 p.win)
  c12 : w.cell? ⟨b, 12, none⟩ = some (.slice a n c)
theorem PkAt.new (w : World) (p : Pk) (a : Option Addr) (n c : Nat) : PkAt (w.alloc (p.obj a n c)) w.heap.size p a n c := by
  constructor <;> simp [go_sem]
theorem PkAt.below {w w' : World} {b : Nat} {p : Pk} {a : Option Addr} {n c B : Nat} (h : PkAt w b p a n c) (hB : Below B w w') (hb : b < B) : PkAt w' b p a n c :=
  ⟨(hB.cell (p := ⟨b, 0, none⟩) hb).trans h.c0, (hB.cell (p := ⟨b, 1, none⟩) hb).trans h.c1, (hB.cell (p := ⟨b, 2, none⟩) hb).trans h.c2, (hB.cell (p := ⟨b, 3, none⟩) hb).trans h.c3, (hB.cell (p := ⟨b, 4, none⟩) hb).trans h.c4, (hB.cell (p := ⟨b, 5, none⟩) hb).trans h.c5, (hB.cell (p := ⟨b, 6, none⟩) hb).trans h.c6, (hB.cell (p := ⟨b, 7, none⟩) hb).trans h.c7, (hB.cell (p := ⟨b, 8, none⟩) hb).trans h.c8, (hB.cell (p := ⟨b, 9, none⟩) hb).trans h.c9, (hB.cell (p := ⟨b, 10, none⟩) hb).trans h.c10, (hB.cell (p := ⟨b, 11, none⟩) hb).trans h.c11, (hB.cell (p := ⟨b, 12, none⟩) hb).trans h.c12⟩
theorem PkAt.lt {w : World} {b : Nat} {p : Pk} {a : Option Addr} {n c : Nat} (h : PkAt w b p a n c) : b < w.heap.size := World.block_lt_of_cell? _ _ h.c0
/-- A packet's box, and that nothing old has turned. -/
structure Box (w : World) (p : Pk) (a : Option Addr) (n c : Nat) (wx : World) : Prop where
  here : PkAt wx w.heap.size p a n c
  below : Below w.heap.size w wx
theorem Box.start (w : World) (p : Pk) (a : Option Addr) (n c : Nat) : ∃ W, w.alloc (p.obj a n c) = W ∧ Box w p a n c W :=
  ⟨_, rfl, PkAt.new w p a n c, bl_al (Below.refl _ _) _⟩
theorem Box.next {w : World} {p : Pk} {a : Option Addr} {n c : Nat} {wx wy : World} (h : Box w p a n c wx) (hb : Below wx.heap.size wx wy) : Box w p a n c wy :=
  ⟨h.here.below hb h.here.lt, bl_tr h.below hb⟩
theorem Box.drew {w : World} {p : Pk} {a : Option Addr} {n c : Nat} {wx : World} (h : Box w p a n c wx) : Box w p a n c wx.drew :=
  ⟨⟨h.here.c0, h.here.c1, h.here.c2, h.here.c3, h.here.c4, h.here.c5, h.here.c6, h.here.c7, h.here.c8, h.here.c9, h.here.c10, h.here.c11, h.here.c12⟩, h.below.drew⟩
/-- What Check's drawn statement holds. -/
def Held3 (w : World) (p : Pk) (a : Option Addr) (n c : Nat) (wx : World) : Prop :=
  wx.cell? ⟨w.heap.size, 3, none⟩ = some (.int .i64 p.proto) ∧ wx.cell? ⟨w.heap.size, 4, none⟩ = some (.int .u32 p.src) ∧ wx.cell? ⟨w.heap.size, 5, none⟩ = some (.int .i64 p.sp) ∧ wx.cell? ⟨w.heap.size, 6, none⟩ = some (.int .u32 p.dst) ∧ wx.cell? ⟨w.heap.size, 7, none⟩ = some (.int .i64 p.dp) ∧ wx.cell? ⟨w.heap.size, 12, none⟩ = some (.slice a n c) ∧ Box w p a n c wx
theorem Box.held {w : World} {p : Pk} {a : Option Addr} {n c : Nat} {wx : World} (h : Box w p a n c wx) : wx.cell? ⟨w.heap.size, 3, none⟩ = some (.int .i64 p.proto) ∧ wx.cell? ⟨w.heap.size, 4, none⟩ = some (.int .u32 p.src) ∧ wx.cell? ⟨w.heap.size, 5, none⟩ = some (.int .i64 p.sp) ∧ wx.cell? ⟨w.heap.size, 6, none⟩ = some (.int .u32 p.dst) ∧ wx.cell? ⟨w.heap.size, 7, none⟩ = some (.int .i64 p.dp) ∧ wx.cell? ⟨w.heap.size, 12, none⟩ = some (.slice a n c) ∧ Box w p a n c wx :=
  ⟨h.here.c3, h.here.c4, h.here.c5, h.here.c6, h.here.c7, h.here.c12, h⟩
theorem keepB {w : World} {p : Pk} {a : Option Addr} {n c : Nat} {w1 w2 : World} (h : w1.cell? ⟨w.heap.size, 3, none⟩ = some (.int .i64 p.proto) ∧ w1.cell? ⟨w.heap.size, 4, none⟩ = some (.int .u32 p.src) ∧ w1.cell? ⟨w.heap.size, 5, none⟩ = some (.int .i64 p.sp) ∧ w1.cell? ⟨w.heap.size, 6, none⟩ = some (.int .u32 p.dst) ∧ w1.cell? ⟨w.heap.size, 7, none⟩ = some (.int .i64 p.dp) ∧ w1.cell? ⟨w.heap.size, 12, none⟩ = some (.slice a n c) ∧ Box w p a n c w1) (hb : Below w1.heap.size w1 w2) :
    w2.cell? ⟨w.heap.size, 3, none⟩ = some (.int .i64 p.proto) ∧ w2.cell? ⟨w.heap.size, 4, none⟩ = some (.int .u32 p.src) ∧ w2.cell? ⟨w.heap.size, 5, none⟩ = some (.int .i64 p.sp) ∧ w2.cell? ⟨w.heap.size, 6, none⟩ = some (.int .u32 p.dst) ∧ w2.cell? ⟨w.heap.size, 7, none⟩ = some (.int .i64 p.dp) ∧ w2.cell? ⟨w.heap.size, 12, none⟩ = some (.slice a n c) ∧ Box w p a n c w2 := (h.2.2.2.2.2.2.next hb).held

def PlainOk (p : Pk) : Prop := (0 ≤ p.tos ∧ p.tos ≤ 255) ∧ (0 ≤ p.id ∧ p.id ≤ 65535) ∧ (1 ≤ p.ttl ∧ p.ttl ≤ 255)
set_option maxRecDepth 100000 in
theorem check_plain (p : Pk) (a : Option Addr) (n c : Nat) (h : ¬ PlainOk p) (w : World) : Calls Try.prog 53 #[p.val a n c] w fun e w' => e = .returned (errno 9) ∧ Below w.heap.size w w' := by
  by_cases h1 : 0 ≤ p.tos ∧ p.tos ≤ 255
  · have p1 := inB_yes h1
    by_cases h2 : 0 ≤ p.id ∧ p.id ≤ 65535
    · have p2 := inB_yes h2
      have p3 := inB_no (fun h3 => h ⟨h1, h2, h3⟩)
      clear h h1 h2
      go_enter Try.func53, Try.ntmps53
      go_wp2_with (go_at_call 64; refine (within_any _ _ _ _).mono ?_; rintro e w1 ⟨rfl, rfl⟩)
      go_ret
      exact ⟨rfl, bl_al (Below.refl _ _) _⟩
    · have p2 := inB_no h2
      clear h h1 h2
      go_enter Try.func53, Try.ntmps53
      go_wp2_with (go_at_call 64; refine (within_any _ _ _ _).mono ?_; rintro e w1 ⟨rfl, rfl⟩)
      go_ret
      exact ⟨rfl, bl_al (Below.refl _ _) _⟩
  · have p1 := inB_no h1
    clear h h1
    go_enter Try.func53, Try.ntmps53
    go_wp2_with (go_at_call 64; refine (within_any _ _ _ _).mono ?_; rintro e w1 ⟨rfl, rfl⟩)
    go_ret
    exact ⟨rfl, bl_al (Below.refl _ _) _⟩

set_option maxRecDepth 100000 in
set_option maxHeartbeats 400000 in
theorem check_flow (p : Pk) (a : Option Addr) (n c : Nat) (h0 : PlainOk p) (h : ¬ FlowOk p) (w : World) : Calls Try.prog 53 #[p.val a n c] w fun e w' => e = .returned (errno 9) ∧ Below w.heap.size w w' := by
  obtain ⟨h1, h2, h3⟩ := h0
  have p1 := inB_yes h1
  have p2 := inB_yes h2
  have p3 := inB_yes h3
  have C := Lib.hid (fun w => flow_no p h w)
  obtain ⟨W, hW, hB⟩ := Box.start w p a n c
  have HW := Lib.hid hW
  have HB := Lib.hid hB
  clear h h1 h2 h3 hW hB
  go_enter Try.func53, Try.ntmps53
  go_wp2_with (go_at_call 64; refine (within_any _ _ _ _).mono ?_; rintro e w1 ⟨rfl, rfl⟩)
  rw [HW.out]
  have hh := HB.out.held
  clear hh
  refine wp_region_held_drew (S := (fun wx => wx.cell? ⟨w.heap.size, 3, none⟩ = some (.int .i64 p.proto) ∧ wx.cell? ⟨w.heap.size, 4, none⟩ = some (.int .u32 p.src) ∧ wx.cell? ⟨w.heap.size, 5, none⟩ = some (.int .i64 p.sp) ∧ wx.cell? ⟨w.heap.size, 6, none⟩ = some (.int .u32 p.dst) ∧ wx.cell? ⟨w.heap.size, 7, none⟩ = some (.int .i64 p.dp) ∧ wx.cell? ⟨w.heap.size, 12, none⟩ = some (.slice a n c) ∧ Box w p a n c wx)) (by kernel_rfl) HB.out.drew.held (fun hHeld => ?_)
  refine wpAnyH_take (i := 0) (v := ?_) rfl (by kernel_rfl) (by kernel_rfl) (by kernel_rfl) (fun _ _ _ h => h) (Or.inl ⟨by rfl, ?_⟩) (by assumption) ?_
  rotate_left
  · intro wz hSw; (try dsimp only at hSw); (try simp only [List.getElem_toArray, List.getElem_cons_zero, List.getElem_cons_succ]); go_simp; with_reducible rfl
  try simp only [Act.put, List.setIfInBounds_toArray, List.set_cons_zero, List.set_cons_succ, List.getElem_toArray, List.getElem_cons_zero, List.getElem_cons_succ]
  refine wpAnyH_take (i := 1) (v := ?_) rfl (by kernel_rfl) (by kernel_rfl) (by kernel_rfl) (fun _ _ _ h => h) (Or.inl ⟨by rfl, ?_⟩) (by assumption) ?_
  rotate_left
  · intro wz hSw; (try dsimp only at hSw); (try simp only [List.getElem_toArray, List.getElem_cons_zero, List.getElem_cons_succ]); go_simp; with_reducible rfl
  try simp only [Act.put, List.setIfInBounds_toArray, List.set_cons_zero, List.set_cons_succ, List.getElem_toArray, List.getElem_cons_zero, List.getElem_cons_succ]
  refine wpAnyH_ready (rs := [2]) (by kernel_rfl) (by simp) ?_
  refine AllReadyH.cons rfl (fun K hK => ?_) AllReadyH.nil
  try simp only [List.getElem_toArray, List.getElem_cons_zero, List.getElem_cons_succ]
  go_simp
  refine (C.out _).mono ?_
  rintro e w' ⟨rfl, hb'⟩
  go_wp2_with fail
  refine hK.out _ _ ?_ (fun hHeld2 => ?_)
  · exact keepB hHeld hb'
  clear hK K
  try simp only [Act.put, List.setIfInBounds_toArray, List.set_cons_zero, List.set_cons_succ]
  refine wpAnyH_take (i := 3) (v := ?_) rfl (by kernel_rfl) (by kernel_rfl) (by kernel_rfl) (fun _ _ _ h => h) (Or.inl ⟨by rfl, ?_⟩) (by assumption) ?_
  rotate_left
  · intro wz hSw; (try dsimp only at hSw); (try simp only [List.getElem_toArray, List.getElem_cons_zero, List.getElem_cons_succ]); go_simp; with_reducible rfl
  try simp only [Act.put, List.setIfInBounds_toArray, List.set_cons_zero, List.set_cons_succ, List.getElem_toArray, List.getElem_cons_zero, List.getElem_cons_succ]
  refine wpAnyH_take (i := 4) (v := ?_) rfl (by kernel_rfl) (by kernel_rfl) (by kernel_rfl) (fun _ _ _ h => h) (Or.inl ⟨by rfl, ?_⟩) (by assumption) ?_
  rotate_left
  · intro wz hSw; (try dsimp only at hSw); (try simp only [List.getElem_toArray, List.getElem_cons_zero, List.getElem_cons_succ]); go_simp; with_reducible rfl
  try simp only [Act.put, List.setIfInBounds_toArray, List.set_cons_zero, List.set_cons_succ, List.getElem_toArray, List.getElem_cons_zero, List.getElem_cons_succ]
  refine wpAnyH_take (i := 5) (v := undef) rfl (by kernel_rfl) (by kernel_rfl) (by kernel_rfl) (fun _ _ _ h => h) (Or.inr ⟨by rfl, rfl⟩) (by assumption) ?_
  try simp only [Act.put, List.setIfInBounds_toArray, List.set_cons_zero, List.set_cons_succ, List.getElem_toArray, List.getElem_cons_zero, List.getElem_cons_succ]
  refine wpAnyH_take (i := 6) (v := undef) rfl (by kernel_rfl) (by kernel_rfl) (by kernel_rfl) (fun _ _ _ h => h) (Or.inr ⟨by rfl, rfl⟩) (by assumption) ?_
  try simp only [Act.put, List.setIfInBounds_toArray, List.set_cons_zero, List.set_cons_succ, List.getElem_toArray, List.getElem_cons_zero, List.getElem_cons_succ]
  refine wpAnyH_take (i := 7) (v := undef) rfl (by kernel_rfl) (by kernel_rfl) (by kernel_rfl) (fun _ _ _ h => h) (Or.inr ⟨by rfl, rfl⟩) (by assumption) ?_
  try simp only [Act.put, List.setIfInBounds_toArray, List.set_cons_zero, List.set_cons_succ, List.getElem_toArray, List.getElem_cons_zero, List.getElem_cons_succ]
  refine wpAnyH_take (i := 8) (v := undef) rfl (by kernel_rfl) (by kernel_rfl) (by kernel_rfl) (fun _ _ _ h => h) (Or.inr ⟨by rfl, rfl⟩) (by assumption) ?_
  try simp only [Act.put, List.setIfInBounds_toArray, List.set_cons_zero, List.set_cons_succ, List.getElem_toArray, List.getElem_cons_zero, List.getElem_cons_succ]
  refine wpAnyH_take (i := 9) (v := undef) rfl (by kernel_rfl) (by kernel_rfl) (by kernel_rfl) (fun _ _ _ h => h) (Or.inr ⟨by rfl, rfl⟩) (by assumption) ?_
  try simp only [Act.put, List.setIfInBounds_toArray, List.set_cons_zero, List.set_cons_succ, List.getElem_toArray, List.getElem_cons_zero, List.getElem_cons_succ]
  refine wpAnyH_take (i := 10) (v := undef) rfl (by kernel_rfl) (by kernel_rfl) (by kernel_rfl) (fun _ _ _ h => h) (Or.inr ⟨by rfl, rfl⟩) (by assumption) ?_
  try simp only [Act.put, List.setIfInBounds_toArray, List.set_cons_zero, List.set_cons_succ, List.getElem_toArray, List.getElem_cons_zero, List.getElem_cons_succ]
  refine wpAnyH_take (i := 11) (v := undef) rfl (by kernel_rfl) (by kernel_rfl) (by kernel_rfl) (fun _ _ _ h => h) (Or.inr ⟨by rfl, rfl⟩) (by assumption) ?_
  try simp only [Act.put, List.setIfInBounds_toArray, List.set_cons_zero, List.set_cons_succ, List.getElem_toArray, List.getElem_cons_zero, List.getElem_cons_succ]
  refine wpAnyH_take (i := 12) (v := undef) rfl (by kernel_rfl) (by kernel_rfl) (by kernel_rfl) (fun _ _ _ h => h) (Or.inr ⟨by rfl, rfl⟩) (by assumption) ?_
  try simp only [Act.put, List.setIfInBounds_toArray, List.set_cons_zero, List.set_cons_succ, List.getElem_toArray, List.getElem_cons_zero, List.getElem_cons_succ]
  refine wpAnyH_take (i := 13) (v := undef) rfl (by kernel_rfl) (by kernel_rfl) (by kernel_rfl) (fun _ _ _ h => h) (Or.inr ⟨by rfl, rfl⟩) (by assumption) ?_
  try simp only [Act.put, List.setIfInBounds_toArray, List.set_cons_zero, List.set_cons_succ, List.getElem_toArray, List.getElem_cons_zero, List.getElem_cons_succ]
  refine wpAnyH_take (i := 14) (v := undef) rfl (by kernel_rfl) (by kernel_rfl) (by kernel_rfl) (fun _ _ _ h => h) (Or.inr ⟨by rfl, rfl⟩) (by assumption) ?_
  try simp only [Act.put, List.setIfInBounds_toArray, List.set_cons_zero, List.set_cons_succ, List.getElem_toArray, List.getElem_cons_zero, List.getElem_cons_succ]
  refine wpAnyH_take (i := 15) (v := ?_) rfl (by kernel_rfl) (by kernel_rfl) (by kernel_rfl) (fun _ _ _ h => h) (Or.inl ⟨by rfl, ?_⟩) (by assumption) ?_
  rotate_left
  · intro wz hSw; (try dsimp only at hSw); (try simp only [List.getElem_toArray, List.getElem_cons_zero, List.getElem_cons_succ]); go_simp; with_reducible rfl
  try simp only [Act.put, List.setIfInBounds_toArray, List.set_cons_zero, List.set_cons_succ, List.getElem_toArray, List.getElem_cons_zero, List.getElem_cons_succ]
  refine wpAnyH_done (by kernel_rfl) ?_ _
  have HS := Lib.hid hHeld2.2.2.2.2.2.2.below
  clear hHeld hHeld2
  go_wp2
  go_ret
  exact ⟨rfl, HS.out⟩
set_option maxRecDepth 100000 in
set_option maxHeartbeats 400000 in
theorem long_udp (p : Pk) (a : Option Addr) (n c : Nat) (h0 : PlainOk p) (hf : FlowOk p) (hk : (p.proto = 17 ∧ (8 : Int) = 8) ∨ (p.proto ≠ 17 ∧ (8 : Int) = 20)) (hl : 1472 < n) (hn : n ≤ 4611686018427387904) (w : World) : Calls Try.prog 53 #[p.val a n c] w fun e w' => e = .returned (errno 9) ∧ Below w.heap.size w w' := by
  obtain ⟨h1, h2, h3⟩ := h0
  have p1 := inB_yes h1
  have p2 := inB_yes h2
  have p3 := inB_yes h3
  have C := Lib.hid (fun w => flow_ok p hf w)
  obtain ⟨W, hW, hB⟩ := Box.start w p a n c
  have HW := Lib.hid hW
  have HB := Lib.hid hB
  have HL := Lib.hid (fun w => headLen_is p.proto 8 hk w)
  clear hf h1 h2 h3 hW hB hk
  go_enter Try.func53, Try.ntmps53
  go_wp2_with (go_at_call 64; refine (within_any _ _ _ _).mono ?_; rintro e w1 ⟨rfl, rfl⟩)
  rw [HW.out]
  have hh := HB.out.held
  have s0 : IntKind.i64.wrap 28 = 28 := by decide
  have s1 : IntKind.i64.wrap (28 + (n : Int)) = 28 + (n : Int) := IntWalk.i64_in _ (by omega)
  have s2 : decide (1500 < 28 + (n : Int)) = true := decide_eq_true (by omega)
  clear hl hn
  go_region_held3 (fun wx => wx.cell? ⟨w.heap.size, 3, none⟩ = some (.int .i64 p.proto) ∧ wx.cell? ⟨w.heap.size, 4, none⟩ = some (.int .u32 p.src) ∧ wx.cell? ⟨w.heap.size, 5, none⟩ = some (.int .i64 p.sp) ∧ wx.cell? ⟨w.heap.size, 6, none⟩ = some (.int .u32 p.dst) ∧ wx.cell? ⟨w.heap.size, 7, none⟩ = some (.int .i64 p.dp) ∧ wx.cell? ⟨w.heap.size, 12, none⟩ = some (.slice a n c) ∧ Box w p a n c wx) (first | exact HB.out.drew.held | exact keepB (by assumption) (by assumption) | go_keep)
    (first | (go_at_call 57; with_reducible refine (C.out _).mono ?_; rintro e w' ⟨rfl, hb'⟩) | (go_at_call 50; with_reducible refine (HL.out _).mono ?_; rintro e w' ⟨rfl, rfl⟩))
  clear s0 s1 s2 hh
  rename_i hS
  have HS := Lib.hid hS.2.2.2.2.2.2
  clear hS
  have HT := Lib.hid HS.out.below
  go_wp2
  go_ret
  exact ⟨rfl, HT.out⟩

set_option maxRecDepth 100000 in
set_option maxHeartbeats 400000 in
theorem long_tcp (p : Pk) (a : Option Addr) (n c : Nat) (h0 : PlainOk p) (hf : FlowOk p) (hk : (p.proto = 17 ∧ (20 : Int) = 8) ∨ (p.proto ≠ 17 ∧ (20 : Int) = 20)) (hl : 1460 < n) (hn : n ≤ 4611686018427387904) (w : World) : Calls Try.prog 53 #[p.val a n c] w fun e w' => e = .returned (errno 9) ∧ Below w.heap.size w w' := by
  obtain ⟨h1, h2, h3⟩ := h0
  have p1 := inB_yes h1
  have p2 := inB_yes h2
  have p3 := inB_yes h3
  have C := Lib.hid (fun w => flow_ok p hf w)
  obtain ⟨W, hW, hB⟩ := Box.start w p a n c
  have HW := Lib.hid hW
  have HB := Lib.hid hB
  have HL := Lib.hid (fun w => headLen_is p.proto 20 hk w)
  clear hf h1 h2 h3 hW hB hk
  go_enter Try.func53, Try.ntmps53
  go_wp2_with (go_at_call 64; refine (within_any _ _ _ _).mono ?_; rintro e w1 ⟨rfl, rfl⟩)
  rw [HW.out]
  have hh := HB.out.held
  have s0 : IntKind.i64.wrap 40 = 40 := by decide
  have s1 : IntKind.i64.wrap (40 + (n : Int)) = 40 + (n : Int) := IntWalk.i64_in _ (by omega)
  have s2 : decide (1500 < 40 + (n : Int)) = true := decide_eq_true (by omega)
  clear hl hn
  go_region_held3 (fun wx => wx.cell? ⟨w.heap.size, 3, none⟩ = some (.int .i64 p.proto) ∧ wx.cell? ⟨w.heap.size, 4, none⟩ = some (.int .u32 p.src) ∧ wx.cell? ⟨w.heap.size, 5, none⟩ = some (.int .i64 p.sp) ∧ wx.cell? ⟨w.heap.size, 6, none⟩ = some (.int .u32 p.dst) ∧ wx.cell? ⟨w.heap.size, 7, none⟩ = some (.int .i64 p.dp) ∧ wx.cell? ⟨w.heap.size, 12, none⟩ = some (.slice a n c) ∧ Box w p a n c wx) (first | exact HB.out.drew.held | exact keepB (by assumption) (by assumption) | go_keep)
    (first | (go_at_call 57; with_reducible refine (C.out _).mono ?_; rintro e w' ⟨rfl, hb'⟩) | (go_at_call 50; with_reducible refine (HL.out _).mono ?_; rintro e w' ⟨rfl, rfl⟩))
  clear s0 s1 s2 hh
  rename_i hS
  have HS := Lib.hid hS.2.2.2.2.2.2
  clear hS
  have HT := Lib.hid HS.out.below
  go_wp2
  go_ret
  exact ⟨rfl, HT.out⟩

set_option maxRecDepth 100000 in
set_option maxHeartbeats 400000 in
theorem udp_ok (p : Pk) (a : Option Addr) (n c : Nat) (h0 : PlainOk p) (hf : FlowOk p) (hk : (p.proto = 17 ∧ (8 : Int) = 8) ∨ (p.proto ≠ 17 ∧ (8 : Int) = 20)) (hl : n ≤ 1472) (hn : n ≤ 4611686018427387904) (hq : p.seq = 0 ∧ p.ack = 0 ∧ p.flags = 0 ∧ p.win = 0) (w : World) : Calls Try.prog 53 #[p.val a n c] w fun e w' => e = .returned .nilIface ∧ Below w.heap.size w w' := by
  have HQ := Lib.hid hq
  clear hq
  have q17 : (p.proto == 17) = true := by rcases hk with h | h <;> simp at h <;> simp [h]
  obtain ⟨h1, h2, h3⟩ := h0
  have p1 := inB_yes h1
  have p2 := inB_yes h2
  have p3 := inB_yes h3
  have C := Lib.hid (fun w => flow_ok p hf w)
  obtain ⟨W, hW, hB⟩ := Box.start w p a n c
  have HW := Lib.hid hW
  have HB := Lib.hid hB
  have HL := Lib.hid (fun w => headLen_is p.proto 8 hk w)
  clear hf h1 h2 h3 hW hB hk
  go_enter Try.func53, Try.ntmps53
  go_wp2_with (go_at_call 64; refine (within_any _ _ _ _).mono ?_; rintro e w1 ⟨rfl, rfl⟩)
  rw [HW.out]
  have hh := HB.out.held
  have s0 : IntKind.i64.wrap 28 = 28 := by decide
  have s1 : IntKind.i64.wrap (28 + (n : Int)) = 28 + (n : Int) := IntWalk.i64_in _ (by omega)
  have s2 : decide (1500 < 28 + (n : Int)) = false := decide_eq_false (by omega)
  clear hl hn
  go_region_held3 (fun wx => wx.cell? ⟨w.heap.size, 3, none⟩ = some (.int .i64 p.proto) ∧ wx.cell? ⟨w.heap.size, 4, none⟩ = some (.int .u32 p.src) ∧ wx.cell? ⟨w.heap.size, 5, none⟩ = some (.int .i64 p.sp) ∧ wx.cell? ⟨w.heap.size, 6, none⟩ = some (.int .u32 p.dst) ∧ wx.cell? ⟨w.heap.size, 7, none⟩ = some (.int .i64 p.dp) ∧ wx.cell? ⟨w.heap.size, 12, none⟩ = some (.slice a n c) ∧ Box w p a n c wx) (first | exact HB.out.drew.held | exact keepB (by assumption) (by assumption) | go_keep)
    (first | (go_at_call 57; with_reducible refine (C.out _).mono ?_; rintro e w' ⟨rfl, hb'⟩) | (go_at_call 50; with_reducible refine (HL.out _).mono ?_; rintro e w' ⟨rfl, rfl⟩))
  clear s0 s1 s2 hh
  rename_i hS
  have HS := Lib.hid hS.2.2.2.2.2.2
  clear hS
  obtain ⟨⟨e0, e1, e2, e3, e4, e5, e6, e7, e8, e9, e10, e11, e12⟩, _⟩ := HS.out
  go_wp2_with (go_at_call 65; refine (noughts_ok p a n c HQ.out _).mono ?_; rintro e w5 ⟨rfl, hb5⟩)
  go_ret
  exact ⟨rfl, bl_tr HS.out.below hb5⟩

set_option maxRecDepth 100000 in
set_option maxHeartbeats 400000 in
theorem udp_no (p : Pk) (a : Option Addr) (n c : Nat) (h0 : PlainOk p) (hf : FlowOk p) (hk : (p.proto = 17 ∧ (8 : Int) = 8) ∨ (p.proto ≠ 17 ∧ (8 : Int) = 20)) (hl : n ≤ 1472) (hn : n ≤ 4611686018427387904) (hq : ¬ (p.seq = 0 ∧ p.ack = 0 ∧ p.flags = 0 ∧ p.win = 0)) (w : World) : Calls Try.prog 53 #[p.val a n c] w fun e w' => e = .returned (errno 9) ∧ Below w.heap.size w w' := by
  have HQ := Lib.hid hq
  clear hq
  have q17 : (p.proto == 17) = true := by rcases hk with h | h <;> simp at h <;> simp [h]
  obtain ⟨h1, h2, h3⟩ := h0
  have p1 := inB_yes h1
  have p2 := inB_yes h2
  have p3 := inB_yes h3
  have C := Lib.hid (fun w => flow_ok p hf w)
  obtain ⟨W, hW, hB⟩ := Box.start w p a n c
  have HW := Lib.hid hW
  have HB := Lib.hid hB
  have HL := Lib.hid (fun w => headLen_is p.proto 8 hk w)
  clear hf h1 h2 h3 hW hB hk
  go_enter Try.func53, Try.ntmps53
  go_wp2_with (go_at_call 64; refine (within_any _ _ _ _).mono ?_; rintro e w1 ⟨rfl, rfl⟩)
  rw [HW.out]
  have hh := HB.out.held
  have s0 : IntKind.i64.wrap 28 = 28 := by decide
  have s1 : IntKind.i64.wrap (28 + (n : Int)) = 28 + (n : Int) := IntWalk.i64_in _ (by omega)
  have s2 : decide (1500 < 28 + (n : Int)) = false := decide_eq_false (by omega)
  clear hl hn
  go_region_held3 (fun wx => wx.cell? ⟨w.heap.size, 3, none⟩ = some (.int .i64 p.proto) ∧ wx.cell? ⟨w.heap.size, 4, none⟩ = some (.int .u32 p.src) ∧ wx.cell? ⟨w.heap.size, 5, none⟩ = some (.int .i64 p.sp) ∧ wx.cell? ⟨w.heap.size, 6, none⟩ = some (.int .u32 p.dst) ∧ wx.cell? ⟨w.heap.size, 7, none⟩ = some (.int .i64 p.dp) ∧ wx.cell? ⟨w.heap.size, 12, none⟩ = some (.slice a n c) ∧ Box w p a n c wx) (first | exact HB.out.drew.held | exact keepB (by assumption) (by assumption) | go_keep)
    (first | (go_at_call 57; with_reducible refine (C.out _).mono ?_; rintro e w' ⟨rfl, hb'⟩) | (go_at_call 50; with_reducible refine (HL.out _).mono ?_; rintro e w' ⟨rfl, rfl⟩))
  clear s0 s1 s2 hh
  rename_i hS
  have HS := Lib.hid hS.2.2.2.2.2.2
  clear hS
  obtain ⟨⟨e0, e1, e2, e3, e4, e5, e6, e7, e8, e9, e10, e11, e12⟩, _⟩ := HS.out
  go_wp2_with (go_at_call 65; refine (noughts_no p a n c HQ.out _).mono ?_; rintro e w5 ⟨rfl, hb5⟩)
  go_ret
  exact ⟨rfl, bl_tr HS.out.below hb5⟩

set_option maxRecDepth 100000 in
set_option maxHeartbeats 400000 in
theorem tcp_ok (p : Pk) (a : Option Addr) (n c : Nat) (h0 : PlainOk p) (hf : FlowOk p) (hk : (p.proto = 17 ∧ (20 : Int) = 8) ∨ (p.proto ≠ 17 ∧ (20 : Int) = 20)) (hl : n ≤ 1460) (hn : n ≤ 4611686018427387904) (hg : inB p.flags 0 255 = true) (hv : inB p.win 0 65535 = true) (w : World) : Calls Try.prog 53 #[p.val a n c] w fun e w' => e = .returned .nilIface ∧ Below w.heap.size w w' := by
  have q17 : (p.proto == 17) = false := by rcases hk with h | h <;> simp at h <;> simp [h]
  obtain ⟨h1, h2, h3⟩ := h0
  have p1 := inB_yes h1
  have p2 := inB_yes h2
  have p3 := inB_yes h3
  have C := Lib.hid (fun w => flow_ok p hf w)
  obtain ⟨W, hW, hB⟩ := Box.start w p a n c
  have HW := Lib.hid hW
  have HB := Lib.hid hB
  have HL := Lib.hid (fun w => headLen_is p.proto 20 hk w)
  clear hf h1 h2 h3 hW hB hk
  go_enter Try.func53, Try.ntmps53
  go_wp2_with (go_at_call 64; refine (within_any _ _ _ _).mono ?_; rintro e w1 ⟨rfl, rfl⟩)
  rw [HW.out]
  have hh := HB.out.held
  have s0 : IntKind.i64.wrap 40 = 40 := by decide
  have s1 : IntKind.i64.wrap (40 + (n : Int)) = 40 + (n : Int) := IntWalk.i64_in _ (by omega)
  have s2 : decide (1500 < 40 + (n : Int)) = false := decide_eq_false (by omega)
  clear hl hn
  go_region_held3 (fun wx => wx.cell? ⟨w.heap.size, 3, none⟩ = some (.int .i64 p.proto) ∧ wx.cell? ⟨w.heap.size, 4, none⟩ = some (.int .u32 p.src) ∧ wx.cell? ⟨w.heap.size, 5, none⟩ = some (.int .i64 p.sp) ∧ wx.cell? ⟨w.heap.size, 6, none⟩ = some (.int .u32 p.dst) ∧ wx.cell? ⟨w.heap.size, 7, none⟩ = some (.int .i64 p.dp) ∧ wx.cell? ⟨w.heap.size, 12, none⟩ = some (.slice a n c) ∧ Box w p a n c wx) (first | exact HB.out.drew.held | exact keepB (by assumption) (by assumption) | go_keep)
    (first | (go_at_call 57; with_reducible refine (C.out _).mono ?_; rintro e w' ⟨rfl, hb'⟩) | (go_at_call 50; with_reducible refine (HL.out _).mono ?_; rintro e w' ⟨rfl, rfl⟩))
  clear s0 s1 s2 hh
  rename_i hS
  have HS := Lib.hid hS.2.2.2.2.2.2
  clear hS
  obtain ⟨⟨e0, e1, e2, e3, e4, e5, e6, e7, e8, e9, e10, e11, e12⟩, _⟩ := HS.out
  have HT := Lib.hid HS.out.below
  go_wp2_with (go_at_call 64; refine (within_any _ _ _ _).mono ?_; rintro e w1 ⟨rfl, rfl⟩)
  go_ret
  exact ⟨rfl, HT.out⟩

set_option maxRecDepth 100000 in
set_option maxHeartbeats 400000 in
theorem tcp_flags (p : Pk) (a : Option Addr) (n c : Nat) (h0 : PlainOk p) (hf : FlowOk p) (hk : (p.proto = 17 ∧ (20 : Int) = 8) ∨ (p.proto ≠ 17 ∧ (20 : Int) = 20)) (hl : n ≤ 1460) (hn : n ≤ 4611686018427387904) (hg : inB p.flags 0 255 = false) (w : World) : Calls Try.prog 53 #[p.val a n c] w fun e w' => e = .returned (errno 9) ∧ Below w.heap.size w w' := by
  have q17 : (p.proto == 17) = false := by rcases hk with h | h <;> simp at h <;> simp [h]
  obtain ⟨h1, h2, h3⟩ := h0
  have p1 := inB_yes h1
  have p2 := inB_yes h2
  have p3 := inB_yes h3
  have C := Lib.hid (fun w => flow_ok p hf w)
  obtain ⟨W, hW, hB⟩ := Box.start w p a n c
  have HW := Lib.hid hW
  have HB := Lib.hid hB
  have HL := Lib.hid (fun w => headLen_is p.proto 20 hk w)
  clear hf h1 h2 h3 hW hB hk
  go_enter Try.func53, Try.ntmps53
  go_wp2_with (go_at_call 64; refine (within_any _ _ _ _).mono ?_; rintro e w1 ⟨rfl, rfl⟩)
  rw [HW.out]
  have hh := HB.out.held
  have s0 : IntKind.i64.wrap 40 = 40 := by decide
  have s1 : IntKind.i64.wrap (40 + (n : Int)) = 40 + (n : Int) := IntWalk.i64_in _ (by omega)
  have s2 : decide (1500 < 40 + (n : Int)) = false := decide_eq_false (by omega)
  clear hl hn
  go_region_held3 (fun wx => wx.cell? ⟨w.heap.size, 3, none⟩ = some (.int .i64 p.proto) ∧ wx.cell? ⟨w.heap.size, 4, none⟩ = some (.int .u32 p.src) ∧ wx.cell? ⟨w.heap.size, 5, none⟩ = some (.int .i64 p.sp) ∧ wx.cell? ⟨w.heap.size, 6, none⟩ = some (.int .u32 p.dst) ∧ wx.cell? ⟨w.heap.size, 7, none⟩ = some (.int .i64 p.dp) ∧ wx.cell? ⟨w.heap.size, 12, none⟩ = some (.slice a n c) ∧ Box w p a n c wx) (first | exact HB.out.drew.held | exact keepB (by assumption) (by assumption) | go_keep)
    (first | (go_at_call 57; with_reducible refine (C.out _).mono ?_; rintro e w' ⟨rfl, hb'⟩) | (go_at_call 50; with_reducible refine (HL.out _).mono ?_; rintro e w' ⟨rfl, rfl⟩))
  clear s0 s1 s2 hh
  rename_i hS
  have HS := Lib.hid hS.2.2.2.2.2.2
  clear hS
  obtain ⟨⟨e0, e1, e2, e3, e4, e5, e6, e7, e8, e9, e10, e11, e12⟩, _⟩ := HS.out
  have HT := Lib.hid HS.out.below
  go_wp2_with (go_at_call 64; refine (within_any _ _ _ _).mono ?_; rintro e w1 ⟨rfl, rfl⟩)
  go_ret
  exact ⟨rfl, HT.out⟩

set_option maxRecDepth 100000 in
set_option maxHeartbeats 400000 in
theorem tcp_win (p : Pk) (a : Option Addr) (n c : Nat) (h0 : PlainOk p) (hf : FlowOk p) (hk : (p.proto = 17 ∧ (20 : Int) = 8) ∨ (p.proto ≠ 17 ∧ (20 : Int) = 20)) (hl : n ≤ 1460) (hn : n ≤ 4611686018427387904) (hg : inB p.flags 0 255 = true) (hv : inB p.win 0 65535 = false) (w : World) : Calls Try.prog 53 #[p.val a n c] w fun e w' => e = .returned (errno 9) ∧ Below w.heap.size w w' := by
  have q17 : (p.proto == 17) = false := by rcases hk with h | h <;> simp at h <;> simp [h]
  obtain ⟨h1, h2, h3⟩ := h0
  have p1 := inB_yes h1
  have p2 := inB_yes h2
  have p3 := inB_yes h3
  have C := Lib.hid (fun w => flow_ok p hf w)
  obtain ⟨W, hW, hB⟩ := Box.start w p a n c
  have HW := Lib.hid hW
  have HB := Lib.hid hB
  have HL := Lib.hid (fun w => headLen_is p.proto 20 hk w)
  clear hf h1 h2 h3 hW hB hk
  go_enter Try.func53, Try.ntmps53
  go_wp2_with (go_at_call 64; refine (within_any _ _ _ _).mono ?_; rintro e w1 ⟨rfl, rfl⟩)
  rw [HW.out]
  have hh := HB.out.held
  have s0 : IntKind.i64.wrap 40 = 40 := by decide
  have s1 : IntKind.i64.wrap (40 + (n : Int)) = 40 + (n : Int) := IntWalk.i64_in _ (by omega)
  have s2 : decide (1500 < 40 + (n : Int)) = false := decide_eq_false (by omega)
  clear hl hn
  go_region_held3 (fun wx => wx.cell? ⟨w.heap.size, 3, none⟩ = some (.int .i64 p.proto) ∧ wx.cell? ⟨w.heap.size, 4, none⟩ = some (.int .u32 p.src) ∧ wx.cell? ⟨w.heap.size, 5, none⟩ = some (.int .i64 p.sp) ∧ wx.cell? ⟨w.heap.size, 6, none⟩ = some (.int .u32 p.dst) ∧ wx.cell? ⟨w.heap.size, 7, none⟩ = some (.int .i64 p.dp) ∧ wx.cell? ⟨w.heap.size, 12, none⟩ = some (.slice a n c) ∧ Box w p a n c wx) (first | exact HB.out.drew.held | exact keepB (by assumption) (by assumption) | go_keep)
    (first | (go_at_call 57; with_reducible refine (C.out _).mono ?_; rintro e w' ⟨rfl, hb'⟩) | (go_at_call 50; with_reducible refine (HL.out _).mono ?_; rintro e w' ⟨rfl, rfl⟩))
  clear s0 s1 s2 hh
  rename_i hS
  have HS := Lib.hid hS.2.2.2.2.2.2
  clear hS
  obtain ⟨⟨e0, e1, e2, e3, e4, e5, e6, e7, e8, e9, e10, e11, e12⟩, _⟩ := HS.out
  have HT := Lib.hid HS.out.below
  go_wp2_with (go_at_call 64; refine (within_any _ _ _ _).mono ?_; rintro e w1 ⟨rfl, rfl⟩)
  go_ret
  exact ⟨rfl, HT.out⟩

theorem check_ok (p : Pk) (a : Option Addr) (n c : Nat) (hn : p.data.length = n) (h : Ok p) (w : World) : Calls Try.prog 53 #[p.val a n c] w fun e w' => e = .returned .nilIface ∧ Below w.heap.size w w' := by
  have hl := h.len
  unfold segLen at hl
  have h0 : PlainOk p := ⟨h.tos, h.id, h.ttl⟩
  have hf : FlowOk p := ⟨h.proto, h.sp, h.dp⟩
  rcases h.proto with hp | hp
  · rw [if_neg (by omega)] at hl
    exact tcp_ok p a n c h0 hf (.inr ⟨by omega, rfl⟩) (by omega) (by omega) (inB_yes h.flags) (inB_yes h.win) w
  · rw [if_pos hp] at hl
    exact udp_ok p a n c h0 hf (.inl ⟨hp, rfl⟩) (by omega) (by omega) (h.udp hp) w
theorem check_no (p : Pk) (a : Option Addr) (n c : Nat) (hn : p.data.length = n) (hb : n ≤ 4611686018427387904) (h : ¬ Ok p) (w : World) : Calls Try.prog 53 #[p.val a n c] w fun e w' => e = .returned (errno 9) ∧ Below w.heap.size w w' := by
  by_cases h0 : PlainOk p
  · by_cases hf : FlowOk p
    · by_cases hp : p.proto = 17
      · by_cases hl : n ≤ 1472
        · by_cases hq : p.seq = 0 ∧ p.ack = 0 ∧ p.flags = 0 ∧ p.win = 0
          · exact absurd ⟨h0.1, h0.2.1, h0.2.2, hf.1, hf.2.1, hf.2.2, by omega, by omega, fun _ => hq, by unfold segLen; rw [if_pos hp]; omega⟩ h
          · exact udp_no p a n c h0 hf (.inl ⟨hp, rfl⟩) hl hb hq w
        · exact long_udp p a n c h0 hf (.inl ⟨hp, rfl⟩) (by omega) hb w
      · by_cases hl : n ≤ 1460
        · by_cases hg : 0 ≤ p.flags ∧ p.flags ≤ 255
          · by_cases hv : 0 ≤ p.win ∧ p.win ≤ 65535
            · exact absurd ⟨h0.1, h0.2.1, h0.2.2, hf.1, hf.2.1, hf.2.2, hg, hv, fun e => absurd e hp, by unfold segLen; rw [if_neg hp]; omega⟩ h
            · exact tcp_win p a n c h0 hf (.inr ⟨hp, rfl⟩) hl hb (inB_yes hg) (inB_no hv) w
          · exact tcp_flags p a n c h0 hf (.inr ⟨hp, rfl⟩) hl hb (inB_no hg) w
        · exact long_tcp p a n c h0 hf (.inr ⟨hp, rfl⟩) (by omega) hb w
    · exact check_flow p a n c h0 hf w
  · exact check_plain p a n c h0 w
end Go.Proofs.Ytfbmeoiaedlgoaa
