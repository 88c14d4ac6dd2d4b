/- The document's Same: of like logs. Conditions: those stated. -/
import Derived.Test.YtnhnpfhfcbmmlaaVhC
import Derived.Deep.RegionHeld3
namespace Go.Proofs.Ytnhnpfhfcbmmlaa
open Go Go.RowKit
set_option linter.unusedVariables false
set_option linter.unusedSimpArgs false

set_option maxRecDepth 100000 in
set_option maxHeartbeats 8000000 in
theorem sameR_c (ls : List Cm) (vs us : List Value) (a a2 : Option Addr) (n c c2 : Nat) (w : World) (hI : InC w a n c ls vs) (hJ : InC w a2 n c2 ls us) (hn : n ≤ 4611686018427387904) (hes : ∀ x ∈ ls, x.es.length ≤ 400) :
    Calls Try.prog 21 #[.slice a n c, .slice a2 n c2] w fun e w' => e = .returned (.bool true) ∧ Below w.heap.size w w' := by
  have hlen := hI.len
  have hroom := hI.room
  have hroom2 := hJ.room
  have HI := Lib.hid hI
  have HJ := Lib.hid hJ
  have HES := Lib.hid hes
  have HB0 := Lib.hid (Below.refl w.heap.size w)
  clear hI hJ hes
  go_enter Try.func21, Try.ntmps21
  go_wp2
  go_loopw [5] (fun iv wr => ∃ i : Nat, i ≤ n ∧ iv = .int .i64 i ∧ Hid (Below w.heap.size w wr)) (fun iv _ => n - (intOf iv).toNat)
  case atStart => exact ⟨0, by omega, rfl, HB0⟩
  case round =>
    obtain ⟨i, hi, rfl, HB⟩ := hrel
    obtain ⟨w3, rfl⟩ : ∃ v, v = wr := ⟨_, rfl⟩
    clear HB0
    by_cases hlt : i < n
    · have ii : (i : Int) < (n : Int) := by omega
      have i0' : (0 : Int) ≤ (i : Int) := by omega
      have ic : (i : Int) ≤ (c : Int) := by omega
      have ic2 : (i : Int) ≤ (c2 : Int) := by omega
      obtain ⟨b1, o1, rfl⟩ := HI.out.block (by omega)
      obtain ⟨b3, o3, rfl⟩ := HJ.out.block (by omega)
      obtain ⟨a5, n5, c5, hv, hE⟩ := HI.out.ends i hlt
      obtain ⟨a6, n6, c6, hu, hF⟩ := HJ.out.ends i hlt
      have ht := HI.out.ty hlt
      have hmem := memC (ls := ls) (i := i) (by omega)
      have CI := fun (wx : World) (hb : Below w.heap.size w wx) => (HI.out.below hb).cell hlt
      have CJ := fun (wx : World) (hb : Below w.heap.size w wx) => (HJ.out.below hb).cell hlt
      rw [hv] at CI
      rw [hu] at CJ
      obtain ⟨x, hx⟩ : ∃ x, x = ls.getD i cm0 := ⟨_, rfl⟩
      rw [← hx] at CI CJ hE hF ht hmem
      have h5 : n5 ≤ 400 := by rw [← hE.len]; exact HES.out x hmem
      have h6 : n6 ≤ 400 := by rw [← hF.len]; exact HES.out x hmem
      have HSK : Hid (∀ wx, Below w.heap.size w wx → (wx.cell? ⟨b1, o1 + i * 12, none⟩ = some (.int .i64 x.node) ∧ wx.cell? ⟨b1, o1 + i * 12 + 1, none⟩ = some (.int .i64 x.boot) ∧ wx.cell? ⟨b1, o1 + i * 12 + 2, none⟩ = some (.int .i64 x.seq) ∧ wx.cell? ⟨b1, o1 + i * 12 + 3, none⟩ = some (.int .i64 x.time) ∧ wx.cell? ⟨b1, o1 + i * 12 + 4, none⟩ = some (.int .i64 x.kind) ∧ wx.cell? ⟨b1, o1 + i * 12 + 5, none⟩ = some (.int .u32 x.vip) ∧ wx.cell? ⟨b1, o1 + i * 12 + 6, none⟩ = some (.int .i64 x.proto) ∧ wx.cell? ⟨b1, o1 + i * 12 + 7, none⟩ = some (.int .i64 x.port) ∧ wx.cell? ⟨b1, o1 + i * 12 + 8, none⟩ = some (.slice a5 n5 c5) ∧ wx.cell? ⟨b1, o1 + i * 12 + 9, none⟩ = some (.int .u32 x.dip) ∧ wx.cell? ⟨b1, o1 + i * 12 + 10, none⟩ = some (.int .u32 x.cvip) ∧ wx.cell? ⟨b1, o1 + i * 12 + 11, none⟩ = some (.bool x.up)) ∧ (wx.cell? ⟨b3, o3 + i * 12, none⟩ = some (.int .i64 x.node) ∧ wx.cell? ⟨b3, o3 + i * 12 + 1, none⟩ = some (.int .i64 x.boot) ∧ wx.cell? ⟨b3, o3 + i * 12 + 2, none⟩ = some (.int .i64 x.seq) ∧ wx.cell? ⟨b3, o3 + i * 12 + 3, none⟩ = some (.int .i64 x.time) ∧ wx.cell? ⟨b3, o3 + i * 12 + 4, none⟩ = some (.int .i64 x.kind) ∧ wx.cell? ⟨b3, o3 + i * 12 + 5, none⟩ = some (.int .u32 x.vip) ∧ wx.cell? ⟨b3, o3 + i * 12 + 6, none⟩ = some (.int .i64 x.proto) ∧ wx.cell? ⟨b3, o3 + i * 12 + 7, none⟩ = some (.int .i64 x.port) ∧ wx.cell? ⟨b3, o3 + i * 12 + 8, none⟩ = some (.slice a6 n6 c6) ∧ wx.cell? ⟨b3, o3 + i * 12 + 9, none⟩ = some (.int .u32 x.dip) ∧ wx.cell? ⟨b3, o3 + i * 12 + 10, none⟩ = some (.int .u32 x.cvip) ∧ wx.cell? ⟨b3, o3 + i * 12 + 11, none⟩ = some (.bool x.up))) := Lib.hid (fun wx hb => by
        obtain ⟨k0, k1, k2, k3, k4, k5, k6, k7, k8, k9, k10, k11⟩ := CI wx hb
        obtain ⟨d0, d1, d2, d3, d4, d5, d6, d7, d8, d9, d10, d11⟩ := CJ wx hb
        exact ⟨⟨k0, k1, k2, k3, k4, k5, k6, k7, k8, k9, k10, k11⟩, d0, d1, d2, d3, d4, d5, d6, d7, d8, d9, d10, d11⟩)
      have CL := Lib.hid (fun (wx : World) (hb : Below w.heap.size w wx) => likeR_c x a5 a6 n5 c5 n6 c6 wx (hE.below hb) (hF.below hb) ht h5 h6)
      have hS0 := HSK.out w3.drew HB.out.drew
      have HB3 := Lib.hid (show Below w.heap.size w w3.drew from HB.out.drew)
      clear CI CJ hx hE hF ht hmem hv hu h5 h6
      go_upto_region 6 with fail
      go_region_held3 (fun wx => (wx.cell? ⟨b1, o1 + i * 12, none⟩ = some (.int .i64 x.node) ∧ wx.cell? ⟨b1, o1 + i * 12 + 1, none⟩ = some (.int .i64 x.boot) ∧ wx.cell? ⟨b1, o1 + i * 12 + 2, none⟩ = some (.int .i64 x.seq) ∧ wx.cell? ⟨b1, o1 + i * 12 + 3, none⟩ = some (.int .i64 x.time) ∧ wx.cell? ⟨b1, o1 + i * 12 + 4, none⟩ = some (.int .i64 x.kind) ∧ wx.cell? ⟨b1, o1 + i * 12 + 5, none⟩ = some (.int .u32 x.vip) ∧ wx.cell? ⟨b1, o1 + i * 12 + 6, none⟩ = some (.int .i64 x.proto) ∧ wx.cell? ⟨b1, o1 + i * 12 + 7, none⟩ = some (.int .i64 x.port) ∧ wx.cell? ⟨b1, o1 + i * 12 + 8, none⟩ = some (.slice a5 n5 c5) ∧ wx.cell? ⟨b1, o1 + i * 12 + 9, none⟩ = some (.int .u32 x.dip) ∧ wx.cell? ⟨b1, o1 + i * 12 + 10, none⟩ = some (.int .u32 x.cvip) ∧ wx.cell? ⟨b1, o1 + i * 12 + 11, none⟩ = some (.bool x.up)) ∧ (wx.cell? ⟨b3, o3 + i * 12, none⟩ = some (.int .i64 x.node) ∧ wx.cell? ⟨b3, o3 + i * 12 + 1, none⟩ = some (.int .i64 x.boot) ∧ wx.cell? ⟨b3, o3 + i * 12 + 2, none⟩ = some (.int .i64 x.seq) ∧ wx.cell? ⟨b3, o3 + i * 12 + 3, none⟩ = some (.int .i64 x.time) ∧ wx.cell? ⟨b3, o3 + i * 12 + 4, none⟩ = some (.int .i64 x.kind) ∧ wx.cell? ⟨b3, o3 + i * 12 + 5, none⟩ = some (.int .u32 x.vip) ∧ wx.cell? ⟨b3, o3 + i * 12 + 6, none⟩ = some (.int .i64 x.proto) ∧ wx.cell? ⟨b3, o3 + i * 12 + 7, none⟩ = some (.int .i64 x.port) ∧ wx.cell? ⟨b3, o3 + i * 12 + 8, none⟩ = some (.slice a6 n6 c6) ∧ wx.cell? ⟨b3, o3 + i * 12 + 9, none⟩ = some (.int .u32 x.dip) ∧ wx.cell? ⟨b3, o3 + i * 12 + 10, none⟩ = some (.int .u32 x.cvip) ∧ wx.cell? ⟨b3, o3 + i * 12 + 11, none⟩ = some (.bool x.up))) (first | (with_reducible exact hS0) | (with_reducible assumption) | fail)
        (first
          | (go_at_call 61; (with_reducible refine (CL.out _ HB3.out).mono ?_); rintro e w7 ⟨rfl, hb7⟩; have hb7w := bl_tr HB3.out hb7; have hS1 := HSK.out _ hb7w)
          | fail)
      all_goals
        have HB7 := Lib.hid hb7w
        clear hS0 hS1 hb7 hb7w CL HSK
        go_wp2
        go_roundw
        case rel => exact ⟨i + 1, by omega, by go_num, HB7⟩
        case measure => simp [intOf]; omega
    · have ii : ¬ (i : Int) < (n : Int) := by omega
      obtain rfl : i = n := by omega
      go_wp2
      go_ret
      exact ⟨rfl, HB.out⟩
end Go.Proofs.Ytnhnpfhfcbmmlaa
