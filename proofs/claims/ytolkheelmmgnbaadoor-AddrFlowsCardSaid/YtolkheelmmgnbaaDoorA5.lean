/- Contract of towpathlaw01.alive: it returns true. Condition: the library's variables lie as their text lays them. -/
import Derived.Test.YtolkheelmmgnbaaDoorA4
namespace Go.Proofs.YtolkheelmmgnbaaDoor
open Go Go.RowKit

abbrev exS : ByteArray := ⟨#[49, 48, 46, 49, 46, 49, 46, 50]⟩
abbrev exT : ByteArray := ⟨#[49, 48, 46, 48, 46, 48, 46, 51, 50]⟩
theorem pcs_ex : pcs exS = [⟨#[49, 48]⟩, ⟨#[49]⟩, ⟨#[49]⟩, ⟨#[50]⟩] := by decide +kernel
theorem num_10 : num? ⟨#[49, 48]⟩ = some 10 := by
  have h : Lib.parseUintB 8 [49, 48] = .ok 10 := by decide +kernel
  have d : Lib.decDigits 10 = [49, 48] := by rw [Lib.decDigits_two (by decide) (by decide)]; rfl
  simp only [num?, h, d, if_true]
theorem num_1 : num? ⟨#[49]⟩ = some 1 := by
  have h : Lib.parseUintB 8 [49] = .ok 1 := by decide +kernel
  have d : Lib.decDigits 1 = [49] := by rw [Lib.decDigits_one (by decide)]; rfl
  simp only [num?, h, d, if_true]
theorem num_2 : num? ⟨#[50]⟩ = some 2 := by
  have h : Lib.parseUintB 8 [50] = .ok 2 := by decide +kernel
  have d : Lib.decDigits 2 = [50] := by rw [Lib.decDigits_one (by decide)]; rfl
  simp only [num?, h, d, if_true]
theorem parse_ex : parseV exS = some 167837954 := by
  rw [parseV, if_neg (by decide), pcs_ex]
  simp only [parseP, num_10, num_1, num_2]
  rfl
theorem text_ex : (⟨(textL 10 0 0 32).toArray⟩ : ByteArray) = exT := by
  have d10 : Lib.decDigits (10 : Int).toNat = [49, 48] := by rw [show (10 : Int).toNat = 10 from rfl, Lib.decDigits_two (by decide) (by decide)]; rfl
  have d0 : Lib.decDigits (0 : Int).toNat = [48] := by rw [show (0 : Int).toNat = 0 from rfl, Lib.decDigits_one (by decide)]; rfl
  have d32 : Lib.decDigits (32 : Int).toNat = [51, 50] := by rw [show (32 : Int).toNat = 32 from rfl, Lib.decDigits_two (by decide) (by decide)]; rfl
  simp only [textL, decS, d10, d0, d32]
  rfl

set_option maxRecDepth 100000 in
theorem alive_any (w : World) (hg : Good w) : Calls Tryd.prog 9 #[] w fun e w' => e = .returned (.bool true) ∧ Below w.heap.size w w' := by
  have P := parse_any exS (by decide) w hg
  rw [parse_ex] at P
  have PH : Hid (Calls Tryd.prog 10 #[.string exS] w fun e w' => e = .returned (.tuple #[.int .u32 167837954, .nilIface]) ∧ Below w.heap.size w w') := Lib.hid P
  have T := fun (W : World) (hW : Good W) => text_any 167772192 (by decide) (by decide) W hW
  rw [show textL (167772192 / 16777216) (167772192 / 65536 % 256) (167772192 / 256 % 256) (167772192 % 256) = textL 10 0 0 32 from rfl, text_ex] at T
  have TH := Lib.hid T
  have G := Lib.hid hg
  have M : Hid (∀ W : World, Calls Tryd.prog 18 #[.int .u32 167837954] W fun e w' => e = .returned (.tuple #[.int .i64 49, .int .i64 2, .bool true]) ∧ Below W.heap.size W w') := Lib.hid (home_ok 167837954 ⟨by decide, by decide, by decide⟩)
  have V := fun (W : World) => vip_any 16909060 (by decide) (by decide) W
  rw [show vipB (16909060 / 16777216) = true from rfl] at V
  have VH := Lib.hid V
  clear P T hg V
  go_enter Tryd.func9, Tryd.ntmps9
  go_wp2_with (first
    | (go_at_call 10; refine PH.out.mono ?_; rintro e w1 ⟨rfl, hb1⟩)
    | (go_at_call 18; refine (M.out _).mono ?_; rintro e w2 ⟨rfl, hb2⟩)
    | (go_at_call 12; refine (TH.out _ ((G.out.below hb1 G.out.size).below hb2 (G.out.below hb1 G.out.size).size)).mono ?_; rintro e w3 ⟨rfl, hb3⟩)
    | (go_at_call 20; refine (VH.out _).mono ?_; rintro e w4 ⟨rfl, hb4⟩))
  go_ret
  exact ⟨rfl, bl_tr (bl_tr (bl_tr hb1 hb2) hb3) hb4⟩
end Go.Proofs.YtolkheelmmgnbaaDoor
