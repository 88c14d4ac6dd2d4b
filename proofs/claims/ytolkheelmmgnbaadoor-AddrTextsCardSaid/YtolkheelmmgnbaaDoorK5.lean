/- Contract of towpathlaw01.AddrTexts: it returns true and nothing that was there is turned. Conditions: the address fits its kind; the string's length is an int; the library's variables lie as their text lays them. -/
import Derived.Test.YtolkheelmmgnbaaDoorK4
import Derived.Test.YtolkheelmmgnbaaDoorA5
namespace Go.Proofs.YtolkheelmmgnbaaDoor
open Go Go.RowKit

set_option maxRecDepth 100000 in
set_option maxHeartbeats 2000000 in
theorem texts_any (a : Int) (s : ByteArray) (a0 : 0 ≤ a) (a1 : a < 4294967296) (hs : s.size ≤ 9223372036854775807) (w : World) (hg : Good w) :
    Calls Tryd.prog 3 #[.int .u32 a, .string s] w fun e w' => e = .returned (.bool true) ∧ Below w.heap.size w w' := by
  have A := alive_any w hg
  have P := fun (W : World) (hW : Good W) => parse_any s hs W hW
  have R := fun (W : World) => refParse_any s hs W
  have T := fun (W : World) (hW : Good W) => text_any a a0 a1 W hW
  have U := fun (W : World) => refText a a0 a1 W
  obtain ⟨t, ht⟩ : ∃ t : ByteArray, t = ⟨(textL (a / 16777216) (a / 65536 % 256) (a / 256 % 256) (a % 256)).toArray⟩ := ⟨_, rfl⟩
  rw [← ht] at T U
  have G := Lib.hid hg
  have AH := Lib.hid A
  have TH := Lib.hid T
  have UH := Lib.hid U
  clear A T U ht hg
  have NN := Lib.hid num_nil
  have NE := Lib.hid num_err
  cases hv : parseV s with
  | some x =>
    rw [hv] at P R
    simp only [resV, resR] at P R
    have PH := Lib.hid P
    have RH := Lib.hid R
    clear P R hv
    go_enter Tryd.func3, Tryd.ntmps3
    go_wp2_with (first
      | (go_at_call 9; refine AH.out.mono ?_; rintro e w1 ⟨rfl, hb1⟩)
      | (go_at_call 10; refine (PH.out _ (G.out.below hb1 G.out.size)).mono ?_; rintro e w2 ⟨rfl, hb2⟩)
      | (go_at_call 11; refine (RH.out _).mono ?_; rintro e w3 ⟨rfl, hb3⟩; have G3 := Lib.hid (G.out.below (bl_tr (bl_tr hb1 hb2) hb3) G.out.size))
      | (go_at_call 12; refine (TH.out _ G3.out).mono ?_; rintro e w4 ⟨rfl, hb4⟩)
      | (go_at_call 13; refine (UH.out _).mono ?_; rintro e w5 ⟨rfl, hb5⟩)
      | (go_at_call 14; refine (NN.out _).mono ?_; rintro e w6 ⟨rfl, rfl⟩))
    go_ret
    exact ⟨rfl, bl_tr (bl_tr (bl_tr (bl_tr hb1 hb2) hb3) hb4) hb5⟩
  | none =>
    rw [hv] at P R
    simp only [resV, resR] at P R
    have PH := Lib.hid P
    have RH := Lib.hid R
    clear P R hv
    go_enter Tryd.func3, Tryd.ntmps3
    go_wp2_with (first
      | (go_at_call 9; refine AH.out.mono ?_; rintro e w1 ⟨rfl, hb1⟩)
      | (go_at_call 10; refine (PH.out _ (G.out.below hb1 G.out.size)).mono ?_; rintro e w2 ⟨rfl, hb2⟩)
      | (go_at_call 11; refine (RH.out _).mono ?_; rintro e w3 ⟨rfl, hb3⟩; have G3 := Lib.hid (G.out.below (bl_tr (bl_tr hb1 hb2) hb3) G.out.size))
      | (go_at_call 12; refine (TH.out _ G3.out).mono ?_; rintro e w4 ⟨rfl, hb4⟩)
      | (go_at_call 13; refine (UH.out _).mono ?_; rintro e w5 ⟨rfl, hb5⟩)
      | (go_at_call 14; refine (NE.out _).mono ?_; rintro e w6 ⟨rfl, rfl⟩))
    go_ret
    exact ⟨rfl, bl_tr (bl_tr (bl_tr (bl_tr hb1 hb2) hb3) hb4) hb5⟩
end Go.Proofs.YtolkheelmmgnbaaDoor
