/- PROVED: the statement AddrPlacesCardSaid: for any kind, place, node and address AddrPlaces returns true and leaves its argument as it was: which nodes there are, and what addresses they have. Conditions: the row's own: the listed variables of Go's library start as its text lays them (tied by the given tie). -/
import Derived.Test.YtolkheelmmgnbaaDoorC3
import Derived.Test.YtolkheelmmgnbaaDoorE1
import Derived.Test.YtolkheelmmgnbaaDoorTie
import Derived.Test.YtolkheelmmgnbaaDoorCards
import Derived.SevenTiedAt
namespace Go.Proofs.YtolkheelmmgnbaaDoor
open Go Go.ChangeShapes Go.WideShapes Go.ChangeAt Go.RowKit

theorem places_any (x : Pl) (n1 : x.n ≤ 9223372036854775807) (a0 : 0 ≤ x.a) (a1 : x.a < 4294967296) (w : World) (hg : Good w) :
    Calls Tryd.prog 4 #[x.val] w fun e w' => e = .returned (.bool true) ∧ Below w.heap.size w w' := by
  have hg2 := Lib.hid (hg.below (bl_al (Below.refl w.heap.size w) x.obj) hg.size)
  have N := Lib.hid (nodes_any x.k x.p x.n x.a n1 a0 a1 _ hg2.out)
  clear hg
  go_enter Tryd.func4, Tryd.ntmps4
  go_wp2_with (go_at_call 15; refine N.out.mono ?_; rintro e w2 ⟨rfl, hb⟩)
  go_ret
  exact ⟨rfl, bl_tr (bl_al (Below.refl _ _) _) hb⟩

set_option maxRecDepth 100000 in
theorem places_lifted (os : Os) (started : os.Started) (H : Type) (enc : TypeId × Value → H) :
    ReturnsInHanded {} Tryd.checked os 4 .any (fun w args => (Rows.addrPlacesSpec.pre enc Tryd.prog Tryd.f4 [] false w args ∧ laidMetH Tryd.prog theLaid w) ∧ sizedMet enc Tryd.prog Tryd.f4 (OpenSpec.ofChange Rows.addrPlacesSpec) false w args)
      (Rows.addrPlacesSpec.post enc Tryd.prog Tryd.f4 false true false false) := by
  refine lift started (by kernel_rfl) Tryd.func4
    (ChangeSpec.witness_shaped (enc := enc) (C := Tryd.checked) (os := os) (X := fun w _ => laidMetH Tryd.prog theLaid w) false (World.laidAll Tryd.prog os theLaid) #[(Pl.mk 0 0 0 0).val] 8 (World.laidAll_os _ _ _)
      (start_shaped os _) (by kernel_rfl) (by kernel_rfl) (by kernel_rfl) (start_met os _)) ?_
  intro W base args ds gs before hval0 hW hgood
  have hval : ∀ (j : Nat) t v, Tryd.f4.params[j]? = some t → args[j]? = some v → Value.okWide Tryd.prog W .any base t v := hval0
  have hW' := hW
  obtain ⟨p, q, hA0, hV, rfl, _, _⟩ := hW
  have hA : DataW.TrodAll enc Tryd.prog W 0 (fun _ => true) true Tryd.f4.params.toList args.toList ds p := hA0
  rw [Tryd.params4] at hA hval
  obtain ⟨v0, d0, rfl, rfl, h0⟩ := trodAll_one hA
  obtain ⟨rfl, rfl⟩ := trodVars_none hV
  obtain ⟨x, rfl, rfl, rfl, _, _, wn, wa⟩ := open_place (hval 0 35 v0 rfl rfl) h0
  clear hA0 hval0
  simp only [List.append_nil] at hW'
  refine (places_any x (bnd_i64 wn).2 (bnd_u32 wa).1 (bnd_u32 wa).2 W hgood).mono fun e W' ⟨he, hb⟩ => ?_
  subst he
  exact ⟨_, rfl, _, _, _, [], [], [], hW', trodAll_mk1 (shut_bool Tryd.underlying4 _), trodAll_mk1 (again read35 lt35 h0 hb), rfl, hb.frame _, fun h => by cases h⟩

theorem places_holds : Rows.AddrPlacesSaid :=
  OpenClaim.holds_of_wide 4 Tryd.f4 rfl rfl rfl rfl rfl rfl rfl ⟨rfl, rfl, rfl, rfl, rfl⟩ rfl rfl rfl rfl rfl (by kernel_rfl) Tryd.func4 (by kernel_rfl)
    (of_decide_eq_true (by kernel_rfl)) (by unfold Func.isWrapper; first | (rw [if_pos (by decide +kernel)]; kernel_rfl) | (rw [if_neg (by decide +kernel)]; exact ⟨rfl, rfl⟩))
    (fun os started H enc _ => places_lifted os started H enc)

/-- THE TIED CARD. -/
theorem places_card : Rows.AddrPlacesCardSaid :=
  Claim7.holds_tied_plain_at .later [] [.data, .data, .data, .data, .sentinel, .sentinel, .pinned] true (true, "fbabc415a417baffbb0d27b462bbfb865cb13b691fe95b6e352ddcb24228930e") true
    places_holds (fun _ h => by cases h) (by kernel_rfl) (fun _ h => by cases h) addrPlaces_row_tie rfl ⟨rfl, rfl⟩ (by kernel_rfl) rfl
    (fun f fn hf hfn => by
      obtain rfl : f = 4 := Option.some.inj ((show Tryd.prog.funcNamed "towpath/towpathlaw01.AddrPlaces" = some 4 by kernel_rfl).symm.trans hf) |>.symm
      obtain rfl : fn = Tryd.f4 := (Option.some.inj (Tryd.func4.symm.trans hfn)).symm
      exact ⟨by kernel_rfl, fun j t ht => by
        rw [Tryd.params4] at ht
        have hm : t ∈ [35] := by simpa using Array.mem_of_getElem? ht
        have hall : ([35].all fun u => !Tryd.prog.wantsStandIn u) = true := by kernel_rfl
        exact (show Tryd.prog.wantsStandIn t = false by simpa using List.all_eq_true.1 hall t hm)⟩)
    (by kernel_rfl)
#print axioms places_card
end Go.Proofs.YtolkheelmmgnbaaDoor
