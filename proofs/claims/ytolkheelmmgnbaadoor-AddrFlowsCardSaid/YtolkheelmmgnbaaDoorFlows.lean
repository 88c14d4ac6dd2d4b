/- PROVED: the statement AddrFlowsCardSaid: for any seed and any two flows AddrFlows returns true and leaves its arguments as they were: Check, Reverse, Hash and Less say what the document says. Conditions: the row's own: the listed variables of Go's library start as its text lays them (tied by the given tie). -/
import Derived.Test.YtolkheelmmgnbaaDoorC3
import Derived.Test.YtolkheelmmgnbaaDoorL7
import Derived.Test.YtolkheelmmgnbaaDoorTie
import Derived.Test.YtolkheelmmgnbaaDoorCards
import Derived.SevenTiedAt
namespace Go.Proofs.YtolkheelmmgnbaaDoor
open Go Go.ChangeShapes Go.WideShapes Go.ChangeAt Go.RowKit

set_option maxRecDepth 100000 in
theorem flows_lifted (os : Os) (started : os.Started) (H : Type) (enc : TypeId × Value → H) :
    ReturnsInHanded {} Tryd.checked os 6 .any (fun w args => (Rows.addrFlowsSpec.pre enc Tryd.prog Tryd.f6 [] false w args ∧ laidMetH Tryd.prog theLaid w) ∧ sizedMet enc Tryd.prog Tryd.f6 (OpenSpec.ofChange Rows.addrFlowsSpec) false w args)
      (Rows.addrFlowsSpec.post enc Tryd.prog Tryd.f6 false true false false) := by
  refine lift started (by kernel_rfl) Tryd.func6
    (ChangeSpec.witness_shaped (enc := enc) (C := Tryd.checked) (os := os) (X := fun w _ => laidMetH Tryd.prog theLaid w) false (World.laidAll Tryd.prog os theLaid) #[.int .u64 0, (Fl.mk 0 0 0 0 0).val, (Fl.mk 0 0 0 0 0).val] 8 (World.laidAll_os _ _ _)
      (start_shaped os _) (by kernel_rfl) (by kernel_rfl) (by kernel_rfl) (start_met os _)) ?_
  intro W base args ds gs before hval0 hW hgood
  have hval : ∀ (j : Nat) t v, Tryd.f6.params[j]? = some t → args[j]? = some v → Value.okWide Tryd.prog W .any base t v := hval0
  have hW' := hW
  obtain ⟨p, q, hA0, hV, rfl, _, _⟩ := hW
  have hA : DataW.TrodAll enc Tryd.prog W 0 (fun _ => true) true Tryd.f6.params.toList args.toList ds p := hA0
  rw [Tryd.params6] at hA hval
  obtain ⟨v0, v1, v2, d0, d1, d2, p0, p1, p2, rfl, rfl, rfl, h0, h1, h2⟩ := trodAll_three hA
  obtain ⟨rfl, rfl⟩ := trodVars_none hV
  obtain ⟨s, rfl, rfl, rfl, _⟩ := open_int Tryd.underlying45 (hval 0 45 v0 rfl rfl) h0
  obtain ⟨f, rfl, rfl, rfl, _, ws, _, wd, _⟩ := open_flow (hval 1 47 v1 rfl rfl) h1
  obtain ⟨g, rfl, rfl, rfl, _, ws2, _, wd2, _⟩ := open_flow (hval 2 47 v2 rfl rfl) h2
  clear hA0 hval0
  simp only [List.append_nil] at hW'
  refine (flows_any s f g W hgood (bnd_u32 ws) (bnd_u32 wd) (bnd_u32 ws2) (bnd_u32 wd2)).mono fun e W' ⟨he, hb⟩ => ?_
  subst he
  exact ⟨_, rfl, _, _, _, [], [], [], hW', trodAll_mk1 (shut_bool Tryd.underlying4 _), trodAll_mk3 (again read45 lt45 h0 hb) (again read47 lt47 h1 hb) (again read47 lt47 h2 hb), rfl, hb.frame _, fun h => by cases h⟩

theorem flows_holds : Rows.AddrFlowsSaid :=
  OpenClaim.holds_of_wide 6 Tryd.f6 rfl rfl rfl rfl rfl rfl rfl ⟨rfl, rfl, rfl, rfl, rfl⟩ rfl rfl rfl rfl rfl (by kernel_rfl) Tryd.func6 (by kernel_rfl)
    (of_decide_eq_true (by kernel_rfl)) (by unfold Func.isWrapper; first | (rw [if_pos (by decide +kernel)]; kernel_rfl) | (rw [if_neg (by decide +kernel)]; exact ⟨rfl, rfl⟩))
    (fun os started H enc _ => flows_lifted os started H enc)

/-- THE TIED CARD. -/
theorem flows_card : Rows.AddrFlowsCardSaid :=
  Claim7.holds_tied_plain_at .later [] [.data, .data, .data, .data, .sentinel, .sentinel, .pinned] true (true, "fbabc415a417baffbb0d27b462bbfb865cb13b691fe95b6e352ddcb24228930e") true
    flows_holds (fun _ h => by cases h) (by kernel_rfl) (fun _ h => by cases h) addrFlows_row_tie rfl ⟨rfl, rfl⟩ (by kernel_rfl) rfl
    (fun f fn hf hfn => by
      obtain rfl : f = 6 := Option.some.inj ((show Tryd.prog.funcNamed "towpath/towpathlaw01.AddrFlows" = some 6 by kernel_rfl).symm.trans hf) |>.symm
      obtain rfl : fn = Tryd.f6 := (Option.some.inj (Tryd.func6.symm.trans hfn)).symm
      exact ⟨by kernel_rfl, fun j t ht => by
        rw [Tryd.params6] at ht
        have hm : t ∈ [45, 47, 47] := by simpa using Array.mem_of_getElem? ht
        have hall : ([45, 47, 47].all fun u => !Tryd.prog.wantsStandIn u) = true := by kernel_rfl
        exact (show Tryd.prog.wantsStandIn t = false by simpa using List.all_eq_true.1 hall t hm)⟩)
    (by kernel_rfl)
#print axioms flows_card
end Go.Proofs.YtolkheelmmgnbaaDoor
