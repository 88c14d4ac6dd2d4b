/- Speakers: NewSpeaker, sayRoutes, Announce, Tick, Out, Open.
 Conditions: those stated. -/
import Derived.Test.YtlmkmbpikhagiaaSpC
import Derived.Laws.Pointers
namespace Go.Proofs.Ytlmkmbpikhagiaa
open Go Go.RowKit Go.Lib
set_option linter.unusedVariables false
set_option linter.unusedSimpArgs false

/-- Another row of vips. -/
theorem SpS.setV {ty : TypeId} (t1 : ty ≠ 3) (t2 : ty ≠ 44) (t3 : ty ≠ tyM) {w w1 : World} {F : Nat → Prop} {B p : Nat} {boot : Int} {op : Bool} {vips v : List Int} {said : List Mg} {a : Option Addr} {c : Nat}
    (hS : SpS ty w F B p boot op vips said) (hB : B ≤ w.heap.size) (hb : Below w.heap.size w w1) (ho : w1.ownsRow w.heap.size 44 1 (.slice a v.length c) v.length (a32s v)) (hf : fitA v) (hn : v.length ≤ 39) :
    SpTo ty w F B p boot op v said (w1.setCell ⟨p, 2, none⟩ (.slice a v.length c)) := by
  obtain ⟨va, vc, sv, hp0, hv, hvF, us, hsv, hat, hsF⟩ := hS.at_
  obtain ⟨W, hW⟩ : ∃ W, W = w1.setCell ⟨p, 2, none⟩ (.slice a v.length c) := ⟨_, rfl⟩
  have hT1 : Tch Non w w1 := tch_new hb
  have hTW : Tch (· = p) w1 W := by rw [hW]; exact tch_set w1 ⟨p, 2, none⟩ _
  have hp1 := hT1.at hp0 (fun h => h)
  have hpW : W.heap[p]? = some (.cells #[.int .i64 boot, .bool op, .slice a v.length c, sv] ty (0, 0)) := by
    rw [hW]
    have := put_row (i := 2) hp1 (.slice a v.length c)
    simpa using this
  have sz1 := hb.size
  have szW := hTW.size
  have htot : Tch F w W := (hT1.mono (fun _ h => h.elim)).trans' (hTW.mono (U := fun k => F k) (fun k hk => by rw [hk]; exact hS.here)) (fun _ _ h => h)
  rw [← hW]
  refine ⟨⟨.inl hS.here, fun k hk => ?_, ⟨a, c, sv, hpW, ?_, fun g hg => ?_, us, ?_, ?_, fun g hg => .inl (hsF g hg)⟩, hf, hn, hS.boot_⟩, htot⟩
  · rcases hk with hk | hk
    · exact ⟨(hS.blocks k hk).1, Nat.lt_of_lt_of_le (hS.blocks k hk).2 (by omega)⟩
    · exact ⟨by omega, hk.2⟩
  · exact own_base (hTW.own ho (fun g hg e => own_not ho hp1 (fun e => t2 e.symm) (by rw [hg, e]))) hB
  · have := ho.lt g hg
    exact .inr ⟨this.1, by omega⟩
  · have h1 := hT1.own hsv (fun _ _ h => h)
    exact hTW.own h1 (fun g hg e => own_not h1 hp1 (fun e => t3 e.symm) (by rw [hg, e]))
  · refine hat.map (fun x _ n xs ho hg => ⟨?_, fun g e => .inl (hg g e)⟩)
    have h1 := hT1.own ho (fun _ _ h => h)
    exact hTW.own h1 (fun g hg e => own_not h1 hp1 (fun e => t1 e.symm) (by rw [hg, e]))
/-- It opens, or closes. -/
theorem SpS.setO {ty : TypeId} (t1 : ty ≠ 3) (t2 : ty ≠ 44) (t3 : ty ≠ tyM) {w : World} {F : Nat → Prop} {B p : Nat} {boot : Int} {op : Bool} {vips : List Int} {said : List Mg}
    (hS : SpS ty w F B p boot op vips said) (hB : B ≤ w.heap.size) (o2 : Bool) : SpTo ty w F B p boot o2 vips said (w.setCell ⟨p, 1, none⟩ (.bool o2)) := by
  obtain ⟨va, vc, sv, hp0, hv, hvF, us, hsv, hat, hsF⟩ := hS.at_
  obtain ⟨W, hW⟩ : ∃ W, W = w.setCell ⟨p, 1, none⟩ (.bool o2) := ⟨_, rfl⟩
  have hTW : Tch (· = p) w W := by rw [hW]; exact tch_set w ⟨p, 1, none⟩ _
  have hpW : W.heap[p]? = some (.cells #[.int .i64 boot, .bool o2, .slice va vips.length vc, sv] ty (0, 0)) := by
    rw [hW]
    have := put_row (i := 1) hp0 (.bool o2)
    simpa using this
  have szW := hTW.size
  rw [← hW]
  refine ⟨⟨.inl hS.here, fun k hk => ?_, ⟨va, vc, sv, hpW, ?_, fun g hg => .inl (hvF g hg), us, ?_, ?_, fun g hg => .inl (hsF g hg)⟩, hS.fit, hS.few, hS.boot_⟩, hTW.mono (fun k hk => by rw [hk]; exact hS.here)⟩
  · rcases hk with hk | hk
    · exact ⟨(hS.blocks k hk).1, Nat.lt_of_lt_of_le (hS.blocks k hk).2 (by omega)⟩
    · exact ⟨by omega, hk.2⟩
  · exact hTW.own hv (fun g hg e => own_not hv hp0 (fun e => t2 e.symm) (by rw [hg, e]))
  · exact hTW.own hsv (fun g hg e => own_not hsv hp0 (fun e => t3 e.symm) (by rw [hg, e]))
  · exact hat.map (fun x _ n xs ho hg => ⟨hTW.own ho (fun g hg e => own_not ho hp0 (fun e => t1 e.symm) (by rw [hg, e])), fun g e => .inl (hg g e)⟩)
/-- A speaker is made. -/
theorem SpS.new (ty : TypeId) (w : World) (B : Nat) (hB : B ≤ w.heap.size) (boot : Int) (hb : IsTm boot) : SpS ty (w.alloc (.cells #[.int .i64 boot, .bool false, .slice none 0 0, .slice none 0 0] ty)) (fun k => k = w.heap.size) B w.heap.size boot false [] [] :=
  ⟨rfl, fun k hk => ⟨by omega, by rw [hk]; simp⟩, ⟨none, 0, .slice none 0 0, heap_alloc_new _ _, World.ownsRow_nil _ _ _ _, (fun g hg => (by cases hg)), MsR.nil _ _ _⟩, (fun x hx => by cases hx), by simp, hb⟩
/-- The words are taken. -/
theorem SpS.take {ty : TypeId} (t1 : ty ≠ 3) (t2 : ty ≠ 44) (t3 : ty ≠ tyM) {w : World} {F : Nat → Prop} {B p : Nat} {boot : Int} {op : Bool} {vips : List Int} {said : List Mg}
    (hS : SpS ty w F B p boot op vips said) (hB : B ≤ w.heap.size) : ∃ G sv, w.cell? ⟨p, 3, none⟩ = some sv ∧ SpS ty (w.setCell ⟨p, 3, none⟩ (.slice none 0 0)) (fun k => F k ∧ ¬ G k) B p boot op vips [] ∧ MsR (w.setCell ⟨p, 3, none⟩ (.slice none 0 0)) G B sv said ∧ (∀ k, G k → F k) ∧ Tch F w (w.setCell ⟨p, 3, none⟩ (.slice none 0 0)) := by
  obtain ⟨va, vc, sv, hp0, hv, hvF, us, hsv, hat, hsF⟩ := hS.at_
  obtain ⟨W, hW⟩ : ∃ W, W = w.setCell ⟨p, 3, none⟩ (.slice none 0 0) := ⟨_, rfl⟩
  have hTW : Tch (· = p) w W := by rw [hW]; exact tch_set w ⟨p, 3, none⟩ _
  have hpW : W.heap[p]? = some (.cells #[.int .i64 boot, .bool op, .slice va vips.length vc, .slice none 0 0] ty (0, 0)) := by
    rw [hW]
    have := put_row (i := 3) hp0 (.slice none 0 0)
    simpa using this
  have szW := hTW.size
  rw [← hW]
  have ht : Tch F w W := hTW.mono (fun k hk => by rw [hk]; exact hS.here)
  refine ⟨fun k => F k ∧ k ≠ p ∧ (Value.slice va vips.length vc).ownBlock ≠ some k, sv, (cell_of_row w p 3 _ _ _ hp0).trans rfl, ⟨⟨hS.here, fun h => h.2.1 rfl⟩, fun k hk => ⟨(hS.blocks k hk.1).1, Nat.lt_of_lt_of_le (hS.blocks k hk.1).2 (by omega)⟩, ⟨va, vc, _, hpW, ?_, fun g hg => ⟨hvF g hg, fun h => h.2.2 hg⟩, MsR.nil _ _ _⟩, hS.fit, hS.few, hS.boot_⟩, ⟨us, ?_, ?_, fun g hg => ⟨hsF g hg, fun e => own_not hsv hp0 (fun e => t3 e.symm) (by rw [hg, e]), own_ne hsv hv (by decide) hg⟩⟩, fun k hk => hk.1, ht⟩
  · exact hTW.own hv (fun g hg e => own_not hv hp0 (fun e => t2 e.symm) (by rw [hg, e]))
  · exact hTW.own hsv (fun g hg e => own_not hsv hp0 (fun e => t3 e.symm) (by rw [hg, e]))
  · exact hat.map (fun x _ n xs ho hg => ⟨hTW.own ho (fun g hg e => own_not ho hp0 (fun e => t1 e.symm) (by rw [hg, e])), fun g e => ⟨hg g e, fun e2 => own_not ho hp0 (fun e => t1 e.symm) (by rw [e, e2]), own_ne ho hv (by decide) e⟩⟩)
set_option maxRecDepth 100000 in
theorem routes_c (F : Nat → Prop) (B p : Nat) (boot : Int) (op : Bool) (vips : List Int) (said : List Mg) (w : World) (hS : SpS 78 w F B p boot op vips said) (hB : B ≤ w.heap.size) (hsd : said.length ≤ 100000) :
    Calls Try.prog 37 #[.pointer (some ⟨p, 0, none⟩)] w fun e w' => e = .returned (.tuple #[]) ∧ SpTo 78 w F B p boot op vips (said ++ [⟨12, numsW boot vips, []⟩]) w' := by
  obtain ⟨va, vc, sv, hp0, hv, hvF, hm⟩ := hS.at_
  have C := Lib.hid (say_c 12 vips va vips.length vc F B p boot op vips said w hS hB (own_inA hv rfl hS.fit) hS.few hsd)
  have c2 : w.cell? ⟨p, 2, none⟩ = some (.slice va vips.length vc) := (cell_of_row w p 2 _ _ _ hp0).trans rfl
  clear hp0 hv hvF hm hS
  go_enter Try.func37, Try.ntmps37
  go_wp2_with fail
  refine C.out.mono ?_
  rintro e w1 ⟨rfl, h⟩
  go_wp2
  first | go_end0 | ((try simp only [Exit.inBlock, Exit.then]); refine bodyPost_ret (results_none rfl _ _ _) rfl ?_)
  exact ⟨rfl, h⟩
theorem annA_fit {l : List Int} (h : fitA l) : fitA (annA l) := fun b hb => fitA_compact (fitA_srt (fitA_vps h)) b (List.mem_of_mem_take hb)
theorem annA_len (l : List Int) : (annA l).length ≤ 39 := by unfold annA; rw [List.length_take]; omega
/-- What is said behind an announcement. -/
def annS (boot : Int) (op : Bool) (vips v : List Int) (said : List Mg) : List Mg := if v = vips then said else if op then said ++ [⟨12, numsW boot v, []⟩] else said
set_option maxRecDepth 100000 in
set_option maxHeartbeats 1000000 in
theorem announce_c (l : List Int) (a : Option Addr) (n c : Nat) (F : Nat → Prop) (B p : Nat) (boot : Int) (op : Bool) (vips : List Int) (said : List Mg) (w : World) (hS : SpS 78 w F B p boot op vips said) (hB : B ≤ w.heap.size) (hsd : said.length ≤ 100000) (hI : InA w a n c l) (hn : n * 4 ≤ 140737488351232) :
    Calls Try.prog 12 #[.pointer (some ⟨p, 0, none⟩), .slice a n c] w fun e w' => e = .returned (.tuple #[]) ∧ SpTo 78 w F B p boot op (annA l) (annS boot op vips (annA l) said) w' := by
  have CA := Lib.hid (announced_c l a n c w hI hn)
  have HS := Lib.hid hS
  have HL := Lib.hid (annA_fit hI.fit)
  have HN := Lib.hid (annA_len l)
  obtain ⟨v, hv⟩ : ∃ v, v = annA l := ⟨_, rfl⟩
  rw [← hv] at CA HL HN ⊢
  clear hS hI hv
  go_enter Try.func12, Try.ntmps12
  go_wp2_with fail
  refine CA.out.mono ?_
  rintro e w1 ⟨a1, n1, c1, rfl, rfl, ho1, hb1⟩
  have HO1 := Lib.hid ho1
  have HB1 := Lib.hid hb1
  have HS1 := Lib.hid (HS.out.below hb1)
  obtain ⟨va, vc, sv, hp1, hvv, hvF, hm⟩ := HS1.out.at_
  have c2 : w1.cell? ⟨p, 2, none⟩ = some (.slice va vips.length vc) := (cell_of_row w1 p 2 _ _ _ hp1).trans rfl
  have HV := Lib.hid hvv
  clear hp1 hvv hvF hm ho1 hb1 CA
  by_cases he : v = vips
  · have CE := Lib.hid (equal_a v vips a1 va v.length c1 vips.length vc w1 (own_inA HO1.out rfl HL.out) (own_inA HV.out rfl HS.out.fit) (by have := HN.out; omega) true (by simp [he]))
    have HE := Lib.hid he
    clear he
    go_wp2_with fail
    refine CE.out.mono ?_
    rintro e w2 ⟨rfl, hb2⟩
    have HF := Lib.hid (HS.out.to (bl_tr HB1.out hb2) hB)
    clear hb2 c2
    go_wp2
    first | go_end0 | ((try simp only [Exit.inBlock, Exit.then]); refine bodyPost_ret (results_none rfl _ _ _) rfl ?_)
    refine ⟨rfl, ?_⟩
    unfold annS
    rw [if_pos HE.out, HE.out]
    exact HF.out
  · have CE := Lib.hid (equal_a v vips a1 va v.length c1 vips.length vc w1 (own_inA HO1.out rfl HL.out) (own_inA HV.out rfl HS.out.fit) (by have := HN.out; omega) false (by simp [he]))
    have HE := Lib.hid he
    clear he
    go_wp2_with fail
    refine CE.out.mono ?_
    rintro e w2 ⟨rfl, hb2⟩
    have HB2 := Lib.hid (bl_tr HB1.out hb2)
    have HO2 := Lib.hid (owns_bel HO1.out hb2)
    have HS2 := Lib.hid (HS.out.below HB2.out)
    obtain ⟨va2, vc2, sv2, hp2, _⟩ := HS2.out.at_
    have q2 : w2.cell? ⟨p, 2, none⟩ = some (.slice va2 vips.length vc2) := (cell_of_row w2 p 2 _ _ _ hp2).trans rfl
    have f2 := frozen_of_row w2 p 2 _ _ hp2
    obtain ⟨W, hW⟩ : ∃ W, W = w2.setCell ⟨p, 2, none⟩ (.slice a1 v.length c1) := ⟨_, rfl⟩
    have HT := Lib.hid (show SpTo 78 w F B p boot op v said W by rw [hW]; exact SpS.setV (by decide) (by decide) (by decide) HS.out hB HB2.out HO2.out HL.out HN.out)
    have HW := Lib.hid hW
    clear hp2 hb2 c2 hW CE
    obtain ⟨va3, vc3, sv3, hp3, _⟩ := HT.out.1.at_
    have q3 : W.cell? ⟨p, 1, none⟩ = some (.bool op) := (cell_of_row W p 1 _ _ _ hp3).trans rfl
    clear hp3
    go_upto_region 3 with fail
    rw [← HW.out]
    clear q2 f2
    cases op with
    | true =>
      have CR := Lib.hid (routes_c _ B p boot true v said W HT.out.1 (Nat.le_trans hB HT.out.2.size) hsd)
      go_wp2_with fail
      refine CR.out.mono ?_
      rintro e w4 ⟨rfl, h4⟩
      have H4 := Lib.hid (HT.out.trans h4 hB)
      clear h4 q3
      go_wp2
      first | go_end0 | ((try simp only [Exit.inBlock, Exit.then]); refine bodyPost_ret (results_none rfl _ _ _) rfl ?_)
      refine ⟨rfl, ?_⟩
      unfold annS
      rw [if_neg HE.out, if_pos rfl]
      exact H4.out
    | false =>
      go_wp2
      first | go_end0 | ((try simp only [Exit.inBlock, Exit.then]); refine bodyPost_ret (results_none rfl _ _ _) rfl ?_)
      refine ⟨rfl, ?_⟩
      unfold annS
      rw [if_neg HE.out, if_neg (by decide)]
      exact HT.out
/-- To a nil speaker. -/
theorem announce_n (l : List Int) (a : Option Addr) (n c : Nat) (w : World) (hI : InA w a n c l) (hn : n * 4 ≤ 140737488351232) :
    Calls Try.prog 12 #[.pointer none, .slice a n c] w fun e w' => e = .returned (.tuple #[]) ∧ Below w.heap.size w w' := by
  have CA := Lib.hid (announced_c l a n c w hI hn)
  clear hI
  go_enter Try.func12, Try.ntmps12
  go_wp2_with fail
  refine CA.out.mono ?_
  rintro e w1 ⟨a1, n1, c1, rfl, _, _, hb1⟩
  go_wp2
  first | go_end0 | ((try simp only [Exit.inBlock, Exit.then]); refine bodyPost_ret (results_none rfl _ _ _) rfl ?_)
  exact ⟨rfl, hb1⟩
theorem open_c (F : Nat → Prop) (B p : Nat) (boot : Int) (op : Bool) (vips : List Int) (said : List Mg) (w : World) (hS : SpS 78 w F B p boot op vips said) :
    Calls Try.prog 18 #[.pointer (some ⟨p, 0, none⟩)] w fun e w' => e = .returned (.bool op) ∧ w = w' := by
  obtain ⟨va, vc, sv, hp0, _⟩ := hS.at_
  have c1 : w.cell? ⟨p, 1, none⟩ = some (.bool op) := (cell_of_row w p 1 _ _ _ hp0).trans rfl
  clear hp0 hS
  go_enter Try.func18, Try.ntmps18
  go_wp2
  go_ret
  exact ⟨rfl, rfl⟩
theorem open_n (w : World) : Calls Try.prog 18 #[.pointer none] w fun e w' => e = .returned (.bool false) ∧ w = w' := by
  go_enter Try.func18, Try.ntmps18
  go_wp2
  go_ret
  exact ⟨rfl, rfl⟩
/-- What Out leaves. -/
def OutS (ty : TypeId) (w : World) (F : Nat → Prop) (B p : Nat) (boot : Int) (op : Bool) (vips : List Int) (said : List Mg) (e : Ending) (w' : World) : Prop :=
  ∃ G sv, e = .returned sv ∧ SpS ty w' (fun k => F k ∧ ¬ G k) B p boot op vips [] ∧ MsR w' G B sv said ∧ (∀ k, G k → F k) ∧ Tch F w w' ∧ w'.heap.size = w.heap.size
theorem out_c (F : Nat → Prop) (B p : Nat) (boot : Int) (op : Bool) (vips : List Int) (said : List Mg) (w : World) (hS : SpS 78 w F B p boot op vips said) (hB : B ≤ w.heap.size) :
    Calls Try.prog 20 #[.pointer (some ⟨p, 0, none⟩)] w (OutS 78 w F B p boot op vips said) := by
  obtain ⟨G, sv, c3, h1, h2, h3, h4⟩ := hS.take (by decide) (by decide) (by decide) hB
  obtain ⟨va, vc, sv2, hp0, _⟩ := hS.at_
  have f3 := frozen_of_row w p 3 _ _ hp0
  have H1 := Lib.hid h1
  have H2 := Lib.hid h2
  have H4 := Lib.hid h4
  obtain ⟨us, ho, _⟩ := h2
  obtain ⟨ao, cc, rfl⟩ := own_form ho
  clear hp0 hS h1 h4 ho
  go_enter Try.func20, Try.ntmps20
  go_wp2
  go_ret
  exact ⟨G, _, rfl, H1.out, H2.out, h3, H4.out, by simp⟩
theorem out_n (w : World) : Calls Try.prog 20 #[.pointer none] w fun e w' => e = .returned (.slice none 0 0) ∧ w = w' := by
  go_enter Try.func20, Try.ntmps20
  go_wp2
  go_ret
  exact ⟨rfl, rfl⟩
/-- Is it time for a word? -/
def Beat (now : Int) : Prop := IsTm now ∧ now % 4 = 0
instance (n : Int) : Decidable (Beat n) := by unfold Beat; infer_instance
/-- What is said at a tick. -/
def tickS (boot : Int) (op : Bool) (vips : List Int) (said : List Mg) (now : Int) : List Mg := if Beat now then (if op then said ++ [⟨12, numsW boot vips, []⟩] else said ++ [⟨10, numsW boot [], []⟩]) else said
set_option maxRecDepth 100000 in
set_option maxHeartbeats 1000000 in
theorem tick_c (now : Int) (F : Nat → Prop) (B p : Nat) (boot : Int) (op : Bool) (vips : List Int) (said : List Mg) (w : World) (hS : SpS 78 w F B p boot op vips said) (hB : B ≤ w.heap.size) (hsd : said.length ≤ 100000) :
    Calls Try.prog 16 #[.pointer (some ⟨p, 0, none⟩), .int .i64 now] w fun e w' => e = .returned (.tuple #[]) ∧ SpTo 78 w F B p boot op vips (tickS boot op vips said now) w' := by
  obtain ⟨va, vc, sv, hp0, _⟩ := hS.at_
  have c1 : w.cell? ⟨p, 1, none⟩ = some (.bool op) := (cell_of_row w p 1 _ _ _ hp0).trans rfl
  have HS := Lib.hid hS
  have CT := Lib.hid (time_c now)
  clear hp0 hS
  by_cases ht : IsTm now
  · rw [decide_eq_true ht] at CT
    have em : Int.tmod now 4 = now % 4 := Int.tmod_eq_emod_of_nonneg ht.1
    by_cases h4 : now % 4 = 0
    · have b4 : (Int.tmod now 4 != 0) = false := by rw [em, h4]; rfl
      have HT : Hid (tickS boot op vips said now = if op then said ++ [⟨12, numsW boot vips, []⟩] else said ++ [⟨10, numsW boot [], []⟩]) := Lib.hid (if_pos ⟨ht, h4⟩)
      rw [HT.out]
      clear ht em h4 HT
      cases op with
      | true =>
        rw [if_pos rfl]
        have CR := Lib.hid (routes_c F B p boot true vips said w HS.out hB hsd)
        go_enter Try.func16, Try.ntmps16
        go_wp2_with (first | (go_at_call 34; refine (CT.out _).mono ?_; rintro e w1 ⟨rfl, rfl⟩) | fail)
        refine CR.out.mono ?_
        rintro e w1 ⟨rfl, h⟩
        go_wp2
        first | go_end0 | ((try simp only [Exit.inBlock, Exit.then]); refine bodyPost_ret (results_none rfl _ _ _) rfl ?_)
        exact ⟨rfl, h⟩
      | false =>
        rw [if_neg (by decide)]
        have CR := Lib.hid (say_c 10 [] none 0 0 F B p boot false vips said w HS.out hB (in_nilA w) (by omega) hsd)
        go_enter Try.func16, Try.ntmps16
        go_wp2_with (first | (go_at_call 34; refine (CT.out _).mono ?_; rintro e w1 ⟨rfl, rfl⟩) | fail)
        refine CR.out.mono ?_
        rintro e w1 ⟨rfl, h⟩
        go_wp2
        first | go_end0 | ((try simp only [Exit.inBlock, Exit.then]); refine bodyPost_ret (results_none rfl _ _ _) rfl ?_)
        exact ⟨rfl, h⟩
    · have b4 : (Int.tmod now 4 != 0) = true := by rw [em]; simpa using h4
      have HT : Hid (tickS boot op vips said now = said) := Lib.hid (if_neg (fun h => h4 h.2))
      rw [HT.out]
      clear ht em h4 HT
      go_enter Try.func16, Try.ntmps16
      go_wp2_with (go_at_call 34; refine (CT.out _).mono ?_; rintro e w1 ⟨rfl, rfl⟩)
      first | go_end0 | ((try simp only [Exit.inBlock, Exit.then]); refine bodyPost_ret (results_none rfl _ _ _) rfl ?_)
      exact ⟨rfl, HS.out.to (Below.refl _ _) hB⟩
  · rw [decide_eq_false ht] at CT
    have HT : Hid (tickS boot op vips said now = said) := Lib.hid (if_neg (fun h => ht h.1))
    rw [HT.out]
    clear ht HT
    go_enter Try.func16, Try.ntmps16
    go_wp2_with (go_at_call 34; refine (CT.out _).mono ?_; rintro e w1 ⟨rfl, rfl⟩)
    first | go_end0 | ((try simp only [Exit.inBlock, Exit.then]); refine bodyPost_ret (results_none rfl _ _ _) rfl ?_)
    exact ⟨rfl, HS.out.to (Below.refl _ _) hB⟩
theorem tick_n (now : Int) (w : World) : Calls Try.prog 16 #[.pointer none, .int .i64 now] w fun e w' => e = .returned (.tuple #[]) ∧ w = w' := by
  go_enter Try.func16, Try.ntmps16
  go_wp2
  first | go_end0 | ((try simp only [Exit.inBlock, Exit.then]); refine bodyPost_ret (results_none rfl _ _ _) rfl ?_)
  exact ⟨rfl, rfl⟩
theorem newSp_c (node boot : Int) (hn : i64c node) (w : World) :
    Calls Try.prog 9 #[.int .i64 node, .int .i64 boot] w fun e w' => if IsMux node ∧ IsTm boot then e = .returned (.tuple #[.pointer (some ⟨w.heap.size, 0, none⟩), .nilIface]) ∧ w' = w.alloc (.cells #[.int .i64 boot, .bool false, .slice none 0 0, .slice none 0 0] 78) else e = .returned (.tuple #[.pointer none, errnoM 12]) ∧ w = w' := by
  have CM := Lib.hid (mux_c node hn)
  have CT := Lib.hid (time_c boot)
  by_cases hm : IsMux node
  · rw [decide_eq_true hm] at CM
    by_cases ht : IsTm boot
    · rw [decide_eq_true ht] at CT
      simp only [hm, ht, and_self, if_true]
      clear hm ht hn
      go_enter Try.func9, Try.ntmps9
      go_wp2_with (first | (go_at_call 33; refine (CM.out _).mono ?_; rintro e w1 ⟨rfl, rfl⟩) | (go_at_call 34; refine (CT.out _).mono ?_; rintro e w1 ⟨rfl, rfl⟩))
      go_ret2
      exact ⟨rfl, rfl⟩
    · rw [decide_eq_false ht] at CT
      simp only [hm, ht, and_false, if_false]
      clear hm ht hn
      go_enter Try.func9, Try.ntmps9
      go_wp2_with (first | (go_at_call 33; refine (CM.out _).mono ?_; rintro e w1 ⟨rfl, rfl⟩) | (go_at_call 34; refine (CT.out _).mono ?_; rintro e w1 ⟨rfl, rfl⟩))
      go_ret2
      exact ⟨rfl, rfl⟩
  · rw [decide_eq_false hm] at CM
    simp only [hm, false_and, if_false]
    clear hm hn
    go_enter Try.func9, Try.ntmps9
    go_wp2_with (first | (go_at_call 33; refine (CM.out _).mono ?_; rintro e w1 ⟨rfl, rfl⟩) | (go_at_call 34; refine (CT.out _).mono ?_; rintro e w1 ⟨rfl, rfl⟩))
    go_ret2
    exact ⟨rfl, rfl⟩
end Go.Proofs.Ytlmkmbpikhagiaa
