/- The program's wheel: Set, Cancel. Conditions: as each states. -/
import Derived.Test.YthoegmcdohppoaaWmB
namespace Go.Proofs.Ythoegmcdohppoaa
open Go Go.RowKit Go.Maps
set_option linter.unusedVariables false
set_option linter.unusedSimpArgs false

theorem cuts_cnt : ∀ (ks : List Int) (ts : List Wy), (cutsT ks ts).length + cntsT ks ts = ts.length
  | [], _ => rfl
  | k :: ks, ts => by
    have h1 := cuts_cnt ks (cutT k ts)
    have h2 := cutT_cnt k ts
    have h3 : cutsT (k :: ks) ts = cutsT ks (cutT k ts) := rfl
    rw [h3, cntsT]
    omega
theorem cutsT_fit {ks : List Int} {ts : List Wy} (h : ∀ t ∈ ts, OkA t.1 ∧ I64 t.2) : ∀ t ∈ cutsT ks ts, OkA t.1 ∧ I64 t.2 := by
  induction ks generalizing ts with
  | nil => exact h
  | cons k ks ih => exact ih (ts := cutT k ts) (fun t ht => h t (List.mem_filter.1 ht).1)
theorem getI_mem {l : List Int} {i : Nat} (h : i < l.length) : l.getD i 0 ∈ l := by
  rw [List.getD_eq_getElem?_getD, List.getElem?_eq_getElem h]
  exact List.getElem_mem h
theorem cuts_step (ks : List Int) (ts : List Wy) {i : Nat} (hi : i < ks.length) : cutsT (ks.take (i + 1)) ts = cutT (ks.getD i 0) (cutsT (ks.take i) ts) := by
  unfold cutsT
  rw [take_more ks 0 hi, List.foldl_append]
  rfl
/-- A map that is written: the row of keys stays. -/
theorem in_tch {w w' : World} {a : Option Addr} {n c : Nat} {l : List Int} {T : Nat → Prop} (h : InI w a n c l) (ht : Tch T w w') (hn : ∀ b off, a = some ⟨b, off, none⟩ → 0 < n → ¬ T b) {b off : Nat} (e : a = some ⟨b, off, none⟩) {j : Nat} (hj : j < n) : w'.cell? ⟨b, off + j, none⟩ = some (.int .i64 (l.getD j 0)) := by
  subst e
  exact ht.cell (in_cellI h j hj) (hn b off rfl (by omega))
theorem WSt.set {w w' : World} {B p b : Nat} {F : Nat → Prop} {ts us : List Wy} (h : WSt w B F p ts) (hF : F b) (hc : w.cell? ⟨p, 0, none⟩ = some (.map (some b))) (hb : MapS w b ts) (ht : Tch (· = b) w w') (hk : KeyT us) (hf : ∀ t ∈ us, OkA t.1 ∧ I64 t.2) (hm : MapS w' b us) : WTo WSt w B F p us w' := by
  refine ⟨F, ⟨hk, hf, h.here, fun k hk => ⟨(h.blocks k hk).1, Nat.lt_of_lt_of_le (h.blocks k hk).2 ht.size⟩, b, hF, ht.cell hc ?_, hm⟩, fun k hk => .inl hk, ht.mono (fun k hk => by subst hk; exact hF)⟩
  intro e
  simp only at e
  subst e
  obtain ⟨D, ⟨es, clock, h1, _⟩, _⟩ := hb
  simp [World.cell?, h1] at hc
set_option maxRecDepth 100000 in
theorem wset_t (B p : Nat) (F : Nat → Prop) (ts : List Wy) (at' : Int) (ks : List Int) (a : Option Addr) (n c : Nat) (w : World) (h : WSt w B F p ts) (hB : B ≤ w.heap.size) (hK : KsIn w F a n c ks) (hn : ts.length + n ≤ 1048576) (ha : I64 at') :
    Calls Try.prog 13 #[.pointer (some ⟨p, 0, none⟩), .int .i64 at', .slice a n c] w (WSet WSt w B F p (setR at' ks ts)) := by
  by_cases ho : OkA at'
  · have hr : setR at' ks ts = (0, putsT at' ks ts) := if_pos ho
    rw [hr]
    have ho1 := ho.1
    have ho2 := ho.2
    obtain ⟨b, hF, hc, hm⟩ := h.map
    have hlen := hK.row.len
    have HI := Lib.hid hK.row
    have HN : Hid (∀ b' off, a = some ⟨b', off, none⟩ → 0 < n → ¬ b' = b) := Lib.hid (fun b' off e hn e2 => hK.far b' off e hn (by rw [e2]; exact hF))
    have HM0 : Hid (MapS w b (putsT at' (ks.take 0) ts)) := Lib.hid hm
    have HT0 : Hid (Tch (· = b) w w) := Lib.hid (Tch.refl _ _)
    have HC := Lib.hid (And.intro hc h)
    have HMM := Lib.hid hm
    have HV : Hid ((Lit.int .i64 at').wf = true) := Lib.hid (wfI ha)
    have HFK := Lib.hid (fit64 hK.row.fit)
    have HKT : Hid (∀ i, KeyT (putsT at' (ks.take i) ts)) := Lib.hid (fun i => h.key.puts)
    have HPL : Hid (∀ i, i ≤ n → (putsT at' (ks.take i) ts).length ≤ 1048576) := Lib.hid (fun i hi => by
      have := putsT_len at' (ks.take i) ts
      rw [List.length_take] at this
      omega)
    have hpw : p ≠ b := by
      intro e
      subst e
      obtain ⟨D, ⟨es, clock, h1, _⟩, _⟩ := hm
      simp [World.cell?, h1] at hc
    clear hm h hK hr ho
    unfold I64 at ha
    go_enter Try.func13, Try.ntmps13
    go_wp2
    go_loopw [22] (fun iv wr => ∃ i : Nat, i ≤ n ∧ iv = .int .i64 i ∧ Hid (MapS wr b (putsT at' (ks.take i) ts)) ∧ Hid (Tch (· = b) w wr)) (fun iv _ => n - (intOf iv).toNat)
    case atStart => exact ⟨0, by omega, rfl, HM0, HT0⟩
    case round =>
      obtain ⟨i, hi, rfl, HM, HT⟩ := hrel
      obtain ⟨w2, rfl⟩ : ∃ v, v = wr := ⟨_, rfl⟩
      clear HM0 HT0
      by_cases hlt : i < n
      · obtain ⟨b1, o1, ea⟩ := in_blockI HI.out (by omega)
        have c1 := in_tch HI.out HT.out HN.out ea hlt
        subst ea
        have ii : (i : Int) < (n : Int) := by omega
        have i0' : (0 : Int) ≤ (i : Int) := by omega
        have cp : w2.cell? ⟨p, 0, none⟩ = some (.map (some b)) := HT.out.cell HC.out.1 hpw
        have hk1 := HFK.out (ks.getD i 0) (getI_mem (by omega))
        have HS := Lib.hid (putsT_step at' ks ts (i := i) (by omega))
        obtain ⟨D, hown, hmr⟩ := HM.out
        have HMR := Lib.hid (hmr.put (HKT.out i) (hown.tidy lawI) at' (ks.getD i 0))
        have hl1 := HPL.out i hi
        obtain ⟨k, hk⟩ : ∃ k, k = ks.getD i 0 := ⟨_, rfl⟩
        rw [← hk] at c1 hk1 HS HMR
        have HKY := Lib.hid (keyI hk1)
        clear hk hmr
        go_wp2_with (first
          | (at_mapUpdate; refine wpList_mapUpdate_in _ rfl _ _ _ tyM rfl tyI tyI lawI Try.underlying59 _ b _ D rfl hown (by unfold maxLen; omega) _ _ _ rfl rfl HKY.out (vI at') [] (plainElem_int Try.underlying3 HV.out) ?_; intro w3 hown1 hturn1)
          | go_in)
        have HM3 : Hid (MapS w3 b (putsT at' (ks.take (i + 1)) ts)) := Lib.hid (by rw [HS.out]; exact MapS.of hown1 HMR.out)
        have HT3 : Hid (Tch (· = b) w w3) := Lib.hid (HT.out.trans (tch_turned hturn1))
        clear hown hown1 hturn1 HM HT cp c1
        go_wp2
        go_roundw
        case rel => exact ⟨i + 1, by omega, by go_num, HM3, HT3⟩
        case measure => simp [intOf]; omega
      · have ii : ¬ (i : Int) < (n : Int) := by omega
        obtain rfl : i = n := by omega
        have he : ks.take i = ks := List.take_of_length_le (by omega)
        have HE := Lib.hid he
        clear he
        go_wp2
        go_ret
        refine ⟨rfl, ?_⟩
        have hm2 := HM.out
        rw [HE.out] at hm2
        have hkt := HKT.out i
        rw [HE.out] at hkt
        exact HC.out.2.set hF HC.out.1 HMM.out HT.out hkt (putsT_fit ⟨ho1, ho2⟩ HFK.out HC.out.2.fit) hm2
  · have hr : setR at' ks ts = (4, ts) := if_neg ho
    rw [hr]
    have HE : Hid (WSet WSt w B F p (4, ts) (.returned (errnoT 4)) w) := Lib.hid ⟨rfl, F, h, fun k hk => .inl hk, Tch.refl _ _⟩
    unfold I64 at ha
    by_cases h1 : at' < 0
    · clear h hr
      go_enter Try.func13, Try.ntmps13
      go_wp2
      go_ret
      exact HE.out
    · have h2 : 1099511627776 < at' := by unfold OkA at ho; omega
      clear h hr
      go_enter Try.func13, Try.ntmps13
      go_wp2
      go_ret
      exact HE.out
theorem wsetN_t (at' : Int) (ks : List Int) (a : Option Addr) (n c : Nat) (w : World) (hI : InI w a n c ks) (hn : n ≤ 1048576) : Calls Try.prog 13 #[.pointer none, .int .i64 at', .slice a n c] w fun e w' => e = .returned (errnoT 4) ∧ Below w.heap.size w w' := by
  go_enter Try.func13, Try.ntmps13
  go_wp2
  go_ret
  exact ⟨rfl, Below.refl _ _⟩
set_option maxRecDepth 100000 in
theorem wcancel_t (B p : Nat) (F : Nat → Prop) (ts : List Wy) (ks : List Int) (a : Option Addr) (n c : Nat) (w : World) (h : WSt w B F p ts) (hB : B ≤ w.heap.size) (hK : KsIn w F a n c ks) (hn : ts.length ≤ 1048576) (hn2 : n ≤ 1048576) :
    Calls Try.prog 15 #[.pointer (some ⟨p, 0, none⟩), .slice a n c] w fun e w' => e = .returned (.int .i64 (cntsT ks ts : Nat)) ∧ WTo WSt w B F p (cutsT ks ts) w' := by
  obtain ⟨b, hF, hc, hm⟩ := h.map
  have HH := Lib.hid (held_c p b w hc)
  have hlen := hK.row.len
  have HI := Lib.hid hK.row
  have HN : Hid (∀ b' off, a = some ⟨b', off, none⟩ → 0 < n → ¬ b' = b) := Lib.hid (fun b' off e hn e2 => hK.far b' off e hn (by rw [e2]; exact hF))
  have HM0 : Hid (MapS w b (cutsT (ks.take 0) ts)) := Lib.hid hm
  have HT0 : Hid (Tch (· = b) w w) := Lib.hid (Tch.refl _ _)
  have HC := Lib.hid (And.intro hc h)
  have HMM := Lib.hid hm
  have HFK := Lib.hid (fit64 hK.row.fit)
  have HKT : Hid (∀ i, KeyT (cutsT (ks.take i) ts)) := Lib.hid (fun i => h.key.cuts)
  have HCC := Lib.hid (cuts_cnt ks ts)
  obtain ⟨D0, hown0, hmr0⟩ := hm
  have HZ0 := Lib.hid hmr0.size
  clear h hK hmr0
  go_enter Try.func15, Try.ntmps15
  go_wp2_with fail
  refine HH.out.mono ?_
  rintro e w1 ⟨rfl, rfl⟩
  go_wp2_with (first
    | (at_len; refine wpList_len_own _ rfl _ tyM rfl tyI tyI Try.underlying59 _ b _ D0 rfl hown0 ?_)
    | go_in)
  clear hown0 HH
  go_loopw [15] (fun iv wr => ∃ i : Nat, i ≤ n ∧ iv = .int .i64 i ∧ Hid (MapS wr b (cutsT (ks.take i) ts)) ∧ Hid (Tch (· = b) w1 wr)) (fun iv _ => n - (intOf iv).toNat)
  case atStart => exact ⟨0, by omega, rfl, HM0, HT0⟩
  case round =>
    obtain ⟨i, hi, rfl, HM, HT⟩ := hrel
    obtain ⟨w2, rfl⟩ : ∃ v, v = wr := ⟨_, rfl⟩
    clear HM0 HT0
    by_cases hlt : i < n
    · obtain ⟨b1, o1, ea⟩ := in_blockI HI.out (by omega)
      have c1 := in_tch HI.out HT.out HN.out ea hlt
      subst ea
      have ii : (i : Int) < (n : Int) := by omega
      have i0' : (0 : Int) ≤ (i : Int) := by omega
      have hk1 := HFK.out (ks.getD i 0) (getI_mem (by omega))
      have HS := Lib.hid (cuts_step ks ts (i := i) (by omega))
      obtain ⟨D, hown, hmr⟩ := HM.out
      have HMR := Lib.hid (hmr.cut (HKT.out i) (hown.tidy lawI) (ks.getD i 0))
      obtain ⟨k, hk⟩ : ∃ k, k = ks.getD i 0 := ⟨_, rfl⟩
      rw [← hk] at c1 hk1 HS HMR
      have HKY := Lib.hid (keyI hk1)
      clear hk hmr
      go_wp2_with (first
        | (at_delete; refine wpList_delete_own _ rfl _ _ tyM tyI rfl tyI lawI Try.underlying59 _ b _ D rfl hown _ _ rfl HKY.out ?_; intro w3 hown1 hturn1)
        | go_in)
      have HM3 : Hid (MapS w3 b (cutsT (ks.take (i + 1)) ts)) := Lib.hid (by rw [HS.out]; exact MapS.of hown1 HMR.out)
      have HT3 : Hid (Tch (· = b) w1 w3) := Lib.hid (HT.out.trans (tch_turned hturn1))
      clear hown hown1 hturn1 HM HT c1
      go_wp2
      go_roundw
      case rel => exact ⟨i + 1, by omega, by go_num, HM3, HT3⟩
      case measure => simp [intOf]; omega
    · have ii : ¬ (i : Int) < (n : Int) := by omega
      obtain rfl : i = n := by omega
      have he : ks.take i = ks := List.take_of_length_le (by omega)
      have hm2 := HM.out
      rw [he] at hm2
      have hkt := HKT.out i
      rw [he] at hkt
      obtain ⟨D, hown, hmr⟩ := hm2
      have HZ : Hid (Maps.size D0 = ts.length ∧ Maps.size D = (cutsT ks ts).length) := Lib.hid ⟨HZ0.out, hmr.size⟩
      have HQ := Lib.hid (HC.out.2.set hF HC.out.1 HMM.out HT.out hkt (cutsT_fit HC.out.2.fit) ⟨D, hown, hmr⟩)
      clear hmr hkt he
      go_wp2_with (first
        | (at_len; refine wpList_len_own _ rfl _ tyM rfl tyI tyI Try.underlying59 _ b _ D rfl hown ?_)
        | go_in)
      go_ret
      refine ⟨?_, HQ.out⟩
      have e1 := HZ.out.1
      have e2 := HZ.out.2
      have e3 := HCC.out
      have ew : wrap64 ((ts.length : Int) - (cutsT ks ts).length) = (cntsT ks ts : Nat) := by unfold wrap64; omega
      rw [e1, e2, ew]
      rfl
theorem wcancelN_t (ks : List Int) (a : Option Addr) (n c : Nat) (w : World) (hI : InI w a n c ks) (hn : n ≤ 1048576) : Calls Try.prog 15 #[.pointer none, .slice a n c] w fun e w' => e = .returned (.int .i64 0) ∧ Below w.heap.size w w' := by
  have HH := Lib.hid (held_n w)
  have hlen := hI.len
  have HI := Lib.hid hI
  have HFK := Lib.hid (fit64 hI.fit)
  have hrun0 := fun ty => len_nil (w := w) Try.underlying59 ty
  clear hI
  go_enter Try.func15, Try.ntmps15
  go_wp2_with fail
  refine HH.out.mono ?_
  rintro e w1 ⟨rfl, rfl⟩
  go_wp2
  go_loop [15] (fun iv => ∃ i : Nat, i ≤ n ∧ iv = .int .i64 i) (fun iv => n - (intOf iv).toNat)
  case atStart => exact ⟨0, by omega, rfl⟩
  case round =>
    obtain ⟨i, hi, rfl⟩ := hrel
    by_cases hlt : i < n
    · obtain ⟨b1, o1, rfl⟩ := in_blockI HI.out (by omega)
      have ii : (i : Int) < (n : Int) := by omega
      have i0' : (0 : Int) ≤ (i : Int) := by omega
      have c1 := in_cellI HI.out i hlt
      have hk1 := HFK.out (ks.getD i 0) (getI_mem (by omega))
      obtain ⟨k, hk⟩ : ∃ k, k = ks.getD i 0 := ⟨_, rfl⟩
      rw [← hk] at c1 hk1
      have hrun := fun ty => drop_nil (w := w1) lawI Try.underlying59 (keyI hk1) ty
      clear hk
      go_wp2
      go_round
      case rel => exact ⟨i + 1, by omega, by go_num⟩
      case measure => simp [intOf]; omega
    · have ii : ¬ (i : Int) < (n : Int) := by omega
      go_wp2
      go_ret
      exact ⟨rfl, Below.refl _ _⟩
end Go.Proofs.Ythoegmcdohppoaa
