/- A voter's store, plainly: what stands in it, that there is room, that it is read back. No program. -/
import Derived.Test.YtnhnpfhfcbmmlaaVfD
namespace Go.Proofs.Ytnhnpfhfcbmmlaa
set_option linter.unusedVariables false
set_option linter.unusedSimpArgs false

theorem kne : kPr ≠ kVt := by decide
/-- What a voter's store holds. -/
structure EncS (l : List Pr) (pr ac : Bl) (ls : List Cm) : Prop where
  srt : SrtP l
  keys : ∀ e ∈ l, e.k = kPr ∨ e.k = kVt
  pro : findP kPr l = if pr = bl0 then none else some (brow pr)
  vot : findP kVt l = if ac = bl0 then none else some (brow ac ++ bytesL ls)
  nil : ac = bl0 → ls = []
  prB : pr = bl0 ∨ OkB pr
  acB : ac = bl0 ∨ OkB ac
  good : GoodL ls
  typ : ∀ x ∈ ls, TyC x
theorem okB_ne {b : Bl} (h : OkB b) : b ≠ bl0 := fun e => by
  have := h.1
  rw [e] at this
  simp [bl0] at this
theorem okB_ty {b : Bl} (h : OkB b) : TyB b := by
  obtain ⟨h1, h2, h3⟩ := h
  unfold IsMgr at h3
  unfold TyB i64c
  omega
theorem enc_nil : EncS [] bl0 bl0 [] where
  srt := List.Pairwise.nil
  keys := by simp
  pro := by rw [if_pos rfl]; rfl
  vot := by rw [if_pos rfl]; rfl
  nil := fun _ => rfl
  prB := .inl rfl
  acB := .inl rfl
  good := ⟨by simp, by simp, List.Pairwise.nil⟩
  typ := by simp
theorem brow_eq (b : Bl) : brow b = b8 b.n ++ b8 b.node := by simp [brow, nb]
theorem rdB_brow {b : Bl} (h : TyB b) (k : List Int) : rdB (brow b ++ k) = b ∧ rests 2 (brow b ++ k) = k := by
  refine ⟨?_, rests_nb' (l := [b.n, b.node]) rfl rfl⟩
  rw [brow_eq, List.append_assoc]
  unfold rdB
  rw [rd_b8 h.1, rest_b8, rd_b8 h.2]
theorem EncS.ld {l : List Pr} {pr ac : Bl} {ls : List Cm} (h : EncS l pr ac ls) : ldP l = some pr ∧ ldV l = some (ac, ls) := by
  constructor
  · unfold ldP
    rw [h.pro]
    rcases h.prB with e | hb
    · rw [if_pos e, e]
    · rw [if_neg (okB_ne hb)]
      simp only
      have h2 := rdB_brow (okB_ty hb) []
      rw [List.append_nil] at h2
      rw [h2.1, h2.2, if_pos ⟨hb, rfl⟩]
  · unfold ldV
    rw [h.vot]
    rcases h.acB with e | hb
    · rw [if_pos e, e, h.nil e]
    · rw [if_neg (okB_ne hb)]
      simp only
      have h2 := rdB_brow (okB_ty hb) (bytesL ls)
      rw [h2.1, h2.2, dec_bytes h.typ h.good, if_pos ⟨hb, isLog_bytes h.typ h.good⟩]
theorem EncS.rows {l : List Pr} {pr ac : Bl} {ls : List Cm} (h : EncS l pr ac ls) : ∀ k r, k = kPr ∨ k = kVt → findP k l = some r → r.length ≤ 1048576 := by
  rintro k r (rfl | rfl) hf
  · rw [h.pro] at hf
    split at hf
    · cases hf
    · cases hf
      rw [brow_len]
      omega
  · rw [h.vot] at hf
    split at hf
    · cases hf
    · cases hf
      rw [List.length_append, brow_len, bytesL_len]
      have h1 := ends_good h.good.2.1
      have h2 := h.good.1
      omega
theorem keys_puts (size : Int) (ps : List Pr) {l : List Pr} (h : ∀ e ∈ l, e.k = kPr ∨ e.k = kVt) (hp : ∀ e ∈ ps, e.k = kPr ∨ e.k = kVt) : ∀ e ∈ (putsP size ps l).2, e.k = kPr ∨ e.k = kVt := by
  induction ps generalizing l with
  | nil => exact h
  | cons a ps ih =>
    unfold putsP
    split
    · refine ih (fun e he => ?_) (fun e he => hp e (List.mem_cons_of_mem _ he))
      unfold putP at he
      rcases (ins_mem e).1 he with rfl | he
      · exact hp a List.mem_cons_self
      · exact h e (cut_sub e he)
    · exact h
theorem keys_drop (ks : List Ky) {l : List Pr} (h : ∀ e ∈ l, e.k = kPr ∨ e.k = kVt) : ∀ e ∈ dropP ks l, e.k = kPr ∨ e.k = kVt := by
  induction ks generalizing l with
  | nil => exact h
  | cons k ks ih => exact ih (fun e he => h e (cut_sub e he))
theorem save_out {size : Int} {ps l : List Pr} (h : (saveP size ps l).1 = 0) : (putsP size ps (dropP (keysP ps) l)).1 = 0 ∧ (saveP size ps l).2 = (putsP size ps (dropP (keysP ps) l)).2 := by
  by_cases h0 : (putsP size ps (dropP (keysP ps) l)).1 = 0
  · rw [saveP_ok h0]
    exact ⟨h0, rfl⟩
  · rw [saveP_no h0] at h
    exact absurd h h0
theorem EncS.prep {l : List Pr} {pr ac : Bl} {ls : List Cm} (h : EncS l pr ac ls) {size : Int} {b : Bl} (hb : OkB b) (h0 : (saveP size (prepP b) l).1 = 0) : EncS (saveP size (prepP b) l).2 b ac ls := by
  obtain ⟨h1, h2⟩ := save_out h0
  rw [h2]
  have hnd : (keysP (prepP b)).Nodup := by unfold keysP prepP; simp
  refine ⟨srt_puts _ _ (srt_drop _ h.srt), keys_puts _ _ (keys_drop _ h.keys) (fun e he => ?_), ?_, ?_, h.nil, .inr hb, h.acB, h.good, h.typ⟩
  · unfold prepP at he
    rw [List.mem_singleton] at he
    rw [he]
    exact .inl rfl
  · rw [if_neg (okB_ne hb)]
    exact find_puts_in size (prepP b) _ hnd h1 ⟨kPr, brow b⟩ (by unfold prepP; simp)
  · have hn : kVt ∉ keysP (prepP b) := fun hm => by
      have : kVt = kPr := by simpa [keysP, prepP] using hm
      exact kne this.symm
    rw [find_puts_other size _ _ hn, find_drop, if_neg hn, h.vot]
theorem EncS.acc {l : List Pr} {pr ac : Bl} {ls : List Cm} (h : EncS l pr ac ls) {size : Int} {b : Bl} (hb : OkB b) {lg : List Cm} (hg : GoodL lg) (ht : ∀ x ∈ lg, TyC x) (h0 : (saveP size (accP b lg) l).1 = 0) : EncS (saveP size (accP b lg) l).2 b b lg := by
  obtain ⟨h1, h2⟩ := save_out h0
  rw [h2]
  have hnd : (keysP (accP b lg)).Nodup := (show [kPr, kVt].Nodup by decide)
  refine ⟨srt_puts _ _ (srt_drop _ h.srt), keys_puts _ _ (keys_drop _ h.keys) (fun e he => ?_), ?_, ?_, fun e => absurd e (okB_ne hb), .inr hb, .inr hb, hg, ht⟩
  · unfold accP at he
    rcases List.mem_cons.1 he with rfl | he
    · exact .inl rfl
    · rw [List.mem_singleton] at he
      rw [he]
      exact .inr rfl
  · rw [if_neg (okB_ne hb)]
    exact find_puts_in size (accP b lg) _ hnd h1 ⟨kPr, brow b⟩ (by unfold accP; simp)
  · rw [if_neg (okB_ne hb)]
    exact find_puts_in size (accP b lg) _ hnd h1 ⟨kVt, brow b ++ bytesL lg⟩ (by unfold accP; simp)
theorem empty_of {l : List Pr} (h : ∀ k, findP k l = none) : l = [] := by
  cases l with
  | nil => rfl
  | cons a l =>
    have := h a.k
    rw [findP_hit rfl] at this
    cases this
theorem used_keys {l : List Pr} (hs : SrtP l) (hk : ∀ e ∈ l, e.k = kPr ∨ e.k = kVt) : usedP l = sizeAt kPr l + sizeAt kVt l := by
  have h1 := used_cut (k := kPr) hs
  have h2 := used_cut (k := kVt) (srt_cut (k := kPr) hs)
  have h3 : cutP kVt (cutP kPr l) = [] := empty_of (fun k => by
    rw [findP_cut, findP_cut]
    by_cases e1 : k = kVt
    · rw [if_pos e1]
    · rw [if_neg e1]
      by_cases e2 : k = kPr
      · rw [if_pos e2]
      · rw [if_neg e2, findP_none]
        intro e he e3
        rcases hk e he with h | h
        · exact e2 (e3.symm.trans h)
        · exact e1 (e3.symm.trans h))
  have h4 : sizeAt kVt (cutP kPr l) = sizeAt kVt l := by
    unfold sizeAt
    rw [findP_cut, if_neg (fun e => kne e.symm)]
  rw [h3] at h2
  simp only [usedP] at h2
  omega
theorem EncS.szV {l : List Pr} {pr ac : Bl} {ls : List Cm} (h : EncS l pr ac ls) : sizeAt kVt l ≤ 20 + (bytesL ls).length := by
  unfold sizeAt
  rw [h.vot]
  split
  · rename_i r hr
    split at hr
    · cases hr
    · cases hr
      rw [List.length_append, brow_len]
      have : kVt.length = 4 := rfl
      omega
  · omega
theorem used_ins_le (k : Ky) (r : List Int) (l : List Pr) : usedP (putP k r l) ≤ usedP l + k.length + r.length := by
  rw [used_put]
  have := used_cutv_le k l
  omega
theorem putN_room {size : Int} {k : Ky} {r : List Int} {l : List Pr} (hk : OkK k) (h : ((usedP l + k.length + r.length : Nat) : Int) ≤ size) : putN size k r l = 0 := by
  unfold putN
  rw [if_pos hk, if_neg]
  have := used_cutv_le k l
  omega
theorem okPr : OkK kPr := by decide
theorem okVt : OkK kVt := by decide
theorem EncS.prep_room {l : List Pr} {pr ac : Bl} {ls : List Cm} (h : EncS l pr ac ls) {size : Int} (b : Bl) (hz : 43 + ((bytesL ls).length : Int) ≤ size) : (saveP size (prepP b) l).1 = 0 := by
  have h1 : usedP (cutP kPr l) ≤ 20 + (bytesL ls).length := by
    have h2 := used_cut (k := kPr) h.srt
    have h3 := used_keys h.srt h.keys
    have h4 := h.szV
    omega
  have h5 : putN size kPr (brow b) (cutP kPr l) = 0 := putN_room okPr (by
    rw [brow_len]
    have : kPr.length = 7 := rfl
    omega)
  have h6 : (putsP size (prepP b) (dropP (keysP (prepP b)) l)).1 = 0 := by
    show (putsP size [⟨kPr, brow b⟩] (cutP kPr l)).1 = 0
    rw [putsP_go h5]
    rfl
  rw [saveP_ok h6]
theorem EncS.acc_room {l : List Pr} {pr ac : Bl} {ls : List Cm} (h : EncS l pr ac ls) {size : Int} (b : Bl) (lg : List Cm) (hz : 43 + ((bytesL lg).length : Int) ≤ size) : (saveP size (accP b lg) l).1 = 0 := by
  have h3 : dropP (keysP (accP b lg)) l = [] := empty_of (fun k => by
    rw [find_drop]
    by_cases e : k ∈ keysP (accP b lg)
    · rw [if_pos e]
    · rw [if_neg e, findP_none]
      intro x hx e3
      apply e
      show k ∈ [kPr, kVt]
      rcases h.keys x hx with h4 | h4
      · rw [← e3, h4]; simp
      · rw [← e3, h4]; simp)
  have e1 : kPr.length = 7 := rfl
  have e2 : kVt.length = 4 := rfl
  have h5 : putN size kPr (brow b) [] = 0 := putN_room okPr (by
    rw [brow_len]
    simp only [usedP]
    omega)
  have h6 : putN size kVt (brow b ++ bytesL lg) (putP kPr (brow b) []) = 0 := putN_room okVt (by
    have := used_ins_le kPr (brow b) []
    simp only [usedP] at this
    rw [brow_len] at this
    rw [List.length_append, brow_len]
    omega)
  have h7 : (putsP size (accP b lg) (dropP (keysP (accP b lg)) l)).1 = 0 := by
    rw [h3]
    show (putsP size [⟨kPr, brow b⟩, ⟨kVt, brow b ++ bytesL lg⟩] []).1 = 0
    rw [putsP_go h5, putsP_go h6]
    rfl
  rw [saveP_ok h7]
theorem bytes_small {lg : List Cm} (h : GoodL lg) : (bytesL lg).length ≤ 417800 := by
  have h1 := ends_good h.2.1
  have h2 := h.1
  rw [bytesL_len]
  omega
end Go.Proofs.Ytnhnpfhfcbmmlaa
