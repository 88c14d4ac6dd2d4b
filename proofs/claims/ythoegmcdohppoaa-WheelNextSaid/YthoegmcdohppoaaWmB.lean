/- The program's wheel: New, held, Len, At, Set. Conditions: as each states. -/
import Derived.Test.YthoegmcdohppoaaWmA
namespace Go.Proofs.Ythoegmcdohppoaa
open Go Go.RowKit Go.Maps
set_option linter.unusedVariables false
set_option linter.unusedSimpArgs false

theorem putsT_fit {a : Int} (ha : OkA a) : ∀ {ks : List Int} {ts : List Wy}, (∀ k ∈ ks, I64 k) → (∀ t ∈ ts, OkA t.1 ∧ I64 t.2) → ∀ t ∈ putsT a ks ts, OkA t.1 ∧ I64 t.2
  | [], ts, _, h => h
  | k :: ks, ts, hk, h => putsT_fit (ks := ks) ha (fun x hx => hk x (List.mem_cons_of_mem _ hx)) (fun t ht => by
    unfold putT cutT at ht
    rcases List.mem_append.1 ht with h1 | h1
    · exact h t (List.mem_filter.1 h1).1
    · rw [List.mem_singleton.1 h1]
      exact ⟨ha, hk k List.mem_cons_self⟩)
theorem fit64 {l : List Int} (h : fitI l) : ∀ k ∈ l, I64 k := fun k hk => by
  have := h k hk
  unfold I64
  omega
/-- A cell that leads to a map; nil. -/
theorem held_c (p b : Nat) (w : World) (hc : w.cell? ⟨p, 0, none⟩ = some (.map (some b))) : Calls Try.prog 26 #[.pointer (some ⟨p, 0, none⟩)] w fun e w' => e = .returned (.map (some b)) ∧ w' = w := by
  go_enter Try.func26, Try.ntmps26
  go_wp2
  go_ret
  exact ⟨rfl, rfl⟩
theorem held_n (w : World) : Calls Try.prog 26 #[.pointer none] w fun e w' => e = .returned (.map none) ∧ w' = w := by
  go_enter Try.func26, Try.ntmps26
  go_wp2
  go_ret
  exact ⟨rfl, rfl⟩
theorem new_wst (w : World) : WSt ((w.alloc (.map #[] 0)).alloc (.cells #[.map (some w.heap.size)] 61)) w.heap.size (fun k => k = w.heap.size ∨ k = w.heap.size + 1) (w.heap.size + 1) [] := by
  have hs : (w.alloc (.map #[] 0)).heap.size = w.heap.size + 1 := by simp
  refine ⟨by simp [KeyT], by simp, .inr rfl, fun k hk => ?_, w.heap.size, .inl rfl, ?_, (MapS.new w).block ?_⟩
  · simp only [World.size_alloc] 
    omega
  · rw [← hs]; simp [go_sem]
  · exact (MapKept.heap_alloc _ _).2 _ (by rw [hs]; omega)
theorem wnew_t (s : Int) (w : World) (hs : I64 s) : Calls Try.prog 10 #[.int .i64 s] w (WNew WSt w s) := by
  unfold I64 at hs
  by_cases h1 : s < 1
  · go_enter Try.func10, Try.ntmps10
    go_wp2
    go_ret2
    exact ⟨.inr ⟨by unfold OkS; omega, rfl⟩, Below.refl _ _⟩
  · by_cases h2 : 1024 < s
    · go_enter Try.func10, Try.ntmps10
      go_wp2
      go_ret2
      exact ⟨.inr ⟨by unfold OkS; omega, rfl⟩, Below.refl _ _⟩
    · have hmm := @run_makeMap Try.prog
      have HN := Lib.hid (new_wst w)
      have HB := Lib.hid (((Below.refl w.heap.size w).alloc (Nat.le_refl _) (.map #[] 0)).alloc (by simp) (.cells #[.map (some w.heap.size)] 61))
      go_enter Try.func10, Try.ntmps10
      go_wp2
      go_ret2
      exact ⟨.inl ⟨⟨by omega, by omega⟩, _, _, rfl, HN.out⟩, HB.out⟩
theorem wlen_t (B p : Nat) (F : Nat → Prop) (ts : List Wy) (w : World) (h : WSt w B F p ts) (hB : B ≤ w.heap.size) (hn : ts.length ≤ 1048576) :
    Calls Try.prog 24 #[.pointer (some ⟨p, 0, none⟩)] w fun e w' => e = .returned (.int .i64 (ts.length : Nat)) ∧ WTo WSt w B F p ts w' := by
  obtain ⟨b, hF, hc, D, hown, hm⟩ := h.map
  have HE := Lib.hid hm.size
  have HH := Lib.hid (held_c p b w hc)
  go_enter Try.func24, Try.ntmps24
  go_wp2_with fail
  refine HH.out.mono ?_
  rintro e w1 ⟨rfl, rfl⟩
  go_wp2_with (first
    | (at_len; refine wpList_len_own _ rfl _ tyM rfl tyI tyI Try.underlying59 _ b _ D rfl hown ?_)
    | go_in)
  go_ret
  exact ⟨by rw [HE.out]; rfl, F, h, fun k hk => .inl hk, Tch.refl _ _⟩
theorem wlenN_t (w : World) : Calls Try.prog 24 #[.pointer none] w fun e w' => e = .returned (.int .i64 0) ∧ Below w.heap.size w w' := by
  have HH := Lib.hid (held_n w)
  have hrun := fun ty => len_nil (w := w) Try.underlying59 ty
  go_enter Try.func24, Try.ntmps24
  go_wp2_with fail
  refine HH.out.mono ?_
  rintro e w1 ⟨rfl, rfl⟩
  go_wp2
  go_ret
  exact ⟨rfl, Below.refl _ _⟩
theorem wat_t (B p : Nat) (F : Nat → Prop) (ts : List Wy) (key : Int) (w : World) (h : WSt w B F p ts) (hB : B ≤ w.heap.size) (hn : ts.length ≤ 1048576) (hk : I64 key) :
    Calls Try.prog 17 #[.pointer (some ⟨p, 0, none⟩), .int .i64 key] w fun e w' => e = .returned (atR (atT key ts)) ∧ WTo WSt w B F p ts w' := by
  obtain ⟨b, hF, hc, D, hown, hm⟩ := h.map
  have HH := Lib.hid (held_c p b w hc)
  have HK := Lib.hid (keyI hk)
  have HR : Hid (∀ c, D.atKey (kI key) (vI 0) = vI c → atR (atT key ts) = .tuple #[.int .i64 c, .bool (Maps.has D (kI key))]) := Lib.hid (by
    intro c e
    rw [hm.has]
    rw [hm.look] at e
    unfold atR
    cases hh : atT key ts with
    | none => rw [hh] at e; injection e with e; injection e with _ e; rw [← e]; rfl
    | some t => rw [hh] at e; injection e with e; injection e with _ e; rw [← e]; rfl)
  clear hm
  go_enter Try.func17, Try.ntmps17
  go_wp2_with fail
  refine HH.out.mono ?_
  rintro e w1 ⟨rfl, rfl⟩
  go_wp2_with (first
    | (at_lookup; refine wpList_lookup_own_ok_int _ rfl _ _ tyM rfl tyI tyI .i64 lawI Try.underlying59 Try.underlying3 (zeroI _) b _ D rfl hown _ _ rfl HK.out ?_; intro c hat hwc)
    | go_in)
  go_ret2
  exact ⟨by rw [HR.out _ hat]; rfl, F, h, fun k hk => .inl hk, Tch.refl _ _⟩
theorem watN_t (key : Int) (w : World) (hk : I64 key) : Calls Try.prog 17 #[.pointer none, .int .i64 key] w fun e w' => e = .returned (atR none) ∧ Below w.heap.size w w' := by
  have HH := Lib.hid (held_n w)
  have hrun := look_nil (w := w) true lawI Try.underlying59 (zeroI _) (keyI hk)
  go_enter Try.func17, Try.ntmps17
  go_wp2_with fail
  refine HH.out.mono ?_
  rintro e w1 ⟨rfl, rfl⟩
  go_wp2
  go_ret2
  exact ⟨rfl, Below.refl _ _⟩
end Go.Proofs.Ythoegmcdohppoaa
