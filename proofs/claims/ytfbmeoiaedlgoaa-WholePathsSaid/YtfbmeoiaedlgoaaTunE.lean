/- Contracts of tunnel's Unwrap and of the document's. Conditions: the row came in, of at most 2^62 bytes. -/
import Derived.Test.YtfbmeoiaedlgoaaTunC
import Derived.Test.YtfbmeoiaedlgoaaTunD
namespace Go.Proofs.Ytfbmeoiaedlgoaa
open Go Go.RowKit
set_option linter.unusedVariables false
set_option linter.unusedSimpArgs false

/-- What Unwrap answers. -/
def UOut (l : List Int) (S D : Int) (R : List Int) (E : Value) (f : Int) (z : Bool) : Prop :=
  (IsW l ∧ S = n4 l 12 ∧ D = n4 l 16 ∧ R = l.drop 20 ∧ E = .nilIface ∧ f = 0 ∧ z = true) ∨ (¬ IsW l ∧ S = 0 ∧ D = 0 ∧ R = [] ∧ E = errno 2 ∧ f = 2 ∧ z = false)
theorem UOut.some (l : List Int) : ∃ S D R E f z, UOut l S D R E f z := by
  by_cases h : IsW l
  · exact ⟨_, _, _, _, _, _, .inl ⟨h, rfl, rfl, rfl, rfl, rfl, rfl⟩⟩
  · exact ⟨_, _, _, _, _, _, .inr ⟨h, rfl, rfl, rfl, rfl, rfl, rfl⟩⟩
theorem UOut.z {l : List Int} {S D : Int} {R : List Int} {E : Value} {f : Int} {z : Bool} (h : UOut l S D R E f z) : z = true ↔ IsW l := by
  rcases h with ⟨h, _, _, _, _, _, rfl⟩ | ⟨h, _, _, _, _, _, rfl⟩
  · simp [h]
  · simp [h]
theorem UOut.fit {l : List Int} {S D : Int} {R : List Int} {E : Value} {f : Int} {z : Bool} (h : UOut l S D R E f z) (hf : fit l) : Go.Proofs.Ytfbmeoiaedlgoaa.fit R := by
  rcases h with ⟨_, _, _, rfl, _⟩ | ⟨_, _, _, rfl, _⟩
  · exact fun x hx => hf x (List.mem_of_mem_drop hx)
  · intro b hb; cases hb
/-- Two addresses, a row of the call's own, an error. -/
def Unw (w : World) (S D : Int) (R : List Int) (E : Value) (e : Ending) (w' : World) : Prop :=
  ∃ ao k cp, e = .returned (.tuple #[.int .u32 S, .int .u32 D, .slice ao k cp, E]) ∧ k = R.length ∧ w'.ownsRow w.heap.size 5 1 (.slice ao k cp) k (u8s R) ∧ Below w.heap.size w w'
theorem IsW.more {b : List Int} (h : IsW b) : 48 ≤ b.length := by
  have := h.1.size
  rw [List.length_drop] at this
  omega

set_option maxRecDepth 100000 in
set_option maxHeartbeats 1000000 in
theorem unwrap_t {l : List Int} {S D : Int} {R : List Int} {E : Value} {f : Int} {z : Bool} (h : UOut l S D R E f z) (a : Option Addr) (n c : Nat) (w : World) (hI : In w a n c l) (hn : n ≤ 4611686018427387904) :
    Calls Try.prog 16 #[.slice a n c] w (Unw w S D R E) := by
  have CI := Lib.hid (fun (W : World) (h2 : In W a n c l) => is_t h.z a n c W h2 hn)
  have HI := Lib.hid hI
  rcases h with ⟨hw, rfl, rfl, rfl, rfl, rfl, rfl⟩ | ⟨hw, rfl, rfl, rfl, rfl, rfl, rfl⟩
  · have h48 := hw.more
    have h15 := hw.2.1
    rw [hI.len] at h48 h15
    have hcap := hI.room
    obtain ⟨b, off, rfl⟩ := in_block hI (by omega)
    have h20n : (20 : Int) ≤ (n : Int) := by omega
    have h20c : (20 : Int) ≤ (c : Int) := by omega
    have j16 : (16 : Int) ≤ (c : Int) := by omega
    have d12 : ¬ c = 12 := by omega
    have d16 : ¬ c = 16 := by omega
    have d20 : ¬ c = 20 := by omega
    have A12 := Lib.hid (fun (c2 : Nat) (W : World) (h : Below w.heap.size w W) => addr4 (w := W) (c := c) (hI.here.below h) hI.len hI.fit 12 c2 (off + 12) (by omega) rfl)
    have A16 := Lib.hid (fun (c2 : Nat) (W : World) (h : Below w.heap.size w W) => addr4 (w := W) (c := c) (hI.here.below h) hI.len hI.fit 16 c2 (off + 16) (by omega) rfl)
    have CC := Lib.hid (fun (W : World) (h : Below w.heap.size w W) => clone_any (l.drop 20) ⟨b, off + 20, none⟩ (n - 20) (c - 20) W (in_rest (hI.below h) (by omega)) (by omega))
    obtain ⟨s, hs⟩ : ∃ s, s = n4 l 12 := ⟨_, rfl⟩
    obtain ⟨d, hd⟩ : ∃ d, d = n4 l 16 := ⟨_, rfl⟩
    rw [← hs] at A12
    rw [← hd] at A16
    rw [← hs, ← hd]
    obtain ⟨m, hm⟩ : ∃ m, m = n - 20 := ⟨_, rfl⟩
    obtain ⟨cr, hcr⟩ : ∃ cr, cr = c - 20 := ⟨_, rfl⟩
    have hsub : (n : Int) - 20 = (m : Int) := by omega
    have hsub2 : (c : Int) - 20 = (cr : Int) := by omega
    have HLR : Hid (n - 20 = (l.drop 20).length) := Lib.hid (by rw [List.length_drop, hI.len])
    clear hI hw hs hd hm hcr h48 h15
    go_enter Try.func16, Try.ntmps16
    go_wp2_with fail
    refine (CI.out w HI.out).mono ?_
    rintro e w1 ⟨rfl, hb⟩
    have HB1 := Lib.hid hb
    have hS0 : Below w.heap.size w w1.drew := hb.drew
    clear hb CI
    go_wp2_with fail
    go_region_held3 (fun wx => Below w.heap.size w wx) (first | (with_reducible exact hS0) | (with_reducible exact bl_tr (by assumption) (by assumption)) | (with_reducible assumption) | fail)
      (first | (go_at_call 33; (with_reducible refine (A12.out _ _ (by assumption)).mono ?_); rintro e w' ⟨rfl, rfl⟩) | (go_at_call 33; (with_reducible refine (A16.out _ _ (by assumption)).mono ?_); rintro e w' ⟨rfl, rfl⟩) | (go_at_call 34; (with_reducible refine (CC.out _ (by assumption)).mono ?_); rintro e w' ⟨ao, cp, rfl, hown, hb⟩) | fail)
    rename_i hHeld
    have HB := Lib.hid hHeld
    have HO := Lib.hid (own_base hown hS0.size)
    clear hown hb hHeld A12 A16 CC hS0
    go_wp2
    exact bodyPost_ret (v := .tuple #[.int .u32 s, .int .u32 d, .slice ao (n - 20) cp, .nilIface]) (by simp [results, Try.results16, go_sem]) rfl ⟨ao, _, cp, rfl, HLR.out, HO.out, HB.out⟩
  · clear hI hw
    go_enter Try.func16, Try.ntmps16
    go_wp2_with fail
    refine (CI.out w HI.out).mono ?_
    rintro e w1 ⟨rfl, hb⟩
    have HB1 := Lib.hid hb
    clear hb CI
    go_wp2
    exact bodyPost_ret (v := .tuple #[.int .u32 0, .int .u32 0, .slice none 0 0, errno 2]) (by simp [results, Try.results16, go_sem]) rfl ⟨none, 0, 0, rfl, rfl, World.ownsRow_nil _ _ _ _, HB1.out⟩

theorem drop_at (l : List Int) (k j : Nat) : (l.drop k).getD j 0 = l.getD (k + j) 0 := by
  rw [List.getD_eq_getElem?_getD, List.getD_eq_getElem?_getD, List.getElem?_drop]
theorem num_drop {l : List Int} {lo : Nat} (h : lo + 4 ≤ l.length) : num ((l.drop lo).take 4) = n4 l lo := (sub4 h).1

set_option maxRecDepth 100000 in
set_option maxHeartbeats 1000000 in
theorem refUnw_t {l : List Int} {S D : Int} {R : List Int} {E : Value} {f : Int} {z : Bool} (h : UOut l S D R E f z) (a : Option Addr) (n c : Nat) (w : World) (hI : In w a n c l) (hn : n ≤ 4611686018427387904) :
    Calls Try.prog 17 #[.slice a n c] w (Unw w S D R (.int .i64 f)) := by
  obtain ⟨i0, hi0, hz0, hz1, hz2⟩ := info_parts info5
  have HI := Lib.hid hI
  have HU := Lib.hid h
  have HN := Lib.hid hn
  by_cases h20 : n < 20
  · have hno : ¬ IsW l := fun hw => by have := hw.size; rw [hI.len] at this; omega
    rcases h with ⟨hw, _⟩ | ⟨_, rfl, rfl, rfl, rfl, rfl, rfl⟩
    · exact absurd hw hno
    clear hI hno HU HI
    go_enter Try.func17, Try.ntmps17
    go_wp2
    exact bodyPost_ret (v := .tuple #[.int .u32 0, .int .u32 0, .slice none 0 0, .int .i64 2]) (by simp [results, Try.results17, go_sem]) rfl ⟨none, 0, 0, rfl, rfl, World.ownsRow_nil _ _ _ _, Below.refl _ _⟩
  · obtain ⟨b, off, rfl⟩ := in_block hI (by omega)
    have hcap := hI.room
    have hS := n4_fit hI.fit 12
    have hD := n4_fit hI.fit 16
    have hcells := fun j (hj : j < n) => in_cell hI j hj
    have HC := Lib.hid hcells
    have HL := Lib.hid hI.len
    have HF12 : Hid (fit (l.drop 12)) := Lib.hid (fun x hx => hI.fit x (List.mem_of_mem_drop hx))
    have HF16 : Hid (fit (l.drop 16)) := Lib.hid (fun x hx => hI.fit x (List.mem_of_mem_drop hx))
    have HFL := Lib.hid hI.fit
    have h20n : (20 : Int) ≤ (n : Int) := by omega
    have h20c : (20 : Int) ≤ (c : Int) := by omega
    have h20i : decide ((n : Int) < 20) = false := decide_eq_false (by omega)
    have HSD := Lib.hid (And.intro hS hD)
    clear hI h hn hcells hS hD
    go_enter Try.func17, Try.ntmps17
    go_wp2
    go_loop [6, 7, 8] (fun s d i => ∃ (j : Nat) (s' d' : Int), j ≤ 4 ∧ i = .int .i64 j ∧ s = .int .u32 s' ∧ d = .int .u32 d' ∧ Hid (s' = num ((l.drop 12).take j)) ∧ Hid (d' = num ((l.drop 16).take j))) (fun _ _ i => 4 - (intOf i).toNat)
    case atStart => exact ⟨0, 0, 0, by omega, rfl, rfl, rfl, Lib.hid rfl, Lib.hid rfl⟩
    case round =>
      obtain ⟨j, s', d', hj, rfl, rfl, rfl, HS, HD⟩ := hrel
      by_cases hlj : j < 4
      · have hl12 : (l.drop 12).length = n - 12 := by rw [List.length_drop, HL.out]
        have hl16 : (l.drop 16).length = n - 16 := by rw [List.length_drop, HL.out]
        have c12 := HC.out (12 + j) (by omega)
        have c16 := HC.out (16 + j) (by omega)
        have b12 := getD_fit HFL.out (12 + j)
        have b16 := getD_fit HFL.out (16 + j)
        obtain ⟨s0, s1⟩ := num_small HF12.out (k := j) (by omega) (by omega)
        obtain ⟨d0, d1⟩ := num_small HF16.out (k := j) (by omega) (by omega)
        rw [← HS.out] at s0 s1
        rw [← HD.out] at d0 d1
        obtain ⟨x, hx⟩ : ∃ x, x = l.getD (12 + j) 0 := ⟨_, rfl⟩
        obtain ⟨y, hy⟩ : ∃ y, y = l.getD (16 + j) 0 := ⟨_, rfl⟩
        rw [← hx] at c12 b12
        rw [← hy] at c16 b16
        obtain ⟨x0, x1⟩ := b12
        obtain ⟨y0, y1⟩ := b16
        have e1 : ∀ [Inhabited Nat], IntKind.u32.wrap (s' * 256) = s' * 256 := by intro _; rw [IntKind.wrap_u32']; omega
        have e2 : ∀ [Inhabited Nat], IntKind.u32.wrap x = x := by intro _; rw [IntKind.wrap_u32']; omega
        have e3 : ∀ [Inhabited Nat], IntKind.u32.wrap (s' * 256 + x) = s' * 256 + x := by intro _; rw [IntKind.wrap_u32']; omega
        have f1 : ∀ [Inhabited Nat], IntKind.u32.wrap (d' * 256) = d' * 256 := by intro _; rw [IntKind.wrap_u32']; omega
        have f2 : ∀ [Inhabited Nat], IntKind.u32.wrap y = y := by intro _; rw [IntKind.wrap_u32']; omega
        have f3 : ∀ [Inhabited Nat], IntKind.u32.wrap (d' * 256 + y) = d' * 256 + y := by intro _; rw [IntKind.wrap_u32']; omega
        have g1 : ∀ [Inhabited Nat], IntKind.i64.wrap (12 + (j : Int)) = 12 + (j : Int) := by intro _; exact IntWalk.i64_in _ (by omega)
        have g2 : ∀ [Inhabited Nat], IntKind.i64.wrap (16 + (j : Int)) = 16 + (j : Int) := by intro _; exact IntWalk.i64_in _ (by omega)
        have g3 : 12 + (j : Int) < (n : Int) := by omega
        have g4 : 16 + (j : Int) < (n : Int) := by omega
        have g5 : 0 ≤ 12 + (j : Int) := by omega
        have g6 : 0 ≤ 16 + (j : Int) := by omega
        have HR1 : Hid (s' * 256 + x = num ((l.drop 12).take (j + 1))) := Lib.hid (by rw [take_more (l.drop 12) 0 (by omega), num_more, ← HS.out, drop_at, ← hx]; omega)
        have HR2 : Hid (d' * 256 + y = num ((l.drop 16).take (j + 1))) := Lib.hid (by rw [take_more (l.drop 16) 0 (by omega), num_more, ← HD.out, drop_at, ← hy]; omega)
        clear hx hy hl12 hl16 h20n h20c h20i
        go_wp2
        go_round
        case rel => exact ⟨j + 1, _, _, by omega, by go_num, rfl, rfl, HR1, HR2⟩
        case measure => simp [intOf]; omega
      · have es : s' = n4 l 12 := by rw [HS.out, show j = 4 by omega]; exact num_drop (by rw [HL.out]; omega)
        have ed : d' = n4 l 16 := by rw [HD.out, show j = 4 by omega]; exact num_drop (by rw [HL.out]; omega)
        have HES := Lib.hid es
        have HED := Lib.hid ed
        have hij : ¬ ((j : Int) < 4) := by omega
        clear es ed HS HD
        rw [HES.out, HED.out]
        by_cases hc20 : c = 20
        · have hn20 : n = 20 := by omega
          have hno : ¬ IsW l := fun hw => by have := hw.more; have := HL.out; omega
          have CW := Lib.hid (fun (a : Addr) (cr : Nat) => refWrap_t (l := []) (s := n4 l 12) (d := n4 l 16) (.inr (.inr ⟨not_is_nil, rfl, rfl, rfl⟩)) HSD.out.1 HSD.out.2 (some a) 0 cr w ⟨rfl, Nat.zero_le _, (fun e => by cases e), At.nil _ _ _, by intro b hb; cases hb⟩ (by omega))
          rcases HU.out with ⟨hw, _⟩ | ⟨_, rfl, rfl, rfl, rfl, rfl, rfl⟩
          · exact absurd hw hno
          obtain ⟨s, hs⟩ : ∃ s, s = n4 l 12 := ⟨_, rfl⟩
          obtain ⟨d, hd⟩ : ∃ d, d = n4 l 16 := ⟨_, rfl⟩
          rw [← hs, ← hd] at CW
          rw [← hs, ← hd]
          clear HES HED HSD HU hno hs hd HI HC HL HF12 HF16 HFL hj hlj
          subst hn20 hc20
          go_wp2_with fail
          refine (CW.out _ _).mono ?_
          rintro e w1 ⟨ao, k, cp, rfl, hk, hown, hb⟩
          have HB1 := Lib.hid hb
          clear hk hown hb CW
          go_wp2
          exact bodyPost_ret (v := .tuple #[.int .u32 0, .int .u32 0, .slice none 0 0, .int .i64 2]) (by simp [results, Try.results17, go_sem]) rfl ⟨none, 0, 0, rfl, rfl, World.ownsRow_nil _ _ _ _, HB1.out⟩
        · obtain ⟨R0, E0, f0, ho⟩ := WOut.some (l.drop 20) (n4 l 12) (n4 l 16)
          have CW := Lib.hid (refWrap_t ho HSD.out.1 HSD.out.2 (some ⟨b, off + 20, none⟩) (n - 20) (c - 20) w (in_rest HI.out (by omega)) (by have := HN.out; omega))
          have HFR : Hid (fit R0) := Lib.hid (by
            rcases ho with ⟨_, _, rfl, _⟩ | ⟨_, _, rfl, _⟩ | ⟨_, rfl, _⟩
            · exact fit_wrp (fun x hx => HFL.out x (List.mem_of_mem_drop hx))
            · intro b hb; cases hb
            · intro b hb; cases hb)
          have HLR : Hid (n - 20 = (l.drop 20).length) := Lib.hid (by rw [List.length_drop, HL.out])
          have HO := Lib.hid ho
          obtain ⟨s, hs⟩ : ∃ s, s = n4 l 12 := ⟨_, rfl⟩
          obtain ⟨d, hd⟩ : ∃ d, d = n4 l 16 := ⟨_, rfl⟩
          rw [← hs, ← hd] at CW HO
          rw [← hs, ← hd]
          have HES' := Lib.hid hs
          have HED' := Lib.hid hd
          obtain ⟨m, hm⟩ : ∃ m, m = n - 20 := ⟨_, rfl⟩
          obtain ⟨cr, hcr⟩ : ∃ cr, cr = c - 20 := ⟨_, rfl⟩
          have hsub : (n : Int) - 20 = (m : Int) := by omega
          have hsub2 : (c : Int) - 20 = (cr : Int) := by omega
          clear hs hd HES HED HSD HC HF12 HF16 hj hlj ho hm hcr
          go_wp2_with fail
          refine CW.out.mono ?_
          rintro e w1 ⟨ao, k, cp, rfl, hk, hown, hb⟩
          subst hk
          have HB1 := Lib.hid hb
          have HOW := Lib.hid (own_in hown rfl HFR.out)
          have HI1 := Lib.hid (HI.out.below hb)
          clear hown hb CW
          rcases HO.out with ⟨his, hle, he, -, rfl⟩ | ⟨-, hgt, -, -, rfl⟩ | ⟨hni, -, -, rfl⟩
          · have sA := str_of HOW.out.here rfl
            have sB := str_of HI1.out.here HI1.out.len
            have sq := str_eq HFR.out HFL.out
            by_cases hw : IsW l
            · rcases HU.out with ⟨_, rfl, rfl, rfl, rfl, rfl, rfl⟩ | ⟨hw2, _⟩
              · have e1 : same R0 l = true := by
                  unfold same
                  rw [he, HES'.out, HED'.out]
                  exact decide_eq_true hw.2.2
                rw [e1] at sq
                have hle2 : n - 20 ≤ 1480 := by rw [HLR.out]; exact hle
                have own0 := Lib.hid (World.ownsRow_made (base := w.heap.size) (e := 5) (size := 1) w1 #[] 0 HB1.out.size (by decide) rfl)
                have HIR := Lib.hid (in_rest (HI1.out.below (bl_al (Below.refl _ _) (.cells #[] 5))) (by omega))
                have HBA := Lib.hid (bl_al HB1.out (.cells #[] 5))
                obtain ⟨s1, hs1⟩ : ∃ s, s = strOfNums R0 := ⟨_, rfl⟩
                obtain ⟨s2, hs2⟩ : ∃ s, s = strOfNums l := ⟨_, rfl⟩
                rw [← hs1] at sA sq
                rw [← hs2] at sB sq
                have sn : (s1.toList != s2.toList) = false := by simp [bne, sq]
                clear hs1 hs2 e1 he hw his hle HO HOW
                go_wp2_with (at_builtin; refine append_any rfl (.tmp 55) (.tmp 57) 24 rfl w.heap.size 5 i0 (.int .u8 0) 1 1 Try.underlying24 hi0 hz0 hz1 hz2 rfl (by decide) _ 0 [] rfl own0.out (some ⟨b, off + 20, none⟩) (n - 20) (c - 20) (u8s (l.drop 20)) rfl HIR.out.zero ?c1 HIR.out.cells (u8s_one _) ?c2 ?c3 ?c4 ?_)
                case c1 => unfold u8s; rw [List.length_map, HIR.out.len]; omega
                case c2 => unfold maxLen; omega
                case c3 => omega
                case c4 => exact HBA.out.size
                intro v2 w2 hown hg
                have HB2 := Lib.hid (HBA.out.grown hg HBA.out.size (fun k hk => (own0.out.lt k hk).1))
                obtain ⟨a2, c2, rfl⟩ := own_form hown
                have HO2 := Lib.hid hown
                clear hown hg own0 HIR HBA HB1 sA sB
                go_wp2
                exact bodyPost_ret (v := .tuple #[.int .u32 s, .int .u32 d, .slice a2 (n - 20) c2, .int .i64 0]) (by simp [results, Try.results17, go_sem]) rfl ⟨a2, _, c2, by rw [HES'.out, HED'.out], HLR.out, HO2.out, HB2.out⟩
              · exact absurd hw hw2
            · rcases HU.out with ⟨hw2, _⟩ | ⟨_, rfl, rfl, rfl, rfl, rfl, rfl⟩
              · exact absurd hw2 hw
              · have e1 : same R0 l = false := by
                  unfold same
                  rw [he, HES'.out, HED'.out]
                  refine decide_eq_false (fun e => hw ⟨his, ?_, e⟩)
                  rw [List.length_drop] at hle
                  omega
                rw [e1] at sq
                obtain ⟨s1, hs1⟩ : ∃ s, s = strOfNums R0 := ⟨_, rfl⟩
                obtain ⟨s2, hs2⟩ : ∃ s, s = strOfNums l := ⟨_, rfl⟩
                rw [← hs1] at sA sq
                rw [← hs2] at sB sq
                have sn : (s1.toList != s2.toList) = true := by simp [bne, sq]
                clear hs1 hs2 e1 he hw his hle HO HOW
                go_wp2
                exact bodyPost_ret (v := .tuple #[.int .u32 0, .int .u32 0, .slice none 0 0, .int .i64 2]) (by simp [results, Try.results17, go_sem]) rfl ⟨none, 0, 0, rfl, rfl, World.ownsRow_nil _ _ _ _, HB1.out⟩
          · have hno : ¬ IsW l := fun hw => by
              have := hw.2.1
              rw [List.length_drop] at hgt
              omega
            rcases HU.out with ⟨hw2, _⟩ | ⟨_, rfl, rfl, rfl, rfl, rfl, rfl⟩
            · exact absurd hw2 hno
            · clear hno hgt HO HOW
              go_wp2
              exact bodyPost_ret (v := .tuple #[.int .u32 0, .int .u32 0, .slice none 0 0, .int .i64 2]) (by simp [results, Try.results17, go_sem]) rfl ⟨none, 0, 0, rfl, rfl, World.ownsRow_nil _ _ _ _, HB1.out⟩
          · have hno : ¬ IsW l := fun hw => hni hw.1
            rcases HU.out with ⟨hw2, _⟩ | ⟨_, rfl, rfl, rfl, rfl, rfl, rfl⟩
            · exact absurd hw2 hno
            · clear hno hni HO HOW
              go_wp2
              exact bodyPost_ret (v := .tuple #[.int .u32 0, .int .u32 0, .slice none 0 0, .int .i64 2]) (by simp [results, Try.results17, go_sem]) rfl ⟨none, 0, 0, rfl, rfl, World.ownsRow_nil _ _ _ _, HB1.out⟩
end Go.Proofs.Ytfbmeoiaedlgoaa
