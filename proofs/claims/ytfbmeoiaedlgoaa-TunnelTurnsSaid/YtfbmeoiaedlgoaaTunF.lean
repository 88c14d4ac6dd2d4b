/- Contract of towpathlaw05.alive: it returns true; a wrapped packet with a byte changed, or cut, is none; numbers of Wrap's and Unwrap's errors; two rows apart. Conditions: those stated. -/
import Derived.Test.YtfbmeoiaedlgoaaTunE
namespace Go.Proofs.Ytfbmeoiaedlgoaa
open Go Go.RowKit
set_option linter.unusedVariables false
set_option linter.unusedSimpArgs false

theorem ohd_good (s d : Int) (n : Nat) : ws (ohd s d n) % 65535 = 0 := by
  unfold ohd
  rw [ws_hdr _ _ _ (osum_w16 s d n)]
  unfold osum
  have h := (ws_fits _ (fit_hdr (ot s d) n 0)).1
  have h2 := car_mod h
  omega
theorem wrp_take (s d : Int) (l : List Int) : (wrp s d l).take 20 = ohd s d l.length := rfl
theorem IsW.good {b : List Int} (h : IsW b) : ws (b.take 20) % 65535 = 0 := by
  have e := h.2.2
  rw [← e, wrp_take]
  exact ohd_good _ _ _
theorem turn_bad {b : List Int} (h : IsW b) (hf : fit b) {i : Nat} {v : Int} (hi : i < b.length) (hv : 0 ≤ v ∧ v < 256) (hne : v ≠ b.getD i 0) : ¬ IsW (b.set i v) := by
  intro h2
  by_cases h20 : i < 20
  · have g := h2.good
    rw [show (b.set i v).take 20 = (b.take 20).set i v from List.take_set] at g
    refine set_bad (fit_take hf 20) (by rw [List.length_take]; omega) hv ?_ h.good g
    rw [List.getD_eq_getElem?_getD, List.getElem?_take, if_pos h20, ← List.getD_eq_getElem?_getD]
    exact hne
  · have h3 := h2.1
    rw [show (b.set i v).drop 20 = (b.drop 20).set (i - 20) v by rw [List.drop_set, if_neg h20]] at h3
    refine slip h.1 (fun x hx => hf x (List.mem_of_mem_drop hx)) (by rw [List.length_drop]; omega) hv ?_ h3
    rw [drop_at, show 20 + (i - 20) = i by omega]
    exact hne
theorem cutW_bad {b : List Int} (h : IsW b) {k : Nat} (hk : k < b.length) : ¬ IsW (b.take k) := by
  intro h2
  have s := h2.more
  rw [List.length_take] at s
  have h3 := h2.1
  rw [List.drop_take] at h3
  exact cut_bad h.1 (k := k - 20) (by rw [List.length_drop]; omega) h3

set_option maxRecDepth 100000 in
theorem num_four (w : World) : Calls Try.prog 13 #[errno 4] w fun e w' => e = .returned (.int .i64 4) ∧ w = w' := by
  have ta : ∀ w : World, (Instr.typeAssert (errno 4) 28 47 true).run Try.prog w = .ok (.tuple #[.int .i64 4, .bool true]) w := fun _ => by kernel_rfl
  go_enter Try.func13, Try.ntmps13
  go_wp2
  go_ret
  exact ⟨rfl, rfl⟩
theorem num_wout {l : List Int} {s d : Int} {R : List Int} {E : Value} {f : Int} (h : WOut l s d R E f) (w : World) : Calls Try.prog 13 #[E] w fun e w' => e = .returned (.int .i64 f) ∧ w = w' := by
  rcases h with ⟨_, _, _, rfl, rfl⟩ | ⟨_, _, _, rfl, rfl⟩ | ⟨_, _, rfl, rfl⟩
  · exact num_nil w
  · exact num_four w
  · exact num_two w
theorem num_uout {l : List Int} {S D : Int} {R : List Int} {E : Value} {f : Int} {z : Bool} (h : UOut l S D R E f z) (w : World) : Calls Try.prog 13 #[E] w fun e w' => e = .returned (.int .i64 f) ∧ w = w' := by
  rcases h with ⟨_, _, _, _, rfl, rfl, _⟩ | ⟨_, _, _, _, rfl, rfl, _⟩
  · exact num_nil w
  · exact num_two w
theorem fit_wout {l : List Int} {s d : Int} {R : List Int} {E : Value} {f : Int} (h : WOut l s d R E f) (hf : fit l) : fit R := by
  rcases h with ⟨_, _, rfl, _⟩ | ⟨_, _, rfl, _⟩ | ⟨_, rfl, _⟩
  · exact fit_wrp hf
  · intro b hb; cases hb
  · intro b hb; cases hb

/-- Fewer bytes of a row of the call's own. -/
theorem own_shorter {w : World} {B n m g cap : Nat} {l : List Int} (h : w.ownsRow B 5 1 (.slice (some ⟨g, 0, none⟩) n cap) n (u8s l)) (hm : m ≤ n) : w.ownsRow B 5 1 (.slice (some ⟨g, 0, none⟩) m cap) m (u8s (l.take m)) := by
  obtain ⟨h1, h2⟩ := h
  rcases h2 with ⟨e, _⟩ | ⟨g', cap', cur, e, hb, hg, h3, h4, h5, h6⟩
  · simp at e
  · simp only [Value.slice.injEq, Option.some.injEq] at e
    obtain ⟨e1, _, rfl⟩ := e
    cases e1
    have hl : l.length = n := by simpa [u8s] using h1
    refine ⟨by simp [u8s, List.length_take]; omega, .inr ⟨g, cap, cur, rfl, hb, hg, by omega, h4, h5, ?_⟩⟩
    have : u8s (l.take m) = (u8s l).take m := by unfold u8s; rw [List.map_take]
    rw [this, ← h6, List.take_take, Nat.mul_one, Nat.mul_one, Nat.min_eq_left hm]
theorem Geo.swap {B k : Nat} {u v : Value} (h : Geo B k 2 (two u v)) : Geo B k 2 (two v u) := by
  constructor
  · intro i j hi hj hij
    have : (i = 0 ∧ j = 1) ∨ (i = 1 ∧ j = 0) := by omega
    rcases this with ⟨rfl, rfl⟩ | ⟨rfl, rfl⟩
    · exact h.dist 1 0 (by omega) (by omega) (by omega)
    · exact h.dist 0 1 (by omega) (by omega) (by omega)
  · intro i hi
    have : i = 0 ∨ i = 1 := by omega
    rcases this with rfl | rfl
    · exact h.away 1 (by omega)
    · exact h.away 0 (by omega)
/-- Apart of a row and of the copy that was made ahead of it. -/
theorem apart_two {w1 w2 w3 : World} {B g n k cp : Nat} {ao : Option Addr} {l R : List Int} (hO : Own w1 B g (n + 2) (n + 2) (l ++ [165, 90])) (hn : l.length = n) (hR : w2.ownsRow w1.heap.size 5 1 (.slice ao k cp) k (u8s R)) (hk : k = R.length) (h1 : Below w1.heap.size w1 w3) (h2 : Below w2.heap.size w2 w3) (hB : B ≤ w1.heap.size) (h47 : n ≤ 140737488351232) (hk47 : k ≤ 140737488351232) :
    Calls Try.prog 15 #[.slice (some ⟨w3.heap.size, 0, none⟩) 2 2] (w3.alloc (.cells #[.slice ao k cp, .slice (some ⟨g, 0, none⟩) n (n + 2)] 24)) fun e w' => e = .returned (.bool true) ∧ Below B (w3.alloc (.cells #[.slice ao k cp, .slice (some ⟨g, 0, none⟩) n (n + 2)] 24)) w' := by
  have o1 : w1.ownsRow B 5 1 (.slice (some ⟨g, 0, none⟩) n (n + 2)) n (u8s l) := by
    have := own_shorter hO.1 (m := n) (by omega)
    rwa [List.take_append_of_le_length (by omega), List.take_of_length_le (by omega)] at this
  have G := (geo2 o1 hR (Nat.le_refl _) (k := w3.heap.size) h2.size h1.size).swap
  have s1 := h1.size
  refine apart_any _ B w3.heap.size 2 2 (two (.slice ao k cp) (.slice (some ⟨g, 0, none⟩) n (n + 2))) (fun i => if i = 0 then k else n) (by omega) G ?_ ?_ ?_ (by simp) (by simp; omega)
  · intro i hi
    have : i = 0 ∨ i = 1 := by omega
    rcases this with rfl | rfl
    · exact cells_new w3 [.slice ao k cp, .slice (some ⟨g, 0, none⟩) n (n + 2)] 24 (0, 0) 0 _ rfl
    · exact cells_new w3 [.slice ao k cp, .slice (some ⟨g, 0, none⟩) n (n + 2)] 24 (0, 0) 1 _ rfl
  · intro i hi
    have : i = 0 ∨ i = 1 := by omega
    rcases this with rfl | rfl
    · exact ⟨R, hk.symm, own_base ((owns_bel hR h2).alloc _) hB⟩
    · exact ⟨l, hn, (owns_bel o1 h1).alloc _⟩
  · intro i hi
    show (if i = 0 then k else n) ≤ _
    split <;> assumption

def ex5 : Pk := ⟨0, 0, 64, 17, 1, 2, 3, 4, 0, 0, 0, 0, []⟩
theorem ex5_ok : Ok ex5 := ⟨by decide, by decide, by decide, by decide, by decide, by decide, by decide, by decide, by decide, by decide⟩
theorem ex5_typed : Typed ex5 := ⟨by decide, by decide, by decide, by decide, by intro b hb; cases hb⟩

set_option maxRecDepth 100000 in
set_option maxHeartbeats 1000000 in
theorem alive5_any (w : World) : Calls Try.prog 9 #[] w fun e w' => e = .returned (.bool true) ∧ Below w.heap.size w w' := by
  obtain ⟨p, hp⟩ : ∃ p, p = ex5 := ⟨_, rfl⟩
  have hok : Ok p := by rw [hp]; exact ex5_ok
  have hty : Typed p := by rw [hp]; exact ex5_typed
  have hdat : p.data = [] := by rw [hp]; rfl
  have h28 : 20 + segLen p = 28 := by rw [hp]; decide
  have hbl : (bts p).length = 28 := by rw [bts_len, h28]
  have his := (Is.of hok hty (b := bts p) rfl).1
  have hfb := fit_bts hty.data
  have CB := Lib.hid (fun W => refBuild_ok p none 0 0 hok hty W (by rw [hdat]; exact in_nil W))
  unfold RBuilt at CB
  rw [h28] at CB
  have hsA : (0 : Int) ≤ 167772192 ∧ (167772192 : Int) < 4294967296 := by decide
  have hsB : (0 : Int) ≤ 167837697 ∧ (167837697 : Int) < 4294967296 := by decide
  have ho : WOut (bts p) 167772192 167837697 (wrp 167772192 167837697 (bts p)) .nilIface 0 := .inl ⟨his, by omega, rfl, rfl, rfl⟩
  have CW := Lib.hid (fun (W : World) (a : Option Addr) (c : Nat) (h : In W a 28 c (bts p)) => wrap_t ho hsA hsB a 28 c W h (by omega))
  have hwl : (wrp 167772192 167837697 (bts p)).length = 48 := by rw [wrp_len, hbl]
  have hw : IsW (wrp 167772192 167837697 (bts p)) := IsW.of hsA hsB his (by omega)
  have h9 : (wrp 167772192 167837697 (bts p)).getD 9 0 = 4 := rfl
  obtain ⟨r, hr⟩ : ∃ r, r = wrp 167772192 167837697 (bts p) := ⟨_, rfl⟩
  rw [← hr] at CW hwl hw h9
  have C1 := Lib.hid (fun (W : World) (a : Option Addr) (c : Nat) (h : In W a 48 c r) => is_t (z := true) (by simp [hw]) a 48 c W h (by omega))
  have C2 := Lib.hid (fun (W : World) (a : Option Addr) (c : Nat) (h : In W a 28 c (bts p)) => is_t (z := false) (by simp; exact fun h => h.not his) a 28 c W h (by omega))
  have HWL := Lib.hid hwl
  have H9 := Lib.hid h9
  have HFR : Hid (fit r) := Lib.hid (by rw [hr]; exact fit_wrp hfb)
  have HPV : Hid (p.val none 0 0 = ex5.val none 0 0) := Lib.hid (by rw [hp])
  rw [HPV.out] at CB
  clear hok hty hdat h28 hbl his hfb ho hwl hw h9 hr hsA hsB hp HPV
  go_enter Try.func9, Try.ntmps9
  go_wp2_with fail
  refine (CB.out w).mono ?_
  rintro e w1 ⟨a1, c1, rfl, hin, hb⟩
  have HI1 := Lib.hid hin
  have HB1 := Lib.hid hb
  clear hin hb CB
  go_wp2_with fail
  refine (CW.out w1 a1 c1 HI1.out).mono ?_
  rintro e w2 ⟨a2, k2, c2, rfl, hk, hown, hb⟩
  obtain rfl : k2 = 48 := by rw [hk]; exact HWL.out
  have HI2 := Lib.hid (own_in hown HWL.out HFR.out)
  have HB2 := Lib.hid (bl_tr HB1.out hb)
  have HI1' := Lib.hid (HI1.out.below hb)
  obtain ⟨b, off, rfl⟩ := in_block HI2.out (by omega)
  have e9 := in_cell HI2.out 9 (by omega)
  rw [H9.out] at e9
  clear hk hown hb HI1 HB1 CW
  go_wp2_with fail
  refine (C1.out w2 _ c2 HI2.out).mono ?_
  rintro e w3 ⟨rfl, hb⟩
  have HB3 := Lib.hid (bl_tr HB2.out hb)
  have HI3 := Lib.hid (HI1'.out.below hb)
  clear hb HI2 HI1' HB2 e9
  go_wp2_with fail
  refine (C2.out w3 a1 c1 HI3.out).mono ?_
  rintro e w4 ⟨rfl, hb⟩
  have HB4 := Lib.hid (bl_tr HB3.out hb)
  clear hb
  go_wp2
  go_ret
  exact ⟨rfl, HB4.out⟩
end Go.Proofs.Ytfbmeoiaedlgoaa
