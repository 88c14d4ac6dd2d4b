/- Contracts of tunnel's head and Wrap. Conditions: the row came in, of at most 2^62 bytes; addresses of 32 bits. -/
import Derived.Test.YtfbmeoiaedlgoaaTunA
import Derived.Test.YtfbmeoiaedlgoaaFlowA
namespace Go.Proofs.Ytfbmeoiaedlgoaa
open Go Go.RowKit
set_option linter.unusedVariables false
set_option linter.unusedSimpArgs false

theorem own_lit (w : World) (l : List Int) (C : Array Value) (hC : C = (l.map (Value.int .u8)).toArray) (n B : Nat) (hn : n = l.length) (hB : B ≤ w.heap.size) (hm : n ≤ maxLen) :
    (w.alloc (.cells C 5)).ownsRow B 5 1 (.slice (some ⟨w.heap.size, 0, none⟩) n n) n (u8s l) := by
  subst hC hn
  exact ⟨by simp [u8s], .inr ⟨w.heap.size, l.length, _, rfl, hB, heap_alloc_new w _, Nat.le_refl _, hm, by simp, by simp only [u8s, Nat.mul_one]; exact List.take_of_length_le (by simp)⟩⟩

set_option maxRecDepth 100000 in
set_option maxHeartbeats 400000 in
theorem head_any (s d : Int) (m : Nat) (hs : 0 ≤ s ∧ s < 4294967296) (hd : 0 ≤ d ∧ d < 4294967296) (hm : m ≤ 1480) (w : World) :
    Calls Try.prog 29 #[.int .u32 s, .int .u32 d, .int .i64 (20 + m)] w fun e w' => ∃ ao c, e = .returned (.slice ao 20 c) ∧ w'.ownsRow w.heap.size 5 1 (.slice ao 20 c) 20 (u8s (ohd s d m)) ∧ Below w.heap.size w w' := by
  have v1 : IntKind.u8.wrap ((20 + (m : Int)) / 256) = (20 + (m : Int)) / 256 % 256 := IntKind.wrap_u8' _
  have v2 : IntKind.u8.wrap (20 + (m : Int)) = (20 + (m : Int)) % 256 := IntKind.wrap_u8' _
  obtain ⟨l0, hl0⟩ : ∃ l, l = hdr (ot s d) m 0 := ⟨_, rfl⟩
  have hsum : 65535 - car (ws l0) = osum s d m := by rw [hl0]; rfl
  have hset : setw l0 5 (osum s d m / 256 % 256) (osum s d m % 256) = ohd s d m := by rw [hl0, hdr_set]; rfl
  have hf0 : fit l0 := by rw [hl0]; exact fit_hdr _ _ _
  have h20 : l0.length = 20 := by rw [hl0]; rfl
  have hw := osum_w16 s d m
  obtain ⟨x, hx⟩ : ∃ x, x = (20 + (m : Int)) / 256 % 256 := ⟨_, rfl⟩
  obtain ⟨y, hy⟩ : ∃ y, y = (20 + (m : Int)) % 256 := ⟨_, rfl⟩
  have happ : ([69, 0, x, y, 0, 0, 64, 0, 64, 4, 0, 0] ++ b4 s) ++ b4 d = l0 := by rw [hx, hy, hl0]; rfl
  rw [← hx] at v1
  rw [← hy] at v2
  obtain ⟨k, hk⟩ : ∃ k, k = osum s d m := ⟨_, rfl⟩
  rw [← hk] at hsum hset hw
  have HS := Lib.hid hs
  have HD := Lib.hid hd
  have HAPP := Lib.hid happ
  have HSUM := Lib.hid hsum
  have HSET := Lib.hid hset
  have HF0 := Lib.hid hf0
  have H20 := Lib.hid h20
  have O0 := Lib.hid (own_lit w [69, 0, x, y, 0, 0, 64, 0, 64, 4, 0, 0] #[.int .u8 69, .int .u8 0, .int .u8 x, .int .u8 y, .int .u8 0, .int .u8 0, .int .u8 64, .int .u8 0, .int .u8 64, .int .u8 4, .int .u8 0, .int .u8 0] rfl 12 w.heap.size rfl (Nat.le_refl _) (by unfold maxLen; omega))
  have HB0 := Lib.hid (bl_al (Below.refl w.heap.size w) (.cells #[.int .u8 69, .int .u8 0, .int .u8 x, .int .u8 y, .int .u8 0, .int .u8 0, .int .u8 64, .int .u8 0, .int .u8 64, .int .u8 4, .int .u8 0, .int .u8 0] 5))
  have u1 : IntKind.u8.wrap (k / 256) = k / 256 % 256 := IntKind.wrap_u8' _
  have u2 : IntKind.u8.wrap k = k % 256 := IntKind.wrap_u8' _
  obtain ⟨p, hp⟩ : ∃ p, p = k / 256 % 256 := ⟨_, rfl⟩
  obtain ⟨q, hq⟩ : ∃ q, q = k % 256 := ⟨_, rfl⟩
  rw [← hp] at u1
  rw [← hq] at u2
  rw [← hp, ← hq] at HSET
  obtain ⟨k0, k1⟩ := hw
  clear hx hy hk hs hd happ hsum hset hf0 h20 hl0 hp hq
  go_enter Try.func29, Try.ntmps29
  go_wp2_with fail
  refine (addr_app _ _ 12 12 s HS.out w.heap.size _ O0.out HB0.out.size (by omega)).mono ?_
  rintro e w1 ⟨a1, c1, rfl, ho, hb⟩
  have O1 := Lib.hid ho
  have HB1 := Lib.hid (HB0.out.trans hb)
  clear ho hb O0 HB0 v1 v2
  go_wp2_with fail
  refine (addr_app _ _ 16 c1 d HD.out w.heap.size _ O1.out HB1.out.size (by omega)).mono ?_
  rintro e w2 ⟨a2, c2, rfl, ho, hb⟩
  rw [HAPP.out] at ho
  have O2 := Lib.hid ho
  have HB2 := Lib.hid (HB1.out.trans hb)
  have HA2 : Hid (At w2 (.slice a2 20 c2) l0) := Lib.hid (At.own (v := .slice a2 20 c2) (l := l0) (by rw [H20.out]; exact ho))
  clear ho hb O1 HB1
  go_wp2_with fail
  refine (sum1 HA2.out HF0.out (by rw [H20.out]; omega) _ rfl).mono ?_
  rintro e w3 ⟨rfl, rfl⟩
  rw [HSUM.out]
  obtain ⟨g, cap, hv, hgb⟩ := own_shape O2.out (by omega)
  simp only [Value.slice.injEq] at hv
  obtain ⟨rfl, _, rfl⟩ := hv
  obtain ⟨X, hX⟩ : ∃ X, X = w2.alloc (.cells #[.slice (some ⟨g, 0, none⟩) 20 c2] 24) := ⟨_, rfl⟩
  have O3 : Hid (X.ownsRow w.heap.size 5 1 (.slice (some ⟨g, 0, none⟩) 20 c2) 20 (u8s l0)) := Lib.hid (by rw [hX]; exact O2.out.alloc _)
  have HB3 : Hid (Below w.heap.size w X) := Lib.hid (by rw [hX]; exact bl_al HB2.out _)
  rw [← hX]
  have e1 := (O3.out.cellAt 10 (by omega)).trans (u8s_at (l := l0) (by rw [H20.out]; omega))
  have e2 := (O3.out.cellAt 11 (by omega)).trans (u8s_at (l := l0) (by rw [H20.out]; omega))
  have e3 := O3.out.frozenAt 10
  have e4 := O3.out.frozenAt 11
  obtain ⟨t1, ht1⟩ : ∃ t, t = l0.getD 10 0 := ⟨_, rfl⟩
  obtain ⟨t2, ht2⟩ : ∃ t, t = l0.getD 11 0 := ⟨_, rfl⟩
  rw [← ht1] at e1
  rw [← ht2] at e2
  clear hX ht1 ht2 O2 HB2 HA2
  go_wp2
  go_ret
  refine ⟨_, c2, rfl, ?_, ?_⟩
  · have h3 := (O3.out.stored 10 (.int .u8 p)).1
    have h4 := (h3.stored 11 (.int .u8 q)).1
    rw [u8s_set, u8s_set] at h4
    rw [← HSET.out]
    exact h4
  · exact bl_put HB3.out hgb 10 11 _ _

/-- What Wrap answers. -/
def WOut (l : List Int) (s d : Int) (R : List Int) (E : Value) (f : Int) : Prop :=
  (Is l ∧ l.length ≤ 1480 ∧ R = wrp s d l ∧ E = .nilIface ∧ f = 0) ∨ (Is l ∧ 1480 < l.length ∧ R = [] ∧ E = errno 4 ∧ f = 4) ∨ (¬ Is l ∧ R = [] ∧ E = errno 2 ∧ f = 2)
theorem WOut.some (l : List Int) (s d : Int) : ∃ R E f, WOut l s d R E f := by
  by_cases h : Is l
  · by_cases h2 : l.length ≤ 1480
    · exact ⟨_, _, _, .inl ⟨h, h2, rfl, rfl, rfl⟩⟩
    · exact ⟨_, _, _, .inr (.inl ⟨h, by omega, rfl, rfl, rfl⟩)⟩
  · exact ⟨_, _, _, .inr (.inr ⟨h, rfl, rfl, rfl⟩)⟩
/-- A row of the call's own, and an error. -/
def Tun (w : World) (R : List Int) (E : Value) (e : Ending) (w' : World) : Prop :=
  ∃ ao k cp, e = .returned (.tuple #[.slice ao k cp, E]) ∧ k = R.length ∧ w'.ownsRow w.heap.size 5 1 (.slice ao k cp) k (u8s R) ∧ Below w.heap.size w w'

set_option maxRecDepth 100000 in
set_option maxHeartbeats 400000 in
theorem wrap_t {l : List Int} {s d : Int} {R : List Int} {E : Value} {f : Int} (h : WOut l s d R E f) (hs : 0 ≤ s ∧ s < 4294967296) (hd : 0 ≤ d ∧ d < 4294967296) (a : Option Addr) (n c : Nat) (w : World) (hI : In w a n c l) (hn : n ≤ 4611686018427387904) :
    Calls Try.prog 11 #[.int .u32 s, .int .u32 d, .slice a n c] w (Tun w R E) := by
  have HI := Lib.hid hI
  obtain ⟨i0, hi0, hz0, hz1, hz2⟩ := info_parts info5
  rcases h with ⟨hi, hl, rfl, rfl, rfl⟩ | ⟨hi, hl, rfl, rfl, rfl⟩ | ⟨hi, rfl, rfl, rfl⟩
  · have C := Lib.hid (fun W (h : In W a n c l) => flow_t (.inl ⟨hi, rfl, rfl, rfl, rfl⟩) a n c W h hn)
    have hnl : n ≤ 1480 := by rw [← hI.len]; exact hl
    have D := Lib.hid (fun W => head_any s d n hs hd hnl W)
    have hgt : decide ((1480 : Int) < (n : Int)) = false := decide_eq_false (by omega)
    obtain ⟨p, hp⟩ : ∃ p, p = dec l := ⟨_, rfl⟩
    rw [← hp] at C
    have HW : Hid (wrp s d l = ohd s d n ++ l) := Lib.hid (by unfold wrp; rw [hI.len])
    clear hI hi hs hd hp hl
    go_enter Try.func11, Try.ntmps11
    go_wp2_with fail
    refine (C.out w HI.out).mono ?_
    rintro e w1 ⟨rfl, hb⟩
    have HB1 := Lib.hid (bl_al hb p.fobj)
    have HI1 := Lib.hid (HI.out.below HB1.out)
    clear hb
    go_wp2_with fail
    refine (D.out _).mono ?_
    rintro e w2 ⟨a2, c2, rfl, ho, hb⟩
    have HB2 := Lib.hid (bl_tr HB1.out hb)
    have HI2 := Lib.hid (HI1.out.below hb)
    have HO2 := Lib.hid (own_base ho HB1.out.size)
    clear hb ho HB1 HI1 C D
    go_wp2_with (at_builtin; refine append_any rfl (.tmp 27) (.tmp 28) 24 rfl w.heap.size 5 i0 (.int .u8 0) 1 1 Try.underlying24 hi0 hz0 hz1 hz2 rfl (by decide) _ 20 (u8s (ohd s d n)) rfl HO2.out a n c (u8s l) rfl HI2.out.zero ?c1 HI2.out.cells (u8s_one _) ?c2 ?c3 ?c4 ?_)
    case c1 => unfold u8s; rw [List.length_map, HI2.out.len]; omega
    case c2 => unfold maxLen; omega
    case c3 => omega
    case c4 => exact HB2.out.size
    intro v3 w3 hown hg
    have HB3 := Lib.hid (HB2.out.grown hg HB2.out.size (fun k hk => (HO2.out.lt k hk).1))
    rw [u8s_app, ← HW.out] at hown
    obtain ⟨a3, c3, rfl⟩ := own_form hown
    have HO3 := Lib.hid hown
    have HL : Hid (20 + n = (wrp s d l).length) := Lib.hid (by rw [wrp_len, HI2.out.len])
    clear hown hg HO2 HI2 HB2
    go_wp2
    go_ret2
    exact ⟨a3, 20 + n, c3, rfl, HL.out, HO3.out, HB3.out⟩
  · have C := Lib.hid (fun W (h : In W a n c l) => flow_t (.inl ⟨hi, rfl, rfl, rfl, rfl⟩) a n c W h hn)
    have hgt : decide ((1480 : Int) < (n : Int)) = true := decide_eq_true (by have := hI.len; omega)
    obtain ⟨p, hp⟩ : ∃ p, p = dec l := ⟨_, rfl⟩
    rw [← hp] at C
    clear hI hi hs hd hp hl
    go_enter Try.func11, Try.ntmps11
    go_wp2_with fail
    refine (C.out w HI.out).mono ?_
    rintro e w1 ⟨rfl, hb⟩
    have HB1 := Lib.hid (bl_al hb p.fobj)
    clear hb
    go_wp2
    go_ret2
    exact ⟨none, 0, 0, rfl, rfl, World.ownsRow_nil _ _ _ _, HB1.out⟩
  · have C := Lib.hid (fun W (h : In W a n c l) => flow_t (.inr ⟨hi, rfl, rfl, rfl, rfl⟩) a n c W h hn)
    clear hI hi hs hd
    go_enter Try.func11, Try.ntmps11
    go_wp2_with fail
    refine (C.out w HI.out).mono ?_
    rintro e w1 ⟨rfl, hb⟩
    have HB1 := Lib.hid (bl_al hb zeroP.fobj)
    clear hb
    go_wp2
    go_ret2
    exact ⟨none, 0, 0, rfl, rfl, World.ownsRow_nil _ _ _ _, HB1.out⟩
end Go.Proofs.Ytfbmeoiaedlgoaa
