/- Rows of rows that came in; strings.Clone; slices.Grow of nil and slices.Concat; bytes.Equal, bytes.Clone. Conditions: rows came in; at most 2^27 bytes. -/
import Derived.Test.YtbkpkakjfhkfaaaSbM
import Derived.Test.YtbkpkakjfhkfaaaNumA
import Derived.Test.YtbkpkakjfhkfaaaGenB
import Derived.Lib.AppendZeros
import Derived.Laws.Rows
import Derived.Deep.CutRange
namespace Go.Proofs.Ytbkpkakjfhkfaaa
open Go Go.RowKit
set_option linter.unusedVariables false
set_option linter.unusedSimpArgs false

/-- Values of rows that came in. -/
def Ris (w : World) : List Value → List (List Int) → Prop
  | [], [] => True
  | v :: vs, p :: ps => (∃ a n c, v = .slice a n c ∧ In w a n c p) ∧ Ris w vs ps
  | _, _ => False
theorem Ris.len {w : World} : ∀ {vs : List Value} {ps : List (List Int)}, Ris w vs ps → vs.length = ps.length
  | [], [], _ => rfl
  | _ :: vs, _ :: ps, h => by rw [List.length_cons, List.length_cons, Ris.len h.2]
  | [], _ :: _, h => h.elim
  | _ :: _, [], h => h.elim
theorem Ris.at {w : World} : ∀ {vs : List Value} {ps : List (List Int)}, Ris w vs ps → ∀ {j : Nat}, j < ps.length → ∃ a n c, vs.getD j undef = .slice a n c ∧ In w a n c (ps.getD j [])
  | [], [], _, j, hj => by simp at hj
  | _ :: vs, _ :: ps, h, 0, _ => h.1
  | _ :: vs, _ :: ps, h, j + 1, hj => Ris.at h.2 (j := j) (by simpa using hj)
  | [], _ :: _, h, _, _ => h.elim
  | _ :: _, [], h, _, _ => h.elim
theorem Ris.below {w w' : World} : ∀ {vs : List Value} {ps : List (List Int)}, Ris w vs ps → Below w.heap.size w w' → Ris w' vs ps
  | [], [], _, _ => trivial
  | _ :: vs, _ :: ps, h, hb => ⟨by obtain ⟨a, n, c, e, hi⟩ := h.1; exact ⟨a, n, c, e, hi.below hb⟩, Ris.below h.2 hb⟩
  | [], _ :: _, h, _ => h.elim
  | _ :: _, [], h, _ => h.elim
theorem Ris.fits {w : World} : ∀ {vs : List Value} {ps : List (List Int)}, Ris w vs ps → ∀ p ∈ ps, fit p
  | [], [], _, p, hp => by cases hp
  | _ :: vs, _ :: ps, h, p, hp => (List.mem_cons.1 hp).elim (fun e => by subst e; obtain ⟨a, n, c, _, hi⟩ := h.1; exact hi.fit) (fun hp => Ris.fits h.2 p hp)
  | [], _ :: _, h, _, _ => h.elim
  | _ :: _, [], h, _, _ => h.elim
/-- A row of rows, in block b. -/
structure RsIn (w : World) (b n : Nat) (us : List Value) (ps : List (List Int)) : Prop where
  len : ps.length = n
  here : ∀ j, j < n → w.cell? ⟨b, j, none⟩ = some (us.getD j undef)
  rows : Ris w us ps
theorem RsIn.below {w w' : World} {b n : Nat} {us : List Value} {ps : List (List Int)} (h : RsIn w b n us ps) (hb : Below w.heap.size w w') : RsIn w' b n us ps :=
  ⟨h.len, fun j hj => cell_later hb (h.here j hj), h.rows.below hb⟩
theorem RsIn.fit {w : World} {b n : Nat} {us : List Value} {ps : List (List Int)} (h : RsIn w b n us ps) : fit ps.flatten := fun x hx => by
  obtain ⟨p, hp, hx⟩ := List.mem_flatten.1 hx
  exact h.rows.fits p hp x hx
theorem len_at {ps : List (List Int)} {j : Nat} (hj : j < ps.length) : (ps.take (j + 1)).flatten = (ps.take j).flatten ++ ps.getD j [] ∧ (ps.take j).flatten.length + (ps.getD j []).length ≤ ps.flatten.length := by
  have h : ps[j]? = some (ps.getD j []) := by rw [List.getD_eq_getElem?_getD, List.getElem?_eq_getElem hj]; rfl
  exact ⟨(len_pre h).2, (len_pre h).1⟩
set_option maxRecDepth 100000 in
theorem grow_c (n : Nat) (w : World) (hn : n ≤ 268435456) :
    Calls Try.prog 112 #[.slice none 0 0, .int .i64 n] w fun e w' => ∃ v', e = .returned v' ∧ w'.ownsRow w.heap.size 5 1 v' 0 [] ∧ Below w.heap.size w w' := by
  obtain ⟨i0, hi0, hz0, hz1, hz2⟩ := info_parts info5
  by_cases h0 : n = 0
  · subst h0
    go_enter Try.func112, Try.ntmps112
    go_wp2
    go_ret
    exact ⟨_, rfl, ⟨rfl, .inl ⟨rfl, rfl⟩⟩, Below.refl _ _⟩
  · have h1 : ¬ ((n : Int) < 0) := by omega
    have h2 : (0 : Int) < (n : Int) := by omega
    have hrz : ∀ ty, (Builtin.append_ #[26, 3] ty #[.slice none 0 0, .int .i64 (n : Int)]).run Try.prog w = .ok (.slice (some ⟨w.heap.size, 0, none⟩) n (grownCap w n 0 5)) (w.drew.alloc (.cells (Builtin.zeroCells (.int .u8 0 : Value).cells n ++ Builtin.zeroCells (.int .u8 0 : Value).cells (grownCap w n 0 5 - n)) 5)) := fun ty =>
      Lib.run_append_nil_zeros w 26 3 ty 5 i0 _ .i64 .i64 Try.underlying26 Try.underlying3 hi0 hz0 n (by omega) (by rw [hz1]; decide) (by omega) (by rw [hz2]; omega)
    have hG := grownCap_le_maxLen w n 0 5 (by unfold maxLen; omega)
    have hG2 := grownCap_ge w n 0 5
    obtain ⟨G, eG⟩ : ∃ G, G = grownCap w n 0 5 := ⟨_, rfl⟩
    rw [← eG] at hrz hG hG2
    clear eG
    obtain ⟨O, hO⟩ : ∃ O, O = (Obj.cells (Builtin.zeroCells (.int .u8 0 : Value).cells n ++ Builtin.zeroCells (.int .u8 0 : Value).cells (G - n)) 5) := ⟨_, rfl⟩
    rw [← hO] at hrz
    have HOwn : Hid ((w.drew.alloc O).ownsRow w.heap.size 5 1 (.slice (some ⟨w.heap.size, 0, none⟩) 0 G) 0 []) := Lib.hid (by
      rw [hO]
      refine ⟨rfl, .inr ⟨w.heap.size, G, _, rfl, Nat.le_refl _, heap_alloc_new w.drew _, Nat.zero_le _, hG, ?_, by simp⟩⟩
      simp only [Array.size_append, size_zeroCells]
      change n * 1 + (G - n) * 1 = G * 1
      omega)
    have HG := Lib.hid (And.intro hG hG2)
    have g1 : G ≤ 9223372036854775807 := by unfold maxLen at hG; omega
    clear hO hG
    go_enter Try.func112, Try.ntmps112
    go_wp2_with (at_builtin; refine Lib.wpList_append_run _ rfl _ _ _ _ rfl _ _ rfl rfl _ _ (hrz _) ?_)
    go_ret
    exact ⟨_, rfl, HOwn.out, bl_al (Below.refl _ _).drew _⟩
theorem own_blkC {w : World} {B e n : Nat} {v : Value} {xs : List Value} (h : w.ownsRow B e 1 v n xs) {g : Nat} (hg : v.ownBlock = some g) : B ≤ g := (h.lt g hg).1
set_option maxRecDepth 100000 in
set_option maxHeartbeats 2000000 in
/-- The parts, one behind the other. -/
theorem concat_c (b n : Nat) (us : List Value) (ps : List (List Int)) (w : World) (h : RsIn w b n us ps) (hn : n ≤ 1048576) (hs : ps.flatten.length ≤ 268435456) :
    Calls Try.prog 82 #[.slice (some ⟨b, 0, none⟩) n n] w fun e w' => (∃ ao c, e = .returned (.slice ao ps.flatten.length c) ∧ w'.ownsRow w.heap.size 5 1 (.slice ao ps.flatten.length c) ps.flatten.length (u8s ps.flatten)) ∧ Below w.heap.size w w' := by
  obtain ⟨i0, hi0, hz0, hz1, hz2⟩ := info_parts info5
  have H := Lib.hid h
  obtain ⟨S, hS⟩ : ∃ S, S = ps.flatten.length := ⟨_, rfl⟩
  have HS := Lib.hid hS
  rw [← hS] at hs ⊢
  have CG := Lib.hid (grow_c S w (by omega))
  clear h hS
  go_enter Try.func82, Try.ntmps82
  go_wp2
  go_loop [3, 5, 11] (fun s _ i => ∃ j t : Nat, j ≤ n ∧ i = .int .i64 j ∧ s = .int .i64 t ∧ Hid (t = (ps.take j).flatten.length)) (fun _ _ i => n - (intOf i).toNat)
  case atStart => exact ⟨0, 0, by omega, rfl, rfl, Lib.hid rfl⟩
  case round =>
    obtain ⟨j, t, hj, rfl, rfl, HT⟩ := hrel
    by_cases hlj : j < n
    · have hjp : j < ps.length := by rw [H.out.len]; exact hlj
      have hc := H.out.here j hlj
      obtain ⟨aj, nj, cj, hej, hin⟩ := H.out.rows.at hjp
      rw [hej] at hc
      have hla := len_at hjp
      have hlen := hin.len
      have hT := HT.out
      have hb : t + nj ≤ 268435456 := by rw [hT, ← hlen]; have := HS.out; omega
      have HT2 : Hid (t + nj = (ps.take (j + 1)).flatten.length) := Lib.hid (by rw [hla.1, List.length_append, hlen, hT])
      have q1 : ¬ ((t : Int) + (nj : Int) < 0) := by omega
      clear hla hej hin hlen hjp hT
      go_wp2
      go_round
      case rel => exact ⟨j + 1, t + nj, by omega, by go_num, by go_num, HT2⟩
      case measure => simp [intOf]; omega
    · have hjn : j = n := by omega
      have hts : t = S := by rw [HT.out, HS.out, hjn, List.take_of_length_le (by rw [H.out.len]; exact Nat.le_refl _)]
      subst hjn
      subst hts
      go_wp2_with fail
      refine CG.out.mono ?_
      rintro e w1 ⟨v1, rfl, ho1, hb1⟩
      have HB1 := Lib.hid hb1
      have HO1 := Lib.hid ho1
      clear hb1 ho1 CG
      go_wp2
      go_loopw [6, 8, 27] (fun v _ i wr => ∃ (k t2 : Nat), k ≤ j ∧ i = .int .i64 k ∧ Hid (t2 = (ps.take k).flatten.length) ∧ Hid (wr.ownsRow w.heap.size 5 1 v t2 (u8s (ps.take k).flatten)) ∧ Hid (Below w.heap.size w wr)) (fun _ _ i _ => j - (intOf i).toNat)
      case atStart => exact ⟨0, 0, by omega, rfl, Lib.hid rfl, HO1, HB1⟩
      case round =>
        obtain ⟨k, t2, hk, rfl, HT2, HO, HB⟩ := hrel
        by_cases hlk : k < j
        · have hkp : k < ps.length := by rw [H.out.len]; exact hlk
          have hH := H.out.below HB.out
          have hc := hH.here k hlk
          obtain ⟨ak, nk, ck, hek, hin⟩ := hH.rows.at hkp
          rw [hek] at hc
          have hla := len_at hkp
          have hlen := hin.len
          have hT := HT2.out
          have hb : t2 + nk ≤ 268435456 := by rw [hT, ← hlen]; have := HS.out; omega
          have HT3 : Hid (t2 + nk = (ps.take (k + 1)).flatten.length) := Lib.hid (by rw [hla.1, List.length_append, hlen, hT])
          have HLA := Lib.hid hla.1
          have HIN := Lib.hid hin
          have HSZ := Lib.hid HB.out.size
          have hkj : k < j := hlk
          clear hla hek hin hlen hkp hT hH
          go_wp2_with (at_builtin; refine append_any rfl _ _ 26 rfl w.heap.size 5 i0 (.int .u8 0) 1 1 Try.underlying26 hi0 hz0 hz1 hz2 rfl (by decide) _ t2 _ rfl HO.out ak nk ck (u8s (ps.getD k [])) rfl HIN.out.zero ?c1 HIN.out.cells (u8s_one _) ?c2 ?c3 ?c4 ?_)
          case c1 => unfold u8s; rw [List.length_map, HIN.out.len]; omega
          case c2 => unfold maxLen; omega
          case c3 => omega
          case c4 => exact HSZ.out
          intro v2 w2 ho2 hg2
          have HB2 := Lib.hid (HB.out.grown hg2 HB.out.size (fun k hk => own_blkC HO.out hk))
          have HO2 : Hid (w2.ownsRow w.heap.size 5 1 v2 (t2 + nk) (u8s (ps.take (k + 1)).flatten)) := Lib.hid (by rw [HLA.out, ← u8s_app]; exact ho2)
          clear ho2 hg2 HO HB HSZ HIN HLA HT2 hc
          go_wp2
          go_roundw
          case rel => exact ⟨k + 1, t2 + nk, by omega, by go_num, HT3, HO2, HB2⟩
          case measure => simp [intOf]; omega
        · have hkj : k = j := by omega
          subst hkj
          have HTT : Hid (t2 = t) := Lib.hid (by rw [HT2.out, HT.out])
          have HTK : Hid (ps.take k = ps) := Lib.hid (List.take_of_length_le (by rw [H.out.len]; exact Nat.le_refl _))
          have HOF : Hid (wr.ownsRow w.heap.size 5 1 _ t (u8s ps.flatten)) := Lib.hid (by have := HO.out; rw [HTK.out, HTT.out] at this; exact this)
          obtain ⟨ao, c, rfl⟩ := own_form HOF.out
          go_wp2
          go_ret
          exact ⟨⟨ao, c, rfl, HOF.out⟩, HB.out⟩
set_option maxRecDepth 100000 in
theorem equal_c (l m : List Int) (a b : Option Addr) (n k c d : Nat) (w : World) (hA : At w (.slice a n c) l) (hB : At w (.slice b k d) m) (hn : l.length = n) (hk : m.length = k) (hl : fit l) (hm : fit m) :
    Calls Try.prog 72 #[.slice a n c, .slice b k d] w fun e w' => e = .returned (.bool (decide (l = m))) ∧ w = w' := by
  have s1 := str_of hA hn
  have s2 := str_of hB hk
  have q : ((strOfNums l).toList == (strOfNums m).toList) = decide (l = m) := str_eq hl hm
  obtain ⟨s, hs⟩ : ∃ s, s = strOfNums l := ⟨_, rfl⟩
  obtain ⟨t, ht⟩ : ∃ t, t = strOfNums m := ⟨_, rfl⟩
  rw [← hs] at s1 q
  rw [← ht] at s2 q
  obtain ⟨z, hz⟩ : ∃ z, z = decide (l = m) := ⟨_, rfl⟩
  rw [← hz] at q
  rw [← hz]
  clear hA hB hn hk hl hm hs ht hz
  go_enter Try.func72, Try.ntmps72
  go_wp2
  go_ret
  exact ⟨by rw [← q]; rfl, rfl⟩
/-- A copy of a row, in new memory. -/
def GotR (w : World) (l : List Int) (e : Ending) (w' : World) : Prop := (∃ ao c, e = .returned (.slice ao l.length c) ∧ w'.ownsRow w.heap.size 5 1 (.slice ao l.length c) l.length (u8s l)) ∧ Below w.heap.size w w'
set_option maxRecDepth 100000 in
theorem bclone_c (l : List Int) (a : Option Addr) (n cap : Nat) (w : World) (hA : In w a n cap l) (hn : n ≤ 268435456) :
    Calls Try.prog 128 #[.slice a n cap] w (GotR w l) := by
  cases a with
  | none =>
    obtain ⟨rfl, rfl⟩ := hA.zero rfl
    have hl : l = [] := List.eq_nil_of_length_eq_zero hA.len
    subst hl
    have hnil : ∀ w : World, (binOp .eql 26 (.slice none 0 0) (.slice none 0 0)).run Try.prog w = .ok (.bool true) w := fun w => by
      simp only [binOp]
      simp [Op.equal, Op.maxDepth, Lib.run_equalIn_slice_nil w 9999 26 5 none 0 0 0 0 Try.underlying26]
    go_enter Try.func128, Try.ntmps128
    go_wp2
    go_ret
    exact ⟨⟨none, 0, rfl, ⟨rfl, .inl ⟨rfl, rfl⟩⟩⟩, Below.refl _ _⟩
  | some ad =>
  obtain ⟨i0, hi0, hz0, hz1, hz2⟩ := info_parts info5
  have HA := Lib.hid hA
  have hln := hA.len
  subst hln
  clear hA
  have hnil : ∀ w : World, (binOp .eql 26 (.slice (some ad) l.length cap) (.slice none 0 0)).run Try.prog w = .ok (.bool false) w := fun w => by
    simp only [binOp]
    simp [Op.equal, Op.maxDepth, Lib.run_equalIn_slice_nil w 9999 26 5 (some ad) l.length cap 0 0 Try.underlying26]
  go_enter Try.func128, Try.ntmps128
  have own0 := World.ownsRow_made (e := 5) (size := 1) w #[] 0 (Nat.le_refl _) (by decide) rfl
  have HA1 := Lib.hid (HA.out.below (bl_al (Below.refl _ _) (.cells #[] 5)))
  go_wp2_with (at_builtin; refine append_any rfl (.tmp 5) (.tmp 6) 26 rfl w.heap.size 5 i0 (.int .u8 0) 1 1 Try.underlying26 hi0 hz0 hz1 hz2 rfl (by decide) _ 0 [] rfl own0 (some ad) l.length cap (u8s l) rfl HA1.out.zero ?c1 HA1.out.cells (u8s_one l) ?c2 ?c3 ?c4 ?_)
  case c1 => unfold u8s; rw [List.length_map]; omega
  case c2 => unfold maxLen; omega
  case c3 => omega
  case c4 => simp
  intro v1 w2 hown hgrow
  have HB2 := Lib.hid ((bl_al (Below.refl w.heap.size w) (.cells #[] 5)).grown hgrow (by simp) (fun k hk => by cases hk; exact Nat.le_refl _))
  obtain ⟨ao, c1, rfl⟩ := own_form hown
  have HO := Lib.hid hown
  clear hgrow own0 HA1 hown
  go_wp2
  go_ret
  exact ⟨⟨ao, c1, rfl, HO.out⟩, HB2.out⟩
end Go.Proofs.Ytbkpkakjfhkfaaa
