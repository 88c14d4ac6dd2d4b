/- The program's table: Remove. Conditions: as each states. What Expire's rounds over the map keep; rows in order; how long an entry stays. Conditions: as each states. The program's table: Expire. Conditions: as each states. A nil table: Expire. Conditions: as each states. -/
import Derived.Test.YtpbgccidhpfmgaaFmQ
import Derived.Test.YtpbgccidhpfmgaaSgF
import Derived.Shelf.SlSortCmp.QuietGrown
import Derived.Laws.IdiomRangeMap
namespace Go.Proofs.Ytpbgccidhpfmgaa
open Go Go.RowKit Go.Maps
set_option linter.unusedVariables false
set_option linter.unusedSimpArgs false

theorem rem_len : ∀ (fs : List Fl) {l : List En}, SrtE l → (remE fs l).1 + (remE fs l).2.length = l.length
  | [], l, _ => by simp [remE]
  | f :: fs, l, hs => by
    have h1 := rem_len fs (hs.cut f)
    have h2 := cut_len (f := f) hs
    rw [remE]
    simp only
    omega
theorem cut_tr {f : Fl} {l : List En} (hs : SrtE l) : trE l = one ((findE f l).getD en0).tr + trE (cutE f l) := by
  cases h : findE f l with
  | none => rw [cut_miss h]; simp [one, en0]
  | some e =>
    have := trE_perm (cut_perm hs h)
    rw [trE_cons] at this
    simpa using this
theorem getD_in {fs : List Fl} {i : Nat} (h : i < fs.length) : fs.getD i fl0 ∈ fs := by
  rw [List.getD_eq_getElem?_getD, List.getElem?_eq_getElem h]
  exact List.getElem_mem h
/-- Remove under way. -/
structure RmS (w : World) (p : Nat) (qt qu : Int) (b : Nat) (m : List En) (wr : World) : Prop where
  tb : TbAt wr p qt qu b (trE m)
  mp : MapS wr b m
  tch : Tch (fun k => k = b ∨ k = p) w wr
theorem RmS.new {w v v' : World} {p b : Nat} {qt qu : Int} {m : List En} (h : RmS w p qt qu b m v) (hb : Below v.heap.size v v') : RmS w p qt qu b m v' :=
  ⟨h.tb.tch (tch_new hb) (fun h => h), h.mp.tch (tch_new hb) (fun h => h), h.tch.trans ((tch_new hb).mono (fun _ h => h.elim))⟩
theorem RmS.dn {w v : World} {p b : Nat} {qt qu : Int} {m : List En} (h : RmS w p qt qu b m v) (n : Nat) : RmS w p qt qu b m (v.drewN n) := h.new (bl_dn (Below.refl _ _) n)
set_option maxRecDepth 100000 in
set_option maxHeartbeats 4000000 in
theorem trem_t (B p : Nat) (F : Nat → Prop) (qt qu : Int) (l : List En) (fs : List Fl) (a : Option Addr) (n c : Nat) (w : World) (h : TSt w B F p qt qu l) (hB : B ≤ w.heap.size) (hK : FsIn w F a n fs) (hn : l.length ≤ 1048576) (hn2 : n ≤ 1048576) :
    Calls Try.prog 21 #[.pointer (some ⟨p, 0, none⟩), .slice a n c] w (TRem TSt w B F p qt qu (remE fs l)) := by
  obtain ⟨b, hF, hne, hc, hm⟩ := h.map
  have HK := Lib.hid hK
  have hlen := hK.row.len
  have c2 := hc.cs.2.2.1
  have kl := fun ty => hm.len ty
  have hO := orE_c p w
  have R0 : Hid (RmS w p qt qu b (remE (fs.take 0) l).2 w) := Lib.hid ⟨hc, hm, Tch.refl _ _⟩
  have HT := Lib.hid h
  have HF := Lib.hid hF
  have HNE := Lib.hid hne
  have HPB := Lib.hid (And.intro hc.lt hm.lt)
  clear h hK hF hne hc hm
  go_enter Try.func21, Try.ntmps21
  go_wp2_with fail
  refine hO.mono ?_
  rintro e w1 ⟨rfl, rfl⟩
  clear hO
  go_wp2
  clear kl c2
  go_loopw [17] (fun iv wr => ∃ i : Nat, i ≤ n ∧ iv = .int .i64 i ∧ Hid (RmS w p qt qu b (remE (fs.take i) l).2 wr)) (fun iv _ => n - (intOf iv).toNat)
  case atStart => exact ⟨0, by omega, rfl, R0⟩
  case round =>
    obtain ⟨i, hi, rfl, HR⟩ := hrel
    obtain ⟨w2, rfl⟩ : ∃ v, v = wr := ⟨_, rfl⟩
    clear R0
    by_cases hlt : i < n
    · have ii : (i : Int) < (n : Int) := by omega
      have i0 : (0 : Int) ≤ (i : Int) := by omega
      have hI2 := HK.out.row.tch HR.out.tch (fun b' off e h0 ht => HK.out.far b' off e h0 (by rcases ht with rfl | rfl; exact HF.out; exact HT.out.here))
      obtain ⟨kb, ko, hab, hfl⟩ := hI2.at hlt
      have HST := Lib.hid (remE_step fs l (i := i) (by omega))
      have HSR := Lib.hid (remE_srt (fs := fs.take i) HT.out.srt)
      have HL2 := Lib.hid (Nat.le_trans (remE_len (fs.take i) l) hn)
      have hff : FitF (fs.getD i fl0) := HK.out.fit _ (getD_in (by omega))
      obtain ⟨us, hus⟩ : ∃ us, us = (remE (fs.take i) l).2 := ⟨_, rfl⟩
      obtain ⟨f, hf⟩ : ∃ f, f = fs.getD i fl0 := ⟨_, rfl⟩
      rw [← hus] at HR HST HSR HL2
      rw [← hf] at hfl HST hff
      obtain ⟨f0, f1, f2, f3, f4⟩ := hfl
      subst hab
      obtain ⟨W1, hW1⟩ : ∃ v, v = w2.alloc f.obj := ⟨_, rfl⟩
      obtain ⟨r, hr⟩ : ∃ r, r = w2.heap.size := ⟨_, rfl⟩
      have hfl1 : FlAt W1 r f := by rw [hW1, hr]; exact flAt_new w2 f
      have hR1 : RmS w p qt qu b us W1 := by rw [hW1]; exact HR.out.new (bl_al (Below.refl _ _) _)
      have HW1 := Lib.hid hW1
      have HRR := Lib.hid hr
      have HM2 := Lib.hid (And.intro HR.out.mp.lt HR.out.tb.lt)
      clear hus hf hI2 HR hW1 hr
      go_upto_region 6 with fail
      rw [← HRR.out, ← HW1.out]
      have HFL1 := Lib.hid hfl1
      have HR1 := Lib.hid hR1
      obtain ⟨x, hx⟩ : ∃ x, x = (findE f us).getD en0 := ⟨_, rfl⟩
      obtain ⟨tb, htb⟩ : ∃ tb, tb = x.tr := ⟨_, rfl⟩
      have hfd : ∀ X : World, (Instr.field tyE (.agg #[.int .i64 x.f.p, .int .u32 x.f.s, .int .i64 x.f.sp, .int .u32 x.f.d, .int .i64 x.f.dp, .int .u32 x.dip, .int .i64 x.ep, .bool tb, .bool x.cl, .int .i64 x.la]) 3).run Try.prog X = .ok (.bool tb) X := fun X => by kernel_rfl
      have hk : ∀ k, (Instr.lookup tyM (.map (some b)) f.val false).run Try.prog (W1.drewN k) = .ok (.agg #[.int .i64 x.f.p, .int .u32 x.f.s, .int .i64 x.f.sp, .int .u32 x.f.d, .int .i64 x.f.dp, .int .u32 x.dip, .int .i64 x.ep, .bool tb, .bool x.cl, .int .i64 x.la]) (W1.drewN k) := fun k => by rw [htb, hx]; exact (hR1.dn k).mp.get hff
      have HCT := Lib.hid (cut_tr (f := f) HSR.out)
      rw [← hx] at HCT
      have c2 := hR1.tb.cs.2.2.1
      obtain ⟨d0, d1, d2, d3, d4⟩ := hfl1
      clear hR1 f0 f1 f2 f3 f4 hx
      have HTRB := Lib.hid htb
      clear htb
      cases tb with
      | true =>
        go_quiet (fail)
        obtain ⟨v, hv⟩ : ∃ v, v = W1.drewN nq := ⟨_, rfl⟩
        have HRv := Lib.hid (show RmS w p qt qu b us v by rw [hv]; exact HR1.out.dn nq)
        have HFLv := Lib.hid (show FlAt v r f by rw [hv]; exact flAt_below HFL1.out (bl_dn (Below.refl _ _) nq) (block_lt_of_cell HFL1.out.1))
        rw [← hv]
        have HV := Lib.hid hv
        clear hv
        clear hk hfd c2 d0 d1 d2 d3 d4
        have HCN := Lib.hid (show trE us = trE (cutE f us) + 1 by rw [HCT.out, ← HTRB.out]; simp [one]; omega)
        have hle : trE (cutE f us) ≤ 1048576 := by have := trE_le us; have := HCN.out; have := HL2.out; omega
        have t3 : v.cell? ⟨p, 3, none⟩ = some (.int .i64 ((trE (cutE f us) : Int) + 1)) := by have := HRv.out.tb.cs.2.2.2; rw [HCN.out] at this; simpa using this
        have tf := HRv.out.tb.free 3
        obtain ⟨W2, hW2⟩ : ∃ u, u = v.setCell ⟨p, 3, none⟩ (.int .i64 (trE (cutE f us) : Int)) := ⟨_, rfl⟩
        have hpr : ¬ r = p := by rw [HRR.out]; have := HM2.out.2; omega
        have hfl2 : FlAt W2 r f := by
          obtain ⟨y0, y1, y2, y3, y4⟩ := HFLv.out
          have ht := tch_cell v p 3 (.int .i64 (trE (cutE f us) : Int))
          rw [hW2]
          exact ⟨ht.cell y0 hpr, ht.cell y1 hpr, ht.cell y2 hpr, ht.cell y3 hpr, ht.cell y4 hpr⟩
        have hTBn : TbAt W2 p qt qu b (trE (cutE f us)) := by rw [hW2]; exact HRv.out.tb.set
        have hMP2 : MapS W2 b us := by rw [hW2]; exact HRv.out.mp.tch (tch_cell v p 3 _) (fun (e : b = p) => HNE.out e)
        have hT2n : Tch (fun k => k = b ∨ k = p) w W2 := by rw [hW2]; exact HRv.out.tch.trans ((tch_cell v p 3 _).mono (fun _ e => .inr e))
        have HW2 := Lib.hid hW2
        clear hW2
        go_upto_region 8 with fail
        rw [← HW2.out]
        clear t3 tf hle
        obtain ⟨w4, hr4, hm4, ht4, hs4⟩ := (hMP2.block (w' := W2.drew) rfl).drop HSR.out hff 0
        have ht4' : Tch (· = b) W2 w4 := ⟨ht4.os, ht4.tape, ht4.output, ht4.size, ht4.block⟩
        have hrb : ¬ r = b := by rw [HRR.out]; have := HM2.out.1; omega
        have hpb : ¬ p = b := fun e => HNE.out e.symm
        obtain ⟨g0, g1, g2, g3, g4⟩ := hfl2
        have t2 := hTBn.cs.2.2.1
        have hS0 : W2.drew.cell? ⟨p, 2, none⟩ = some (.map (some b)) ∧ W2.drew.cell? ⟨r, 0, none⟩ = some (.int .i64 f.p) ∧ W2.drew.cell? ⟨r, 1, none⟩ = some (.int .u32 f.s) ∧ W2.drew.cell? ⟨r, 2, none⟩ = some (.int .i64 f.sp) ∧ W2.drew.cell? ⟨r, 3, none⟩ = some (.int .u32 f.d) ∧ W2.drew.cell? ⟨r, 4, none⟩ = some (.int .i64 f.dp) := ⟨t2, g0, g1, g2, g3, g4⟩
        have hS4 : w4.cell? ⟨p, 2, none⟩ = some (.map (some b)) ∧ w4.cell? ⟨r, 0, none⟩ = some (.int .i64 f.p) ∧ w4.cell? ⟨r, 1, none⟩ = some (.int .u32 f.s) ∧ w4.cell? ⟨r, 2, none⟩ = some (.int .i64 f.sp) ∧ w4.cell? ⟨r, 3, none⟩ = some (.int .u32 f.d) ∧ w4.cell? ⟨r, 4, none⟩ = some (.int .i64 f.dp) := ⟨ht4'.cell t2 hpb, ht4'.cell g0 hrb, ht4'.cell g1 hrb, ht4'.cell g2 hrb, ht4'.cell g3 hrb, ht4'.cell g4 hrb⟩
        have HR9 : Hid (RmS w p qt qu b (remE (fs.take (i + 1)) l).2 w4) := Lib.hid (by
          rw [HST.out]
          exact ⟨hTBn.tch ht4' hpb, hm4, hT2n.trans (ht4'.mono (fun k e => .inl e))⟩)
        clear hm4 ht4 ht4' g0 g1 g2 g3 g4 t2 hs4 hrb hpb hTBn hMP2 hT2n
        go_region_held3 (fun wx => wx.cell? ⟨p, 2, none⟩ = some (.map (some b)) ∧ wx.cell? ⟨r, 0, none⟩ = some (.int .i64 f.p) ∧ wx.cell? ⟨r, 1, none⟩ = some (.int .u32 f.s) ∧ wx.cell? ⟨r, 2, none⟩ = some (.int .i64 f.sp) ∧ wx.cell? ⟨r, 3, none⟩ = some (.int .u32 f.d) ∧ wx.cell? ⟨r, 4, none⟩ = some (.int .i64 f.dp)) (first | (with_reducible exact hS0) | (with_reducible exact hS4) | fail)
          (first | fail)
        clear hS0 hS4
        go_wp2
        go_roundw
        case rel => exact ⟨i + 1, by omega, by go_num, HR9⟩
        case measure => simp [intOf]; omega
      | false =>
        go_quiet (fail)
        obtain ⟨W2, hv⟩ : ∃ v, v = W1.drewN nq := ⟨_, rfl⟩
        have HRv := Lib.hid (show RmS w p qt qu b us W2 by rw [hv]; exact HR1.out.dn nq)
        have hfl2 : FlAt W2 r f := by rw [hv]; exact flAt_below HFL1.out (bl_dn (Below.refl _ _) nq) (block_lt_of_cell HFL1.out.1)
        rw [← hv]
        have HV := Lib.hid hv
        clear hv
        clear hk hfd c2 d0 d1 d2 d3 d4
        have hTBn : TbAt W2 p qt qu b (trE (cutE f us)) := by
          have h1 := HRv.out.tb
          rw [HCT.out, ← HTRB.out] at h1
          simpa [one] using h1
        have hMP2 := HRv.out.mp
        have hT2n := HRv.out.tch
        go_upto_region 8 with fail
        obtain ⟨w4, hr4, hm4, ht4, hs4⟩ := (hMP2.block (w' := W2.drew) rfl).drop HSR.out hff 0
        have ht4' : Tch (· = b) W2 w4 := ⟨ht4.os, ht4.tape, ht4.output, ht4.size, ht4.block⟩
        have hrb : ¬ r = b := by rw [HRR.out]; have := HM2.out.1; omega
        have hpb : ¬ p = b := fun e => HNE.out e.symm
        obtain ⟨g0, g1, g2, g3, g4⟩ := hfl2
        have t2 := hTBn.cs.2.2.1
        have hS0 : W2.drew.cell? ⟨p, 2, none⟩ = some (.map (some b)) ∧ W2.drew.cell? ⟨r, 0, none⟩ = some (.int .i64 f.p) ∧ W2.drew.cell? ⟨r, 1, none⟩ = some (.int .u32 f.s) ∧ W2.drew.cell? ⟨r, 2, none⟩ = some (.int .i64 f.sp) ∧ W2.drew.cell? ⟨r, 3, none⟩ = some (.int .u32 f.d) ∧ W2.drew.cell? ⟨r, 4, none⟩ = some (.int .i64 f.dp) := ⟨t2, g0, g1, g2, g3, g4⟩
        have hS4 : w4.cell? ⟨p, 2, none⟩ = some (.map (some b)) ∧ w4.cell? ⟨r, 0, none⟩ = some (.int .i64 f.p) ∧ w4.cell? ⟨r, 1, none⟩ = some (.int .u32 f.s) ∧ w4.cell? ⟨r, 2, none⟩ = some (.int .i64 f.sp) ∧ w4.cell? ⟨r, 3, none⟩ = some (.int .u32 f.d) ∧ w4.cell? ⟨r, 4, none⟩ = some (.int .i64 f.dp) := ⟨ht4'.cell t2 hpb, ht4'.cell g0 hrb, ht4'.cell g1 hrb, ht4'.cell g2 hrb, ht4'.cell g3 hrb, ht4'.cell g4 hrb⟩
        have HR9 : Hid (RmS w p qt qu b (remE (fs.take (i + 1)) l).2 w4) := Lib.hid (by
          rw [HST.out]
          exact ⟨hTBn.tch ht4' hpb, hm4, hT2n.trans (ht4'.mono (fun k e => .inl e))⟩)
        clear hm4 ht4 ht4' g0 g1 g2 g3 g4 t2 hs4 hrb hpb hTBn hMP2 hT2n
        go_region_held3 (fun wx => wx.cell? ⟨p, 2, none⟩ = some (.map (some b)) ∧ wx.cell? ⟨r, 0, none⟩ = some (.int .i64 f.p) ∧ wx.cell? ⟨r, 1, none⟩ = some (.int .u32 f.s) ∧ wx.cell? ⟨r, 2, none⟩ = some (.int .i64 f.sp) ∧ wx.cell? ⟨r, 3, none⟩ = some (.int .u32 f.d) ∧ wx.cell? ⟨r, 4, none⟩ = some (.int .i64 f.dp)) (first | (with_reducible exact hS0) | (with_reducible exact hS4) | fail)
          (first | fail)
        clear hS0 hS4
        go_wp2
        go_roundw
        case rel => exact ⟨i + 1, by omega, by go_num, HR9⟩
        case measure => simp [intOf]; omega
    · obtain rfl : i = n := by omega
      have ii : ¬ (i : Int) < (i : Int) := by omega
      have ht : fs.take i = fs := List.take_of_length_le (by omega)
      rw [ht] at HR
      clear ht
      have HRL := Lib.hid (rem_len fs HT.out.srt)
      have c2 := HR.out.tb.cs.2.2.1
      have kl := fun ty => HR.out.mp.len ty
      have hle : (remE fs l).2.length ≤ l.length := remE_len fs l
      obtain ⟨m, hm⟩ : ∃ m, m = (remE fs l).2.length := ⟨_, rfl⟩
      rw [← hm] at kl hle HRL
      have HRS := Lib.hid (remE_srt (fs := fs) HT.out.srt)
      clear hm
      go_wp2
      go_ret
      unfold TRem
      refine ⟨?_, HT.out.set HF.out HNE.out HR.out.tch HRS.out (fun e he => HT.out.fit e (remE_sub e he)) HR.out.tb HR.out.mp⟩
      have := HRL.out
      first
        | rfl
        | (congr 3; omega)
        | (rw [show ((l.length : Int) - (m : Int)) = ((remE fs l).1 : Int) by omega]; rfl)
end Go.Proofs.Ytpbgccidhpfmgaa
namespace Go.Proofs.Ytpbgccidhpfmgaa
open Go Go.RowKit Go.Maps
set_option linter.unusedVariables false
set_option linter.unusedSimpArgs false

/-- Two rows in strict order with the same members are one. -/
theorem srt_uniq {α : Type} (key : α → Fl) : ∀ {a b : List α}, a.Pairwise (fun x y => ltF (key x) (key y)) → b.Pairwise (fun x y => ltF (key x) (key y)) → (∀ x, x ∈ a ↔ x ∈ b) → a = b
  | [], [], _, _, _ => rfl
  | [], y :: b, _, _, h => by have := (h y).2 List.mem_cons_self; simp at this
  | x :: a, [], _, _, h => by have := (h x).1 List.mem_cons_self; simp at this
  | x :: a, y :: b, ha, hb, h => by
    have h1 := List.pairwise_cons.1 ha
    have h2 := List.pairwise_cons.1 hb
    have hxy : x = y := by
      rcases List.mem_cons.1 ((h x).1 List.mem_cons_self) with e | e
      · exact e
      · rcases List.mem_cons.1 ((h y).2 List.mem_cons_self) with e2 | e2
        · exact e2.symm
        · exact absurd (h1.1 y e2) (ltF_asym (h2.1 x e))
    subst hxy
    rw [srt_uniq key h1.2 h2.2 (fun z => ⟨fun hz => ?_, fun hz => ?_⟩)]
    · rcases List.mem_cons.1 ((h z).1 (List.mem_cons_of_mem _ hz)) with e | e
      · exact absurd (h1.1 z hz) (by rw [e]; exact ltF_irr _)
      · exact e
    · rcases List.mem_cons.1 ((h z).2 (List.mem_cons_of_mem _ hz)) with e | e
      · exact absurd (h2.1 z hz) (by rw [e]; exact ltF_irr _)
      · exact e
theorem nodup_len {α : Type} [DecidableEq α] : ∀ {a b : List α}, a.Nodup → (∀ x ∈ a, x ∈ b) → a.length ≤ b.length
  | [], b, _, _ => by simp
  | x :: a, b, hn, h => by
    have h1 := List.nodup_cons.1 hn
    have hx := h x List.mem_cons_self
    have h2 := nodup_len (b := b.erase x) h1.2 (fun y hy => (List.mem_erase_of_ne (fun e => h1.1 (by rw [← e]; exact hy))).2 (h y (List.mem_cons_of_mem _ hy)))
    rw [List.length_erase_of_mem hx] at h2
    have : 0 < b.length := List.length_pos_of_mem hx
    rw [List.length_cons]
    omega
/-- The flows of what is idle and has come. -/
def Exm (now : Int) (l : List En) (left : Lit → Bool) (xs : List Fl) : Prop := xs.Nodup ∧ ∀ f, f ∈ xs ↔ ∃ e ∈ l, Come left e ∧ idleE now e = true ∧ e.f = f
theorem come_here {left : Lit → Bool} {x : En} {kl : Lit} (hk : KeyAt x.f kl) : Come (fun z => left z && !z.sameKey kl) x := fun k h => by
  have : k = kl := Option.some.inj (h.symm.trans hk)
  subst this
  show (left k && !k.sameKey k) = false
  rw [Go.WideAt.sameKey_self (lawF.key hk)]
  simp
theorem come_keep {left : Lit → Bool} {x : En} {kl : Lit} (h : Come left x) : Come (fun z => left z && !z.sameKey kl) x := fun k hk => by
  show (left k && !k.sameKey kl) = false
  rw [h k hk]
  rfl
theorem not_come {D : DE} {l : List En} (hm : MR D l) (hf : ∀ e ∈ l, FitE e) (hs : SrtE l) {e : En} (he : e ∈ l) : ¬ Come (Maps.has D) e := fun hc => by
  obtain ⟨kl, hk⟩ := keyF (hf e he).f
  have h1 := hc kl hk
  rw [hm.has e.f kl hk, findE_mem hs he rfl] at h1
  cases h1
theorem Exm.start {D : DE} {now : Int} {l : List En} (hm : MR D l) (hs : SrtE l) (hf : ∀ e ∈ l, FitE e) : Exm now l (Maps.has D) [] := by
  refine ⟨List.nodup_nil, fun f => ⟨fun h => by simp at h, ?_⟩⟩
  rintro ⟨e, he, hc, _⟩
  exact absurd hc (not_come hm hf hs he)
theorem Exm.skip {now : Int} {l : List En} {left : Lit → Bool} {xs : List Fl} {x : En} {kl : Lit} (h : Exm now l left xs) (hs : SrtE l) (hx : x ∈ l) (hk : KeyAt x.f kl) (hd : idleE now x = false) : Exm now l (fun z => left z && !z.sameKey kl) xs := by
  refine ⟨h.1, fun f => ⟨fun hf => ?_, ?_⟩⟩
  · obtain ⟨e, he, hc, hi⟩ := (h.2 f).1 hf
    exact ⟨e, he, come_keep hc, hi⟩
  · rintro ⟨e, he, hc, hi, hef⟩
    rcases come_step hs hx hk he hc with c | rfl
    · exact (h.2 f).2 ⟨e, he, c, hi, hef⟩
    · rw [hd] at hi; cases hi
theorem Exm.take {now : Int} {l : List En} {left : Lit → Bool} {xs : List Fl} {x : En} {kl : Lit} (h : Exm now l left xs) (hs : SrtE l) (hx : x ∈ l) (hk : KeyAt x.f kl) (hl : left kl = true) (hd : idleE now x = true) : Exm now l (fun z => left z && !z.sameKey kl) (xs ++ [x.f]) := by
  refine ⟨?_, fun f => ⟨fun hf => ?_, ?_⟩⟩
  · rw [List.nodup_append]
    refine ⟨h.1, by simp, fun a ha b hb => ?_⟩
    rw [List.mem_singleton] at hb
    subst hb
    rintro rfl
    obtain ⟨e, he, hc, _, hef⟩ := (h.2 _).1 ha
    have h1 := hc kl (by rw [hef]; exact hk)
    rw [hl] at h1
    cases h1
  · rcases List.mem_append.1 hf with hf | hf
    · obtain ⟨e, he, hc, hi⟩ := (h.2 f).1 hf
      exact ⟨e, he, come_keep hc, hi⟩
    · rw [List.mem_singleton] at hf
      exact ⟨x, hx, come_here hk, hd, hf.symm⟩
  · rintro ⟨e, he, hc, hi, hef⟩
    rw [List.mem_append]
    rcases come_step hs hx hk he hc with c | rfl
    · exact .inl ((h.2 f).2 ⟨e, he, c, hi, hef⟩)
    · exact .inr (by rw [← hef]; simp)
theorem Exm.len {now : Int} {l : List En} {left : Lit → Bool} {xs : List Fl} (h : Exm now l left xs) : xs.length ≤ l.length := by
  have := nodup_len (b := l.map (·.f)) h.1 (fun f hf => by
    obtain ⟨e, he, _, _, hef⟩ := (h.2 f).1 hf
    exact List.mem_map.2 ⟨e, he, hef⟩)
  simpa using this
theorem Exm.done {now : Int} {l : List En} {left : Lit → Bool} {xs S : List Fl} (h : Exm now l left xs) (hs : SrtE l) (hl : ∀ k, left k = false) (ho : OkN now) (hp : S.Perm xs) (hS : S.Pairwise (fun a b => lessF b a = false)) : S = (expE now l).1 := by
  have hE : (expE now l).1 = (l.filter (idleE now)).map (·.f) := by rw [show expE now l = _ from if_pos ho]
  rw [hE]
  refine srt_uniq id ?_ ?_ (fun f => ?_)
  · have hn : S.Nodup := hp.nodup_iff.2 h.1
    refine (hS.and hn).imp (fun {a b} hab => ?_)
    rcases ltF_total (of_decide_eq_false hab.1) with e | e
    · exact absurd e.symm hab.2
    · exact e
  · exact List.pairwise_map.2 (List.Pairwise.sublist List.filter_sublist hs)
  · rw [hp.mem_iff, h.2 f, List.mem_map]
    constructor
    · rintro ⟨e, he, _, hi, hf⟩
      exact ⟨e, List.mem_filter.2 ⟨he, hi⟩, hf⟩
    · rintro ⟨e, he, hf⟩
      exact ⟨e, (List.mem_filter.1 he).1, fun k _ => hl k, (List.mem_filter.1 he).2, hf⟩
/-- How long an entry stays. -/
theorem stay_c (e : En) (w : World) : Calls Try.prog 62 #[e.val] w fun z w' => z = .returned (.int .i64 (limE e)) ∧ Grw w w' := by
  obtain ⟨W, hW⟩ : ∃ W, w.alloc e.obj = W := ⟨_, rfl⟩
  have hb : BxE W w.heap.size e := by rw [← hW]; exact BxE.new w e
  have HG := Lib.hid (show Grw w W by rw [← hW]; exact (Grw.refl w).alloc _)
  obtain ⟨q, hq⟩ : ∃ q, q = w.heap.size := ⟨_, rfl⟩
  rw [← hq] at hb
  have HW := Lib.hid (And.intro hW hq)
  clear hW hq
  obtain ⟨a0, a1, a2, a3, a4, a5, a6, a7, a8, a9⟩ := hb.cs
  cases hc : e.cl with
  | true =>
    have HL := Lib.hid (show limE e = 5 by unfold limE; rw [hc]; rfl)
    rw [hc] at a8
    clear hc hb
    go_enter Try.func62, Try.ntmps62
    go_upto_region 1 with fail
    rw [HW.out.1, ← HW.out.2]
    go_wp2
    go_ret
    exact ⟨by rw [HL.out]; rfl, HG.out⟩
  | false =>
    rw [hc] at a8
    cases ht : e.tr with
    | true =>
      have HL := Lib.hid (show limE e = 60 by unfold limE; rw [hc, ht]; rfl)
      rw [ht] at a7
      clear hc ht hb
      go_enter Try.func62, Try.ntmps62
      go_upto_region 1 with fail
      rw [HW.out.1, ← HW.out.2]
      go_wp2
      go_ret
      exact ⟨by rw [HL.out]; rfl, HG.out⟩
    | false =>
      have HL := Lib.hid (show limE e = 10 by unfold limE; rw [hc, ht]; rfl)
      rw [ht] at a7
      clear hc ht hb
      go_enter Try.func62, Try.ntmps62
      go_upto_region 1 with fail
      rw [HW.out.1, ← HW.out.2]
      go_wp2
      go_ret
      exact ⟨by rw [HL.out]; rfl, HG.out⟩
end Go.Proofs.Ytpbgccidhpfmgaa
namespace Go.Proofs.Ytpbgccidhpfmgaa
open Go Go.RowKit Go.Maps
set_option linter.unusedVariables false
set_option linter.unusedSimpArgs false

theorem rem_mem : ∀ {fs : List Fl} {l : List En} {e : En}, e ∈ (remE fs l).2 ↔ e ∈ l ∧ e.f ∉ fs
  | [], l, e => by simp [remE]
  | f :: fs, l, e => by
    rw [remE]
    simp only
    rw [rem_mem (fs := fs)]
    unfold cutE
    rw [List.mem_filter]
    simp only [List.mem_cons, not_or, decide_eq_true_eq, ne_eq]
    constructor
    · rintro ⟨⟨h1, h2⟩, h3⟩
      exact ⟨h1, by simpa using h2, h3⟩
    · rintro ⟨h1, h2, h3⟩
      exact ⟨⟨h1, by simpa using h2⟩, h3⟩
theorem rem_exp {now : Int} {l : List En} (hs : SrtE l) (ho : OkN now) : (remE (expE now l).1 l).2 = (expE now l).2 := by
  rw [show expE now l = ((l.filter (idleE now)).map (·.f), l.filter (fun e => !idleE now e)) from if_pos ho]
  refine srt_uniq (fun e : En => e.f) (remE_srt hs) (List.Pairwise.sublist List.filter_sublist hs) (fun e => ?_)
  rw [rem_mem, List.mem_filter, List.mem_map]
  constructor
  · rintro ⟨h1, h2⟩
    refine ⟨h1, ?_⟩
    cases hi : idleE now e with
    | false => rfl
    | true => exact absurd ⟨e, List.mem_filter.2 ⟨h1, hi⟩, rfl⟩ h2
  · rintro ⟨h1, h2⟩
    refine ⟨h1, ?_⟩
    rintro ⟨a, ha, hf⟩
    have := srt_one hs (List.mem_filter.1 ha).1 h1 hf
    subst this
    rw [(List.mem_filter.1 ha).2] at h2
    cases h2
/-- A slice in a box. -/
def BoxV (ty : TypeId) (w : World) (s : Nat) (v : Value) : Prop := w.heap[s]? = some (.cells #[v] ty (0, 0))
theorem BoxV.c {ty : TypeId} {w : World} {s : Nat} {v : Value} (h : BoxV ty w s v) : w.cell? ⟨s, 0, none⟩ = some v := by
  have h2 : w.heap[s]? = some (.cells #[v] ty (0, 0)) := h
  rw [cell_of_row w s _ _ _ _ h2]
  rfl
theorem BoxV.free {ty : TypeId} {w : World} {s : Nat} {v : Value} (h : BoxV ty w s v) : w.frozen? ⟨s, 0, none⟩ = false := frozen_of_row w s 0 _ _ h
theorem BoxV.tch {ty : TypeId} {T : Nat → Prop} {w w' : World} {s : Nat} {v : Value} (h : BoxV ty w s v) (ht : Tch T w w') (hn : ¬ T s) : BoxV ty w' s v := ht.at h hn
theorem BoxV.lt {ty : TypeId} {w : World} {s : Nat} {v : Value} (h : BoxV ty w s v) : s < w.heap.size := lt_of_block h
theorem BoxV.set {ty : TypeId} {w : World} {s : Nat} {v : Value} (h : BoxV ty w s v) (v2 : Value) : BoxV ty (w.setCell ⟨s, 0, none⟩ v2) s v2 := by
  have h2 : w.heap[s]? = some (.cells #[v] ty (0, 0)) := h
  have := put_row (i := 0) h2 v2
  unfold BoxV
  simpa using this
/-- The row that Expire makes. -/
structure Exs (w wr : World) (q : Nat) (v : Value) (xs : List Fl) : Prop where
  own : wr.ownsRow w.heap.size tyF 5 v xs.length (cellsF xs)
  box : BoxV 39 wr q v
  ap : v.ownBlock ≠ some q ∧ v.ownBlock ≠ some (q + 1)
  bel : Below w.heap.size w wr
  hq : w.heap.size ≤ q ∧ q + 1 < wr.heap.size
theorem Exs.keep {T : Nat → Prop} {w wr wr2 : World} {q : Nat} {v : Value} {xs : List Fl} (h : Exs w wr q v xs) (ht : Tch T wr wr2) (hT : ∀ k, T k → k = q + 1) : Exs w wr2 q v xs :=
  ⟨ht.own h.own (fun g hg hTg => h.ap.2 (by rw [hg, hT g hTg])), h.box.tch ht (fun hTq => by have := hT q hTq; omega), h.ap, h.bel.trans (ht.below (fun k hk => by have := hT k hk; have := h.hq.1; omega) h.bel.size), h.hq.1, Nat.lt_of_lt_of_le h.hq.2 ht.size⟩
theorem Exs.push {w w7 w8 : World} {q : Nat} {v v6 : Value} {xs : List Fl} {f : Fl} {o : Obj} (h : Exs w w7 q v xs) (ho : w8.ownsRow w.heap.size tyF 5 v6 (xs.length + 1) (cellsF xs ++ csF f)) (hg : (w7.alloc o).grownBy w8 v.ownBlock) (hl : v6.ownBlock = v.ownBlock ∨ ∃ x, v6.ownBlock = some x ∧ w7.heap.size ≤ x) :
    Exs w (w8.setCell ⟨q, 0, none⟩ v6) q v6 (xs ++ [f]) ∧ Tch (fun k => k = q ∨ v.ownBlock = some k) w7 (w8.setCell ⟨q, 0, none⟩ v6) := by
  have ht8 : Tch (fun k => some k = v.ownBlock) w7 w8 := ((tch_new (bl_al (Below.refl w7.heap.size w7) o)).mono (fun _ h => h.elim)).trans (tch_grown hg)
  have hb8 : BoxV 39 w8 q v := h.box.tch ht8 (fun e => h.ap.1 e.symm)
  have hap : v6.ownBlock ≠ some q ∧ v6.ownBlock ≠ some (q + 1) := by
    rcases hl with e | ⟨x, e, hx⟩
    · rw [e]; exact h.ap
    · have := h.hq.2
      rw [e]
      exact ⟨fun e2 => by cases e2; omega, fun e2 => by cases e2; omega⟩
  have hts := tch_cell w8 q 0 v6
  have ht9 : Tch (fun k => k = q ∨ v.ownBlock = some k) w7 (w8.setCell ⟨q, 0, none⟩ v6) := (ht8.mono (fun k e => .inr e.symm)).trans (hts.mono (fun k e => .inl e))
  refine ⟨⟨?_, hb8.set v6, hap, ?_, h.hq.1, Nat.lt_of_lt_of_le h.hq.2 ht9.size⟩, ht9⟩
  · rw [List.length_append, cellsF_app, cellsF_one]
    exact hts.own ho (fun g hg e => hap.1 (by rw [hg, e]))
  · exact h.bel.trans (ht9.below (fun k hk => by
      rcases hk with rfl | hk
      · exact h.hq.1
      · exact (h.own.lt k hk).1) h.bel.size)
set_option maxRecDepth 100000 in
set_option maxHeartbeats 4000000 in
theorem texp_t (B p : Nat) (F : Nat → Prop) (qt qu : Int) (l : List En) (now : Int) (w : World) (h : TSt w B F p qt qu l) (hB : B ≤ w.heap.size) (hn : l.length ≤ 1048576) (ho : InN now) :
    Calls Try.prog 24 #[.pointer (some ⟨p, 0, none⟩), .int .i64 now] w (TExp TSt w B F p qt qu (expE now l)) := by
  have hti := isT_c now w
  by_cases hok : OkN now
  · rw [decide_eq_true hok] at hti
    obtain ⟨i0, hi0, hz0, hz1, hz2⟩ := info_parts infoF
    obtain ⟨b, hF, hne, hc, hm⟩ := h.map
    obtain ⟨W, hW⟩ : ∃ W, W = w.alloc (.cells #[.slice none 0 0] 39) := ⟨_, rfl⟩
    obtain ⟨q, hq⟩ : ∃ q, q = w.heap.size := ⟨_, rfl⟩
    have hb1 : Below w.heap.size w W := by rw [hW]; exact bl_al (Below.refl _ _) _
    have hbx : BoxV 39 W q (.slice none 0 0) := by rw [hW, hq]; exact (MapKept.heap_alloc w _).1
    have hsz : W.heap.size = q + 1 := by rw [hW, hq]; simp
    have hcW := hc.tch (tch_new hb1) (fun h => h)
    have hmW := hm.tch (tch_new hb1) (fun h => h)
    have c2 := hcW.cs.2.2.1
    have hbl : b < q := by rw [hq]; exact hm.lt
    obtain ⟨D, hown, hmr⟩ := hmW
    have HMR := Lib.hid hmr
    have HT := Lib.hid h
    have HEM := Lib.hid (Exm.start (now := now) hmr h.srt h.fit)
    have HDZ := Lib.hid hmr.size
    have HW := Lib.hid hW
    have HQ := Lib.hid hq
    have HBX := Lib.hid hbx
    have HB1 := Lib.hid hb1
    have HSZ := Lib.hid hsz
    have HST := Lib.hid (fun (e : En) (U : World) => stay_c e U)
    have HOK := Lib.hid hok
    have n1 := hok.1
    have n2 := hok.2
    have hO := orE_c p w
    have mixed : Try.prog.follows .mixedOrders = true := by kernel_rfl
    clear hcW hc hm hW hb1 hq hmr hbx hne h hsz hok
    go_enter Try.func24, Try.ntmps24
    go_wp2_with fail
    refine hti.mono ?_
    rintro e w1 ⟨rfl, rfl⟩
    clear hti
    go_wp2_with fail
    refine hO.mono ?_
    rintro e w1 ⟨rfl, rfl⟩
    clear hO
    go_upto_region 5 with fail
    rw [← HW.out, ← HQ.out]
    go_wp2_with (first
      | (at_range; refine wpList_range_own _ rfl _ tyM rfl tyF tyE lawF Try.underlying106 rdE b _ D rfl hown ?_; intro w0 hrg0 hg0 hs0)
      | go_in)
    go_frame
    rw [HSZ.out] at hrg0 ⊢
    rw [HDZ.out] at hrg0
    have HG0 := Lib.hid (show Tch Non W w0 from (tch_grown hg0).mono (fun k hk => by cases hk))
    have HX0 := Lib.hid (show Exs w w0 q (.slice none 0 0) [] from by
      refine ⟨⟨rfl, .inl ⟨rfl, rfl⟩⟩, HBX.out.tch HG0.out (fun h => h), ⟨(by intro e; cases e), (by intro e; cases e)⟩, HB1.out.trans (HG0.out.below (fun _ h => h.elim) HB1.out.size), by rw [HQ.out]; exact Nat.le_refl _, ?_⟩
      rw [hs0, HSZ.out]; omega)
    clear hs0 hg0 hown c2
    go_loopw [] (fun wr => ∃ (v : Value) (xs : List Fl) (left : Lit → Bool) (cnt : Nat), wr.ranges Try.prog tyF rdE b (q + 1) l.length D left cnt ∧ Exs w wr q v xs ∧ Exm now l left xs ∧ xs.length + cnt ≤ l.length) (fun wr => wr.rangeLeft b (q + 1))
    case atStart => exact ⟨.slice none 0 0, [], _, _, hrg0, HX0.out, HEM.out, by simp⟩
    case round =>
      obtain ⟨v, xs, left, cnt, hrg, hxs, hem, hcn⟩ := hrel
      obtain ⟨w4, rfl⟩ : ∃ v, v = wr := ⟨_, rfl⟩
      have HRG := Lib.hid hrg
      have HXS := Lib.hid hxs
      have HEX := Lib.hid hem
      clear hrg0 HG0 HX0 hxs hem HEM
      go_wp2_with (first
        | (at_next; refine wpList_next_ranges _ rfl _ rfl tyF lawF rdE Fl.val En.val invKF invVE b (q + 1) l.length D left cnt rfl hrg ?_ ?_)
        | go_in)
      · intro _ hl0
        have HL0 := Lib.hid hl0
        have CS := Lib.hid (sortF_c w.heap.size xs.length q v xs w4 HXS.out.own (by omega) HXS.out.box.c HXS.out.ap.1)
        have b0 := HXS.out.box.c
        clear hrg hl0
        go_wp2_with fail
        refine CS.out.mono ?_
        rintro e w5 ⟨rfl, S, hp, hS, how, htc⟩
        have hSE : S = (expE now l).1 := HEX.out.done HT.out.srt HL0.out HOK.out hp hS
        obtain ⟨ao, c, rfl⟩ := own_form HXS.out.own
        have hbox5 : BoxV 39 w5 q (.slice ao xs.length c) := HXS.out.box.tch htc HXS.out.ap.1
        have hbel5 : Below w.heap.size w w5 := HXS.out.bel.trans (htc.below (fun k hk => (HXS.out.own.lt k hk).1) HXS.out.bel.size)
        have hT5 : TSt w5 B F p qt qu l := HT.out.keep (tch_new hbel5) (fun _ _ h => h)
        have hxl : xs.length = S.length := hp.length_eq.symm
        have hFs : FsIn w5 F ao xs.length S := by
          refine ⟨ownF_in how, fun b' off e h0 hf => ?_, fun f hf => ?_⟩
          · obtain ⟨g, cap, e2, hg⟩ := own_shape how h0
            rw [e] at e2
            injection e2 with e3
            injection e3 with e4
            have e5 : b' = g := congrArg Addr.block e4
            have := (HT.out.blocks b' hf).2
            omega
          · obtain ⟨a, ha, _, _, hfa⟩ := (HEX.out.2 f).1 (hp.mem_iff.1 hf)
            rw [← hfa]
            exact (HT.out.fit a ha).f
        have CR := Lib.hid (trem_t B p F qt qu l S ao xs.length c w5 hT5 (Nat.le_trans hB hbel5.size) hFs hn (by omega))
        have b5 := hbox5.c
        have HP5 := Lib.hid (And.intro hbox5 (And.intro hbel5 (And.intro how (And.intro hSE hxl))))
        clear hp hS how htc hSE hbox5 hbel5 hT5 hFs CS b0 hxl
        go_wp2_with fail
        refine CR.out.mono ?_
        rintro e w6 ⟨rfl, F2, hT6, hF6, ht6⟩
        obtain ⟨hbox5, hbel5, how, hSE, hxl⟩ := HP5.out
        have hbox6 : BoxV 39 w6 q (.slice ao xs.length c) := hbox5.tch ht6 (fun hf => by have := (HT.out.blocks q hf).2; have := HQ.out; omega)
        have b6 := hbox6.c
        have HG : Hid (TExp TSt w B F p qt qu (expE now l) (.returned (.slice ao xs.length c)) w6) := Lib.hid (by
          refine ⟨F2, ao, c, by rw [hxl, hSE], ?_, fun k hk hf => ?_, ?_, fun k hk => ?_, ?_⟩
          · rw [← hSE, ← hxl]
            exact ht6.own how (fun g hg hf => by
              have := (how.lt g hg).1
              have := (HT.out.blocks g hf).2
              omega)
          · rw [← hSE, ← hxl] at hk
            have h1 := how.lt k hk
            rcases hF6 k hf with h2 | h2
            · have := (HT.out.blocks k h2).2
              omega
            · omega
          · rw [← rem_exp HT.out.srt HOK.out, ← hSE]
            exact hT6
          · rcases hF6 k hk with h2 | h2
            · exact .inl h2
            · exact .inr (Nat.le_trans hbel5.size h2)
          · exact ((tch_new hbel5).mono (fun _ h => h.elim)).trans ht6)
        clear hbox5 hbel5 how hSE hbox6 hT6 hF6 ht6 CR b5 hxl HP5
        go_wp2
        go_ret
        exact HG.out
      · intro xf xe kl yd yp w5 cnt1 hkey hlk hv hat hrg1 hlt hg1 hs1 hen
        have HFE := Lib.hid (mr_in (y := (yd, yp)) HMR.out hkey hv hat)
        have hxf : xe.f = xf := (findE_some HFE.out).2
        subst hxf
        have HIN := Lib.hid (findE_some HFE.out).1
        have HKY := Lib.hid (show KeyAt xe.f kl from hkey)
        have HLK := Lib.hid hlk
        have HLT := Lib.hid hlt
        have ht5 : Tch (· = q + 1) w4 w5 := (tch_grown hg1).mono (fun k hk => by simpa using hk)
        have HX5 := Lib.hid (HXS.out.keep ht5 (fun _ h => h))
        obtain ⟨s, hs⟩ : ∃ s, s = w5.heap.size := ⟨_, rfl⟩
        have hss : q + 1 < s := by rw [hs]; exact HX5.out.hq.2
        have HSS := Lib.hid hs
        obtain ⟨w6, hw6⟩ : ∃ v, v = (w5.alloc xe.f.obj).alloc xe.obj := ⟨_, rfl⟩
        have hsa : (w5.alloc xe.f.obj).heap.size = s + 1 := by rw [hs]; simp
        have ht6 : Tch Non w5 w6 := by rw [hw6]; exact tch_new (bl_al (bl_al (Below.refl _ _) _) _)
        have HFL := Lib.hid (show FlAt w6 s xe.f by rw [hw6, hs]; exact flAt_below (flAt_new w5 xe.f) (bl_al (Below.refl _ _) _) (by simp))
        have HEB := Lib.hid (show BxE w6 (s + 1) xe by rw [hw6, ← hsa]; exact BxE.new _ xe)
        have HX6 := Lib.hid (HX5.out.keep ht6 (fun _ h => h.elim))
        have HR6 := Lib.hid (rng_tch hrg1 ht6 (fun h => h) (fun h => h))
        have HW6 := Lib.hid hw6
        clear hrg1 hlt hg1 hs1 hlk hv hat ht5 ht6 hw6 hsa hs hrg hkey
        go_upto_region 8 with fail
        rw [← HSS.out, ← HW6.out]
        clear hen
        obtain ⟨e0, e1, e2, e3, e4, e5, e6, e7, e8, e9⟩ := HEB.out.cs
        have hbl6 : s + 1 < w6.heap.size := HEB.out.lt
        have a0 := fun m os => cell_grown (a := ⟨s + 1, 0, none⟩) hbl6 e0 m os
        have a1 := fun m os => cell_grown (a := ⟨s + 1, 1, none⟩) hbl6 e1 m os
        have a2 := fun m os => cell_grown (a := ⟨s + 1, 2, none⟩) hbl6 e2 m os
        have a3 := fun m os => cell_grown (a := ⟨s + 1, 3, none⟩) hbl6 e3 m os
        have a4 := fun m os => cell_grown (a := ⟨s + 1, 4, none⟩) hbl6 e4 m os
        have a5 := fun m os => cell_grown (a := ⟨s + 1, 5, none⟩) hbl6 e5 m os
        have a6 := fun m os => cell_grown (a := ⟨s + 1, 6, none⟩) hbl6 e6 m os
        have a7 := fun m os => cell_grown (a := ⟨s + 1, 7, none⟩) hbl6 e7 m os
        have a8 := fun m os => cell_grown (a := ⟨s + 1, 8, none⟩) hbl6 e8 m os
        have a9 := fun m os => cell_grown (a := ⟨s + 1, 9, none⟩) hbl6 e9 m os
        have hla := (HT.out.fit xe HIN.out).la
        have l1 := hla.1
        have l2 := hla.2
        have wr1 : ∀ [Inhabited Nat], IntKind.i64.wrap (now - xe.la) = now - xe.la := by intro _; exact IntWalk.i64_in _ (by omega)
        clear e0 e1 e2 e3 e4 e5 e6 e7 e8 e9 hla hbl6
        by_cases hd : limE xe < now - xe.la
        · have HD := Lib.hid (show idleE now xe = true from decide_eq_true hd)
          go_quiet_grown (first | (go_at_call 62; refine Calls.grown_of ((HST.out xe _).mono fun _ _ h => h)))
          obtain ⟨w7, hw7⟩ : ∃ u, u = Go.Sort.grow (w6.drewN nq) osq := ⟨_, rfl⟩
          have hg7 : Grw w6 w7 := ⟨nq, osq, hw7⟩
          rw [← hw7]
          have HW7 := Lib.hid hw7
          clear hw7 a0 a1 a2 a3 a4 a5 a6 a7 a8 a9
          have HX7 := Lib.hid (HX6.out.keep (tch_grw Non hg7) (fun _ h => h.elim))
          have HR7 := Lib.hid (rng_tch HR6.out (tch_grw Non hg7) (fun h => h) (fun h => h))
          have hf7 := flAt_below HFL.out hg7.below (block_lt_of_cell HFL.out.1)
          obtain ⟨f0, f1, f2, f3, f4⟩ := hf7
          have b0 := HX7.out.box.c
          have HNW := Lib.hid (fl_newr w7 xe.f)
          have HO := Lib.hid HX7.out.own
          have hwq : w.heap.size ≤ w7.heap.size := HX7.out.bel.size
          go_wp2_with (first
            | (at_builtin; refine wpList_append_own_at _ rfl _ _ 39 rfl w.heap.size tyF i0 (.agg #[.int .i64 0, .int .u32 0, .int .i64 0, .int .u32 0, .int .i64 0]) 5 40 Try.underlying39 hi0 hz0 hz1 hz2 rfl (by decide) _ _ _ rfl (HO.out.alloc _) ⟨w7.heap.size, 0, none⟩ 1 1 (csF xe.f) rfl rfl HNW.out (csF_one1 _) ?c1 ?c2 ?c3 ?_)
            | fail)
          case c1 => have := HLT.out; unfold maxLen; omega
          case c2 => omega
          case c3 => simp; omega
          intro v6 w8 ho6 hg6 _ hl6
          obtain ⟨a6, c6, rfl⟩ := own_form ho6
          obtain ⟨hx9, ht9⟩ := HX7.out.push ho6 hg6 (hl6.imp (fun h => h) (fun h => ⟨_, h, by simp⟩))
          have HX9 := Lib.hid hx9
          have HR9 := Lib.hid (rng_tch HR7.out ht9 (fun e => by
            rcases e with e | e
            · omega
            · have := (HX7.out.own.lt b e).1; have := HQ.out; omega) (fun e => by
            rcases e with e | e
            · omega
            · exact HX7.out.ap.2 e))
          have t8 : Tch (fun k => some k = v.ownBlock) w7 w8 := ((tch_new (bl_al (Below.refl w7.heap.size w7) _)).mono (fun _ h => h.elim)).trans (tch_grown hg6)
          have hb8 : BoxV 39 w8 q v := HX7.out.box.tch t8 (fun e => HX7.out.ap.1 e.symm)
          have b8 := hb8.c
          have bf8 := hb8.free
          have HEM9 := Lib.hid (HEX.out.take HT.out.srt HIN.out HKY.out HLK.out HD.out)
          have HC9 : Hid ((xs ++ [xe.f]).length + cnt1 ≤ l.length) := Lib.hid (by have := HLT.out; simp; omega)
          clear ho6 hg6 hl6 hx9 ht9 t8 hb8 b0 f0 f1 f2 f3 f4
          go_wp2
          go_roundw
          case rel => exact ⟨_, xs ++ [xe.f], _, cnt1, HR9.out, HX9.out, HEM9.out, HC9.out⟩
          case measure => rw [HR9.out.left_eq, HRG.out.left_eq]; exact HLT.out
        · have HD := Lib.hid (show idleE now xe = false from decide_eq_false hd)
          go_quiet_grown (first | (go_at_call 62; refine Calls.grown_of ((HST.out xe _).mono fun _ _ h => h)))
          obtain ⟨w7, hw7⟩ : ∃ u, u = Go.Sort.grow (w6.drewN nq) osq := ⟨_, rfl⟩
          have hg7 : Grw w6 w7 := ⟨nq, osq, hw7⟩
          rw [← hw7]
          have HW7 := Lib.hid hw7
          clear hw7 a0 a1 a2 a3 a4 a5 a6 a7 a8 a9
          have HX7 := Lib.hid (HX6.out.keep (tch_grw Non hg7) (fun _ h => h.elim))
          have HR7 := Lib.hid (rng_tch HR6.out (tch_grw Non hg7) (fun h => h) (fun h => h))
          have HEM9 := Lib.hid (HEX.out.skip HT.out.srt HIN.out HKY.out HD.out)
          have HC9 : Hid (xs.length + cnt1 ≤ l.length) := Lib.hid (by have := HLT.out; omega)
          go_wp2
          go_roundw
          case rel => exact ⟨v, xs, _, cnt1, HR7.out, HX7.out, HEM9.out, HC9.out⟩
          case measure => rw [HR7.out.left_eq, HRG.out.left_eq]; exact HLT.out
  · rw [decide_eq_false hok] at hti
    have HE := Lib.hid (show expE now l = ([], l) from if_neg hok)
    have HT := Lib.hid h
    clear h hok
    go_enter Try.func24, Try.ntmps24
    go_wp2_with fail
    refine hti.mono ?_
    rintro e w1 ⟨rfl, rfl⟩
    clear hti
    go_wp2
    go_ret
    unfold TExp
    rw [HE.out]
    exact ⟨F, none, 0, rfl, ⟨rfl, .inl ⟨rfl, rfl⟩⟩, fun k hk => (by cases hk), HT.out, fun k hk => .inl hk, Tch.refl _ _⟩
end Go.Proofs.Ytpbgccidhpfmgaa
namespace Go.Proofs.Ytpbgccidhpfmgaa
open Go Go.RowKit Go.Maps
set_option linter.unusedVariables false
set_option linter.unusedSimpArgs false

/-- Nothing is taken out of a table without a map. -/
theorem rem0_c (p c : Nat) (a : Option Addr) (w : World) (h : w.cell? ⟨p, 2, none⟩ = some (.map none)) : Calls Try.prog 21 #[.pointer (some ⟨p, 0, none⟩), .slice a 0 c] w fun e w' => e = .returned (.int .i64 0) ∧ w = w' := by
  have hO := orE_c p w
  have kl : ∀ ty, (Builtin.len_ #[tyM] ty #[.map none]).run Try.prog w = .ok (.int .i64 0) w := fun ty => Maps.len_nil Try.underlying106 ty
  go_enter Try.func21, Try.ntmps21
  go_wp2_with fail
  refine hO.mono ?_
  rintro e w1 ⟨rfl, rfl⟩
  clear hO
  go_wp2
  refine wp_loop_rounds 1 ?_
  rw [rounds_succ]
  go_wp2
  go_ret
  exact ⟨rfl, rfl⟩
set_option maxRecDepth 100000 in
set_option maxHeartbeats 2000000 in
theorem texpN_t (now : Int) (w : World) (ho : InN now) : Calls Try.prog 24 #[.pointer none, .int .i64 now] w fun e w' => ∃ a c, e = .returned (.slice a 0 c) ∧ Below w.heap.size w w' := by
  have hti := isT_c now w
  by_cases hok : OkN now
  · rw [decide_eq_true hok] at hti
    obtain ⟨W, hW⟩ : ∃ W, W = (w.alloc tbl0).alloc (.cells #[.slice none 0 0] 39) := ⟨_, rfl⟩
    obtain ⟨p, hp⟩ : ∃ p, p = w.heap.size := ⟨_, rfl⟩
    have hs1 : (w.alloc tbl0).heap.size = p + 1 := by rw [hp]; simp
    have hsz : W.heap.size = p + 2 := by rw [hW, hp]; simp
    have hb1 : Below w.heap.size w W := by rw [hW]; exact bl_al (bl_al (Below.refl _ _) _) _
    have hbx : BoxV 39 W (p + 1) (.slice none 0 0) := by rw [hW, ← hs1]; exact (MapKept.heap_alloc _ _).1
    have hc0 : ∀ i, (w.alloc tbl0).cell? ⟨w.heap.size, i, none⟩ = (#[.int .i64 0, .int .i64 0, .map none, .int .i64 0] : Array Value)[i]? := fun i => cell_of_row _ _ i _ _ _ (MapKept.heap_alloc w tbl0).1
    have hc2 : (w.alloc tbl0).cell? ⟨w.heap.size, 2, none⟩ = some (.map none) := hc0 2
    have c2 : W.cell? ⟨p, 2, none⟩ = some (.map none) := by
      rw [hW, hp]
      exact (tch_new (bl_al (Below.refl _ _) _)).cell hc2 (fun h => h)
    have hO := orE_n w
    have hrg := run_range_nilMap (P := Try.prog) W tyM tyF tyE Try.underlying106
    rw [hsz] at hrg
    have hnx : ∀ ty, (Instr.next (.pointer (some ⟨W.heap.size, 0, none⟩)) false ty).run Try.prog (W.alloc (.mapIter none 0 #[] 0)) = _ := fun ty => run_next_nilMap _ ty 0 0 #[]
    rw [hsz] at hnx
    obtain ⟨V, hV⟩ : ∃ V, V = W.alloc (.mapIter none 0 #[] 0) := ⟨_, rfl⟩
    have hbV : Below W.heap.size W V := by rw [hV]; exact bl_al (Below.refl _ _) _
    have HBV := Lib.hid (show Below w.heap.size w V from bl_tr hb1 hbV)
    have HXV := Lib.hid (hbx.tch (tch_new hbV) (fun h => h))
    have HCV := Lib.hid ((tch_new hbV).cell c2 (fun h => h))
    rw [← hV] at hrg hnx
    have HW := Lib.hid hW
    have HP := Lib.hid hp
    have HS := Lib.hid hs1
    clear hW hV hs1 hsz hb1 hbx hc0 hc2 hbV hok
    go_enter Try.func24, Try.ntmps24
    go_wp2_with fail
    refine hti.mono ?_
    rintro e w1 ⟨rfl, rfl⟩
    clear hti
    go_wp2_with fail
    refine hO.mono ?_
    rintro e w1 ⟨rfl, rfl⟩
    clear hO
    rw [← hp]
    clear hp
    go_upto_region 5 with fail
    rw [← HP.out, ← HW.out]
    go_wp2
    refine wp_loop_rounds 1 ?_
    rw [rounds_succ]
    have b0 := HXV.out.c
    have CS := Lib.hid (sortF_c V.heap.size 0 (p + 1) (.slice none 0 0) [] V ⟨rfl, .inl ⟨rfl, rfl⟩⟩ (by omega) HXV.out.c (by intro e; cases e))
    go_wp2_with fail
    refine CS.out.mono ?_
    rintro e w5 ⟨rfl, S, hp, hS, how, htc⟩
    have b5 := (HXV.out.tch htc (fun e => by cases e)).c
    have CR := Lib.hid (rem0_c p 0 none w5 (htc.cell HCV.out (fun e => by cases e)))
    have HB5 := Lib.hid (show Below w.heap.size w w5 from HBV.out.trans (htc.below (fun k hk => by cases hk) HBV.out.size))
    clear CS b0 hp hS how htc
    go_wp2_with fail
    refine CR.out.mono ?_
    rintro e w6 ⟨rfl, rfl⟩
    clear CR
    go_wp2
    go_ret
    exact ⟨none, 0, rfl, HB5.out⟩
  · rw [decide_eq_false hok] at hti
    clear hok
    go_enter Try.func24, Try.ntmps24
    go_wp2_with fail
    refine hti.mono ?_
    rintro e w1 ⟨rfl, rfl⟩
    clear hti
    go_wp2
    go_ret
    exact ⟨none, 0, rfl, Below.refl _ _⟩
end Go.Proofs.Ytpbgccidhpfmgaa
