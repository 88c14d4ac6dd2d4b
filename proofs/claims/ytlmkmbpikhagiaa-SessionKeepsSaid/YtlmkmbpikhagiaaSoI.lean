/- slices.Compact, Clone, Equal, Index and Contains at rows of addresses.
 Conditions: those stated. -/
import Derived.Test.YtlmkmbpikhagiaaSoH
import Derived.Lib.SlicesCompact
import Derived.Lib.SliceRun
import Derived.Lib.AppendZeros
import Derived.Deep.LoopGhost
import Derived.Deep.CutRange
import Derived.Deep.CutBlock
namespace Go.Proofs.Ytlmkmbpikhagiaa
open Go Go.RowKit Go.Sort Go.Lib
set_option linter.unusedVariables false
set_option linter.unusedSimpArgs false

theorem Sr.set {blk off : Nat} {pre rest : List Value} {n : Nat} {w W : World} {d : Array Int} (h : Sr blk off pre rest n w d W) (i : Nat) (hi : i < n) (x : Int) : Sr blk off pre rest n w (d.setIfInBounds i x) (W.setCell ⟨blk, off + i, none⟩ (.int .u32 x)) := by
  have h1 := put_row (i := off + i) h.row (.int .u32 x)
  have e1 : (pre ++ rowC d ++ rest).toArray.setIfInBounds (off + i) (.int .u32 x) = (pre ++ rowC (d.setIfInBounds i x) ++ rest).toArray := by
    rw [List.setIfInBounds_toArray, ← h.off, set_mid _ _ _ _ _ (by rw [rowC_len, h.len]; exact hi), rowC_set]
  rw [e1] at h1
  exact ⟨by rw [Array.size_setIfInBounds]; exact h.len, h1, h.off, h.tch.trans (tch_set W ⟨blk, off + i, none⟩ (.int .u32 x))⟩
theorem Sr.lay {blk off : Nat} {pre rest : List Value} {n : Nat} {w : World} : ∀ (xs : List Int) {W : World} {d : Array Int} (k : Nat), Sr blk off pre rest n w d W → k + xs.length ≤ n → Sr blk off pre rest n w (Lib.lay d k xs) (W.setCells blk (off + k) (xs.map (Value.int .u32)))
  | [], _, _, _, h, _ => h
  | x :: r, W, d, k, h, hk => by
    have h2 := Sr.lay r (k + 1) (h.set k (by simp at hk; omega) x) (by simp at hk; omega)
    exact h2
theorem quiet_eq {w w' w2 : World} {q : Nat} (h : w' = w.drewN q) : w' = w.drewN q := h
/-- What Compact leaves. -/
def CompOut (blk off cap : Nat) (pre rest : List Value) (n : Nat) (w : World) (d : Array Int) (e : Ending) (w' : World) : Prop := ∃ (k : Nat) (d' : Array Int), e = .returned (.slice (some ⟨blk, off, none⟩) k cap) ∧ k ≤ n ∧ d'.toList.take k = compactUpTo d d.size ∧ (compactUpTo d d.size).length = k ∧ Sr blk off pre rest n w d' w'
set_option maxRecDepth 100000 in
set_option maxHeartbeats 4000000 in
theorem compact_row (blk off cap : Nat) (pre rest : List Value) (n : Nat) (d : Array Int) (w : World) (hS : Sr blk off pre rest n w d w) (hcap : n ≤ cap) (hsz : n < 4611686018427387904) :
    Calls Try.prog 53 #[.slice (some ⟨blk, off, none⟩) n cap] w (CompOut blk off cap pre rest n w d) := by
  have hds : d.size = n := hS.len
  have H0 := Lib.hid hS
  have HSame : Hid ((∀ j, j < n → keeps d j = true) → n ≤ n ∧ d.toList.take n = compactUpTo d d.size ∧ (compactUpTo d d.size).length = n) := Lib.hid (fun hall => by
    have e : compactUpTo d d.size = d.toList := by rw [compactUpTo_all d _ (by rw [hds]; exact hall), range_map_get]
    rw [e]
    exact ⟨Nat.le_refl _, List.take_of_length_le (by simp [hds]), by simp [hds]⟩)
  have HDS := Lib.hid hds
  clear hS hds
  by_cases h2 : n < 2
  · have h2z : (n : Int) < 2 := by omega
    go_enter Try.func53, Try.ntmps53
    go_wp2
    go_ret
    obtain ⟨e1, e2, e3⟩ := HSame.out (fun j hj => keeps_lt_one d j (by omega))
    exact ⟨n, d, rfl, e1, e2, e3, H0.out⟩
  · have h2z : ¬ (n : Int) < 2 := by omega
    go_enter Try.func53, Try.ntmps53
    go_wp2
    go_loopg [3] n (fun kx s3 wr => ∃ k : Nat, 1 ≤ k ∧ k ≤ n ∧ n - k ≤ kx ∧ s3 = .int .i64 k ∧ Hid (Sr blk off pre rest n w d wr) ∧ Hid (∀ j, j < k → keeps d j = true))
    case atStart => exact ⟨1, Nat.le_refl _, by omega, by omega, rfl, H0, Lib.hid (keeps_lt_one d)⟩
    case round =>
      obtain ⟨k, hk1, hk, hkx, rfl, HW, HA⟩ := hrel
      obtain ⟨w2, rfl⟩ : ∃ v, v = wr := ⟨_, rfl⟩
      clear H0
      by_cases hlt : k < n
      · have hltz : (k : Int) < (n : Int) := by omega
        obtain ⟨G, hG⟩ : ∃ G : Nat → Int, ∀ t, G t = d[t]! := ⟨fun t => d[t]!, fun _ => rfl⟩
        have hcw : ∀ t, t < n → w2.cell? ⟨blk, off + t, none⟩ = some (.int .u32 (G t)) := fun t ht => by rw [hG]; exact HW.out.cell t ht
        have hfw := HW.out.free
        have HG : Hid (∀ t, G t = d[t]!) := Lib.hid hG
        clear hG
        by_cases hxy : G k = G (k - 1)
        · have hb : (G k == G (k - 1)) = true := by simp [hxy]
          have HK := Lib.hid (keeps_neg (d := d) (m := k) (by omega) (by rw [← HG.out, ← HG.out]; exact hxy))
          clear hxy
          go_wp2
          go_quiet (fail)
          go_wp2
          have H3 := Lib.hid (HW.out.drewN nq)
          obtain ⟨w3, hw3⟩ : ∃ v, v = w2.drewN nq := ⟨_, rfl⟩
          rw [← hw3] at H3 ⊢
          clear hw3 hcw hfw HG hb
          go_loopg [3, 5] n (fun kx s3 s5 wr => ∃ (kk k2 : Nat) (dk : Array Int), s3 = .int .i64 kk ∧ s5 = .int .i64 k2 ∧ 1 ≤ k2 ∧ k + k2 ≤ n ∧ n - (k + k2) ≤ kx ∧ kk < k + k2 ∧ Hid (Sr blk off pre rest n w dk wr) ∧ Hid (CompInv d (k + k2) kk dk))
          case atStart => exact ⟨k, 1, d, rfl, rfl, Nat.le_refl _, by omega, by omega, by omega, H3, Lib.hid (CompInv.start HA.out HK.out)⟩
          case round =>
            obtain ⟨kk, k2, dk, rfl, rfl, h1, hle, hg2, hkk, H4, HI⟩ := hrel
            obtain ⟨w4, rfl⟩ : ∃ v, v = wr := ⟨_, rfl⟩
            clear H3
            by_cases hlt2 : k + k2 < n
            · have hlt2z : (k2 : Int) < (n : Int) - (k : Int) := by omega
              obtain ⟨G, hG⟩ : ∃ G : Nat → Int, ∀ t, G t = dk[t]! := ⟨fun t => dk[t]!, fun _ => rfl⟩
              have hcw : ∀ t, t < n → w4.cell? ⟨blk, off + t, none⟩ = some (.int .u32 (G t)) := fun t ht => by rw [hG]; exact H4.out.cell t ht
              have hfw := H4.out.free
              have hu : G (k + k2) = d[k + k2]! := by rw [hG]; exact HI.out.high (k + k2) (by omega)
              have hv : G (k + k2 - 1) = d[k + k2 - 1]! := by rw [hG]; exact HI.out.high (k + k2 - 1) (by omega)
              have HUV := Lib.hid (And.intro hu hv)
              clear hu hv hG
              have EQ := Lib.hid (show k + (k2 - 1) = k + k2 - 1 by omega)
              by_cases huv : G (k + k2) = G (k + (k2 - 1))
              · have hb : (G (k + k2) != G (k + (k2 - 1))) = false := by simp [huv]
                have HK2 := Lib.hid (keeps_neg (d := d) (m := k + k2) (by omega) (by rw [← HUV.out.1, ← HUV.out.2, huv, EQ.out]))
                clear huv
                go_wp2
                go_quiet (fail)
                go_wp2
                go_roundg (n - (k + (k2 + 1)))
                case measure => omega
                case rel => exact ⟨kk, k2 + 1, dk, rfl, by go_num, by omega, by omega, Nat.le_refl _, by omega, Lib.hid (H4.out.drewN _), Lib.hid (HI.out.skip HK2.out)⟩
              · have hb : (G (k + k2) != G (k + (k2 - 1))) = true := by simp [huv]
                have HK2 := Lib.hid (keeps_pos (d := d) (m := k + k2) (by rw [← HUV.out.1, ← HUV.out.2, ← EQ.out]; exact huv))
                clear huv
                go_wp2
                go_quiet (fail)
                go_wp2
                go_roundg (n - (k + (k2 + 1)))
                case measure => omega
                case rel => exact ⟨kk + 1, k2 + 1, dk.setIfInBounds kk d[k + k2]!, by go_num, by go_num, by omega, by omega, Nat.le_refl _, by omega, Lib.hid (by rw [← HUV.out.1]; exact (H4.out.drewN _).set kk (by omega) _), Lib.hid (by have := HI.out.keep (by rw [HDS.out]; exact hlt2) HK2.out; exact this)⟩
            · have hend : k + k2 = n := by omega
              have hltz : ¬ (k2 : Int) < (n : Int) - (k : Int) := by omega
              have hcl : ∀ ty, (Builtin.clear_ #[33] ty #[.slice (some ⟨blk, off + kk, none⟩) (n - kk) (cap - kk)]).run Try.prog w4 = .ok (.tuple #[]) (w4.setCells blk (off + kk) (List.replicate (n - kk) (.int .u32 0))) :=
                fun ty => Lib.run_clear_slice w4 _ _ ty _ Try.underlying33 Try.zeroValue44 rfl rfl blk (off + kk) _ _ (by omega) (fun j hj => by rw [show off + kk + j = off + (kk + j) by omega, H4.out.cell (kk + j) (by omega)]; rfl) (fun j hj => by rw [show off + kk + j = off + (kk + j) by omega]; exact H4.out.free (kk + j) (by omega))
              have H5 : Hid (Sr blk off pre rest n w (Lib.lay dk kk (List.replicate (n - kk) 0)) (w4.setCells blk (off + kk) (List.replicate (n - kk) (.int .u32 0)))) := Lib.hid (by
                have := H4.out.lay (List.replicate (n - kk) 0) kk (by rw [List.length_replicate]; omega)
                rw [List.map_replicate] at this
                exact this)
              have HL : Hid ((compactUpTo d d.size).length = kk ∧ (Lib.lay dk kk (List.replicate (n - kk) 0)).toList.take kk = compactUpTo d d.size) := Lib.hid (by
                have hI := HI.out
                have hds := HDS.out
                rw [hend, ← hds] at hI
                have hd := hI.done 0
                rw [hds] at hd
                have hlen := hI.len
                refine ⟨hlen, ?_⟩
                rw [hd, hds]
                have : (compactUpTo d n).length = kk := by rw [hds] at hlen; exact hlen
                simp [← this])
              obtain ⟨w5, hw5⟩ : ∃ v, v = w4.setCells blk (off + kk) (List.replicate (n - kk) (.int .u32 0)) := ⟨_, rfl⟩
              rw [← hw5] at hcl H5
              clear hw5
              go_wp2
              go_ret
              exact ⟨kk, _, rfl, by omega, HL.out.2, HL.out.1, H5.out⟩
        · have hb : (G k == G (k - 1)) = false := by simp [hxy]
          have HK := Lib.hid (keeps_pos (d := d) (m := k) (by rw [← HG.out, ← HG.out]; exact hxy))
          clear hxy
          go_wp2
          go_quiet (fail)
          go_wp2
          go_roundg (n - (k + 1))
          case measure => omega
          case rel => exact ⟨k + 1, by omega, by omega, Nat.le_refl _, by go_num, Lib.hid (HW.out.drewN _), Lib.hid (fun j hj => by
              rcases Nat.lt_or_ge j k with h | h
              · exact HA.out j h
              · rw [show j = k by omega]; exact HK.out)⟩
      · have hltz : ¬ (k : Int) < (n : Int) := by omega
        have hkn : k = n := by omega
        go_wp2
        go_ret
        obtain ⟨e1, e2, e3⟩ := HSame.out (by rw [← hkn]; exact HA.out)
        exact ⟨n, d, rfl, e1, e2, e3, HW.out⟩
end Go.Proofs.Ytlmkmbpikhagiaa
