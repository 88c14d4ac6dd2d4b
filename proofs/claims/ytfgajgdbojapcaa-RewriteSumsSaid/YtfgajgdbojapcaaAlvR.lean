/- Contract of towpathlaw04.alive: it returns true. No conditions. -/
import Derived.Test.YtfgajgdbojapcaaRefR
namespace Go.Proofs.Ytfgajgdbojapcaa
open Go Go.RowKit
set_option linter.unusedVariables false
set_option linter.unusedSimpArgs false

theorem in_far {w w' : World} {a : Option Addr} {n c q : Nat} {l : List Int} (h : In w a n c l) (hg : w.grownBy w' (some q)) (hne : ∀ b off, a = some ⟨b, off, none⟩ → 0 < n → b ≠ q) : In w' a n c l := by
  refine ⟨h.len, h.room, h.none, ?_, h.fit⟩
  obtain ⟨a', cap', e, hA⟩ := h.here
  simp only [Value.slice.injEq] at e
  obtain ⟨rfl, _, rfl⟩ := e
  refine ⟨a, c, by rw [h.len], ?_⟩
  rcases hA with h0 | ⟨b, off, e, hc⟩
  · exact .inl h0
  · refine .inr ⟨b, off, e, fun j hj => ?_⟩
    have hn := hne b off e (by rw [← h.len]; omega)
    exact hg.cell (hc j hj) (by simp; exact hn)
/-- A row of bytes lies in no packet's block. -/
theorem in_ne {w : World} {a : Option Addr} {n c q : Nat} {l : List Int} (h : In w a n c l) {p : Pk} {ao : Option Addr} {k cp : Nat} (hq : w.heap[q]? = some (.cells (p.cs ao k cp) 28 (0, 0))) : ∀ b off, a = some ⟨b, off, none⟩ → 0 < n → b ≠ q := by
  rintro b off rfl hn rfl
  have h0 := in_cell h 0 hn
  rw [cell_of_row w b _ _ _ _ hq, ← Array.getElem?_toList] at h0
  have hm := List.mem_of_getElem? h0
  simp at hm
theorem own_far {w w' : World} {B g n size : Nat} {e : TypeId} {v : Value} {xs : List Value} (h : w.ownsRow B e size v n xs) (hg : w.grownBy w' (some g)) (hgB : g < B) : w'.ownsRow B e size v n xs := by
  refine h.kept hg ?_
  cases hv : v.ownBlock with
  | none => exact .inl rfl
  | some k => exact .inr (fun e => by have := (h.lt k hv).1; cases e; omega)
def ex4 : Pk := ⟨0, 0, 64, 17, 134744072, 5000, 16843009, 80, 0, 0, 0, 0, [104, 105]⟩
theorem ex4_ok : Ok ex4 := ⟨by decide, by decide, by decide, by decide, by decide, by decide, by decide, by decide, by decide, by decide⟩
theorem ex4_typed : Typed ex4 := ⟨by decide, by decide, by decide, by decide, by intro b hb; simp [ex4] at hb; rcases hb with rfl | rfl <;> decide⟩
theorem ex4_ne : same (bts ex4) (bts (reD ex4 167837697 8080)) = false := by decide +kernel
theorem reD_ok {p : Pk} {A P : Int} (h : Ok p) (hP : portOk P) : Ok (reD p A P) := ⟨h.tos, h.id, h.ttl, h.proto, h.sp, hP, h.flags, h.win, h.udp, h.len⟩
theorem reD_typed {p : Pk} {A P : Int} (t : Typed p) (hA : 0 ≤ A ∧ A < 4294967296) : Typed (reD p A P) := ⟨t.src, hA, t.seq, t.ack, t.data⟩
theorem reS_ok {p : Pk} {A P : Int} (h : Ok p) (hP : portOk P) : Ok (reS p A P) := ⟨h.tos, h.id, h.ttl, h.proto, hP, h.dp, h.flags, h.win, h.udp, h.len⟩
theorem reS_typed {p : Pk} {A P : Int} (t : Typed p) (hA : 0 ≤ A ∧ A < 4294967296) : Typed (reS p A P) := ⟨hA, t.dst, t.seq, t.ack, t.data⟩

set_option maxRecDepth 100000 in
set_option maxHeartbeats 1000000 in
theorem alive4_any (w : World) : Calls Try.prog 29 #[] w fun e w' => e = .returned (.bool true) ∧ Below w.heap.size w w' := by
  obtain ⟨p, hp⟩ : ∃ p, p = ex4 := ⟨_, rfl⟩
  have hok : Ok p := by rw [hp]; exact ex4_ok
  have hty : Typed p := by rw [hp]; exact ex4_typed
  have hdat : p.data = [104, 105] := by rw [hp]; rfl
  have hA : (0 : Int) ≤ 167837697 ∧ (167837697 : Int) < 4294967296 := by decide
  have hP : portOk 8080 := by unfold portOk; decide
  obtain ⟨W, hW⟩ : ∃ W, (w.alloc (.cells #[.int .u8 104, .int .u8 105] 5 (2, 3))).alloc (.cells #[.int .i64 0, .int .i64 0, .int .i64 64, .int .i64 17, .int .u32 134744072, .int .i64 5000, .int .u32 16843009, .int .i64 80, .int .u32 0, .int .u32 0, .int .i64 0, .int .i64 0, .slice (some ⟨w.heap.size, 0, none⟩) 2 2] 28) = W := ⟨_, rfl⟩
  obtain ⟨q, hq⟩ : ∃ q, q = w.heap.size + 1 := ⟨_, rfl⟩
  have hin : In (w.alloc (.cells #[.int .u8 104, .int .u8 105] 5 (2, 3))) (some ⟨w.heap.size, 0, none⟩) 2 2 p.data := by
    refine ⟨by rw [hdat]; rfl, by omega, (fun e => by cases e), ?_, hty.data⟩
    rw [hdat]
    exact At.new w [104, 105] _ rfl 5 (2, 3) 2 _ rfl 2 rfl
  have HIN : Hid (In W (some ⟨w.heap.size, 0, none⟩) 2 2 p.data) := Lib.hid (by rw [← hW]; exact hin.below (bl_al (Below.refl _ _) _))
  have HB : Hid (Below w.heap.size w W) := Lib.hid (by rw [← hW]; exact bl_al (bl_al (Below.refl _ _) _) _)
  have HPW : Hid (W.heap[q]? = some (.cells (p.cs (some ⟨w.heap.size, 0, none⟩) 2 2) 28 (0, 0))) := Lib.hid (by
    have hs : (w.alloc (.cells #[.int .u8 104, .int .u8 105] 5 (2, 3))).heap.size = w.heap.size + 1 := by simp
    rw [← hW, hq, ← hs, hp]
    exact heap_alloc_new _ _)
  have HW := Lib.hid hW
  have HQ := Lib.hid hq
  have HQW : Hid (w.heap.size ≤ q) := Lib.hid (by omega)
  have CB := Lib.hid (fun X (h : In X (some ⟨w.heap.size, 0, none⟩) 2 2 p.data) => refBuild_ok p (some ⟨w.heap.size, 0, none⟩) 2 2 hok hty X h)
  have his := (Is.of hok hty (b := bts p) rfl)
  have hout : Out (bts p) (portOk 8080) (reD (dec (bts p)) 167837697 8080) (bts (reD p 167837697 8080)) .nilIface 0 := .inl ⟨his.1, hP, by rw [his.2], rfl, rfl⟩
  have h46 := bts_len p
  have hlen : 20 + segLen p ≤ 4611686018427387904 := by have := hok.len; omega
  have CD := Lib.hid (fun X (ao : Option Addr) (c : Nat) (h : In X ao (20 + segLen p) c (bts p)) => dest_t hout hA ao (20 + segLen p) c X h hlen)
  have CB2 := Lib.hid (fun X (h : In X (some ⟨w.heap.size, 0, none⟩) 2 2 p.data) => refBuild_ok (reD p 167837697 8080) (some ⟨w.heap.size, 0, none⟩) 2 2 (reD_ok hok hP) (reD_typed hty hA) X h)
  have sq := str_eq (fit_bts hty.data) (fit_bts (reD_typed (P := 8080) hty hA).data)
  have hne : same (bts p) (bts (reD p 167837697 8080)) = false := by rw [hp]; exact ex4_ne
  rw [hne] at sq
  have HSQ := Lib.hid sq
  have H46 := Lib.hid h46
  have H47 : Hid ((bts (reD p 167837697 8080)).length = 20 + segLen (reD p 167837697 8080)) := Lib.hid (bts_len _)
  have HFD := Lib.hid (fit_bts (reD_typed (P := 8080) hty hA).data)
  obtain ⟨n, hn⟩ : ∃ n, n = 20 + segLen p := ⟨_, rfl⟩
  rw [← hn] at CD H46
  have HN := Lib.hid hn
  clear hok hty hdat hA hP hW hq hin his hout h46 hlen sq hne hp hn
  have kc := fun (w : World) (C : Array Value) (n c : Nat) => Lib.run_convert_bytes_const (P := Try.prog) w 26 5 C n c Try.underlying26 Try.underlying5
  go_enter Try.func29, Try.ntmps29
  go_upto_region 2 with fail
  rw [HW.out, ← HQ.out]
  obtain ⟨x0, x1, x2, x3, x4, x5, x6, x7, x8, x9, x10, x11, x12⟩ := PkAt.of HPW.out
  go_wp2_with fail
  refine (CB.out W HIN.out).mono ?_
  rintro e w1 ⟨a1, c1, rfl, hin, hb⟩
  rw [← HN.out] at hin
  rw [← HN.out]
  have HI1 := Lib.hid hin
  have HP1 : Hid (w1.heap[q]? = some (.cells (p.cs (some ⟨w.heap.size, 0, none⟩) 2 2) 28 (0, 0))) := Lib.hid ((hb.block _ (lt_of_block HPW.out)).trans HPW.out)
  have HB1 := Lib.hid (bl_tr HB.out hb)
  have HD1 := Lib.hid (HIN.out.below hb)
  clear hin hb HB HPW HIN CB x0 x1 x2 x3 x4 x5 x6 x7 x8 x9 x10 x11 x12
  go_wp2_with fail
  refine (CD.out w1 a1 c1 HI1.out).mono ?_
  rintro e w2 ⟨a2, k2, c2, rfl, hk, hown, hb⟩
  have hlc : k2 = 20 + segLen (reD p 167837697 8080) := by rw [hk]; exact H47.out
  have HI2 := Lib.hid (own_row hown hk.symm HFD.out)
  have HJ2 := Lib.hid (HI1.out.below hb)
  have HP2 : Hid (w2.heap[q]? = some (.cells (p.cs (some ⟨w.heap.size, 0, none⟩) 2 2) 28 (0, 0))) := Lib.hid ((hb.block _ (lt_of_block HP1.out)).trans HP1.out)
  have HB2 := Lib.hid (bl_tr HB1.out hb)
  have HD2 := Lib.hid (HD1.out.below hb)
  have HK2 := Lib.hid hlc
  clear hk hlc hown hb HI1 HP1 HB1 HD1 CD
  obtain ⟨x0, x1, x2, x3, x4, x5, x6, x7, x8, x9, x10, x11, x12⟩ := PkAt.of HP2.out
  have xf := fun o => frozen_of_row w2 q o _ _ HP2.out
  go_wp2_with fail
  obtain ⟨X, hX⟩ : ∃ X, X = (w2.setCell ⟨q, 6, none⟩ (.int .u32 167837697)).setCell ⟨q, 7, none⟩ (.int .i64 8080) := ⟨_, rfl⟩
  have HG : Hid (w2.grownBy X (some q)) := Lib.hid (by rw [hX]; exact (grown_set _ _ _ _).trans (grown_set _ _ _ _))
  have HDX : Hid (In X (some ⟨w.heap.size, 0, none⟩) 2 2 p.data) := Lib.hid (in_far HD2.out HG.out (in_ne HD2.out HP2.out))
  have HJX := Lib.hid (in_far HJ2.out HG.out (in_ne HJ2.out HP2.out))
  have HIX := Lib.hid (in_far HI2.out HG.out (in_ne HI2.out HP2.out))
  have HBX := Lib.hid (HB2.out.grown HG.out HB2.out.size (fun k hk => by cases hk; exact HQW.out))
  rw [← hX]
  clear hX
  refine (CB2.out X HDX.out).mono ?_
  rintro e w3 ⟨a3, c3, rfl, hin, hb⟩
  have HB3 := Lib.hid (bl_tr HBX.out hb)
  have sA := str_of (HJX.out.below hb).here (HJX.out.len)
  have sB := str_of (HIX.out.below hb).here (HIX.out.len)
  have sC := str_of hin.here hin.len
  obtain ⟨s, hs⟩ : ∃ s, s = strOfNums (bts p) := ⟨_, rfl⟩
  obtain ⟨t, ht⟩ : ∃ t, t = strOfNums (bts (reD p 167837697 8080)) := ⟨_, rfl⟩
  have sq := HSQ.out
  rw [← hs] at sA sq
  rw [← ht] at sB sC sq
  obtain ⟨N, hN⟩ : ∃ N, N = 20 + segLen (reD p 167837697 8080) := ⟨_, rfl⟩
  rw [← hN] at sC
  rw [← hN]
  have sn : (s.toList != t.toList) = true := by simp [bne, sq]
  have st : (t.toList == t.toList) = true := by simp
  clear hin hb hs ht hN x0 x1 x2 x3 x4 x5 x6 x7 x8 x9 x10 x11 x12 xf
  go_wp2
  go_ret
  exact ⟨rfl, HB3.out⟩
end Go.Proofs.Ytfgajgdbojapcaa
