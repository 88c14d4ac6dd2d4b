/- The walk of AddrBack: at any address, string and Place the call returns true, and nothing that was there is turned. Condition: the library's variables lie as their text lays them; the numbers fit their kinds, the string's length is an int. -/
import Derived.Test.YtolkheelmmgnbaaDoorG1
import Derived.Test.YtolkheelmmgnbaaDoorE1
import Derived.Test.YtolkheelmmgnbaaDoorF2
import Derived.Test.YtolkheelmmgnbaaDoorC3
namespace Go.Proofs.YtolkheelmmgnbaaDoor
open Go Go.RowKit

/-- A Place lies in the first new block; nothing old has turned; the library's variables lie well. -/
structure Back (x : Pl) (w wx : World) : Prop where
  k : wx.cell? ⟨w.heap.size, 0, none⟩ = some (.int .i64 x.k)
  p : wx.cell? ⟨w.heap.size, 1, none⟩ = some (.int .i64 x.p)
  below : Below w.heap.size w wx
  good : Good wx
  size : w.heap.size + 1 ≤ wx.heap.size
theorem Back.start (x : Pl) (w : World) (hg : Good w) : Back x w (w.alloc x.obj) :=
  ⟨by simp [go_sem], by simp [go_sem], bl_al (Below.refl _ _) _, hg.below (bl_al (Below.refl w.heap.size w) _) hg.size, by simp⟩
theorem Back.on {x : Pl} {w wx w' : World} (h : Back x w wx) (hb : Below wx.heap.size wx w') : Back x w w' := by
  have := h.size
  exact ⟨by rw [hb.cell (p := ⟨w.heap.size, 0, none⟩) (by simp; omega)]; exact h.k, by rw [hb.cell (p := ⟨w.heap.size, 1, none⟩) (by simp; omega)]; exact h.p, bl_tr h.below hb, h.good.below hb h.good.size, by have := hb.size; omega⟩

/-- Text of an address, and Parse of that text. -/
theorem text_there (a : Int) (a0 : 0 ≤ a) (a1 : a < 4294967296) : ∃ T : ByteArray,
    (∀ W, Good W → Calls Tryd.prog 12 #[.int .u32 a] W fun e w' => e = .returned (.string T) ∧ Below W.heap.size W w') ∧
    (∀ W, Good W → Calls Tryd.prog 10 #[.string T] W fun e w' => e = .returned (.tuple #[.int .u32 a, .nilIface]) ∧ Below W.heap.size W w') := by
  obtain ⟨b0, h0⟩ : ∃ b : Nat, (b : Int) = a / 16777216 := ⟨(a / 16777216).toNat, by omega⟩
  obtain ⟨b1, h1⟩ : ∃ b : Nat, (b : Int) = a / 65536 % 256 := ⟨(a / 65536 % 256).toNat, by omega⟩
  obtain ⟨b2, h2⟩ : ∃ b : Nat, (b : Int) = a / 256 % 256 := ⟨(a / 256 % 256).toNat, by omega⟩
  obtain ⟨b3, h3⟩ : ∃ b : Nat, (b : Int) = a % 256 := ⟨(a % 256).toNat, by omega⟩
  refine ⟨⟨(textL b0 b1 b2 b3).toArray⟩, fun W hW => ?_, fun W hW => ?_⟩
  · have := text_any a a0 a1 W hW
    rw [← h0, ← h1, ← h2, ← h3] at this
    exact this
  · have hp := parse_text b0 b1 b2 b3 (by omega) (by omega) (by omega) (by omega)
    have hsz : (⟨(textL b0 b1 b2 b3).toArray⟩ : ByteArray).size ≤ 9223372036854775807 := by
      by_cases h : 15 < (⟨(textL b0 b1 b2 b3).toArray⟩ : ByteArray).size
      · rw [parseV, if_pos h] at hp
        cases hp
      · omega
    have := parse_any ⟨(textL b0 b1 b2 b3).toArray⟩ hsz W hW
    rw [hp] at this
    have e : addr4 b0 b1 b2 b3 = a := by unfold addr4; omega
    rw [e] at this
    exact this
/-- What Parse takes has the text that was parsed. -/
theorem text_back (s : ByteArray) (x : Int) (h : parseV s = some x) : 0 ≤ x ∧ x < 4294967296 ∧
    (∀ W, Good W → Calls Tryd.prog 12 #[.int .u32 x] W fun e w' => e = .returned (.string s) ∧ Below W.heap.size W w') := by
  obtain ⟨a, b, c, d, ha, hb, hc, hd, hx, hs⟩ := text_parse h
  have hx' : x = (a : Int) * 16777216 + (b : Int) * 65536 + (c : Int) * 256 + (d : Int) := hx
  refine ⟨by omega, by omega, fun W hW => ?_⟩
  have := text_any x (by omega) (by omega) W hW
  rw [show x / 16777216 = (a : Int) by omega, show x / 65536 % 256 = (b : Int) by omega, show x / 256 % 256 = (c : Int) by omega, show x % 256 = (d : Int) by omega, ← hs] at this
  exact this

/-- Parse's answer, in parts. -/
def resA (o : Option Int) : Int := match o with | some a => a | none => 0
def resE (o : Option Int) : Value := match o with | some _ => .nilIface | none => errno 1
theorem res_parts (o : Option Int) : resV o = .tuple #[.int .u32 (resA o), resE o] := by cases o <;> rfl

theorem node_nil (k p : Int) (w : World) : (binOp .eql 26 (nodeE k p) .nilIface).run Tryd.prog w = .ok (.bool (nodeB k p)) w := by
  by_cases h : NodeOk k p
  · rw [show nodeE k p = .nilIface from if_pos h, nodeB_yes h]
    go_simp
  · rw [show nodeE k p = errno 12 from if_neg h, nodeB_no h]
    go_simp
theorem node_guard (k p : Int) (t : Nat) (w : World) : (eqGuard BinOp.eql 26 (Operand.tmp t) (Operand.const Value.nilIface) (nodeE k p) .nilIface).run Tryd.prog w = .ok () w := by
  by_cases h : NodeOk k p
  · rw [show nodeE k p = .nilIface from if_pos h]
    go_simp
  · rw [show nodeE k p = errno 12 from if_neg h]
    go_simp

set_option maxRecDepth 100000 in
set_option maxHeartbeats 1500000 in
theorem back_any (a : Int) (s : ByteArray) (x : Pl) (a0 : 0 ≤ a) (a1 : a < 4294967296) (hs : s.size ≤ 9223372036854775807) (w : World) (hg : Good w) :
    Calls Tryd.prog 7 #[.int .u32 a, .string s, x.val] w fun e w' => e = .returned (.bool true) ∧ Below w.heap.size w w' := by
  obtain ⟨T, hT, hP⟩ := text_there a a0 a1
  have TH := Lib.hid hT
  have PH := Lib.hid hP
  have B0 := Lib.hid (Back.start x w hg)
  have SP := fun (W : World) (hW : Good W) => parse_any s hs W hW
  rw [res_parts] at SP
  have SH := Lib.hid SP
  clear hT hP hg hs SP
  go_enter Tryd.func7, Tryd.ntmps7
  go_wp2_with (go_at_call 9; refine (alive_any _ B0.out.good).mono ?_; rintro e w1 ⟨rfl, hb1⟩)
  have B1 := Lib.hid (B0.out.on hb1)
  clear hb1
  refine (TH.out _ B1.out.good).mono ?_
  rintro e w2 ⟨rfl, hb2⟩
  have B2 := Lib.hid (B1.out.on hb2)
  clear hb2
  go_wp2_with fail
  refine (PH.out _ B2.out.good).mono ?_
  rintro e w3 ⟨rfl, hb3⟩
  have B3 := Lib.hid (B2.out.on hb3)
  clear hb3 B0 B1 B2 TH PH
  go_wp2_with fail
  refine (SH.out _ B3.out.good).mono ?_
  rintro e w4 ⟨rfl, hb4⟩
  have B4 := Lib.hid (B3.out.on hb4)
  clear hb4 B3 SH
  obtain ⟨o, ho⟩ : ∃ o, o = parseV s := ⟨_, rfl⟩
  rw [← ho]
  have HO := Lib.hid ho
  clear ho
  go_upto_region 7 with fail
  go_cut [57] from 7 (fun s57 wx => s57 = .bool false ∧ Hid (Back x w wx))
  case first =>
    cases hv : o with
    | some y =>
      obtain ⟨y0, y1, hY⟩ := text_back s y (by rw [← HO.out, hv])
      have YH := Lib.hid hY
      have e1 : resA (some y) = y := rfl
      have e2 : resE (some y) = .nilIface := rfl
      clear hY hv
      go_wp2_with (go_at_call 12; refine (YH.out _ B4.out.good).mono ?_; rintro e w5 ⟨rfl, hb5⟩)
      go_meet
      exact ⟨rfl, B4.out.on hb5⟩
    | none =>
      have e1 : resA none = 0 := rfl
      have e2 : resE none = errno 1 := rfl
      clear hv
      go_wp2
      go_meet
      exact ⟨rfl, B4.out⟩
  case rest =>
    obtain ⟨rfl, B5⟩ := hcut
    clear B4
    have ck := B5.out.k
    have cp := B5.out.p
    have nn := node_nil x.k x.p
    have ng := node_guard x.k x.p
    go_upto_if 67 with (go_at_call 30; refine (node_any x.k x.p _).mono ?_; rintro e w6 ⟨rfl, rfl⟩)
    go_cut [] from 9 (fun wx => Hid (Back x w wx))
    case first =>
      by_cases hok : NodeOk x.k x.p
      · obtain ⟨n, hn⟩ : ∃ n, n = x.k + x.p := ⟨_, rfl⟩
        have e2 : nodeB x.k x.p = true := nodeB_yes hok
        have e3 : nodeN x.k x.p = n := by rw [hn]; exact if_pos hok
        have hnode : IsNode n := by unfold NodeOk at hok; unfold IsNode; omega
        have hkd : kd n = x.k := by unfold NodeOk at hok; unfold kd; omega
        have K := kind_ok n hnode
        rw [hkd, show n - x.k = x.p by omega] at K
        obtain ⟨y, hy⟩ : ∃ y, y = 167772160 + n := ⟨_, rfl⟩
        have O := of_ok n hnode
        rw [← hy] at O
        have n0 : 0 ≤ n := by unfold IsNode at hnode; omega
        have n1 : n ≤ 55 := by unfold IsNode at hnode; omega
        have Wh := who_ok y (by unfold IsNodeA; rw [show y - 167772160 = n by omega]; exact hnode)
        rw [show y - 167772160 = n by omega] at Wh
        have V := vip_any y (by omega) (by omega)
        rw [show y / 16777216 = 10 by omega, show vipB 10 = false from rfl] at V
        have KH := Lib.hid K
        have OH := Lib.hid O
        have WH := Lib.hid Wh
        have VH := Lib.hid V
        clear K O Wh V hok hn hnode hkd hy
        rw [e2]
        clear nn ng e2
        go_wp2_with fail
        refine (KH.out _).mono ?_
        rintro e w7 ⟨rfl, rfl⟩
        go_wp2_with fail
        refine (OH.out _).mono ?_
        rintro e w8 ⟨rfl, rfl⟩
        go_wp2_with fail
        refine (WH.out _).mono ?_
        rintro e w9 ⟨rfl, hb9⟩
        have ck9 := (B5.out.on hb9).k
        have cp9 := (B5.out.on hb9).p
        clear ck cp
        go_wp2_with fail
        refine (VH.out _).mono ?_
        rintro e w10 ⟨rfl, hb10⟩
        go_wp2
        go_meet
        exact (B5.out.on hb9).on hb10
      · have e2 : nodeB x.k x.p = false := nodeB_no hok
        clear hok
        rw [e2]
        clear nn ng e2
        go_wp2
        go_meet
        exact B5.out
    case rest =>
      have B6 := Lib.hid hcut.out
      clear hcut B5 ck cp nn ng
      by_cases hd : IsDip a
      · have H1 := home_ok a hd
        obtain ⟨p1, p2, p3⟩ := hd
        obtain ⟨h, eh⟩ : ∃ h, h = a / 256 % 256 := ⟨_, rfl⟩
        obtain ⟨v, ev⟩ : ∃ v, v = a % 256 := ⟨_, rfl⟩
        have h0 : 0 ≤ h := by omega
        have h1 : h < 8 := by omega
        have v0 : 0 ≤ v := by omega
        have v1 : v < 16 := by omega
        rw [← eh, ← ev] at H1
        have D := dip_ok h v h0 h1 v0 v1
        rw [show 167837696 + 256 * h + v = a by omega] at D
        have V := vip_any a a0 a1
        rw [show a / 16777216 = 10 by omega, show vipB 10 = false from rfl] at V
        have HH := Lib.hid H1
        have DH := Lib.hid D
        have VH := Lib.hid V
        clear H1 D V p1 p2 p3 eh ev
        go_wp2_with fail
        refine (HH.out _).mono ?_
        rintro e w7 ⟨rfl, hb7⟩
        go_wp2_with fail
        rw [show 48 + h - 48 = h by omega]
        refine (DH.out _).mono ?_
        rintro e w8 ⟨rfl, hb8⟩
        go_wp2_with fail
        refine (VH.out _).mono ?_
        rintro e w9 ⟨rfl, hb9⟩
        go_wp2
        go_ret
        exact ⟨rfl, bl_tr (bl_tr (bl_tr B6.out.below hb7) hb8) hb9⟩
      · have HH := Lib.hid (home_no a a0 a1 hd)
        clear hd
        go_wp2_with (go_at_call 18; refine (HH.out _).mono ?_; rintro e w7 ⟨rfl, hb7⟩)
        go_ret
        exact ⟨rfl, bl_tr B6.out.below hb7⟩
end Go.Proofs.YtolkheelmmgnbaaDoor
