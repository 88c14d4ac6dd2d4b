/- Contract of SumRows: true. Conditions: the row's cells hold bytes, the numbers fit their kinds. -/
import Derived.Test.YtjmpmegodhglcaaB3
namespace Go.Proofs.Ytjmpmegodhglcaa
open Go Go.RowKit

set_option maxRecDepth 100000 in
theorem rows_any (l : List Int) (a : Option Addr) (cap : Nat) (i j d : Int) (w : World) (hA : At w (.slice a l.length cap) l) (hf : fit l) (hl : l.length ≤ maxLen) (hcap : l.length ≤ cap) (hd : w16 d) :
    Calls Try.prog 6 #[.agg #[.slice a l.length cap, .int .i64 i, .int .i64 j, .int .u16 d]] w fun e w' => e = .returned (.bool true) ∧ Below w.heap.size w w' := by
  have hb0 := bl_al (Below.refl w.heap.size w) (.cells #[.slice a l.length cap, .int .i64 i, .int .i64 j, .int .u16 d] 40)
  have C := Lib.hid (bears_any l a cap i j d _ (hA.below hb0) hf hl hcap hd)
  have HB := Lib.hid hb0
  obtain ⟨n, hn⟩ : ∃ n, n = l.length := ⟨_, rfl⟩
  rw [← hn] at C HB
  rw [← hn]
  clear hA hf hl hcap hd hb0 hn
  go_enter Try.func6, Try.ntmps6
  go_wp2_with fail
  refine C.out.mono ?_
  rintro e w2 ⟨rfl, hb⟩
  have HB2 := Lib.hid (bl_tr HB.out hb)
  clear hb
  go_wp2
  go_ret
  exact ⟨rfl, HB2.out⟩
end Go.Proofs.Ytjmpmegodhglcaa
