/- A speaker and a listener beside each other.
 Conditions: those stated. -/
import Derived.Test.YtlmkmbpikhagiaaLiE
import Derived.Test.YtlmkmbpikhagiaaSpH
import Derived.Test.YtlmkmbpikhagiaaIntA
namespace Go.Proofs.Ytlmkmbpikhagiaa
open Go Go.RowKit Go.Lib
set_option linter.unusedVariables false
set_option linter.unusedSimpArgs false

/-- Both live, in new memory of their own. -/
def Pr (w0 w : World) (p q : Nat) (boot : Int) (op : Bool) (vips : List Int) (said : List Mg) (l : List Se) : Prop :=
  Below w0.heap.size w0 w ∧ ∃ FS FL : Nat → Prop, SpS 78 w FS w0.heap.size p boot op vips said ∧ LiS w FL w0.heap.size q l ∧ ∀ k, FS k → ¬ FL k
section
variable {w0 w w' : World} {p q : Nat} {boot : Int} {op op' : Bool} {vips vips' : List Int} {said said' : List Mg} {l l' : List Se}
theorem Pr.below (h : Pr w0 w p q boot op vips said l) (hb : Below w.heap.size w w') : Pr w0 w' p q boot op vips said l := by
  obtain ⟨h0, FS, FL, hs, hl, hd⟩ := h
  exact ⟨bl_tr h0 hb, FS, FL, hs.below hb, hl.below hb, hd⟩
theorem Pr.sp (h0 : Below w0.heap.size w0 w) {FS FL : Nat → Prop} (hs : SpS 78 w FS w0.heap.size p boot op vips said) (hl : LiS w FL w0.heap.size q l) (hd : ∀ k, FS k → ¬ FL k)
    (ht : SpTo 78 w FS w0.heap.size p boot op' vips' said' w') : Pr w0 w' p q boot op' vips' said' l := by
  refine ⟨((tch_below h0).trans (ht.2.mono (fun k hk => (hs.blocks k hk).1))).below (fun _ h => h) (Nat.le_refl _), _, FL, ht.1, hl.tch ht.2 (fun k hk hk2 => hd k hk2 hk), fun k hk hf => ?_⟩
  rcases hk with hk | hk
  · exact hd k hk hf
  · have := (hl.blocks k hf).2; omega
theorem Pr.li (h0 : Below w0.heap.size w0 w) {FS FL : Nat → Prop} (hs : SpS 78 w FS w0.heap.size p boot op vips said) (hl : LiS w FL w0.heap.size q l) (hd : ∀ k, FS k → ¬ FL k)
    (ht : LiTo w FL w0.heap.size q l' w') : Pr w0 w' p q boot op vips said l' := by
  refine ⟨((tch_below h0).trans (ht.2.mono (fun k hk => (hl.blocks k hk).1))).below (fun _ h => h) (Nat.le_refl _), FS, _, hs.tch ht.2 (fun k hk hk2 => hd k hk hk2), ht.1, fun k hk hf => ?_⟩
  rcases hf with hf | hf
  · exact hd k hk hf
  · have := (hs.blocks k hk).2; omega
/-- A row of one message, read. -/
theorem one_of {G : Nat → Prop} {B : Nat} {v : Value} {m : Mg} (h : MsR w G B v [m]) : ∃ g cap a n c, v = .slice (some ⟨g, 0, none⟩) 1 cap ∧ w.cell? ⟨g, 0, none⟩ = some (.int .i64 m.kind) ∧ w.cell? ⟨g, 1, none⟩ = some (.slice a n c) ∧ w.cell? ⟨g, 2, none⟩ = some (.slice none 0 0) ∧ InI w a n c m.nums ∧ n = m.nums.length := by
  obtain ⟨us, ho, ha, -⟩ := h
  match us, ha with
  | [u], ha =>
    obtain ⟨⟨hk, hdt, hn, hown, hf, -⟩, -⟩ := ha
    rcases ho.2 with ⟨-, h0⟩ | ⟨g, cap, cur, rfl, -, hg, hc, -, hsz, htk⟩
    · cases h0
    · refine ⟨g, cap, u.a, u.n, u.c, rfl, ?_, ?_, ?_, own_inI hown hn.symm hf, hn⟩
      all_goals
        rw [cell_of_row w g _ _ _ _ hg]
        have hgt : ∀ i, i < 3 → cur.toList[i]? = (cellsM [u])[i]? := fun i hi => by
          rw [← htk, List.getElem?_take]
          rw [if_pos (by show i < 1 * 3; omega)]
        first
        | (have := hgt 0 (by omega); rw [Array.getElem?_toList] at this; rw [this, ← hk]; rfl)
        | (have := hgt 1 (by omega); rw [Array.getElem?_toList] at this; rw [this]; rfl)
        | (have := hgt 2 (by omega); rw [Array.getElem?_toList] at this; rw [this]; rfl)
theorem pr_out {m : Mg} (h : Pr w0 w p q boot op vips [m] l) : Calls Try.prog 20 #[.pointer (some ⟨p, 0, none⟩)] w fun e w' =>
    Pr w0 w' p q boot op vips [] l ∧ ∃ g cap a n c, e = .returned (.slice (some ⟨g, 0, none⟩) 1 cap) ∧ w'.cell? ⟨g, 0, none⟩ = some (.int .i64 m.kind) ∧ w'.cell? ⟨g, 1, none⟩ = some (.slice a n c) ∧ w'.cell? ⟨g, 2, none⟩ = some (.slice none 0 0) ∧ InI w' a n c m.nums ∧ n = m.nums.length := by
  obtain ⟨h0, FS, FL, hs, hl, hd⟩ := h
  refine (out_c FS w0.heap.size p boot op vips [m] w hs h0.size).mono (fun e w' hh => ?_)
  obtain ⟨G, sv, rfl, h1, h2, h3, h4, h5⟩ := hh
  obtain ⟨g, cap, a, n, c, rfl, c0, c1, c2, hI, hn⟩ := one_of h2
  exact ⟨⟨((tch_below h0).trans (h4.mono (fun k hk => (hs.blocks k hk).1))).below (fun _ h => h) (Nat.le_refl _), _, FL, h1, hl.tch h4 (fun k hk hk2 => hd k hk2 hk), fun k hk hf => hd k hk.1 hf⟩, g, cap, a, n, c, rfl, c0, c1, c2, hI, hn⟩
theorem pr_ann {x : List Int} {a : Option Addr} {n c : Nat} (h : Pr w0 w p q boot op vips said l) (hsd : said.length ≤ 100000) (hI : InA w a n c x) (hn : n * 4 ≤ 140737488351232) :
    Calls Try.prog 12 #[.pointer (some ⟨p, 0, none⟩), .slice a n c] w fun e w' => e = .returned (.tuple #[]) ∧ Pr w0 w' p q boot op (annA x) (annS boot op vips (annA x) said) l := by
  obtain ⟨h0, FS, FL, hs, hl, hd⟩ := h
  exact (announce_c x a n c FS w0.heap.size p boot op vips said w hs h0.size hsd hI hn).mono (fun e w' hh => ⟨hh.1, Pr.sp h0 hs hl hd hh.2⟩)
theorem pr_tick (now : Int) (h : Pr w0 w p q boot op vips said l) (hsd : said.length ≤ 100000) :
    Calls Try.prog 16 #[.pointer (some ⟨p, 0, none⟩), .int .i64 now] w fun e w' => e = .returned (.tuple #[]) ∧ Pr w0 w' p q boot op vips (tickS boot op vips said now) l := by
  obtain ⟨h0, FS, FL, hs, hl, hd⟩ := h
  exact (tick_c now FS w0.heap.size p boot op vips said w hs h0.size hsd).mono (fun e w' hh => ⟨hh.1, Pr.sp h0 hs hl hd hh.2⟩)
theorem pr_recv {m : Mg} {a : Option Addr} {n c : Nat} {b : Option Addr} {k d : Nat} (h : Pr w0 w p q boot op vips said l) (hsd : said.length ≤ 100000) (hI : InI w a n c m.nums) (hn : n ≤ 4611686018427387904) :
    Calls Try.prog 14 #[.pointer (some ⟨p, 0, none⟩), mval m.kind a n c b k d] w fun e w' => e = .returned (.tuple #[]) ∧ Pr w0 w' p q boot (recO m boot op) vips (recS m boot vips said) l := by
  obtain ⟨h0, FS, FL, hs, hl, hd⟩ := h
  exact (recv_c m a n c b k d FS w0.heap.size p boot op vips said w hs h0.size hsd hI hn).mono (fun e w' hh => ⟨hh.1, Pr.sp h0 hs hl hd hh.2⟩)
theorem pr_open (h : Pr w0 w p q boot op vips said l) :
    Calls Try.prog 18 #[.pointer (some ⟨p, 0, none⟩)] w fun e w' => e = .returned (.bool op) ∧ w = w' := by
  obtain ⟨h0, FS, FL, hs, hl, hd⟩ := h
  exact open_c FS w0.heap.size p boot op vips said w hs
theorem pr_recL {m : Mg} {a : Option Addr} {n c : Nat} {b : Option Addr} {k d : Nat} (fr now : Int) (h : Pr w0 w p q boot op vips said l) (hI : InI w a n c m.nums) (hn : n ≤ 4611686018427387904) (hfr : i64c fr) :
    Calls Try.prog 30 #[.pointer (some ⟨q, 0, none⟩), .int .i64 fr, mval m.kind a n c b k d, .int .i64 now] w fun e w' => Pr w0 w' p q boot op vips said (recF l fr m now).1 ∧ AnsM w' w.heap.size (recF l fr m now).2 e := by
  obtain ⟨h0, FS, FL, hs, hl, hd⟩ := h
  exact (recL_c fr m a n c b k d now FL w0.heap.size q l w hl h0.size hI hn hfr).mono (fun e w' hh => ⟨Pr.li h0 hs hl hd hh.1, hh.2⟩)
theorem pr_tickL (now : Int) (h : Pr w0 w p q boot op vips said l) :
    Calls Try.prog 23 #[.pointer (some ⟨q, 0, none⟩), .int .i64 now] w fun e w' => ∃ a n c, e = .returned (.slice a n c) ∧ n = (muxesOf (goneP now) l).length ∧ InI w' a n c (muxesOf (goneP now) l) ∧ Pr w0 w' p q boot op vips said (l.filter (fun e => !goneP now e)) := by
  obtain ⟨h0, FS, FL, hs, hl, hd⟩ := h
  refine (tickL_c now FL w0.heap.size q l w hl h0.size).mono (fun e w' hh => ?_)
  obtain ⟨a, n, c, he, hn, ho, ht⟩ := hh
  exact ⟨a, n, c, he, hn, own_inI ho hn.symm (fitI_mux (fun e he => (hl.fit e he).1) _), Pr.li h0 hs hl hd ht⟩
theorem pr_muxes (vip : Int) (h : Pr w0 w p q boot op vips said l) (hfew : ∀ e ∈ l, e.vips.length ≤ 1048576) :
    Calls Try.prog 27 #[.pointer (some ⟨q, 0, none⟩), .int .u32 vip] w fun e w' => ∃ a n c, e = .returned (.slice a n c) ∧ n = (muxesOf (anP vip) l).length ∧ InI w' a n c (muxesOf (anP vip) l) ∧ Pr w0 w' p q boot op vips said l := by
  obtain ⟨h0, FS, FL, hs, hl, hd⟩ := h
  refine (muxes_c vip FL w0.heap.size q l w hl hfew).mono (fun e w' hh => ?_)
  obtain ⟨a, n, c, he, hn, ho, hb⟩ := hh
  exact ⟨a, n, c, he, hn, own_inI ho hn.symm (fitI_mux (fun e he => (hl.fit e he).1) _), Pr.below ⟨h0, FS, FL, hs, hl, hd⟩ hb⟩
end
theorem ann_one : annA [16843009] = [16843009] := by
  have h : srtA (vpsA [16843009]) = [16843009] := by
    have h1 : vpsA [16843009] = [16843009] := by decide
    rw [h1]
    exact List.perm_singleton.1 (srtA_perm _)
  unfold annA
  rw [h]
  rfl
theorem rec_1 : recF [] 32 ⟨10, [0], []⟩ 4 = ([⟨32, 0, 4, []⟩], some ⟨11, [0], []⟩) := by
  unfold recF
  rw [if_pos (by decide), if_pos rfl]
  rfl
theorem rec_2 : recF [⟨32, 0, 4, []⟩] 32 ⟨12, [0, 16843009], []⟩ 5 = ([⟨32, 0, 5, [16843009]⟩], none) := by
  unfold recF
  rw [if_pos (by decide), if_neg (by decide), if_pos (by decide)]
  rfl
end Go.Proofs.Ytlmkmbpikhagiaa
