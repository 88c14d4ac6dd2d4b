/- Commands and logs, plain: which are in form, their numbers, their bytes, how these are read. No program. -/
import Derived.Test.YtnhnpfhfcbmmlaaVtE
namespace Go.Proofs.Ytnhnpfhfcbmmlaa
set_option linter.unusedVariables false
set_option linter.unusedSimpArgs false

structure Cm where
  node : Int
  boot : Int
  seq : Int
  time : Int
  kind : Int
  vip : Int
  proto : Int
  port : Int
  es : List En
  dip : Int
  cvip : Int
  up : Bool
def cm0 : Cm := ⟨0, 0, 0, 0, 0, 0, 0, 0, [], 0, 0, false⟩
instance : Inhabited Cm := ⟨cm0⟩
instance : DecidableEq Cm := fun a b => by
  cases a
  cases b
  simp only [Cm.mk.injEq]
  infer_instance
def i64c (n : Int) : Prop := -9223372036854775808 ≤ n ∧ n ≤ 9223372036854775807
def u32c (n : Int) : Prop := 0 ≤ n ∧ n < 4294967296
structure TyC (c : Cm) : Prop where
  node : i64c c.node
  boot : i64c c.boot
  seq : i64c c.seq
  time : i64c c.time
  kind : i64c c.kind
  vip : u32c c.vip
  proto : i64c c.proto
  port : i64c c.port
  dip : u32c c.dip
  cvip : u32c c.cvip
  es : ∀ e ∈ c.es, TyEn e
  few : c.es.length ≤ 4611686018427387904
def IsMgr (n : Int) : Prop := 16 ≤ n ∧ n ≤ 23
instance (n : Int) : Decidable (IsMgr n) := by unfold IsMgr; infer_instance
def IsTm (n : Int) : Prop := 0 ≤ n ∧ n ≤ 1099511627776
instance (n : Int) : Decidable (IsTm n) := by unfold IsTm; infer_instance
def IsVp (a : Int) : Prop := 1 ≤ a / 16777216 ∧ a / 16777216 ≤ 223 ∧ a / 16777216 ≠ 10 ∧ a / 16777216 ≠ 127
instance (n : Int) : Decidable (IsVp n) := by unfold IsVp; infer_instance
instance (n : Int) : Decidable (IsDip n) := by unfold IsDip; infer_instance
instance (e : En) : Decidable (GoodE e) := by unfold GoodE; infer_instance
instance (es : List En) : Decidable (OkE es) := by unfold OkE; infer_instance
def NoneS (c : Cm) : Prop := c.vip = 0 ∧ c.proto = 0 ∧ c.port = 0 ∧ c.es = []
instance (c : Cm) : Decidable (NoneS c) := by unfold NoneS; infer_instance
def SvcOk (c : Cm) : Prop := IsVp c.vip ∧ (c.proto = 6 ∨ c.proto = 17) ∧ (1 ≤ c.port ∧ c.port ≤ 1023) ∧ OkE c.es
instance (c : Cm) : Decidable (SvcOk c) := by unfold SvcOk; infer_instance
def Says (c : Cm) : Prop :=
  (c.kind = 1 ∧ SvcOk c ∧ c.dip = 0 ∧ c.cvip = 0 ∧ c.up = false) ∨
  (c.kind = 2 ∧ NoneS c ∧ IsDip c.dip ∧ (c.up = true ∧ IsVp c.cvip ∨ c.up = false ∧ c.cvip = 0)) ∨
  (c.kind = 3 ∧ NoneS c ∧ IsDip c.dip ∧ c.cvip = 0) ∨
  (c.kind = 4 ∧ NoneS c ∧ IsDip c.dip ∧ c.cvip = 0 ∧ c.up = false)
instance (c : Cm) : Decidable (Says c) := by unfold Says; infer_instance
def GoodC (c : Cm) : Prop := IsMgr c.node ∧ IsTm c.boot ∧ IsTm c.seq ∧ IsTm c.time ∧ Says c
instance (c : Cm) : Decidable (GoodC c) := by unfold GoodC; infer_instance
abbrev Nm : Type := Int × Int × Int
def Cm.nm (c : Cm) : Nm := (c.node, c.boot, c.seq)
def GoodL (l : List Cm) : Prop := l.length ≤ 256 ∧ (∀ c ∈ l, GoodC c) ∧ (l.map Cm.nm).Nodup
instance (l : List Cm) : Decidable (GoodL l) := by unfold GoodL; infer_instance
theorem goodC_es {c : Cm} (h : GoodC c) : c.es.length ≤ 64 := by
  rcases h.2.2.2.2 with h | h | h | h
  · exact h.2.1.2.2.2.1
  · rw [h.2.1.2.2.2]; exact Nat.zero_le _
  · rw [h.2.1.2.2.2]; exact Nat.zero_le _
  · rw [h.2.1.2.2.2]; exact Nat.zero_le _
/-! ### Numbers as bytes -/
def nb (l : List Int) : List Int := l.flatMap b8
theorem nb_len (l : List Int) : (nb l).length = 8 * l.length := by
  unfold nb
  induction l with
  | nil => rfl
  | cons a l ih => rw [List.flatMap_cons, List.length_append, b8_len, ih, List.length_cons]; omega
theorem fit_nb (l : List Int) : fit (nb l) := by
  intro b hb
  obtain ⟨a, _, h⟩ := List.mem_flatMap.1 hb
  exact fit_b8 a b h
theorem nb_app (l k : List Int) : nb (l ++ k) = nb l ++ nb k := List.flatMap_append
theorem nb_one (x : Int) : nb [x] = b8 x := by simp [nb]
theorem nb_cons (x : Int) (l : List Int) : nb (x :: l) = b8 x ++ nb l := rfl
theorem n8_app (l k : List Int) (i : Nat) (h : l.length ≤ i) : n8 (l ++ k) i = n8 k (i - l.length) := by
  unfold n8
  have e : ∀ j, (l ++ k).getD (i + j) 0 = k.getD (i - l.length + j) 0 := fun j => by
    rw [List.getD_eq_getElem?_getD, List.getD_eq_getElem?_getD, List.getElem?_append_right (by omega), show i + j - l.length = i - l.length + j by omega]
  have e0 := e 0
  simp only [Nat.add_zero] at e0
  rw [e0, e 1, e 2, e 3, e 4, e 5, e 6, e 7]
/-- The number that the first eight bytes are. -/
def num (b : List Int) : Int := sg (n8 b 0)
theorem num_b8 {x : Int} (h : i64c x) (k : List Int) : num (b8 x ++ k) = x := by
  unfold num
  have : n8 (b8 x ++ k) 0 = x % 18446744073709551616 := eight_back x
  rw [this]
  exact sg_back ⟨h.1, by have := h.2; omega⟩
theorem num_ty {b : List Int} (hf : fit b) : i64c (num b) := by
  have g := getD_fit hf
  have := g 0; have := g 1; have := g 2; have := g 3; have := g 4; have := g 5; have := g 6; have := g 7
  have h := sg_bound (u := n8 b 0) (by unfold n8; simp only [Nat.zero_add]; omega)
  exact ⟨h.1, by unfold num; omega⟩
/-- The next number, and what is behind it. -/
def rd (b : List Int) : Int := if b.length < 8 then 0 else num b
def rest (b : List Int) : List Int := if b.length < 8 then b else b.drop 8
theorem rd_ty {b : List Int} (hf : fit b) : i64c (rd b) := by
  unfold rd
  split
  · exact ⟨by omega, by omega⟩
  · exact num_ty hf
theorem rest_fit {b : List Int} (hf : fit b) : fit (rest b) := by
  unfold rest
  split
  · exact hf
  · exact fun x hx => hf x (List.mem_of_mem_drop hx)
theorem rest_len (b : List Int) : (rest b).length ≤ b.length := by
  unfold rest
  split
  · exact Nat.le_refl _
  · rw [List.length_drop]; omega
theorem rd_b8 {x : Int} (h : i64c x) (k : List Int) : rd (b8 x ++ k) = x := by
  unfold rd
  rw [if_neg (by rw [List.length_append, b8_len]; omega), num_b8 h]
theorem rest_b8 (x : Int) (k : List Int) : rest (b8 x ++ k) = k := by
  unfold rest
  rw [if_neg (by rw [List.length_append, b8_len]; omega)]
  exact List.drop_left' (b8_len x)
/-- So many numbers, and what is behind them. -/
def rds : Nat → List Int → List Int
  | 0, _ => []
  | n + 1, b => rd b :: rds n (rest b)
def rests : Nat → List Int → List Int
  | 0, b => b
  | n + 1, b => rests n (rest b)
theorem rests_fit {b : List Int} (hf : fit b) : ∀ n, fit (rests n b) := by
  intro n
  induction n generalizing b with
  | zero => exact hf
  | succ n ih => exact ih (rest_fit hf)
theorem rests_len (n : Nat) (b : List Int) : (rests n b).length ≤ b.length := by
  induction n generalizing b with
  | zero => exact Nat.le_refl _
  | succ n ih => exact Nat.le_trans (ih _) (rest_len b)
theorem rests_add (n m : Nat) (b : List Int) : rests m (rests n b) = rests (n + m) b := by
  induction n generalizing b with
  | zero => rw [Nat.zero_add]; rfl
  | succ n ih => rw [show n + 1 + m = (n + m) + 1 by omega]; exact ih _
theorem rests_nb (l k : List Int) : rests l.length (nb l ++ k) = k := by
  induction l with
  | nil => rfl
  | cons x l ih => rw [nb_cons, List.append_assoc, List.length_cons]; show rests l.length (rest _) = k; rw [rest_b8, ih]
/-! ### The numbers of commands -/
def numE (e : En) : List Int := [e.dip, e.port, e.wt]
def numEs (es : List En) : List Int := es.flatMap numE
def head9 (c : Cm) : List Int := [c.node, c.boot, c.seq, c.time, c.kind, c.vip, c.proto, c.port, (c.es.length : Int)]
def ub (b : Bool) : Int := if b then 1 else 0
def tail3 (c : Cm) : List Int := [c.dip, c.cvip, ub c.up]
def numC (c : Cm) : List Int := head9 c ++ (numEs c.es ++ tail3 c)
def numL (l : List Cm) : List Int := l.flatMap numC
def bytesL (l : List Cm) : List Int := nb ((l.length : Int) :: numL l)
theorem numEs_len (es : List En) : (numEs es).length = 3 * es.length := by
  unfold numEs
  induction es with
  | nil => rfl
  | cons a l ih => rw [List.flatMap_cons, List.length_append, ih, List.length_cons]; simp only [numE, List.length_cons, List.length_nil]; omega
theorem numEs_app (a b : List En) : numEs (a ++ b) = numEs a ++ numEs b := List.flatMap_append
theorem numEs_one (e : En) : numEs [e] = numE e := by simp [numEs]
theorem numC_len (c : Cm) : (numC c).length = 12 + 3 * c.es.length := by
  unfold numC head9 tail3
  rw [List.length_append, List.length_append, numEs_len]
  simp only [List.length_cons, List.length_nil]
  omega
theorem numL_app (a b : List Cm) : numL (a ++ b) = numL a ++ numL b := List.flatMap_append
theorem numL_one (c : Cm) : numL [c] = numC c := by simp [numL]
/-- How many ends commands have. -/
def ends : List Cm → Nat
  | [] => 0
  | c :: l => c.es.length + ends l
theorem ends_app (a b : List Cm) : ends (a ++ b) = ends a + ends b := by
  induction a with
  | nil => simp [ends]
  | cons c a ih => simp only [List.cons_append, ends, ih]; omega
theorem numL_len (l : List Cm) : (numL l).length = 12 * l.length + 3 * ends l := by
  induction l with
  | nil => rfl
  | cons c l ih =>
    have : numL (c :: l) = numC c ++ numL l := rfl
    rw [this, List.length_append, ih, numC_len, List.length_cons]
    simp only [ends]
    omega
theorem bytesL_len (l : List Cm) : (bytesL l).length = 8 + 96 * l.length + 24 * ends l := by
  unfold bytesL
  rw [nb_len, List.length_cons, numL_len]
  omega
theorem fit_bytesL (l : List Cm) : fit (bytesL l) := fit_nb _
theorem ends_good {l : List Cm} (h : ∀ c ∈ l, GoodC c) : ends l ≤ 64 * l.length := by
  induction l with
  | nil => simp [ends]
  | cons c l ih =>
    have h1 := goodC_es (h c List.mem_cons_self)
    have h2 := ih (fun x hx => h x (List.mem_cons_of_mem _ hx))
    simp only [ends, List.length_cons]
    omega
/-- How the program reads: a number, the next one ..; a missing one is 0. -/
def w32 (x : Int) : Int := x % 4294967296
def rdE (b : List Int) : En := ⟨w32 (rd b), rd (rest b), rd (rest (rest b))⟩
def rdEs : Nat → List Int → List En
  | 0, _ => []
  | n + 1, b => rdE b :: rdEs n (rests 3 b)
def cntE (x : Int) : Nat := (min x 64).toNat
def rdC (b : List Int) : Cm :=
  let n := cntE (rd (rests 8 b))
  let t := rests (3 * n) (rests 9 b)
  ⟨rd b, rd (rests 1 b), rd (rests 2 b), rd (rests 3 b), rd (rests 4 b), w32 (rd (rests 5 b)), rd (rests 6 b), rd (rests 7 b), rdEs n (rests 9 b), w32 (rd t), w32 (rd (rest t)), decide (rd (rests 2 t) = 1)⟩
def restC (b : List Int) : List Int := rests (3 * cntE (rd (rests 8 b)) + 3) (rests 9 b)
def rdCs : Nat → List Int → List Cm
  | 0, _ => []
  | n + 1, b => rdC b :: rdCs n (restC b)
def restCs : Nat → List Int → List Int
  | 0, b => b
  | n + 1, b => restCs n (restC b)
def cntL (x : Int) : Nat := (min x 256).toNat
def decL (b : List Int) : List Cm := rdCs (cntL (rd b)) (rest b)
/-- Are bytes a log's? -/
def IsLog (b : List Int) : Prop := GoodL (decL b) ∧ bytesL (decL b) = b
instance (b : List Int) : Decidable (IsLog b) := by unfold IsLog; infer_instance
theorem rdEs_len (n : Nat) (b : List Int) : (rdEs n b).length = n := by
  induction n generalizing b with
  | zero => rfl
  | succ n ih => simp only [rdEs, List.length_cons, ih]
theorem rdEs_more (n : Nat) (b : List Int) : rdEs (n + 1) b = rdEs n b ++ [rdE (rests (3 * n) b)] := by
  induction n generalizing b with
  | zero => rfl
  | succ n ih =>
    show rdE b :: rdEs (n + 1) (rests 3 b) = rdE b :: rdEs n (rests 3 b) ++ _
    rw [ih, rests_add, show 3 + 3 * n = 3 * (n + 1) by omega]
    rfl
theorem rdCs_len (n : Nat) (b : List Int) : (rdCs n b).length = n := by
  induction n generalizing b with
  | zero => rfl
  | succ n ih => simp only [rdCs, List.length_cons, ih]
theorem rdCs_more (n : Nat) (b : List Int) : rdCs (n + 1) b = rdCs n b ++ [rdC (restCs n b)] ∧ restCs (n + 1) b = restC (restCs n b) := by
  induction n generalizing b with
  | zero => exact ⟨rfl, rfl⟩
  | succ n ih =>
    obtain ⟨h1, h2⟩ := ih (restC b)
    refine ⟨?_, h2⟩
    show rdC b :: rdCs (n + 1) (restC b) = rdC b :: rdCs n (restC b) ++ _
    rw [h1]
    rfl
theorem restC_fit {b : List Int} (hf : fit b) : fit (restC b) := rests_fit (rests_fit hf 9) _
theorem restCs_fit {b : List Int} (hf : fit b) (n : Nat) : fit (restCs n b) := by
  induction n generalizing b with
  | zero => exact hf
  | succ n ih => exact ih (restC_fit hf)
theorem w32_ty (x : Int) : u32c (w32 x) := by unfold w32 u32c; omega
theorem w32_id {x : Int} (h : u32c x) : w32 x = x := by unfold w32; unfold u32c at h; omega
theorem rdE_ty {b : List Int} (hf : fit b) : TyEn (rdE b) := ⟨w32_ty _, rd_ty (rest_fit hf), rd_ty (rest_fit (rest_fit hf))⟩
theorem rdEs_ty {b : List Int} (hf : fit b) (n : Nat) : ∀ e ∈ rdEs n b, TyEn e := by
  induction n generalizing b with
  | zero => intro e he; cases he
  | succ n ih =>
    intro e he
    rcases List.mem_cons.1 he with rfl | he
    · exact rdE_ty hf
    · exact ih (rests_fit hf 3) e he
theorem cntE_le (x : Int) : cntE x ≤ 64 := by unfold cntE; omega
theorem cntL_le (x : Int) : cntL x ≤ 256 := by unfold cntL; omega
theorem rdC_ty {b : List Int} (hf : fit b) : TyC (rdC b) := by
  have hr := fun n => rd_ty (rests_fit hf n)
  have h3 := rdEs_ty (rests_fit hf 9) (cntE (rd (rests 8 b)))
  have h4 := rdEs_len (cntE (rd (rests 8 b))) (rests 9 b)
  have h5 := cntE_le (rd (rests 8 b))
  have h0 := rd_ty hf
  have h1 := hr 1
  have h2 := hr 2
  have h6 := hr 3
  have h7 := hr 4
  have h8 := hr 6
  have h9 := hr 7
  unfold rdC
  generalize cntE (rd (rests 8 b)) = n at *
  generalize rests (3 * n) (rests 9 b) = t at *
  generalize rests 9 b = b9 at *
  generalize rests 7 b = b7 at *
  generalize rests 6 b = b6 at *
  generalize rests 5 b = b5 at *
  generalize rests 4 b = b4 at *
  generalize rests 3 b = b3 at *
  generalize rests 2 b = b2 at *
  generalize rests 1 b = b1 at *
  exact ⟨h0, h1, h2, h6, h7, w32_ty _, h8, h9, w32_ty _, w32_ty _, h3, by
    show (rdEs n b9).length ≤ _
    omega⟩
theorem rdCs_ty {b : List Int} (hf : fit b) (n : Nat) : ∀ c ∈ rdCs n b, TyC c := by
  induction n generalizing b with
  | zero => intro e he; cases he
  | succ n ih =>
    intro e he
    rcases List.mem_cons.1 he with rfl | he
    · exact rdC_ty hf
    · exact ih (restC_fit hf) e he
theorem decL_ty {b : List Int} (hf : fit b) : ∀ c ∈ decL b, TyC c := rdCs_ty (rest_fit hf) _
theorem decL_len (b : List Int) : (decL b).length ≤ 256 := by unfold decL; rw [rdCs_len]; exact cntL_le _
/-! ### What was written is read -/
theorem i64_u32 {x : Int} (h : u32c x) : i64c x := by unfold u32c at h; unfold i64c; omega
theorem rdE_nb {e : En} (h : TyEn e) (k : List Int) : rdE (nb (numE e) ++ k) = e ∧ rests 3 (nb (numE e) ++ k) = k := by
  refine ⟨?_, rests_nb (numE e) k⟩
  have e1 : nb (numE e) ++ k = b8 e.dip ++ (b8 e.port ++ (b8 e.wt ++ k)) := by simp [numE, nb]
  rw [e1]
  unfold rdE
  rw [rd_b8 (i64_u32 h.1), rest_b8, rd_b8 h.2.1, rest_b8, rd_b8 h.2.2, w32_id h.1]
theorem rdEs_nb {es : List En} (h : ∀ e ∈ es, TyEn e) (k : List Int) : rdEs es.length (nb (numEs es) ++ k) = es := by
  induction es with
  | nil => rfl
  | cons e es ih =>
    have e1 : nb (numEs (e :: es)) ++ k = nb (numE e) ++ (nb (numEs es) ++ k) := by
      have : numEs (e :: es) = numE e ++ numEs es := rfl
      rw [this, nb_app, List.append_assoc]
    rw [e1]
    obtain ⟨h1, h2⟩ := rdE_nb (h e List.mem_cons_self) (nb (numEs es) ++ k)
    show rdE _ :: rdEs es.length (rests 3 _) = _
    rw [h1, h2, ih (fun x hx => h x (List.mem_cons_of_mem _ hx))]
theorem rests_nb' {l k b : List Int} {n : Nat} (hn : n = l.length) (hb : b = nb l ++ k) : rests n b = k := by rw [hn, hb, rests_nb]
theorem rdC_nb {c : Cm} (h : TyC c) (h64 : c.es.length ≤ 64) (k : List Int) : rdC (nb (numC c) ++ k) = c ∧ restC (nb (numC c) ++ k) = k := by
  have e1 : nb (numC c) ++ k = b8 c.node ++ (b8 c.boot ++ (b8 c.seq ++ (b8 c.time ++ (b8 c.kind ++ (b8 c.vip ++ (b8 c.proto ++ (b8 c.port ++ (b8 (c.es.length : Int) ++ (nb (numEs c.es) ++ (b8 c.dip ++ (b8 c.cvip ++ (b8 (ub c.up) ++ k)))))))))))) := by
    simp only [numC, head9, tail3, nb_app, nb_cons, List.append_assoc]
    simp [nb]
  have r9 : rests 9 (nb (numC c) ++ k) = nb (numEs c.es) ++ (b8 c.dip ++ (b8 c.cvip ++ (b8 (ub c.up) ++ k))) := by
    rw [e1]
    simp only [rests, rest_b8]
  have r8 : rd (rests 8 (nb (numC c) ++ k)) = (c.es.length : Int) := by
    rw [e1]
    simp only [rests, rest_b8]
    exact rd_b8 ⟨by omega, by omega⟩ _
  have hn : cntE (c.es.length : Int) = c.es.length := by unfold cntE; omega
  have rt : rests (3 * c.es.length) (nb (numEs c.es) ++ (b8 c.dip ++ (b8 c.cvip ++ (b8 (ub c.up) ++ k)))) = b8 c.dip ++ (b8 c.cvip ++ (b8 (ub c.up) ++ k)) := rests_nb' (numEs_len _).symm rfl
  constructor
  · have hu : i64c (ub c.up) := by unfold ub i64c; split <;> omega
    unfold rdC
    rw [r8, hn, r9]
    simp only [rt]
    rw [rd_b8 (i64_u32 h.dip), rest_b8, rd_b8 (i64_u32 h.cvip), w32_id h.dip, w32_id h.cvip, rdEs_nb h.es, e1]
    simp only [rests, rest_b8]
    rw [rd_b8 h.node, rd_b8 h.boot, rd_b8 h.seq, rd_b8 h.time, rd_b8 h.kind, rd_b8 (i64_u32 h.vip), rd_b8 h.proto, rd_b8 h.port, w32_id h.vip, rd_b8 hu]
    have : decide (ub c.up = 1) = c.up := by cases c.up <;> rfl
    rw [this]
  · unfold restC
    rw [r8, hn, r9, ← rests_add, rt]
    simp only [rests, rest_b8]
theorem rdCs_nb {l : List Cm} (h : ∀ c ∈ l, TyC c) (h64 : ∀ c ∈ l, c.es.length ≤ 64) (k : List Int) : rdCs l.length (nb (numL l) ++ k) = l := by
  induction l with
  | nil => rfl
  | cons c l ih =>
    have e1 : nb (numL (c :: l)) ++ k = nb (numC c) ++ (nb (numL l) ++ k) := by
      have : numL (c :: l) = numC c ++ numL l := rfl
      rw [this, nb_app, List.append_assoc]
    rw [e1]
    obtain ⟨h1, h2⟩ := rdC_nb (h c List.mem_cons_self) (h64 c List.mem_cons_self) (nb (numL l) ++ k)
    show rdC _ :: rdCs l.length (restC _) = _
    rw [h1, h2, ih (fun x hx => h x (List.mem_cons_of_mem _ hx)) (fun x hx => h64 x (List.mem_cons_of_mem _ hx))]
theorem dec_bytes {l : List Cm} (h : ∀ c ∈ l, TyC c) (hg : GoodL l) : decL (bytesL l) = l := by
  have hl := hg.1
  have e : bytesL l = b8 (l.length : Int) ++ nb (numL l) := nb_cons _ _
  unfold decL
  rw [e, rd_b8 ⟨by omega, by omega⟩, rest_b8, show cntL (l.length : Int) = l.length by unfold cntL; omega]
  have := rdCs_nb h (fun c hc => goodC_es (hg.2.1 c hc)) []
  rwa [List.append_nil] at this
theorem isLog_bytes {l : List Cm} (h : ∀ c ∈ l, TyC c) (hg : GoodL l) : IsLog (bytesL l) := by
  unfold IsLog
  rw [dec_bytes h hg]
  exact ⟨hg, rfl⟩
end Go.Proofs.Ytnhnpfhfcbmmlaa
