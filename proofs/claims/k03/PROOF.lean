import PyProof.Rows.All
import Wide.All
import OpenK.AllK
import Wide.FinOn
import HandS.ForMost
import HandS.IsInst
import HandS.Style
import HandS.OwnEq
import HandS.SlotsOwn
import KE.RegKIsAll
import KE.KOpsOwn
import HandS.Wide
import PySem.Challenge.RW_unnumbered_k03_sums_and_products
set_option Elab.async false
set_option linter.all false
set_option maxRecDepth 100000
set_option maxHeartbeats 4000000
set_option autoImplicit false
namespace My
open PySem PySem.Spec PyProof.Rows L2
/-! the text by its places -/
def topS (i : Nat) : Stmt := PySem.Challenge.pw_unnumbered_k03_sums_and_products.main.body.getD i (.Pass ⟨0, 0, 0, 0⟩)
abbrev s_law_draw : Stmt := topS 7
abbrev s_law_bag : Stmt := topS 6
abbrev s_law_number : Stmt := topS 8
abbrev s_law_word : Stmt := topS 9
abbrev s_is_number : Stmt := topS 1
abbrev s_Unnumbered___init : Stmt := inClass (topS 4) 0
abbrev s_is_entry : Stmt := topS 2
abbrev s_is_value : Stmt := topS 3
abbrev s_Unnumbered___eq : Stmt := inClass (topS 4) 1
abbrev s_Unnumbered___ne : Stmt := inClass (topS 4) 2
abbrev s_Unnumbered___lt : Stmt := inClass (topS 4) 3
abbrev s_Unnumbered___le : Stmt := inClass (topS 4) 4
abbrev s_Unnumbered___gt : Stmt := inClass (topS 4) 5
abbrev s_Unnumbered___ge : Stmt := inClass (topS 4) 6
abbrev s_Unnumbered___add : Stmt := inClass (topS 4) 7
abbrev s_Unnumbered___radd : Stmt := inClass (topS 4) 8
abbrev s_Unnumbered___sub : Stmt := inClass (topS 4) 9
abbrev s_Unnumbered___rsub : Stmt := inClass (topS 4) 10
abbrev s_Unnumbered___mul : Stmt := inClass (topS 4) 11
abbrev s_Unnumbered___rmul : Stmt := inClass (topS 4) 12
abbrev s_Unnumbered___floordiv : Stmt := inClass (topS 4) 13
abbrev s_Unnumbered___rfloordiv : Stmt := inClass (topS 4) 14
abbrev s_Unnumbered___mod : Stmt := inClass (topS 4) 15
abbrev s_Unnumbered___rmod : Stmt := inClass (topS 4) 16
abbrev s_Unnumbered___neg : Stmt := inClass (topS 4) 17
abbrev s_Unnumbered___pos : Stmt := inClass (topS 4) 18
abbrev s_Unnumbered___abs : Stmt := inClass (topS 4) 19
abbrev s_law_new : Stmt := topS 10
abbrev s_law_row : Stmt := topS 11
abbrev s_law_led : Stmt := topS 12
abbrev s_law : Stmt := topS 13
/-! readings, step by step; heaps; short words -/
namespace Z
structure Inst (K : PySem.W.Frag) (C : Addr) : Prop where
  ca : PySem.W.findIn K (.ref C) "__class__" = some (some (.builtin "object.__class__"))
  cm : PySem.W.mroIn K C (.type "object") = some true
  cn : PySem.W.specialIn K (.builtin "object.__class__") "__get__" = some (some (.builtin "getset_descriptor.__get__"))
  ct : PySem.W.takesIn K (.builtin "object.__class__") = some true
/-- all but b stands -/
def But (b : Addr) (H H' : Hp) : Prop := ∀ a o, a ≠ b → H a = some o → H' a = some o
theorem But.refl {b : Addr} (H : Hp) : But b H H := fun _ _ _ h => h
theorem But.trans {b : Addr} {H H1 H2 : Hp} (x : But b H H1) (y : But b H1 H2) : But b H H2 := fun a o n h => y a o n (x a o n h)
theorem But.same {b : Addr} {H H1 : Hp} (x : Same H H1) : But b H H1 := fun a o _ h => x a o h
theorem But.upd {b : Addr} {H : Hp} {o : HO} : But b H (upd H b o) := fun a u n h => by
  rw [upd_ne n]; exact h
theorem same_upd {H : Hp} {p : Addr} {o : HO} (h : H p = none) : Same H (upd H p o) := fun b x e => by
  rw [upd_ne (ne_of_none e h)]; exact e
theorem But.free {b p : Addr} {H H1 : Hp} (e : But b H H1) (n : p ≠ b) (h : H1 p = none) : H p = none := by
  cases q : H p with
  | none => rfl
  | some o => rw [e p o n q] at h; cases h
/-- what was fresh may change: all the old stands -/
theorem But.back {b : Addr} {H H1 H2 : Hp} (s : Same H H1) (n : H b = none) (e : But b H1 H2) : Same H H2 := fun a o h => e a o (ne_of_none h n) (s a o h)
theorem But.seq {K : PySem.W.Frag} {b a : Addr} {H H' : Hp} {xs : List V} (e : But b H H') (n : a ≠ b) (h : SqL K H a xs) : SqL K H' a xs := by
  rcases h with (h | ⟨o, h⟩) | h
  · exact .inl (.inl (e _ _ n h))
  · exact .inl (.inr ⟨o, e _ _ n h⟩)
  · exact .inr h
section
variable {K : PySem.W.Frag} {σ : L2.St} {H : Hp} {Q : VK} {D : Ends} {t u : TS} {ta tb te tc : TE} {tt tu : TT} {i j : Nat} {v x y : V} {r : R2} {A : TA} {sp : Sp} {E : XK}
theorem r_start {σ' : L2.St} (e : σ = σ') (h : t D σ' H) : t D σ H := e ▸ h
theorem r_seq (h : t { D with nx := u D } σ H) : tSeq t u D σ H := h
theorem r_next (h : D.nx σ H) : tNext D σ H := h
theorem r_asg (h : te σ H fun x H1 => D.nx (σ.set i (some x)) H1) : tAsg te (gName i) D σ H := h
theorem r_asgG {g : TG} (h : te σ H fun x H1 => g x σ H1 D.nx) : tAsg te g D σ H := h
theorem r_gName {N : L2.St → Hp → Prop} (h : N (σ.set i (some v)) H) : gName i v σ H N := h
theorem r_ret (h : te σ H D.rt) : tRet te D σ H := h
theorem r_retN (h : D.rt .non H) : tRetN D σ H := h
theorem r_drop (h : te σ H fun _ H1 => D.nx σ H1) : tDrop te D σ H := h
theorem r_if (h : tt σ H fun b H1 => if b = true then t D σ H1 else u D σ H1) : tIfS tt t u D σ H := h
theorem r_par (h : A σ H fun vs H1 => ∃ v w, vs = [v, w] ∧ D.nx ((σ.set i (some v)).set j (some w)) H1) : tPar i j A D σ H := h
theorem r_aug {ti : TIp} (e : σ[i]? = some (some x)) (h : te σ H fun y H1 => ti x y H1 fun z H2 => D.nx (σ.set i (some z)) H2) : tAug i te ti D σ H := ⟨x, e, h⟩
theorem r_par3 {l : Nat} (h : A σ H fun vs H1 => ∃ u v w, vs = [u, v, w] ∧ D.nx (((σ.set i (some u)).set j (some v)).set l (some w)) H1) : tPar3 i j l A D σ H := h
theorem r_gTup {n : Nat} {w : TGs} {a : Addr} {xs : List V} {N : L2.St → Hp → Prop} (e : H a = some (.tup xs)) (hn : xs.length = n) (h : w xs σ H N) : gTup K n w (.ref a) σ H N := ⟨a, xs, rfl, SqT.of e, hn, h⟩
theorem r_gCons {g : TG} {w : TGs} {xs : List V} {N : L2.St → Hp → Prop} (h : g v σ H fun σ1 H1 => w xs σ1 H1 N) : gCons g w (v :: xs) σ H N := ⟨v, xs, rfl, h⟩
theorem r_gNil {N : L2.St → Hp → Prop} (h : N σ H) : gNil [] σ H N := ⟨rfl, h⟩
theorem r_vs2 {N : V → V → Prop} (h : N x y) : ∃ v w, [x, y] = [v, w] ∧ N v w := ⟨x, y, rfl, h⟩
theorem r_vs3 {z : V} {N : V → V → V → Prop} (h : N x y z) : ∃ u v w, [x, y, z] = [u, v, w] ∧ N u v w := ⟨x, y, z, rfl, h⟩
theorem r_var (e : σ[i]? = some (some v)) (h : Q v H) : tVar i σ H Q := ⟨v, e, h⟩
theorem r_c (h : Q v H) : tC v σ H Q := h
theorem r_op (h : ta σ H fun x H1 => tb σ H1 fun y H2 => r x y H2 Q) : tOp r ta tb σ H Q := h
theorem r_un {r : V → Hp → VK → Prop} (h : ta σ H fun x H1 => r x H1 Q) : tUn r ta σ H Q := h
theorem r_test {N : Bool → Hp → Prop} (h : te σ H fun x H' => ∃ k, x = .bl k ∧ N k H') : tTest te σ H N := h
theorem r_tB {N : Bool → Hp → Prop} (h : te σ H fun x H1 => ∃ c, x = .bl c ∧ N c H1) : tB te σ H N := h
theorem r_bl {k : Bool} {N : Bool → Prop} (h : N k) : ∃ c, V.bl k = .bl c ∧ N c := ⟨k, rfl, h⟩
theorem r_and {N : Bool → Hp → Prop} (h : tt σ H fun c H1 => if c = true then tu σ H1 N else N false H1) : tAnd tt tu σ H N := h
theorem r_or {N : Bool → Hp → Prop} (h : tt σ H fun c H1 => if c = true then N true H1 else tu σ H1 N) : tOr tt tu σ H N := h
theorem r_not {N : Bool → Hp → Prop} (h : tt σ H fun c H1 => N (!c) H1) : tNot tt σ H N := h
theorem r_andV (h : ta σ H fun x H1 => ∃ c, x = .bl c ∧ if c = true then tb σ H1 Q else Q (.bl false) H1) : tAndV ta tb σ H Q := h
theorem r_orV (h : ta σ H fun x H1 => ∃ c, x = .bl c ∧ if c = true then Q (.bl true) H1 else tb σ H1 Q) : tOrV ta tb σ H Q := h
theorem r_notV (h : ta σ H fun x H1 => ∃ c, x = .bl c ∧ Q (.bl (!c)) H1) : tNotV ta σ H Q := h
theorem r_ifE (h : tt σ H fun c H1 => if c = true then ta σ H1 Q else tb σ H1 Q) : tIf tt ta tb σ H Q := h
theorem r_nil {N : List V → Hp → Prop} (h : N [] H) : tNil σ H N := h
theorem r_cons {N : List V → Hp → Prop} (h : te σ H fun x H1 => A σ H1 fun xs H2 => N (x :: xs) H2) : tCons te A σ H N := h
theorem r_call {ds : List V} (h : A σ H fun vs H1 => sp (vs ++ ds) H1 Q E) : tCall sp ds E A σ H Q := h
theorem r_cb {r : List V → Hp → VK → Prop} (h : A σ H fun vs H1 => r vs H1 Q) : tCB r A σ H Q := h
/-- a new list, a new tuple -/
def nwL (xs : List V) (H : Hp) (Q : VK) : Prop := xs.length ≤ sizeLine ∧ ∀ p, H p = none → Q (.ref p) (upd H p (.lst xs))
def nwT (xs : List V) (H : Hp) (Q : VK) : Prop := xs.length ≤ sizeLine ∧ ∀ p, H p = none → Q (.ref p) (upd H p (.tup xs))
theorem r_tup (h : A σ H fun xs H1 => nwT xs H1 Q) : tTup A σ H Q := h
theorem r_lst (h : A σ H fun xs H1 => nwL xs H1 Q) : tLst A σ H Q := h
theorem r_nwL {xs : List V} (z : xs.length ≤ 1000) (h : ∀ p H1, H p = none → Same H H1 → H1 p = some (.lst xs) → Q (.ref p) H1) : nwL xs H Q := ⟨Nat.le_trans z (by decide), fun p np => h p _ np (same_upd np) upd_same⟩
theorem r_nwT {xs : List V} (z : xs.length ≤ 1000) (h : ∀ p H1, H p = none → Same H H1 → H1 p = some (.tup xs) → Q (.ref p) H1) : nwT xs H Q := ⟨Nat.le_trans z (by decide), fun p np => h p _ np (same_upd np) upd_same⟩
def fldR (K : PySem.W.Frag) (f : Str) (x : V) (H : Hp) (Q : VK) : Prop := ∃ a C dx fs v, x = .ref a ∧ H a = some (.ins C dx fs) ∧ Cls K C ∧ NoAttr K C f ∧ fs.lookup f = some v ∧ Q v H
theorem r_fld {f : Str} (h : ta σ H fun x H1 => fldR K f x H1 Q) : tFld K ta f σ H Q := h
theorem r_fldV {f : Str} {a C dx : Addr} {fs : List (Str × V)} (e : H a = some (.ins C dx fs)) (c : Cls K C) (n : NoAttr K C f) (l : fs.lookup f = some v) (h : Q v H) : fldR K f (.ref a) H Q := ⟨a, C, dx, fs, v, rfl, e, c, n, l, h⟩
/-! operators on values that are known -/
theorem r_I0 {g : Int → Int → V} {a b : Int} (h : Q (g a b) H) : rI0 g (.int a) (.int b) H Q := ⟨a, b, rfl, rfl, h⟩
theorem r_I {C : Int → Int → Prop} {g : Int → Int → V} {a b : Int} (c : C a b) (h : Q (g a b) H) : rI C g (.int a) (.int b) H Q := ⟨a, b, rfl, rfl, c, h⟩
theorem r_U {g : Int → V} {a : Int} (h : Q (g a) H) : rU g (.int a) H Q := ⟨a, rfl, h⟩
theorem r_eqI {a b : Int} (h : Q (.bl (decide (a = b))) H) : rEq (.int a) (.int b) H Q := ⟨rfl, by
  have e : decide (V.int a = V.int b) = decide (a = b) := by
    by_cases q : a = b <;> simp [q]
  rw [e]; exact h⟩
theorem r_eqB {a b : Bool} (h : Q (.bl (decide (a = b))) H) : rEq (.bl a) (.bl b) H Q := ⟨rfl, by
  have e : decide (V.bl a = V.bl b) = decide (a = b) := by
    by_cases q : a = b <;> simp [q]
  rw [e]; exact h⟩
theorem r_eqS {a b : Str} (h : Q (.bl (decide (a = b))) H) : rEq (.str a) (.str b) H Q := ⟨rfl, by
  have e : decide (V.str a = V.str b) = decide (a = b) := by
    by_cases q : a = b <;> simp [q]
  rw [e]; exact h⟩
theorem r_neI {a b : Int} (h : Q (.bl (!decide (a = b))) H) : rNe (.int a) (.int b) H Q := ⟨rfl, by
  have e : decide (V.int a = V.int b) = decide (a = b) := by
    by_cases q : a = b <;> simp [q]
  rw [e]; exact h⟩
theorem r_neB {a b : Bool} (h : Q (.bl (!decide (a = b))) H) : rNe (.bl a) (.bl b) H Q := ⟨rfl, by
  have e : decide (V.bl a = V.bl b) = decide (a = b) := by
    by_cases q : a = b <;> simp [q]
  rw [e]; exact h⟩
theorem r_neS {a b : Str} (h : Q (.bl (!decide (a = b))) H) : rNe (.str a) (.str b) H Q := ⟨rfl, by
  have e : decide (V.str a = V.str b) = decide (a = b) := by
    by_cases q : a = b <;> simp [q]
  rw [e]; exact h⟩
theorem r_ixL {p : Addr} {xs : List V} {a : Int} (h : SqL K H p xs) (e : atI xs a = some v) (k : Q v H) : rIx K (.ref p) (.int a) H Q := .inl ⟨p, xs, a, v, rfl, rfl, h, e, k⟩
theorem r_ixT {p : Addr} {xs : List V} {a : Int} (h : SqT K H p xs) (e : atI xs a = some v) (k : Q v H) : rIx K (.ref p) (.int a) H Q := .inr (.inl ⟨p, xs, a, v, rfl, rfl, h, e, k⟩)
theorem r_ixS {z : Str} {a : Int} {c : Nat} (l : z.length ≤ sizeLine) (e : atI z.cps.toList a = some c) (k : Q (.str ⟨#[c]⟩) H) : rIx K (.str z) (.int a) H Q := .inr (.inr ⟨z, a, c, rfl, rfl, l, e, k⟩)
theorem r_setL {p : Addr} {xs : List V} {a : Int} {m : Nat} {N : Hp → Prop} (h : H p = some (.lst xs)) (e : ixN xs.length a = some m) (k : ∀ H1, But p H H1 → H1 p = some (.lst (xs.set m v)) → N H1) : rSetL (.ref p) (.int a) v H N :=
  ⟨p, xs, a, m, rfl, rfl, h, e, k _ But.upd upd_same⟩
theorem r_gSub {to ti : TE} {s : TSet} {N : L2.St → Hp → Prop} (h : to σ H fun o H1 => ti σ H1 fun i H2 => s o i v H2 fun H3 => N σ H3) : gSub to ti s v σ H N := h
theorem yes {c : Bool} {P1 P2 : Prop} (h : c = true) (k : P1) : if c = true then P1 else P2 := by
  rw [h, if_pos rfl]; exact k
theorem no {c : Bool} {P1 P2 : Prop} (h : c = false) (k : P2) : if c = true then P1 else P2 := by
  rw [h, if_neg Bool.false_ne_true]; exact k
theorem ways {c P1 P2 : Prop} [Decidable c] (h : c → P1) (k : ¬ c → P2) : if decide c = true then P1 else P2 := by
  by_cases q : c
  · rw [decide_eq_true q, if_pos rfl]; exact h q
  · rw [decide_eq_false q, if_neg Bool.false_ne_true]; exact k q
theorem waysN {c P1 P2 : Prop} [Decidable c] (h : ¬ c → P1) (k : c → P2) : if (!decide c) = true then P1 else P2 := by
  by_cases q : c
  · rw [decide_eq_true q]; exact k q
  · rw [decide_eq_false q]; exact h q
theorem waysB {c : Bool} {P1 P2 : Prop} (h : c = true → P1) (k : c = false → P2) : if c = true then P1 else P2 := by
  cases c with
  | true => rw [if_pos rfl]; exact h rfl
  | false => rw [if_neg Bool.false_ne_true]; exact k rfl
/-! calls of built-ins, their readings by name -/
def rInt1 : List V → Hp → VK → Prop := fun xs H Q => (∃ i, xs = [.int i] ∧ Q (.int i) H) ∨ ∃ k, xs = [.bl k] ∧ Q (.int (if k then 1 else 0)) H
def rAbs : List V → Hp → VK → Prop := fun xs H Q => ∃ i, xs = [.int i] ∧ Q (.int (if i < 0 then -i else i)) H
def rMax2 : List V → Hp → VK → Prop := fun xs H Q => ∃ i j, xs = [.int i, .int j] ∧ Q (.int (if j > i then j else i)) H
def rMin2 : List V → Hp → VK → Prop := fun xs H Q => ∃ i j, xs = [.int i, .int j] ∧ Q (.int (if j < i then j else i)) H
def rLen (K : PySem.W.Frag) : List V → Hp → VK → Prop := fun xs H Q => ∃ p ys, xs = [.ref p] ∧ (SqL K H p ys ∨ SqT K H p ys) ∧ Q (.int ys.length) H
def rLenS : List V → Hp → VK → Prop := fun xs H Q => ∃ z, xs = [.str z] ∧ z.length ≤ sizeLine ∧ Q (.int z.length) H
def rStrI : List V → Hp → VK → Prop := fun xs H Q => ∃ i, xs = [.int i] ∧ i.natAbs.log2 < 1920 ∧ Q (.str (toString i)) H
def rAddS : R2 := fun x y H Q => ∃ i j, x = .str i ∧ y = .str j ∧ i.length + j.length ≤ sizeLine ∧ Q (.str (i ++ j)) H
theorem c_int1 {X : Cx} : CallR X (.type "int") rInt1 := call_int1
theorem c_abs {X : Cx} : CallR X (.builtin "abs") rAbs := call_abs
theorem c_max2 {X : Cx} (hc : X.calm = true) : CallR X (.builtin "max") rMax2 := call_max2 hc
theorem c_min2 {X : Cx} (hc : X.calm = true) : CallR X (.builtin "min") rMin2 := call_min2 hc
theorem c_len {X : Cx} : CallR X (.builtin "len") (rLen X.K) := call_len_seq
theorem c_lenS {X : Cx} : CallR X (.builtin "len") rLenS := call_len_str
theorem c_strI {X : Cx} : CallR X (.type "str") rStrI := call_str_int
theorem o_addS {X : Cx} : OpR X (binaryOp .Add) rAddS := op_add_str
theorem r_int1 {a : Int} (h : Q (.int a) H) : rInt1 [.int a] H Q := .inl ⟨a, rfl, h⟩
theorem r_abs {a : Int} (h : Q (.int (if a < 0 then -a else a)) H) : rAbs [.int a] H Q := ⟨a, rfl, h⟩
theorem r_max2 {a b : Int} (h : Q (.int (if b > a then b else a)) H) : rMax2 [.int a, .int b] H Q := ⟨a, b, rfl, h⟩
theorem r_min2 {a b : Int} (h : Q (.int (if b < a then b else a)) H) : rMin2 [.int a, .int b] H Q := ⟨a, b, rfl, h⟩
theorem r_lenL {p : Addr} {ys : List V} (e : SqL K H p ys) (h : Q (.int ys.length) H) : rLen K [.ref p] H Q := ⟨p, ys, rfl, .inl e, h⟩
theorem r_lenT {p : Addr} {ys : List V} (e : SqT K H p ys) (h : Q (.int ys.length) H) : rLen K [.ref p] H Q := ⟨p, ys, rfl, .inr e, h⟩
theorem r_strI {a : Int} (e : a.natAbs.log2 < 1920) (h : Q (.str (toString a)) H) : rStrI [.int a] H Q := ⟨a, rfl, e, h⟩
theorem r_addS {a b : Str} (e : a.length + b.length ≤ sizeLine) (h : Q (.str (a ++ b)) H) : rAddS (.str a) (.str b) H Q := ⟨a, b, rfl, rfl, e, h⟩
/-! loops, comprehensions -/
theorem r_rng {tb : TS} {k : Nat} {j : Int} (h0 : 0 ≤ j) (h1 : j ≤ 100000) (Pv : Nat → L2.St → Hp → Prop) (hp : Pv 0 σ H)
    (ht : ∀ (i : Nat) σ' H', (i : Int) < j → Pv i σ' H' → tb { D with nx := Pv (i + 1), ct := Pv (i + 1), bk := D.nx } (σ'.set k (some (.int (i : Int)))) H') (hd : ∀ σ' H', Pv j.toNat σ' H' → D.nx σ' H') :
    ∃ j' : Int, [V.int j] = [V.int j'] ∧ -(2 ^ 62) ≤ j' ∧ j' < 2 ^ 62 ∧ ∃ W : Nat → Nat → L2.St → Hp → Prop, (∃ m, W 0 m σ H) ∧ ∀ i m σ H, W i m σ H →
      (((Itr 0 j'.toNat).stop i H ∧ D.nx σ H) ∨ ((Itr 0 j'.toNat).go i H ∧ ∃ N : L2.St → Hp → Prop, (∀ σ' H', N σ' H' → ∃ m', m' < m ∧ W (i + 1) m' σ' H') ∧ ∀ x H', (Itr 0 j'.toNat).yld i H x H' → gName k x σ H' fun σ2 H2 => tb { D with nx := N, ct := N, bk := D.nx } σ2 H2)) := by
  refine ⟨j, rfl, by omega, by omega, for_range (lo := 0) (n := j.toNat) Pv hp (fun i σ' H' hi p => ?_) hd⟩
  have e : (0 : Int) + (i : Int) = (i : Int) := Int.zero_add _
  show tb _ (σ'.set k (some (.int ((0 : Int) + (i : Int))))) H'
  rw [e]
  exact ht i σ' H' (by omega) p
theorem r_forRng {A : TA} {tb : TS} {k : Nat} (h : A σ H fun vs H1 => ∃ j : Int, vs = [.int j] ∧ -(2 ^ 62) ≤ j ∧ j < 2 ^ 62 ∧ ∃ W : Nat → Nat → L2.St → Hp → Prop, (∃ m, W 0 m σ H1) ∧ ∀ i m σ H, W i m σ H →
      (((Itr 0 j.toNat).stop i H ∧ D.nx σ H) ∨ ((Itr 0 j.toNat).go i H ∧ ∃ N : L2.St → Hp → Prop, (∀ σ' H', N σ' H' → ∃ m', m' < m ∧ W (i + 1) m' σ' H') ∧ ∀ x H', (Itr 0 j.toNat).yld i H x H' → gName k x σ H' fun σ2 H2 => tb { D with nx := N, ct := N, bk := D.nx } σ2 H2))) :
    tFor (iRng1 A) (gName k) tb D σ H := h
theorem r_forL0 {tl : TE} {g : TG} {tb : TS} (h : tl σ H fun x H1 => ∃ a, x = .ref a ∧ (∃ xs, SqL K H1 a xs) ∧ ∃ W : Nat → Nat → L2.St → Hp → Prop, (∃ m, W 0 m σ H1) ∧ ∀ i m σ H, W i m σ H →
      (((Itl K a).stop i H ∧ D.nx σ H) ∨ ((Itl K a).go i H ∧ ∃ N : L2.St → Hp → Prop, (∀ σ' H', N σ' H' → ∃ m', m' < m ∧ W (i + 1) m' σ' H') ∧ ∀ x H', (Itl K a).yld i H x H' → g x σ H' fun σ2 H2 => tb { D with nx := N, ct := N, bk := D.nx } σ2 H2))) :
    tFor (iList K tl) g tb D σ H := h
theorem r_lst_by {g : TG} {tb : TS} {a : Addr} {xs : List V} (hs : SqL K H a xs) (Pv : Nat → L2.St → Hp → Prop) (h0 : Pv 0 σ H) (hl : ∀ i σ' H', Pv i σ' H' → SqL K H' a xs)
    (ht : ∀ i x σ' H', xs[i]? = some x → Pv i σ' H' → g x σ' H' fun σ2 H2 => tb { D with nx := Pv (i + 1), ct := Pv (i + 1), bk := D.nx } σ2 H2) (hd : ∀ σ' H', Pv xs.length σ' H' → D.nx σ' H') :
    ∃ a', V.ref a = .ref a' ∧ (∃ xs, SqL K H a' xs) ∧ ∃ W : Nat → Nat → L2.St → Hp → Prop, (∃ m, W 0 m σ H) ∧ ∀ i m σ H, W i m σ H →
      (((Itl K a').stop i H ∧ D.nx σ H) ∨ ((Itl K a').go i H ∧ ∃ N : L2.St → Hp → Prop, (∀ σ' H', N σ' H' → ∃ m', m' < m ∧ W (i + 1) m' σ' H') ∧ ∀ x H', (Itl K a').yld i H x H' → g x σ H' fun σ2 H2 => tb { D with nx := N, ct := N, bk := D.nx } σ2 H2)) :=
  ⟨a, rfl, ⟨xs, hs⟩, for_list (xs := xs) Pv h0 (fun i σ' H' _ p => hl i σ' H' p) ht hd⟩
theorem r_eqD {d e : PyData} (hd : Dp K H x d) (he : Dp K H y e) (sd : SeqAt.shaped d = true) (se : SeqAt.shaped e = true) (h : Q (.bl (PyData.eqv d e)) H) : rEqD K x y H Q := ⟨d, e, hd, he, sd, se, h⟩
theorem r_cat {p q : Addr} {xs zs : List V} (h1 : H p = some (.lst xs)) (h2 : H q = some (.lst zs)) (l : xs.length + zs.length ≤ 100000) (k : ∀ p H1, H p = none → Same H H1 → H1 p = some (.lst (xs ++ zs)) → Q (.ref p) H1) : rCat (.ref p) (.ref q) H Q :=
  ⟨p, q, xs, zs, rfl, rfl, h1, h2, Nat.le_trans l (by decide), fun p np => k p _ np (same_upd np) upd_same⟩
theorem turns (z m : Int) (hm : 1 ≤ m) (hm2 : m ≤ 100000) : 0 ≤ (if (if z < m then z else m) > 1 then (if z < m then z else m) else 1) ∧ (if (if z < m then z else m) > 1 then (if z < m then z else m) else 1) ≤ 100000 := by
  constructor <;> (split <;> split <;> omega)
theorem turns_le (z m : Int) (hm : 1 ≤ m) : (if (if z < m then z else m) > 1 then (if z < m then z else m) else 1) ≤ m := by
  split <;> split <;> omega
/-- two ways that meet -/
theorem join {c : Prop} [Decidable c] {A B : VK → Prop} {N : VK} (R : V → Hp → Prop) (ha : c → ∀ M : VK, (∀ v H', R v H' → M v H') → A M) (hb : ¬ c → ∀ M : VK, (∀ v H', R v H' → M v H') → B M) (k : ∀ v H', R v H' → N v H') :
    if decide c = true then A N else B N := by
  by_cases q : c
  · rw [decide_eq_true q, if_pos rfl]; exact ha q N k
  · rw [decide_eq_false q, if_neg Bool.false_ne_true]; exact hb q N k
theorem get_int {ns : List Int} {i : Nat} (h : i < ns.length) : ∃ c, atI (ns.map V.int) (i : Int) = some (.int c) := by
  refine ⟨ns[i], atI_nat ?_⟩
  rw [List.getElem?_map, List.getElem?_eq_getElem h]; rfl
/-- [e for name in range(j)], [e for name in a list] -/
def lcR (j : Int) (k : Nat) (te : TE) (vs : List Nat) (σ : L2.St) (H : Hp) (Q : VK) : Prop := -(2 ^ 62) ≤ j ∧ j < 2 ^ 62 ∧ ∀ D, H D = none → ∃ W : Nat → Nat → Hp → Prop, (∃ m, W 0 m (L2.upd H D (.lst []))) ∧ ∀ i m H, W i m H →
  ((Itr 0 j.toNat).stop i H ∧ Q (.ref D) H) ∨ ((Itr 0 j.toNat).go i H ∧ ∃ Nx : Hp → Prop, (∀ H', Nx H' → ∃ m', m' < m ∧ W (i + 1) m' H') ∧ ∀ x H', (Itr 0 j.toNat).yld i H x H' → gName k x (wipe σ vs) H' fun σ2 H2 => wipe σ2 vs = wipe σ vs ∧ tYes σ2 H2 fun b H3 =>
    if b = true then te σ2 H3 fun y H4 => ∃ acc, H4 D = some (.lst acc) ∧ acc.length < sizeLine ∧ Nx (L2.upd H4 D (.lst (acc ++ [y]))) else Nx H3)
theorem r_lcRng {k : Nat} {vs : List Nat} (h : A σ H fun ws H1 => ∃ j : Int, ws = [.int j] ∧ lcR j k te vs σ H1 Q) : tLc (iRng1 A) (gName k) tYes te vs σ H Q := h
/-- what is made is put behind the list at Dl -/
def apR (Dl : Addr) (N : Hp → Prop) (y : V) (H : Hp) : Prop := ∃ acc, H Dl = some (.lst acc) ∧ acc.length < sizeLine ∧ N (L2.upd H Dl (.lst (acc ++ [y])))
theorem r_ap {Dl : Addr} {N : Hp → Prop} {acc : List V} (h : H Dl = some (.lst acc)) (l : acc.length ≤ 100000) (k : ∀ H1, But Dl H H1 → H1 Dl = some (.lst (acc ++ [y])) → N H1) : apR Dl N y H :=
  ⟨acc, h, Nat.lt_of_le_of_lt l (by decide), k _ But.upd upd_same⟩
theorem r_lcR {J : Int} {k : Nat} {vs : List Nat} (h0 : 0 ≤ J) (h1 : J ≤ 100000) (hw : ∀ x, wipe ((wipe σ vs).set k (some x)) vs = wipe σ vs) (Pv : Addr → Nat → Hp → Prop)
    (hs : ∀ Dl H1, H Dl = none → Same H H1 → H1 Dl = some (.lst []) → Pv Dl 0 H1)
    (ht : ∀ Dl (i : Nat) H', H Dl = none → (i : Int) < J → Pv Dl i H' → te ((wipe σ vs).set k (some (.int (i : Int)))) H' (apR Dl (Pv Dl (i + 1))))
    (hd : ∀ Dl H', H Dl = none → Pv Dl J.toNat H' → Q (.ref Dl) H') : ∃ j' : Int, [V.int J] = [V.int j'] ∧ lcR j' k te vs σ H Q := by
  refine ⟨J, rfl, by omega, by omega, fun Dl hD => ?_⟩
  refine lc_range (lo := 0) (n := J.toNat) (tt := tYes) (Pv Dl) (hs Dl _ hD (same_upd hD) upd_same) (fun i H' hi p => ?_) (fun H' p => hd Dl H' hD p)
  have e : (0 : Int) + (i : Int) = (i : Int) := Int.zero_add _
  show wipe ((wipe σ vs).set k (some (.int ((0 : Int) + (i : Int))))) vs = wipe σ vs ∧ (if true = true then te ((wipe σ vs).set k (some (.int ((0 : Int) + (i : Int))))) H' (apR Dl (Pv Dl (i + 1))) else Pv Dl (i + 1) H')
  rw [e, if_pos rfl]
  exact ⟨hw _, ht Dl i H' hD (by omega) p⟩
def lcL (K : PySem.W.Frag) (a : Addr) (k : Nat) (te : TE) (vs : List Nat) (σ : L2.St) (H : Hp) (Q : VK) : Prop := (∃ xs, SqL K H a xs) ∧ ∀ D, H D = none → ∃ W : Nat → Nat → Hp → Prop, (∃ m, W 0 m (L2.upd H D (.lst []))) ∧ ∀ i m H, W i m H →
  ((Itl K a).stop i H ∧ Q (.ref D) H) ∨ ((Itl K a).go i H ∧ ∃ Nx : Hp → Prop, (∀ H', Nx H' → ∃ m', m' < m ∧ W (i + 1) m' H') ∧ ∀ x H', (Itl K a).yld i H x H' → gName k x (wipe σ vs) H' fun σ2 H2 => wipe σ2 vs = wipe σ vs ∧ tYes σ2 H2 fun b H3 =>
    if b = true then te σ2 H3 fun y H4 => ∃ acc, H4 D = some (.lst acc) ∧ acc.length < sizeLine ∧ Nx (L2.upd H4 D (.lst (acc ++ [y]))) else Nx H3)
theorem r_lcLst {k : Nat} {vs : List Nat} {tl : TE} (h : tl σ H fun x H1 => ∃ a, x = .ref a ∧ lcL K a k te vs σ H1 Q) : tLc (iList K tl) (gName k) tYes te vs σ H Q := h
theorem r_lcL {a : Addr} {xs : List V} {k : Nat} {vs : List Nat} (hx : SqL K H a xs) (hw : ∀ x, wipe ((wipe σ vs).set k (some x)) vs = wipe σ vs) (Pv : Addr → Nat → Hp → Prop)
    (hs : ∀ Dl H1, H Dl = none → Same H H1 → H1 Dl = some (.lst []) → Pv Dl 0 H1) (hl : ∀ Dl i H', H Dl = none → Pv Dl i H' → SqL K H' a xs)
    (ht : ∀ Dl (i : Nat) x H', H Dl = none → xs[i]? = some x → Pv Dl i H' → te ((wipe σ vs).set k (some x)) H' (apR Dl (Pv Dl (i + 1))))
    (hd : ∀ Dl H', H Dl = none → Pv Dl xs.length H' → Q (.ref Dl) H') : ∃ a', V.ref a = .ref a' ∧ lcL K a' k te vs σ H Q := by
  refine ⟨a, rfl, ⟨xs, hx⟩, fun Dl hD => ?_⟩
  refine lc_list (xs := xs) (tt := tYes) (Pv Dl) (hs Dl _ hD (same_upd hD) upd_same) (fun i H' _ p => hl Dl i H' hD p) (fun i x H' hi p => ?_) (fun H' p => hd Dl H' hD p)
  show wipe ((wipe σ vs).set k (some x)) vs = wipe σ vs ∧ (if true = true then te ((wipe σ vs).set k (some x)) H' (apR Dl (Pv Dl (i + 1))) else Pv Dl (i + 1) H')
  rw [if_pos rfl]
  exact ⟨hw _, ht Dl i x H' hD hi p⟩
def lcF (K : PySem.W.Frag) (a : Addr) (k : Nat) (tt : TT) (te : TE) (vs : List Nat) (σ : L2.St) (H : Hp) (Q : VK) : Prop := (∃ xs, SqL K H a xs) ∧ ∀ D, H D = none → ∃ W : Nat → Nat → Hp → Prop, (∃ m, W 0 m (L2.upd H D (.lst []))) ∧ ∀ i m H, W i m H →
  ((Itl K a).stop i H ∧ Q (.ref D) H) ∨ ((Itl K a).go i H ∧ ∃ Nx : Hp → Prop, (∀ H', Nx H' → ∃ m', m' < m ∧ W (i + 1) m' H') ∧ ∀ x H', (Itl K a).yld i H x H' → gName k x (wipe σ vs) H' fun σ2 H2 => wipe σ2 vs = wipe σ vs ∧ tt σ2 H2 fun b H3 =>
    if b = true then te σ2 H3 fun y H4 => ∃ acc, H4 D = some (.lst acc) ∧ acc.length < sizeLine ∧ Nx (L2.upd H4 D (.lst (acc ++ [y]))) else Nx H3)
theorem r_lcFLst {k : Nat} {vs : List Nat} {tl : TE} {tt : TT} (h : tl σ H fun x H1 => ∃ a, x = .ref a ∧ lcF K a k tt te vs σ H1 Q) : tLc (iList K tl) (gName k) tt te vs σ H Q := h
theorem r_lcF {a : Addr} {xs : List V} {k : Nat} {vs : List Nat} {tt : TT} (hx : SqL K H a xs) (hw : ∀ x, wipe ((wipe σ vs).set k (some x)) vs = wipe σ vs) (Pv : Addr → Nat → Hp → Prop)
    (hs : ∀ Dl H1, H Dl = none → Same H H1 → H1 Dl = some (.lst []) → Pv Dl 0 H1) (hl : ∀ Dl i H', H Dl = none → Pv Dl i H' → SqL K H' a xs)
    (ht : ∀ Dl (i : Nat) x H', H Dl = none → xs[i]? = some x → Pv Dl i H' → tt ((wipe σ vs).set k (some x)) H' fun b H3 => if b = true then te ((wipe σ vs).set k (some x)) H3 (apR Dl (Pv Dl (i + 1))) else Pv Dl (i + 1) H3)
    (hd : ∀ Dl H', H Dl = none → Pv Dl xs.length H' → Q (.ref Dl) H') : ∃ a', V.ref a = .ref a' ∧ lcF K a' k tt te vs σ H Q := by
  refine ⟨a, rfl, ⟨xs, hx⟩, fun Dl hD => ?_⟩
  exact lc_list (xs := xs) (tt := tt) (Pv Dl) (hs Dl _ hD (same_upd hD) upd_same) (fun i H' _ p => hl Dl i H' hD p) (fun i x H' hi p => ⟨hw _, ht Dl i x H' hD hi p⟩) (fun H' p => hd Dl H' hD p)
theorem r_bmA {to : TE} {t : TA} (h : to σ H fun x H1 => tyV K "list" x H1 ∧ t σ H1 fun xs H2 => rAppend x xs H2 Q) : tBM K "list" rAppend to t σ H Q := h
theorem r_tyL {l : Addr} {xs : List V} {G : Prop} (e : H l = some (.lst xs)) (h : G) : tyV K "list" (.ref l) H ∧ G := ⟨.inl ⟨rfl, xs, SqL.of e⟩, h⟩
theorem r_app {l : Addr} {xs : List V} (e : H l = some (.lst xs)) (n : xs.length ≤ 100000) (k : ∀ H1, But l H H1 → H1 l = some (.lst (xs ++ [y])) → Q .non H1) : rAppend (.ref l) [y] H Q :=
  ⟨l, xs, y, rfl, rfl, e, Nat.lt_of_le_of_lt n (by decide), k _ But.upd upd_same⟩
theorem r_anyB {a : Addr} {bs : List Bool} (hs : SqL K H a (bs.map V.bl)) (h : Q (.bl (bs.any id)) H) : rAny K [.ref a] H Q := ⟨a, bs, rfl, hs, h⟩
/-! dicts with keys that are texts -/
def dgR (x y : V) (H : Hp) (Q : VK) : Prop := ∃ a v, x = .ref a ∧ DGet H a y (some v) ∧ Q v H
theorem r_dget (h : ta σ H fun x H1 => tb σ H1 fun y H2 => dgR x y H2 Q) : tDGet ta tb σ H Q := h
theorem r_dgS {a : Addr} {g : Str} {kvs : List (Key × V)} (e : H a = some (.dK kvs)) (l : valV kvs (.inr g) = some v) (k : Q v H) : dgR (.ref a) (.str g) H Q := ⟨a, v, rfl, by
  have z := DGet.k (H := H) (a := a) (kvs := kvs) (k := .inr g) e
  rw [l] at z
  exact z, k⟩
def dpR (x y v : V) (H : Hp) (N : Hp → Prop) : Prop := ∃ a H1, x = .ref a ∧ DPut H a y v H1 ∧ N H1
theorem r_dput (h : tc σ H fun v H1 => ta σ H1 fun x H2 => tb σ H2 fun y H3 => dpR x y v H3 (D.nx σ)) : sDPut ta tb tc D σ H := h
theorem r_dpS {a : Addr} {g : Str} {kvs : List (Key × V)} {N : Hp → Prop} (e : H a = some (.dK kvs)) (l : kvs.length ≤ 1000) (k : ∀ H1, But a H H1 → H1 a = some (.dK (putK kvs (.inr g) v)) → N H1) : dpR (.ref a) (.str g) v H N :=
  ⟨a, _, rfl, DPut.k (k := .inr g) e (Nat.lt_of_le_of_lt l (by decide)), k _ But.upd upd_same⟩
def dspR (p : Addr) (ps : List (V × V)) (H : Hp) (Q : VK) : Prop := H p = some (.dK []) ∧ ∃ kvs : List (Key × V), ps = kvs.map (fun kv => (kV kv.1, kv.2)) ∧ kvs.length ≤ 15 ∧ Q (.ref p) (L2.upd H p (.dK (mergeK [] kvs)))
theorem r_disp {trs : List (TE × TE)} (h : ∀ p H1, H p = none → Same H H1 → H1 p = some (.dK []) → tPairs trs σ H1 fun ps H2 => dspR p ps H2 Q) : tDisp trs σ H Q := fun p np => h p _ np (same_upd np) upd_same
theorem r_pnil {N : List (V × V) → Hp → Prop} (h : N [] H) : tPairs [] σ H N := h
theorem r_pcons {trs : List (TE × TE)} {N : List (V × V) → Hp → Prop} (h : ta σ H fun x H1 => tb σ H1 fun y H2 => tPairs trs σ H2 fun ps H3 => N ((x, y) :: ps) H3) : tPairs ((ta, tb) :: trs) σ H N := h
theorem r_dsp {p : Addr} {ps : List (V × V)} (kvs : List (Key × V)) (e : H p = some (.dK [])) (hps : ps = kvs.map (fun kv => (kV kv.1, kv.2))) (l : kvs.length ≤ 15) (k : ∀ H1, But p H H1 → H1 p = some (.dK (mergeK [] kvs)) → Q (.ref p) H1) : dspR p ps H Q :=
  ⟨e, kvs, hps, l, k _ But.upd upd_same⟩
theorem pow10_le {a b : Nat} (h : a ≤ b) : (10 : Int) ^ a ≤ 10 ^ b := by
  have e : ∀ k : Nat, (10 : Int) ^ k = ((10 ^ k : Nat) : Int) := fun k => by rw [Int.natCast_pow]; rfl
  rw [e, e]
  exact Int.ofNat_le.mpr (Nat.pow_le_pow_right (by decide) h)
theorem letters {n : Nat} (h : n < 26) : ∃ c, ("abcdefghijklmnopqrstuvwxyz" : Str).cps.toList[n]? = some c ∧ 97 ≤ c ∧ c ≤ 122 := by
  have e : ("abcdefghijklmnopqrstuvwxyz" : Str).cps.toList = List.range' 97 26 := by decide +kernel
  refine ⟨97 + n, ?_, by omega, by omega⟩
  rw [e, List.getElem?_range' (by omega)]
  simp
theorem ty_ins {a C dx : Addr} {fs : List (Str × V)} (c : Cls K C) (i : Inst K C) (e : H a = some (.ins C dx fs)) : TyX K H (.ref a) (.ref C) := .base (.ins e c i.ca i.cn i.ct i.cm)
theorem c_isi {X : Cx} {K : PySem.W.Frag} (e : X.K = K) : CallR X (.builtin "isinstance") (rIsi K) := e ▸ call_isi
theorem r_isiT {t : Value} {n : String} {b : Bool} (ty : TyX K H x t) (k : PySem.W.kitOne K t (.type n) = some b) (h : Q (.bl b) H) : rIsi K [x, .ty n] H Q := ⟨x, .ty n, t, .type n, b, rfl, .ty n, ty, k, h⟩
theorem r_isiC {t : Value} {C : Addr} {b : Bool} (ty : TyX K H x t) (k : PySem.W.kitOne K t (.ref C) = some b) (h : Q (.bl b) H) : rIsi K [x, .ref C] H Q := ⟨x, .ref C, t, .ref C, b, rfl, .own C, ty, k, h⟩
/-- a new instance, its dict made, its __init__ asked -/
def mkI (C : Addr) (sp : Sp) (ds vs : List V) (H : Hp) (Q : VK) (E : XK) : Prop := ∀ x dx, H x = none → H dx = none → dx ≠ x →
  sp (.ref x :: (vs ++ ds)) (L2.upd (L2.upd H dx (.own x)) x (.ins C dx [])) (fun v H2 => v = .non ∧ Q (.ref x) H2) E
theorem r_make {C : Addr} {ds : List V} (h : A σ H fun vs H1 => mkI C sp ds vs H1 Q E) : tMake C sp ds E A σ H Q := h
theorem look1 {f : Str} : ([(f, v)] : List (Str × V)).lookup f = some v := by simp [List.lookup]
/-- o.f = value -/
def stF (K : PySem.W.Frag) (f : Str) (y x : V) (H : Hp) (N : Hp → Prop) : Prop := ∃ a C dx fs, x = .ref a ∧ H a = some (.ins C dx fs) ∧ Cls K C ∧ NoAttr K C f ∧ fs.length < 1000 ∧ N (L2.upd H a (.ins C dx (putF f y fs)))
theorem r_sfld {f : Str} {tv : TE} (h : tv σ H fun y H1 => ta σ H1 fun x H2 => stF K f y x H2 (D.nx σ)) : sFld K ta tv f D σ H := h
theorem r_stF {f : Str} {a C dx : Addr} {fs : List (Str × V)} {N : Hp → Prop} (e : H a = some (.ins C dx fs)) (c : Cls K C) (n : NoAttr K C f) (l : fs.length ≤ 900) (h : ∀ H1, But a H H1 → H1 a = some (.ins C dx (putF f y fs)) → N H1) :
    stF K f y (.ref a) H N := ⟨a, C, dx, fs, rfl, e, c, n, by omega, h _ But.upd upd_same⟩
def rIsN : R2 := fun x y H Q => y = .non ∧ Q (.bl (decide (x = .non))) H
def rNotN : R2 := fun x y H Q => y = .non ∧ Q (.bl (!decide (x = .non))) H
theorem o_isN {X : Cx} : OpR X (compareOp .Is) rIsN := op_isN
theorem o_notN {X : Cx} : OpR X (compareOp .IsNot) rNotN := op_notN
theorem r_isN (h : Q (.bl (decide (x = .non))) H) : rIsN x .non H Q := ⟨rfl, h⟩
theorem r_notN (h : Q (.bl (!decide (x = .non))) H) : rNotN x .non H Q := ⟨rfl, h⟩
theorem z4 : (4 : Nat) ≤ sizeLine := by decide
theorem szle {n : Nat} (h : n ≤ 1000) : n ≤ sizeLine := Nat.le_trans h (by decide)
end
end Z
namespace Z
open PySem PySem.Spec PyProof.Rows L2
/-- what of the text an own operator leans on, the class of instances over object alone -/
structure BinF (K : PySem.W.Frag) (C : Addr) (nm : String) (f g : Addr) : Prop where
  sf : PySem.W.selfFirst K C = true
  at_ : PySem.W.findIn K (.ref C) (PySem.dunder nm) = some (some (.ref f))
  fn : PySem.W.isFn K (.ref f) = true
  rat : PySem.W.findIn K (.ref C) (PySem.dunderR nm) = some (some (.ref g))
  rfn : PySem.W.isFn K (.ref g) = true
  fo : ∃ fo, PySem.W.findIn K (.type "int") (PySem.dunder nm) = some fo
  ro : ∃ ro, PySem.W.findIn K (.type "int") (PySem.dunderR nm) = some ro
  sub : PySem.W.subIn K (.ref C) (.type "int") = some false
  isub : PySem.W.subIn K (.type "int") (.ref C) = some false
  cls : ∃ cd, PySem.W.clsIn K C = some cd ∧ cd.mro = [.ref C, .type "object"]
  ni : PySem.W.findIn K (.ref C) (PySem.dunderI nm) = some none
  noi : PySem.W.findIn K (.type "object") (PySem.dunderI nm) = some none
end Z

structure Top (K : PySem.W.Frag) (mg : Str → Option Value) where
  C_Unnumbered : Addr
  f_law_draw : Addr
  fd_law_draw : FuncData
  F_law_draw : Fun K "_law_draw" "_law_draw" s_law_draw f_law_draw fd_law_draw
  B_law_draw : Binds K fd_law_draw ["_law_bag_here", "_law_many"] []
  f_law_bag : Addr
  fd_law_bag : FuncData
  F_law_bag : Fun K "_law_bag" "_law_bag" s_law_bag f_law_bag fd_law_bag
  B_law_bag : Binds K fd_law_bag ["_law_script", "_law_at"] []
  f_law_number : Addr
  fd_law_number : FuncData
  F_law_number : Fun K "_law_number" "_law_number" s_law_number f_law_number fd_law_number
  B_law_number : Binds K fd_law_number ["_law_bag_here"] []
  f_law_word : Addr
  fd_law_word : FuncData
  F_law_word : Fun K "_law_word" "_law_word" s_law_word f_law_word fd_law_word
  B_law_word : Binds K fd_law_word ["_law_bag_here"] []
  f_is_number : Addr
  fd_is_number : FuncData
  F_is_number : Fun K "is_number" "is_number" s_is_number f_is_number fd_is_number
  B_is_number : Binds K fd_is_number ["thing"] []
  f_Unnumbered___init : Addr
  fd_Unnumbered___init : FuncData
  F_Unnumbered___init : Fun K "__init__" "Unnumbered.__init__" s_Unnumbered___init f_Unnumbered___init fd_Unnumbered___init
  B_Unnumbered___init : Binds K fd_Unnumbered___init ["self", "name"] []
  f_is_entry : Addr
  fd_is_entry : FuncData
  F_is_entry : Fun K "is_entry" "is_entry" s_is_entry f_is_entry fd_is_entry
  B_is_entry : Binds K fd_is_entry ["thing"] []
  f_is_value : Addr
  fd_is_value : FuncData
  F_is_value : Fun K "_is_value" "_is_value" s_is_value f_is_value fd_is_value
  B_is_value : Binds K fd_is_value ["thing"] []
  f_Unnumbered___eq : Addr
  fd_Unnumbered___eq : FuncData
  F_Unnumbered___eq : Fun K "__eq__" "Unnumbered.__eq__" s_Unnumbered___eq f_Unnumbered___eq fd_Unnumbered___eq
  B_Unnumbered___eq : Binds K fd_Unnumbered___eq ["self", "other"] []
  f_Unnumbered___ne : Addr
  fd_Unnumbered___ne : FuncData
  F_Unnumbered___ne : Fun K "__ne__" "Unnumbered.__ne__" s_Unnumbered___ne f_Unnumbered___ne fd_Unnumbered___ne
  B_Unnumbered___ne : Binds K fd_Unnumbered___ne ["self", "other"] []
  f_Unnumbered___lt : Addr
  fd_Unnumbered___lt : FuncData
  F_Unnumbered___lt : Fun K "__lt__" "Unnumbered.__lt__" s_Unnumbered___lt f_Unnumbered___lt fd_Unnumbered___lt
  B_Unnumbered___lt : Binds K fd_Unnumbered___lt ["self", "other"] []
  f_Unnumbered___le : Addr
  fd_Unnumbered___le : FuncData
  F_Unnumbered___le : Fun K "__le__" "Unnumbered.__le__" s_Unnumbered___le f_Unnumbered___le fd_Unnumbered___le
  B_Unnumbered___le : Binds K fd_Unnumbered___le ["self", "other"] []
  f_Unnumbered___gt : Addr
  fd_Unnumbered___gt : FuncData
  F_Unnumbered___gt : Fun K "__gt__" "Unnumbered.__gt__" s_Unnumbered___gt f_Unnumbered___gt fd_Unnumbered___gt
  B_Unnumbered___gt : Binds K fd_Unnumbered___gt ["self", "other"] []
  f_Unnumbered___ge : Addr
  fd_Unnumbered___ge : FuncData
  F_Unnumbered___ge : Fun K "__ge__" "Unnumbered.__ge__" s_Unnumbered___ge f_Unnumbered___ge fd_Unnumbered___ge
  B_Unnumbered___ge : Binds K fd_Unnumbered___ge ["self", "other"] []
  f_Unnumbered___add : Addr
  fd_Unnumbered___add : FuncData
  F_Unnumbered___add : Fun K "__add__" "Unnumbered.__add__" s_Unnumbered___add f_Unnumbered___add fd_Unnumbered___add
  B_Unnumbered___add : Binds K fd_Unnumbered___add ["self", "other"] []
  f_Unnumbered___radd : Addr
  fd_Unnumbered___radd : FuncData
  F_Unnumbered___radd : Fun K "__radd__" "Unnumbered.__radd__" s_Unnumbered___radd f_Unnumbered___radd fd_Unnumbered___radd
  B_Unnumbered___radd : Binds K fd_Unnumbered___radd ["self", "other"] []
  f_Unnumbered___sub : Addr
  fd_Unnumbered___sub : FuncData
  F_Unnumbered___sub : Fun K "__sub__" "Unnumbered.__sub__" s_Unnumbered___sub f_Unnumbered___sub fd_Unnumbered___sub
  B_Unnumbered___sub : Binds K fd_Unnumbered___sub ["self", "other"] []
  f_Unnumbered___rsub : Addr
  fd_Unnumbered___rsub : FuncData
  F_Unnumbered___rsub : Fun K "__rsub__" "Unnumbered.__rsub__" s_Unnumbered___rsub f_Unnumbered___rsub fd_Unnumbered___rsub
  B_Unnumbered___rsub : Binds K fd_Unnumbered___rsub ["self", "other"] []
  f_Unnumbered___mul : Addr
  fd_Unnumbered___mul : FuncData
  F_Unnumbered___mul : Fun K "__mul__" "Unnumbered.__mul__" s_Unnumbered___mul f_Unnumbered___mul fd_Unnumbered___mul
  B_Unnumbered___mul : Binds K fd_Unnumbered___mul ["self", "other"] []
  f_Unnumbered___rmul : Addr
  fd_Unnumbered___rmul : FuncData
  F_Unnumbered___rmul : Fun K "__rmul__" "Unnumbered.__rmul__" s_Unnumbered___rmul f_Unnumbered___rmul fd_Unnumbered___rmul
  B_Unnumbered___rmul : Binds K fd_Unnumbered___rmul ["self", "other"] []
  f_Unnumbered___floordiv : Addr
  fd_Unnumbered___floordiv : FuncData
  F_Unnumbered___floordiv : Fun K "__floordiv__" "Unnumbered.__floordiv__" s_Unnumbered___floordiv f_Unnumbered___floordiv fd_Unnumbered___floordiv
  B_Unnumbered___floordiv : Binds K fd_Unnumbered___floordiv ["self", "other"] []
  f_Unnumbered___rfloordiv : Addr
  fd_Unnumbered___rfloordiv : FuncData
  F_Unnumbered___rfloordiv : Fun K "__rfloordiv__" "Unnumbered.__rfloordiv__" s_Unnumbered___rfloordiv f_Unnumbered___rfloordiv fd_Unnumbered___rfloordiv
  B_Unnumbered___rfloordiv : Binds K fd_Unnumbered___rfloordiv ["self", "other"] []
  f_Unnumbered___mod : Addr
  fd_Unnumbered___mod : FuncData
  F_Unnumbered___mod : Fun K "__mod__" "Unnumbered.__mod__" s_Unnumbered___mod f_Unnumbered___mod fd_Unnumbered___mod
  B_Unnumbered___mod : Binds K fd_Unnumbered___mod ["self", "other"] []
  f_Unnumbered___rmod : Addr
  fd_Unnumbered___rmod : FuncData
  F_Unnumbered___rmod : Fun K "__rmod__" "Unnumbered.__rmod__" s_Unnumbered___rmod f_Unnumbered___rmod fd_Unnumbered___rmod
  B_Unnumbered___rmod : Binds K fd_Unnumbered___rmod ["self", "other"] []
  f_Unnumbered___neg : Addr
  fd_Unnumbered___neg : FuncData
  F_Unnumbered___neg : Fun K "__neg__" "Unnumbered.__neg__" s_Unnumbered___neg f_Unnumbered___neg fd_Unnumbered___neg
  B_Unnumbered___neg : Binds K fd_Unnumbered___neg ["self"] []
  f_Unnumbered___pos : Addr
  fd_Unnumbered___pos : FuncData
  F_Unnumbered___pos : Fun K "__pos__" "Unnumbered.__pos__" s_Unnumbered___pos f_Unnumbered___pos fd_Unnumbered___pos
  B_Unnumbered___pos : Binds K fd_Unnumbered___pos ["self"] []
  f_Unnumbered___abs : Addr
  fd_Unnumbered___abs : FuncData
  F_Unnumbered___abs : Fun K "__abs__" "Unnumbered.__abs__" s_Unnumbered___abs f_Unnumbered___abs fd_Unnumbered___abs
  B_Unnumbered___abs : Binds K fd_Unnumbered___abs ["self"] []
  f_law_new : Addr
  fd_law_new : FuncData
  F_law_new : Fun K "_law_new" "_law_new" s_law_new f_law_new fd_law_new
  B_law_new : Binds K fd_law_new ["_law_told", "_law_name", "_law_olds"] []
  f_law_row : Addr
  fd_law_row : FuncData
  F_law_row : Fun K "_law_row" "_law_row" s_law_row f_law_row fd_law_row
  B_law_row : Binds K fd_law_row ["_law_bag_here", "_law_marks"] []
  f_law_led : Addr
  fd_law_led : FuncData
  F_law_led : Fun K "_law_led" "_law_led" s_law_led f_law_led fd_law_led
  B_law_led : Binds K fd_law_led ["_law_row_here"] []
  f_law : Addr
  fd_law : FuncData
  F_law : Fun K "law" "law" s_law f_law fd_law
  B_law : Binds K fd_law ["_law_script"] []
  mgC_Unnumbered : mg "Unnumbered" = some (.ref C_Unnumbered)
  cl_Unnumbered : Cls K C_Unnumbered
  in_Unnumbered : Z.Inst K C_Unnumbered
  mk_Unnumbered : Mk K C_Unnumbered f_Unnumbered___init
  me_Unnumbered___abs : Meth K C_Unnumbered "__abs__" f_Unnumbered___abs
  me_Unnumbered___add : Meth K C_Unnumbered "__add__" f_Unnumbered___add
  me_Unnumbered___eq : Meth K C_Unnumbered "__eq__" f_Unnumbered___eq
  me_Unnumbered___floordiv : Meth K C_Unnumbered "__floordiv__" f_Unnumbered___floordiv
  me_Unnumbered___mod : Meth K C_Unnumbered "__mod__" f_Unnumbered___mod
  me_Unnumbered___mul : Meth K C_Unnumbered "__mul__" f_Unnumbered___mul
  me_Unnumbered___neg : Meth K C_Unnumbered "__neg__" f_Unnumbered___neg
  me_Unnumbered___pos : Meth K C_Unnumbered "__pos__" f_Unnumbered___pos
  me_Unnumbered___radd : Meth K C_Unnumbered "__radd__" f_Unnumbered___radd
  me_Unnumbered___rfloordiv : Meth K C_Unnumbered "__rfloordiv__" f_Unnumbered___rfloordiv
  me_Unnumbered___rmod : Meth K C_Unnumbered "__rmod__" f_Unnumbered___rmod
  me_Unnumbered___rmul : Meth K C_Unnumbered "__rmul__" f_Unnumbered___rmul
  me_Unnumbered___rsub : Meth K C_Unnumbered "__rsub__" f_Unnumbered___rsub
  me_Unnumbered___sub : Meth K C_Unnumbered "__sub__" f_Unnumbered___sub
  bf_Unnumbered_add : Z.BinF K C_Unnumbered "add" f_Unnumbered___add f_Unnumbered___radd
  bf_Unnumbered_floordiv : Z.BinF K C_Unnumbered "floordiv" f_Unnumbered___floordiv f_Unnumbered___rfloordiv
  bf_Unnumbered_mod : Z.BinF K C_Unnumbered "mod" f_Unnumbered___mod f_Unnumbered___rmod
  bf_Unnumbered_mul : Z.BinF K C_Unnumbered "mul" f_Unnumbered___mul f_Unnumbered___rmul
  bf_Unnumbered_sub : Z.BinF K C_Unnumbered "sub" f_Unnumbered___sub f_Unnumbered___rsub
  no_Unnumbered_name : NoAttr K C_Unnumbered "name"
  mg_law_draw : mg "_law_draw" = some (.ref f_law_draw)
  mg_law_bag : mg "_law_bag" = some (.ref f_law_bag)
  mg_law_number : mg "_law_number" = some (.ref f_law_number)
  mg_law_word : mg "_law_word" = some (.ref f_law_word)
  mg_is_number : mg "is_number" = some (.ref f_is_number)
  mg_is_entry : mg "is_entry" = some (.ref f_is_entry)
  mg_is_value : mg "_is_value" = some (.ref f_is_value)
  mg_law_new : mg "_law_new" = some (.ref f_law_new)
  mg_law_row : mg "_law_row" = some (.ref f_law_row)
  mg_law_led : mg "_law_led" = some (.ref f_law_led)
  mg_law : mg "law" = some (.ref f_law)
  z_abs : mg "abs" = none
  z_any : mg "any" = none
  z_bool : mg "bool" = none
  z_int : mg "int" = none
  z_isinstance : mg "isinstance" = none
  z_len : mg "len" = none
  z_max : mg "max" = none
  z_min : mg "min" = none
  z_range : mg "range" = none
  ki_NoneType_Unnumbered : PySem.W.kitOne K (.type "NoneType") (.ref C_Unnumbered) = some false
  ki_bool_Unnumbered : PySem.W.kitOne K (.type "bool") (.ref C_Unnumbered) = some false
  ki_int_Unnumbered : PySem.W.kitOne K (.type "int") (.ref C_Unnumbered) = some false
  ki_str_Unnumbered : PySem.W.kitOne K (.type "str") (.ref C_Unnumbered) = some false
  ki_list_Unnumbered : PySem.W.kitOne K (.type "list") (.ref C_Unnumbered) = some false
  ki_tuple_Unnumbered : PySem.W.kitOne K (.type "tuple") (.ref C_Unnumbered) = some false
  ki_Unnumbered_Unnumbered : PySem.W.kitOne K (.ref C_Unnumbered) (.ref C_Unnumbered) = some true
  ki_Unnumbered_bool : PySem.W.kitOne K (.ref C_Unnumbered) (.type "bool") = some false
  ki_Unnumbered_int : PySem.W.kitOne K (.ref C_Unnumbered) (.type "int") = some false
theorem kb_NoneType_int : kitB "NoneType" "int" = some false := by decide +kernel
theorem kb_NoneType_bool : kitB "NoneType" "bool" = some false := by decide +kernel
theorem kb_bool_int : kitB "bool" "int" = some true := by decide +kernel
theorem kb_bool_bool : kitB "bool" "bool" = some true := by decide +kernel
theorem kb_int_int : kitB "int" "int" = some true := by decide +kernel
theorem kb_int_bool : kitB "int" "bool" = some false := by decide +kernel
theorem kb_str_int : kitB "str" "int" = some false := by decide +kernel
theorem kb_str_bool : kitB "str" "bool" = some false := by decide +kernel
theorem kb_list_int : kitB "list" "int" = some false := by decide +kernel
theorem kb_list_bool : kitB "list" "bool" = some false := by decide +kernel
theorem kb_tuple_int : kitB "tuple" "int" = some false := by decide +kernel
theorem kb_tuple_bool : kitB "tuple" "bool" = some false := by decide +kernel
local macro_rules | `(tactic| walk_at "ki") => `(tactic| first
  | assumption
  | exact kit_ty kb_NoneType_int
  | exact kit_ty kb_NoneType_bool
  | exact kit_ty kb_bool_int
  | exact kit_ty kb_bool_bool
  | exact kit_ty kb_int_int
  | exact kit_ty kb_int_bool
  | exact kit_ty kb_str_int
  | exact kit_ty kb_str_bool
  | exact kit_ty kb_list_int
  | exact kit_ty kb_list_bool
  | exact kit_ty kb_tuple_int
  | exact kit_ty kb_tuple_bool
  | exact Top.ki_NoneType_Unnumbered (by assumption)
  | exact Top.ki_bool_Unnumbered (by assumption)
  | exact Top.ki_int_Unnumbered (by assumption)
  | exact Top.ki_str_Unnumbered (by assumption)
  | exact Top.ki_list_Unnumbered (by assumption)
  | exact Top.ki_tuple_Unnumbered (by assumption)
  | exact Top.ki_Unnumbered_Unnumbered (by assumption)
  | exact Top.ki_Unnumbered_bool (by assumption)
  | exact Top.ki_Unnumbered_int (by assumption))
local macro_rules | `(tactic| walk_at "no") => `(tactic| first
  | exact Top.no_Unnumbered_name (by assumption)
  | assumption)
local macro_rules | `(tactic| walk_at "cl") => `(tactic| first
  | exact Top.cl_Unnumbered (by assumption)
  | assumption)
local macro_rules | `(tactic| walk_at "ty") => `(tactic| first
  | assumption
  | exact .base (.int _)
  | exact .base .non
  | exact .base (.bl _)
  | exact .base (.str _)
  | exact .base (.lst (by walk_at "hp"))
  | exact .base (.tup (by walk_at "hp"))
  | exact Z.ty_ins (Top.cl_Unnumbered (by assumption)) (Top.in_Unnumbered (by assumption)) (by walk_at "hp"))

/-! what stands at an address; which way a test goes; one step; as many as go -/
local macro_rules | `(tactic| walk_at "hp") => `(tactic| first
  | assumption
  | exact upd_same
  | (refine (‹Same _ _› : Same _ _) _ _ ?_; walk_at "hp")
  | (refine (‹Z.But _ _ _› : Z.But _ _ _) _ _ ?_ ?_; (first | assumption | (apply Ne.symm; assumption) | exact ne_of_none (by assumption) (by assumption)); walk_at "hp"))
local macro_rules | `(tactic| walk_at "sq") => `(tactic| first
  | assumption
  | exact SqL.of (by walk_at "hp")
  | (refine Same.seq (by assumption) ?_; walk_at "sq")
  | (refine Z.But.seq (by assumption) (by assumption) ?_; walk_at "sq"))
local macro_rules | `(tactic| walk_at "look") => `(tactic| first | assumption | exact Z.look1 | (simp [List.lookup]; done))
local macro_rules | `(tactic| walk_at "side") => `(tactic| first
  | (show (0 : Int) < _; omega)
  | (show CDiv _ _; exact ⟨by omega, by omega⟩)
  | (show CMul _ _; first | exact .inl ⟨by omega, by omega⟩ | exact .inr ⟨by omega, by omega⟩)
  | (show CPow _ _; exact ⟨by omega, by omega, by omega⟩))
local macro_rules | `(tactic| walk_at "st") => `(tactic| first
  | ((with_reducible refine' Z.r_var ?e ?_); (case e => exact rfl))
  | with_reducible refine Z.r_op ?_
  | with_reducible refine Z.r_c ?_
  | with_reducible refine Z.r_cons ?_
  | with_reducible refine Z.r_nil ?_
  | with_reducible refine Z.r_seq ?_
  | with_reducible refine Z.r_asg ?_
  | with_reducible refine Z.r_call ?_
  | with_reducible refine Z.r_cb ?_
  | with_reducible refine Z.r_asgG ?_
  | with_reducible refine Z.r_gName ?_
  | with_reducible refine Z.r_gSub ?_
  | with_reducible refine Z.r_ret ?_
  | with_reducible refine Z.r_retN ?_
  | with_reducible refine Z.r_next ?_
  | with_reducible refine Z.r_drop ?_
  | with_reducible refine Z.r_if ?_
  | with_reducible refine Z.r_par ?_
  | with_reducible refine Z.r_par3 ?_
  | with_reducible refine Z.r_vs3 ?_
  | with_reducible refine Z.r_gCons ?_
  | with_reducible refine Z.r_gNil ?_
  | ((with_reducible refine' Z.r_gTup ?e ?hn ?_); (case e => walk_at "hp"); (case hn => exact rfl))
  | with_reducible refine Z.r_vs2 ?_
  | ((with_reducible refine' Z.r_aug ?e ?_); (case e => exact rfl))
  | with_reducible refine Z.r_un ?_
  | with_reducible refine Z.r_test ?_
  | with_reducible refine Z.r_tB ?_
  | with_reducible refine Z.r_bl ?_
  | with_reducible refine Z.r_and ?_
  | with_reducible refine Z.r_or ?_
  | with_reducible refine Z.r_not ?_
  | with_reducible refine Z.r_andV ?_
  | with_reducible refine Z.r_orV ?_
  | with_reducible refine Z.r_notV ?_
  | with_reducible refine Z.r_ifE ?_
  | with_reducible refine Z.r_tup ?_
  | with_reducible refine Z.r_lst ?_
  | with_reducible refine Z.r_fld ?_
  | ((with_reducible refine' Z.r_fldV ?e ?c ?n ?l ?_); (case e => walk_at "hp"); (case c => walk_at "cl"); (case n => walk_at "no"); (case l => walk_at "look"))
  | ((with_reducible refine' Z.r_isiT ?ty ?k ?_); (case ty => walk_at "ty"); (case k => walk_at "ki"))
  | ((with_reducible refine' Z.r_isiC ?ty ?k ?_); (case ty => walk_at "ty"); (case k => walk_at "ki"))
  | with_reducible refine Z.r_make ?_
  | with_reducible refine Z.r_dget ?_
  | with_reducible refine Z.r_dput ?_
  | with_reducible refine Z.r_disp ?_
  | with_reducible refine Z.r_pnil ?_
  | with_reducible refine Z.r_pcons ?_
  | with_reducible refine Z.r_sfld ?_
  | ((with_reducible refine' Z.r_stF ?e ?c ?n ?l ?_); (case e => walk_at "hp"); (case c => walk_at "cl"); (case n => walk_at "no"); (case l => exact Nat.le_of_ble_eq_true rfl))
  | ((with_reducible refine' Z.r_nwL ?z ?_); (case z => exact Nat.le_of_ble_eq_true rfl))
  | ((with_reducible refine' Z.r_nwT ?z ?_); (case z => exact Nat.le_of_ble_eq_true rfl))
  | with_reducible refine Z.r_I0 ?_
  | with_reducible refine Z.r_U ?_
  | with_reducible refine Z.r_forRng ?_
  | with_reducible refine Z.r_forL0 ?_
  | with_reducible refine Z.r_lcRng ?_
  | with_reducible refine Z.r_lcLst ?_
  | with_reducible refine Z.r_bmA ?_
  | ((with_reducible refine' Z.r_tyL ?e ?_); (case e => walk_at "hp"))
  | with_reducible refine Z.r_lcFLst ?_
  | ((with_reducible refine' Z.r_I ?c ?_); (case c => walk_at "side"))
  | with_reducible refine Z.r_int1 ?_
  | with_reducible refine Z.r_abs ?_
  | with_reducible refine Z.r_max2 ?_
  | with_reducible refine Z.r_min2 ?_
  | ((with_reducible refine' Z.r_lenL ?e ?_); (case e => walk_at "sq"))
  | with_reducible refine Z.r_isN ?_
  | with_reducible refine Z.r_notN ?_
  | with_reducible refine Z.r_eqI ?_
  | with_reducible refine Z.r_eqB ?_
  | with_reducible refine Z.r_eqS ?_
  | with_reducible refine Z.r_neI ?_
  | with_reducible refine Z.r_neB ?_
  | with_reducible refine Z.r_neS ?_
  | ((with_reducible refine' Z.r_ixL ?h ?e ?_); (case h => walk_at "sq"); (case e => first | assumption | exact rfl))
  | ((with_reducible refine' Z.r_ixT ?h ?e ?_); (case h => exact SqT.of (by walk_at "hp")); (case e => first | assumption | exact rfl))
  | ((with_reducible refine' Z.r_setL ?h ?e ?_); (case h => walk_at "hp"); (case e => exact rfl))
  | ((with_reducible refine Z.yes ?_ ?_); (first | exact rfl | decide +kernel))
  | ((with_reducible refine Z.no ?_ ?_); (first | exact rfl | decide +kernel))
  | walk_at "call")
local macro_rules | `(tactic| walk_at "go") => `(tactic| repeat (first
  | ((with_reducible refine' Z.r_var ?e ?_); (case e => exact rfl))
  | with_reducible refine Z.r_op ?_
  | with_reducible refine Z.r_c ?_
  | with_reducible refine Z.r_cons ?_
  | with_reducible refine Z.r_nil ?_
  | with_reducible refine Z.r_seq ?_
  | with_reducible refine Z.r_asg ?_
  | with_reducible refine Z.r_call ?_
  | with_reducible refine Z.r_cb ?_
  | with_reducible refine Z.r_asgG ?_
  | with_reducible refine Z.r_gName ?_
  | with_reducible refine Z.r_gSub ?_
  | with_reducible refine Z.r_ret ?_
  | with_reducible refine Z.r_retN ?_
  | with_reducible refine Z.r_next ?_
  | with_reducible refine Z.r_drop ?_
  | with_reducible refine Z.r_if ?_
  | with_reducible refine Z.r_par ?_
  | with_reducible refine Z.r_par3 ?_
  | with_reducible refine Z.r_vs3 ?_
  | with_reducible refine Z.r_gCons ?_
  | with_reducible refine Z.r_gNil ?_
  | ((with_reducible refine' Z.r_gTup ?e ?hn ?_); (case e => walk_at "hp"); (case hn => exact rfl))
  | with_reducible refine Z.r_vs2 ?_
  | ((with_reducible refine' Z.r_aug ?e ?_); (case e => exact rfl))
  | with_reducible refine Z.r_un ?_
  | with_reducible refine Z.r_test ?_
  | with_reducible refine Z.r_tB ?_
  | with_reducible refine Z.r_bl ?_
  | with_reducible refine Z.r_and ?_
  | with_reducible refine Z.r_or ?_
  | with_reducible refine Z.r_not ?_
  | with_reducible refine Z.r_andV ?_
  | with_reducible refine Z.r_orV ?_
  | with_reducible refine Z.r_notV ?_
  | with_reducible refine Z.r_ifE ?_
  | with_reducible refine Z.r_tup ?_
  | with_reducible refine Z.r_lst ?_
  | with_reducible refine Z.r_fld ?_
  | ((with_reducible refine' Z.r_fldV ?e ?c ?n ?l ?_); (case e => walk_at "hp"); (case c => walk_at "cl"); (case n => walk_at "no"); (case l => walk_at "look"))
  | ((with_reducible refine' Z.r_isiT ?ty ?k ?_); (case ty => walk_at "ty"); (case k => walk_at "ki"))
  | ((with_reducible refine' Z.r_isiC ?ty ?k ?_); (case ty => walk_at "ty"); (case k => walk_at "ki"))
  | with_reducible refine Z.r_make ?_
  | with_reducible refine Z.r_dget ?_
  | with_reducible refine Z.r_dput ?_
  | with_reducible refine Z.r_disp ?_
  | with_reducible refine Z.r_pnil ?_
  | with_reducible refine Z.r_pcons ?_
  | with_reducible refine Z.r_sfld ?_
  | ((with_reducible refine' Z.r_stF ?e ?c ?n ?l ?_); (case e => walk_at "hp"); (case c => walk_at "cl"); (case n => walk_at "no"); (case l => exact Nat.le_of_ble_eq_true rfl))
  | ((with_reducible refine' Z.r_nwL ?z ?_); (case z => exact Nat.le_of_ble_eq_true rfl))
  | ((with_reducible refine' Z.r_nwT ?z ?_); (case z => exact Nat.le_of_ble_eq_true rfl))
  | with_reducible refine Z.r_I0 ?_
  | with_reducible refine Z.r_U ?_
  | with_reducible refine Z.r_forRng ?_
  | with_reducible refine Z.r_forL0 ?_
  | with_reducible refine Z.r_lcRng ?_
  | with_reducible refine Z.r_lcLst ?_
  | with_reducible refine Z.r_bmA ?_
  | ((with_reducible refine' Z.r_tyL ?e ?_); (case e => walk_at "hp"))
  | with_reducible refine Z.r_lcFLst ?_
  | ((with_reducible refine' Z.r_I ?c ?_); (case c => walk_at "side"))
  | with_reducible refine Z.r_int1 ?_
  | with_reducible refine Z.r_abs ?_
  | with_reducible refine Z.r_max2 ?_
  | with_reducible refine Z.r_min2 ?_
  | ((with_reducible refine' Z.r_lenL ?e ?_); (case e => walk_at "sq"))
  | with_reducible refine Z.r_isN ?_
  | with_reducible refine Z.r_notN ?_
  | with_reducible refine Z.r_eqI ?_
  | with_reducible refine Z.r_eqB ?_
  | with_reducible refine Z.r_eqS ?_
  | with_reducible refine Z.r_neI ?_
  | with_reducible refine Z.r_neB ?_
  | with_reducible refine Z.r_neS ?_
  | ((with_reducible refine' Z.r_ixL ?h ?e ?_); (case h => walk_at "sq"); (case e => first | assumption | exact rfl))
  | ((with_reducible refine' Z.r_ixT ?h ?e ?_); (case h => exact SqT.of (by walk_at "hp")); (case e => first | assumption | exact rfl))
  | ((with_reducible refine' Z.r_setL ?h ?e ?_); (case h => walk_at "hp"); (case e => exact rfl))
  | ((with_reducible refine Z.yes ?_ ?_); (first | exact rfl | decide +kernel))
  | ((with_reducible refine Z.no ?_ ?_); (first | exact rfl | decide +kernel))
  | walk_at "call"))
local macro_rules | `(tactic| walk_at "bag") => `(tactic| first
  | assumption
  | (refine Bag.mono (by omega) ?_; assumption)
  | (refine Bag.same (by assumption) ?_; walk_at "bag")
  | (refine Bag.but (by assumption) (by first | assumption | (apply Ne.symm; assumption)) ?_; walk_at "bag"))
local macro_rules | `(tactic| walk_at "len") => `(tactic| exact Z.szle (Nat.le_of_ble_eq_true rfl))
local macro_rules | `(tactic| walk_at "draw") => `(tactic| (refine' ⟨_, _, _, rfl, ?bg, ?m0, ?m1, ?n1, ?_⟩; (case bg => walk_at "bag"); (case m0 => omega); (case m1 => omega); (case n1 => omega)))
/-! the bag of a script's cell, its draws -/
/-- a bag: what is left of the digits, the seed, the number of draws (at most n) -/
def Bag (H : Hp) (b : Addr) (n : Nat) : Prop := ∃ g s k : Int, H b = some (.lst [.int g, .int s, .int k]) ∧ 0 ≤ g ∧ 0 ≤ s ∧ s < 1099511627776 ∧ 0 ≤ k ∧ k ≤ n
theorem Bag.mono {H : Hp} {b : Addr} {n m : Nat} (h : n ≤ m) (x : Bag H b n) : Bag H b m := by
  obtain ⟨g, s, k, h1, h2, h3, h4, h5, h6⟩ := x
  exact ⟨g, s, k, h1, h2, h3, h4, h5, by omega⟩
theorem Bag.same {H H' : Hp} {b : Addr} {n : Nat} (e : Same H H') (x : Bag H b n) : Bag H' b n := by
  obtain ⟨g, s, k, h1, h2⟩ := x
  exact ⟨g, s, k, e _ _ h1, h2⟩
theorem Bag.ne {H : Hp} {b p : Addr} {n : Nat} (x : Bag H b n) (h : H p = none) : p ≠ b := fun e => by
  obtain ⟨g, s, k, h1, _⟩ := x
  rw [e, h1] at h; cases h
theorem Bag.ne' {H : Hp} {b p : Addr} {n : Nat} {o : HO} (x : Bag H b n) (h : H p = some o) (d : ∀ xs, o ≠ .lst xs) : p ≠ b := fun e => by
  obtain ⟨g, s, k, h1, _⟩ := x
  rw [e, h1] at h; cases h; exact d _ rfl
theorem Bag.but {H H' : Hp} {b c : Addr} {n : Nat} (e : Z.But c H H') (ne : b ≠ c) (x : Bag H b n) : Bag H' b n := by
  obtain ⟨g, s, k, h1, h2⟩ := x
  exact ⟨g, s, k, e _ _ ne h1, h2⟩
local macro_rules | `(tactic| walk_at "bag") => `(tactic| first
  | assumption
  | (refine Bag.same (by assumption) ?_; walk_at "bag")
  | (refine Bag.but (by assumption) (by first | assumption | (apply Ne.symm; assumption)) ?_; walk_at "bag")
  | (refine Bag.mono (by omega) ?_; assumption))
/-- a word of one to eight small letters -/
def Word (x : Str) : Prop := 1 ≤ x.length ∧ x.length ≤ 8 ∧ ∀ c ∈ x.cps.toList, 97 ≤ c ∧ c ≤ 122
theorem Word.ok {x : Str} (h : Word x) : PyData.strOk x = true := by
  unfold PyData.strOk
  rw [Array.all_eq_true']
  intro c hc
  have := (h.2.2 c (Array.mem_toList_iff.mpr hc)).2
  exact decide_eq_true (by omega)
/-- a beginning of a word, of at most n letters -/
def Wd (n : Nat) (x : Str) : Prop := x.length = n ∧ ∀ c ∈ x.cps.toList, 97 ≤ c ∧ c ≤ 122
theorem Wd.add {n c : Nat} {x : Str} (h : Wd n x) (h1 : 97 ≤ c) (h2 : c ≤ 122) : Wd (n + 1) (x ++ (⟨#[c]⟩ : Str)) := by
  obtain ⟨h3, h4⟩ := h
  have e : (x ++ (⟨#[c]⟩ : Str)).cps = x.cps ++ #[c] := rfl
  constructor
  · show (x ++ (⟨#[c]⟩ : Str)).cps.size = n + 1
    rw [e, Array.size_append]
    have : x.cps.size = n := h3
    rw [this]; rfl
  · intro d hd
    rw [e, Array.toList_append, List.mem_append] at hd
    rcases hd with hd | hd
    · exact h4 d hd
    · have : d = c := by simpa using hd
      omega

/-- a value of the law's: nothing, an unnumbered value (an instance of the class at C) of this name, a number -/
inductive Tag where
  | non | mark (n : Str) | num (i : Int)
  deriving DecidableEq
def Rep (C : Addr) (H : Hp) (x : V) : Tag → Prop
  | .non => x = .non
  | .num i => x = .int i
  | .mark n => ∃ a dx, x = .ref a ∧ H a = some (.ins C dx [("name", .str n)])
theorem Rep.same {C : Addr} {H H' : Hp} {x : V} {t : Tag} (e : Same H H') (h : Rep C H x t) : Rep C H' x t := by
  cases t with
  | non => exact h
  | num i => exact h
  | mark n =>
    obtain ⟨a, dx, h1, h2⟩ := h
    exact ⟨a, dx, h1, e _ _ h2⟩
theorem Rep.but {C b : Addr} {H H' : Hp} {x : V} {t : Tag} {xs : List V} (e : Z.But b H H') (hb : H b = some (.lst xs)) (h : Rep C H x t) : Rep C H' x t := by
  cases t with
  | non => exact h
  | num i => exact h
  | mark n =>
    obtain ⟨a, dx, h1, h2⟩ := h
    exact ⟨a, dx, h1, e _ _ (ne_of h2 hb (by intro z; cases z)) h2⟩
/-! operators and comparisons of instances of an own class -/
namespace Z
open PySem PySem.Spec PyProof.Rows L2
section
variable {prog : Program} {w : World} {A : Around} {E : Value → Shared → Prop} {s : Shared} {x : Addr} {o : Obj} {a : Int} {t : Tok}
/-- what a built-in's operation on ints says of an instance -/
def Declines (B : Builtin) : Prop := ∀ (prog : Program) (w : World) (A : Around) (E : Value → Shared → Prop) (s : Shared) (x : Addr) (o : Obj) (a : Int) (t : Tok) (Q : Fin → Shared → Prop),
  s.heap.get? x = some o → o.data = .plain → Q (.done (.ret .notImplemented)) s → wpAny (model prog w) A (B ⟨[.int a t, .ref x], []⟩) Q E s
theorem dec_lt : Declines Builtin.«int.__lt__» := fun prog w A E s x o a t Q hx hd h => by
  obtain ⟨oc, od, data, sl⟩ := o
  simp only at hd
  subst hd
  obtain ⟨hp, g, d, tk, os⟩ := s
  wp_walk using AutoSeq1.wpAny_loadPart' hx
  exact h
theorem dec_le : Declines Builtin.«int.__le__» := fun prog w A E s x o a t Q hx hd h => by
  obtain ⟨oc, od, data, sl⟩ := o
  simp only at hd
  subst hd
  obtain ⟨hp, g, d, tk, os⟩ := s
  wp_walk using AutoSeq1.wpAny_loadPart' hx
  exact h
theorem dec_gt : Declines Builtin.«int.__gt__» := fun prog w A E s x o a t Q hx hd h => by
  obtain ⟨oc, od, data, sl⟩ := o
  simp only at hd
  subst hd
  obtain ⟨hp, g, d, tk, os⟩ := s
  wp_walk using AutoSeq1.wpAny_loadPart' hx
  exact h
theorem dec_ge : Declines Builtin.«int.__ge__» := fun prog w A E s x o a t Q hx hd h => by
  obtain ⟨oc, od, data, sl⟩ := o
  simp only at hd
  subst hd
  obtain ⟨hp, g, d, tk, os⟩ := s
  wp_walk using AutoSeq1.wpAny_loadPart' hx
  exact h
theorem dec_eq : Declines Builtin.«int.__eq__» := fun prog w A E s x o a t Q hx hd h => by
  obtain ⟨oc, od, data, sl⟩ := o
  simp only at hd
  subst hd
  obtain ⟨hp, g, d, tk, os⟩ := s
  wp_walk using AutoSeq1.wpAny_loadPart' hx
  exact h
theorem dec_ne : Declines Builtin.«int.__ne__» := fun prog w A E s x o a t Q hx hd h => by
  obtain ⟨oc, od, data, sl⟩ := o
  simp only at hd
  subst hd
  obtain ⟨hp, g, d, tk, os⟩ := s
  wp_walk using AutoSeq1.wpAny_loadPart' hx
  exact h
theorem dec_call {T : String} {name : Str} {id : String} {B : Builtin} (slot : Slot "int" name id) (entry : entryFor table id = some B) (args : ∀ a b, argsOk id ⟨[a, b], []⟩) (D : Declines B) {Q : Value → Shared → Prop}
    (hx : s.heap.get? x = some o) (hd : o.data = .plain) (h : Q .notImplemented s) : wpAny (model prog w) A (call (.builtin id) [.int a t, .ref x]) Q E s :=
  GQ.call_here slot (typeIs_int s a t) entry (args _ _) (D _ _ _ _ _ _ _ _ _ _ hx hd h)
/-- an int, a comparison, an instance: the instance's reflected def is asked -/
theorem cmp_int {K : PySem.W.Frag} {C f : Addr} {od : Option Obj} {op : CmpOp} {id : String} {B : Builtin} {Q : Value → Shared → Prop} (hu : A.units < cLine) (X : K.In s.heap) (I : PySem.W.InstAt s.heap x o C od) (hd : o.data = .plain)
    (slot : Slot "int" (cmpInfo op).2.1 id) (entry : entryFor table id = some B) (args : ∀ a b, argsOk id ⟨[a, b], []⟩) (D : Declines B)
    (sub : PySem.W.subIn K (.ref C) (.type "int") = some false) (hs : PySem.W.findIn K (.ref C) (cmpInfo op).2.2 = some (some (.ref f))) (hf : PySem.W.isFn K (.ref f) = true)
    (h : wpAny (model prog w) A (call (.ref f) [.ref x, .int a t]) (PySem.W.CmpBack Q) E s) : wpAny (model prog w) A (richCompare op (.int a t) (.ref x)) Q E s := by
  rcases hi : cmpInfo op with ⟨sym, nf, nr⟩
  rw [hi] at slot hs
  dsimp only at slot hs
  have one : wpAny (model prog w) A (tryCompare (.ref x) nr (.int a t)) (fun r s' => ∃ v, r = some v ∧ Q v s') E s := by
    unfold tryCompare
    refine wpAny_bind (PySem.W.ifBound_K X I hs hf (wpAny_mono h (fun v s' hv => ?_) fun _ _ e => e))
    cases v <;> first | exact hv.elim | exact wpAny_pure ⟨_, rfl, hv⟩
  simp only [richCompare, hi, (typeIs_int s a t).oneThing_none]
  refine wpAny_holding (wpAny_bind (wpAny_cRoomFor hu ?_))
  refine wpAny_bind (wpAny_typeOf (typeIs_int s a t) (wpAny_bind (I.type.here ?_)))
  have hne : (Value.type "int" != Value.ref C) = true := by simp
  simp only [hne, if_true]
  refine wpAny_bind ((PySem.W.looks_subIn X sub).here ?_)
  simp only [Bool.false_eq_true, if_false, Bool.not_false, if_true]
  refine wpAny_bind (m := tryCompare (.int a t) _ (.ref x)) (wpAny_tryCompare_declines (typeIs_int s a t) slot (dec_call (T := "int") slot entry args D I.at_ hd ⟨rfl, ?_⟩))
  refine wpAny_bind (m := tryCompare (.ref x) _ (.int a t)) (wpAny_mono one (fun r s' z => ?_) fun _ _ e => e)
  obtain ⟨v, rfl, hq⟩ := z
  exact wpAny_pure hq
end
section
variable {X : Cx} {C f : Addr} {fd : FuncData} {k : Nat} {ps : List Str} {sp : Sp} {op : CmpOp}
/-- x op y, x an instance of the class at C whose def for op keeps sp -/
def rCmpL (K : PySem.W.Frag) (C : Addr) (sp : Sp) : R2 := fun x y H Q => ∃ a dx fs t, x = .ref a ∧ H a = some (.ins C dx fs) ∧ TyX K H y t ∧ PySem.W.notFirst K C t = true ∧ sp ([x, y] ++ []) H Q E0
theorem o_cmpL (hop : ∀ a b, compareOp op a b = richCompare op a b) (M : Meth X.K C (cmpInfo op).2.1 f) (F : FnOk X.prog X.w X.K X.mg X.base CX0 k f fd ps sp) (hr : Room k X.A) (hb : Binds X.K fd ps []) : OpR X (compareOp op) (rCmpL X.K C sp) := by
  intro pins s σ H x y v u Q I rx ry h
  obtain ⟨a, dx, fs, t, rfl, ha, ty, hn, q⟩ := h
  cases (show v = Value.ref a from rx)
  obtain ⟨mA, O, _⟩ := ins_get I.hok ha
  obtain ⟨od, J, _⟩ := O.look
  obtain ⟨P, Z, p, _⟩ := kit_of I ry ty
  obtain ⟨m, hF⟩ := I.fr
  rw [hop]
  refine PySem.W.cmp_K (op := op) (tb := t) hr.units0 hF I.ok.mod.kin J (Z.ty _ _ I.kIn p) hn M.at_ M.fn ?_
  refine wpAny_mono (run_fn (us := [.ref a, u]) (vs := [.ref a, y]) F hr hb .nil pass0 I (.cons rfl (.cons ry .nil)) q) (fun w s' z => ?_) fun _ _ x => x
  obtain ⟨z', H', I', rz, qz⟩ := z
  exact SlX.cmpback rz ⟨z', H', I', rz, qz⟩
def rCmpR (K : PySem.W.Frag) (C : Addr) (sp : Sp) : R2 := fun x y H Q => ∃ i b dx fs, x = .int i ∧ y = .ref b ∧ H b = some (.ins C dx fs) ∧ PySem.W.subIn K (.ref C) (.type "int") = some false ∧ sp ([y, x] ++ []) H Q E0
theorem o_cmpR {id : String} {B : Builtin} (hop : ∀ a b, compareOp op a b = richCompare op a b) (slot : Slot "int" (cmpInfo op).2.1 id) (entry : entryFor table id = some B) (args : ∀ a b, argsOk id ⟨[a, b], []⟩) (D : Declines B)
    (M : Meth X.K C (cmpInfo op).2.2 f) (F : FnOk X.prog X.w X.K X.mg X.base CX0 k f fd ps sp) (hr : Room k X.A) (hb : Binds X.K fd ps []) : OpR X (compareOp op) (rCmpR X.K C sp) := by
  intro pins s σ H x y v u Q I rx ry h
  obtain ⟨i, b, dx, fs, rfl, rfl, hB, sub, q⟩ := h
  obtain ⟨t, rfl⟩ := (show ∃ t, v = Value.int i t from rx)
  cases (show u = Value.ref b from ry)
  obtain ⟨mA, O, _⟩ := ins_get I.hok hB
  obtain ⟨od, J, _⟩ := O.look
  rw [hop]
  refine cmp_int hr.units0 I.kIn J rfl slot entry args D sub M.at_ M.fn ?_
  refine wpAny_mono (run_fn (us := [.ref b, .int i t]) (vs := [.ref b, .int i]) F hr hb .nil pass0 I (.cons rfl (.cons ⟨t, rfl⟩ .nil)) q) (fun w s' z => ?_) fun _ _ x => x
  obtain ⟨z', H', I', rz, qz⟩ := z
  exact SlX.cmpback rz ⟨z', H', I', rz, qz⟩
/-- x in [x], the very object -/
def rInSelf : R2 := fun x y H Q => ∃ a p, x = .ref a ∧ y = .ref p ∧ H p = some (.lst [.ref a]) ∧ Q (.bl true) H
theorem o_inSelf : OpR X (compareOp .In) rInSelf := by
  intro pins s σ H x y v u Q I rx ry h
  obtain ⟨a, p, rfl, rfl, hp, q⟩ := h
  cases (show v = Value.ref a from rx)
  cases (show u = Value.ref p from ry)
  obtain ⟨its, r, pl, hz⟩ := I.list (SqL.of hp)
  have e : its = [Value.ref a] := by
    cases r with
    | cons r1 r2 =>
      cases r2
      cases r1
      rfl
  subst e
  refine SeqAt.in_listAt (fun _ => true) pl.isList (fun w hw => ?_) ⟨.bl true, H, I, (show Value.bool (#[Value.ref a].any fun _ => true) = Value.bool true by simp), q⟩
  have : w = Value.ref a := by simpa using hw
  subst this
  exact SeqAt.EqAt.same (.ref a)
/-- three kinds of one operator -/
def rAny3 (r1 r2 r3 : R2) : R2 := fun x y H Q => r1 x y H Q ∨ r2 x y H Q ∨ r3 x y H Q
theorem o_any3 {f : Value → Value → Sem Value} {r1 r2 r3 : R2} (h1 : OpR X f r1) (h2 : OpR X f r2) (h3 : OpR X f r3) : OpR X f (rAny3 r1 r2 r3) := OpR.or h1 (OpR.or h2 h3)
end
section
variable {K : PySem.W.Frag} {H : Hp} {Q : VK} {r1 r2 r3 : R2} {x y : V} {a b C dx : Addr} {fs : List (Str × V)} {t : Value} {sp : Sp} {i j : Int}
theorem r_anyII (h : r1 (.int i) (.int j) H Q) : rAny3 r1 r2 r3 (.int i) (.int j) H Q := .inl h
theorem r_anyR (h : r2 (.ref a) y H Q) : rAny3 r1 r2 r3 (.ref a) y H Q := .inr (.inl h)
theorem r_anyIR (h : r3 (.int i) (.ref b) H Q) : rAny3 r1 r2 r3 (.int i) (.ref b) H Q := .inr (.inr h)
theorem nf_self : PySem.W.notFirst K C (.ref C) = true := by
  unfold PySem.W.notFirst
  rw [beq_self_eq_true]; rfl
theorem nf_kit (h : PySem.W.kitOne K t (.ref C) = some false) : PySem.W.notFirst K C t = true := by
  unfold PySem.W.kitOne PySem.W.kitCls at h
  unfold PySem.W.notFirst
  split at h
  · cases h
  · split at h
    · rename_i C' he
      cases he
      split at h
      · rw [h]; simp
      · cases h
    · rename_i he; cases he
    · rename_i h1 h2; exact absurd rfl (h1 _)
theorem sub_kit {n : String} (h : PySem.W.kitOne K (.ref C) (.type n) = some false) : PySem.W.subIn K (.ref C) (.type n) = some false := by
  unfold PySem.W.kitOne PySem.W.kitCls at h
  split at h
  · cases h
  · split at h
    · rename_i he; cases he
    · rename_i T he
      cases he
      split at h
      · exact h
      · cases h
    · rename_i h1 h2; exact absurd rfl (h2 _)
theorem r_inSelf (e : H b = some (.lst [.ref a])) (h : Q (.bl true) H) : rInSelf (.ref a) (.ref b) H Q := ⟨a, b, rfl, rfl, e, h⟩
theorem r_cmpL (e : H a = some (.ins C dx fs)) (ty : TyX K H y t) (nf : PySem.W.notFirst K C t = true) (h : sp ([.ref a, y] ++ []) H Q E0) : rCmpL K C sp (.ref a) y H Q := ⟨a, dx, fs, t, rfl, e, ty, nf, h⟩
theorem r_cmpR (e : H b = some (.ins C dx fs)) (k : PySem.W.kitOne K (.ref C) (.type "int") = some false) (h : sp ([.ref b, .int i] ++ []) H Q E0) : rCmpR K C sp (.int i) (.ref b) H Q := ⟨i, b, dx, fs, rfl, rfl, e, sub_kit k, h⟩
end
end Z
local macro_rules | `(tactic| walk_at "nf") => `(tactic| first | exact Z.nf_self | exact Z.nf_kit (by walk_at "ki"))
local macro_rules | `(tactic| walk_at "call") => `(tactic| first
  | with_reducible refine Z.r_anyII ?_
  | ((with_reducible refine' Z.r_inSelf ?e ?_); (case e => walk_at "hp"))
  | with_reducible refine Z.r_anyR ?_
  | with_reducible refine Z.r_anyIR ?_
  | ((with_reducible refine' Z.r_cmpL ?e ?ty ?nf ?_); (case e => walk_at "hp"); (case ty => walk_at "ty"); (case nf => walk_at "nf"))
  | ((with_reducible refine' Z.r_cmpR ?e ?k ?_); (case e => walk_at "hp"); (case k => walk_at "ki")))
namespace Z
open PySem PySem.Spec PyProof.Rows L2 PySem.SeqAt
open MeetsSeq MeetsSeq2 MeetsSeq3 SeqRoads2
section
variable {prog : Program} {w : World} {A : Around} {R : Result → Shared → Prop}
def anyFrom (e : Nat → Bool) : Nat → Nat → Bool
  | _, 0 => false
  | i, k + 1 => e i || anyFrom e (i + 1) k
/-- at each turn the list is read anew; its i-th item's == with x tells e i -/
def Reads1 (prog : Program) (w : World) (A : Around) (R : Result → Shared → Prop) (l : Addr) (x : Value) (N : Nat) (e : Nat → Bool) (I : Shared → Prop) : Prop :=
  ∀ s, I s → ∃ (items : Array Value) (n : Nat), s.heap.get? l = some { cls := .type "list", data := .seq items n } ∧ items.size = N ∧
    ∀ (i : Nat) (h : i < items.size), wpAny (model prog w) A.in1 (eqBool items[i] x) (fun r s' => r = e i ∧ I s') (fun e s' => R (.error e) s') s
theorem contains_loopG (l : Addr) (x : Value) (N : Nat) (e : Nat → Bool) (I : Shared → Prop) (rd : Reads1 prog w A R l x N e I) (k : Nat) :
    ∀ i : Nat, N = i + k → (∀ s, I s → R (.ok (.ret (.bool (anyFrom e i k)))) s) → ∀ s, I s →
      wpAny (model prog w) A.in1 (Builtin.«list.__contains__.loop» ⟨[.ref l, x, rawInt i], []⟩) (GQ.FinOf prog w A R) (fun e s' => R (.error e) s') s := by
  induction k with
  | zero =>
    intro i hk fin s h
    obtain ⟨items, n, hl1, hs1, _⟩ := rd s h
    have hR := fin s h
    obtain ⟨hp, g, d, tk, os⟩ := s
    wp_walk using AutoSeq1.wpAny_loadPart' hl1
    have hi : items[((i : Nat) : Int).toNat]? = none := by simp; omega
    rw [hi]
    wp_walk
    exact hR
  | succ k ih =>
    intro i hk fin s h
    obtain ⟨items, n, hl1, hs1, turn⟩ := rd s h
    have hlt : i < items.size := by omega
    have ht := turn i hlt
    obtain ⟨hp, g, d, tk, os⟩ := s
    wp_walk using AutoSeq1.wpAny_loadPart' hl1
    have hi : items[((i : Nat) : Int).toNat]? = some items[i] := by simp [hlt]
    rw [hi]
    refine wpAny_bind (wpAny_mono ht (fun r s2 h2 => ?_) fun _ _ x => x)
    obtain ⟨hr, h2⟩ := h2
    subst hr
    cases hb : e i with
    | true =>
      have z := fin s2 h2
      rw [show anyFrom e i (k + 1) = (e i || anyFrom e (i + 1) k) from rfl, hb] at z
      obtain ⟨hp2, g2, d2, tk2, os2⟩ := s2
      wp_walk
      exact z
    | false =>
      have hrec := ih (i + 1) (by omega) (fun s q => by
        have z := fin s q
        rw [show anyFrom e i (k + 1) = (e i || anyFrom e (i + 1) k) from rfl, hb] at z
        exact z) s2 h2
      have hc : ((i : Int) + 1) = ((i + 1 : Nat) : Int) := by push_cast; rfl
      obtain ⟨hp2, g2, d2, tk2, os2⟩ := s2
      wp_walk
      rw [hc]
      exact ⟨plainId_quiet plain_contains_loop _, codeAny_builtin entry_contains_loop (by
        rw [Around.under_plainId plain_contains_loop _]
        exact hrec)⟩
theorem list_containsG (l : Addr) (x : Value) (N : Nat) (e : Nat → Bool) (I : Shared → Prop) (rd : Reads1 prog w A R l x N e I) (fin : ∀ s, I s → R (.ok (.ret (.bool (anyFrom e 0 N)))) s) {s : Shared} (h : I s) :
    wpAny (model prog w) A.in1 (Builtin.«list.__contains__» ⟨[.ref l, x], []⟩) (GQ.FinOf prog w A R) (fun e s' => R (.error e) s') s := by
  obtain ⟨items, n, hl1, _, _⟩ := rd s h
  have hrec := contains_loopG (A := A) (R := R) l x N e I rd N 0 (by omega) fin s h
  obtain ⟨hp, g, d, tk, os⟩ := s
  wp_walk using AutoSeq1.wpAny_loadPart' hl1
  exact ⟨plainId_quiet plain_contains_loop _, codeAny_builtin entry_contains_loop (by
    rw [Around.under_plainId plain_contains_loop _]
    exact hrec)⟩
end
end Z
namespace Z
open PySem PySem.Spec PyProof.Rows L2
section
variable {X : Cx} {k : Nat} {f : Addr} {fd : FuncData} {ps : List Str} {sp : Sp} {pins : List (Addr × Obj)} {σ : L2.St} {H : Hp} {s : Shared} {Q : VK} {us : List Value} {vs : List V}
/-- a def that is called somewhere below the running body -/
theorem run_below {A : Around} (sb : Sub X k A) (F : FnOk X.prog X.w X.K X.mg X.base CX0 k f fd ps sp) (hb : Binds X.K fd ps []) (I : Inv X pins σ H s) (r : Vals vs us) (h : sp vs H Q E0) :
    wpAny (model X.prog X.w) A (call (.ref f) us) (EP X pins σ Q) X.xe s := by
  have e0 : Env0 X.prog X.w X.K X.mg X.base A X.stack s H := by
    have e := I.env0
    exact ⟨by rw [sb.fr]; exact e.frames, e.mod, e.bs, e.bsz, e.funs, e.frf, e.hok, e.bare⟩
  have hl := F.len _ _ _ _ h
  have hl2 : us.length = ps.length := by rw [← r.length]; exact hl
  refine wpAny_call (codeAny_mono (F.run A X.stack s H ⟨us, []⟩ us vs Q E0 sb.room e0 (by simpa using hb s us I.kIn (by simpa using hl2)) r h) fun r s' hq => ?_)
  cases r with
  | error e => exact hq.elim
  | ok fl =>
    cases fl with
    | ret u => exact I.after hq
    | next => exact False.elim hq
    | brk => exact False.elim hq
    | cont => exact False.elim hq
/-- == within a built-in, of two values, tells b and leaves all as it was -/
def EqB (X : Cx) (k : Nat) (y x : V) (H : Hp) (b : Bool) : Prop :=
  ∀ (A : Around) (pins : List (Addr × Obj)) (σ : L2.St) (s : Shared) (u v : Value), Sub X k A → Inv X pins σ H s → RelV y u → RelV x v → wpAny (model X.prog X.w) A (eqBool u v) (fun r s' => r = b ∧ Inv X pins σ H s') X.xe s
theorem EqB.same {a : Addr} : EqB X k (.ref a) (.ref a) H true := by
  intro A pins σ s u v sb I ru rv
  cases (show u = Value.ref a from ru)
  cases (show v = Value.ref a from rv)
  exact SeqAt.EqAt.same (A := A) (s := s) (.ref a) X.prog X.w X.xe _ ⟨rfl, I⟩
theorem EqB.flat {x y : V} (fx : flatV x = true) (fy : flatV y = true) : EqB X k x y H (eqV x y) := by
  intro A pins σ s u v sb I ru rv
  exact eqAt_V (A := A) (s := s) ru rv fx fy X.prog X.w X.xe _ ⟨rfl, I⟩
/-- an instance whose own == says b of x, the very object excepted -/
theorem EqB.own {C a dx : Addr} {fs : List (Str × V)} {x : V} {t : Value} {b : Bool} (M : Meth X.K C "__eq__" f) (F : FnOk X.prog X.w X.K X.mg X.base CX0 k f fd ps sp) (hb : Binds X.K fd ps [])
    (ha : H a = some (.ins C dx fs)) (ty : TyX X.K H x t) (nf : PySem.W.notFirst X.K C t = true) (ne : x ≠ .ref a) (h : sp [.ref a, x] H (fun v H' => v = .bl b ∧ H' = H) E0) : EqB X k (.ref a) x H b := by
  intro A pins σ s u v sb I ru rv
  cases (show u = Value.ref a from ru)
  have hne : ¬ (Value.ref a == v) = true := by
    intro q
    have e : Value.ref a = v := eq_of_beq q
    subst e
    cases x with
    | ref c => exact ne (by cases (show Value.ref a = Value.ref c from rv); rfl)
    | int i => obtain ⟨_, e⟩ := (show ∃ t, Value.ref a = Value.int i t from rv); cases e
    | str i => obtain ⟨_, e⟩ := (show ∃ t, Value.ref a = Value.str i t from rv); cases e
    | byt i => obtain ⟨_, e⟩ := (show ∃ t, Value.ref a = Value.bytes i t from rv); cases e
    | flt i => obtain ⟨_, e⟩ := (show ∃ t, Value.ref a = Value.float i t from rv); cases e
    | non => cases (show Value.ref a = Value.none from rv)
    | bl i => cases (show Value.ref a = Value.bool i from rv)
    | ty n => cases (show Value.ref a = Value.type n from rv)
  obtain ⟨mA, O, _⟩ := ins_get I.hok ha
  obtain ⟨od, J, _⟩ := O.look
  obtain ⟨P, Z, p, _⟩ := kit_of I rv ty
  obtain ⟨m, hF⟩ := I.fr
  have rc : wpAny (model X.prog X.w) A (richCompare .Eq (.ref a) v) (fun r s' => ∃ z, r = .bool z ∧ z = b ∧ Inv X pins σ H s') X.xe s := by
    refine PySem.W.cmp_K (op := .Eq) (tb := t) sb.room.units0 hF I.ok.mod.kin J (Z.ty _ _ I.kIn p) nf M.at_ M.fn ?_
    refine wpAny_mono (run_below (us := [.ref a, v]) (vs := [.ref a, x]) sb F hb I (.cons rfl (.cons rv .nil)) h) (fun w s' z => ?_) fun _ _ x => x
    obtain ⟨z', H', I', rz, e1, e2⟩ := z
    subst e1 e2
    cases (show w = Value.bool b from rz)
    exact ⟨b, rfl, rfl, I'⟩
  unfold eqBool
  refine wpAny_holding ?_
  refine wpAny_ite_split (fun hab => absurd hab hne) (fun _ => ?_)
  refine wpAny_bind (wpAny_mono rc (fun r s' hv => ?_) fun _ _ x => x)
  obtain ⟨z, rfl, hz, hI⟩ := hv
  exact wpAny_truthy_bool ⟨hz, hI⟩
/-- an int beside an instance whose own == says b of it -/
theorem EqB.int {C a dx : Addr} {fs : List (Str × V)} {i : Int} {b : Bool} (M : Meth X.K C "__eq__" f) (F : FnOk X.prog X.w X.K X.mg X.base CX0 k f fd ps sp) (hb : Binds X.K fd ps [])
    (ha : H a = some (.ins C dx fs)) (sub : PySem.W.subIn X.K (.ref C) (.type "int") = some false) (h : sp [.ref a, .int i] H (fun v H' => v = .bl b ∧ H' = H) E0) : EqB X k (.int i) (.ref a) H b := by
  intro A pins σ s u v sb I ru rv
  obtain ⟨t, rfl⟩ := (show ∃ t, u = Value.int i t from ru)
  cases (show v = Value.ref a from rv)
  obtain ⟨mA, O, _⟩ := ins_get I.hok ha
  obtain ⟨od, J, _⟩ := O.look
  have rc : wpAny (model X.prog X.w) A (richCompare .Eq (.int i t) (.ref a)) (fun r s' => ∃ z, r = .bool z ∧ z = b ∧ Inv X pins σ H s') X.xe s := by
    refine cmp_int (op := .Eq) sb.room.units0 I.kIn J rfl PySem.F.slot_int_eq PySem.F.entry_int_eq PySem.F.args_int_eq_2 dec_eq sub M.at_ M.fn ?_
    refine wpAny_mono (run_below (us := [.ref a, .int i t]) (vs := [.ref a, .int i]) sb F hb I (.cons rfl (.cons ⟨t, rfl⟩ .nil)) h) (fun w s' z => ?_) fun _ _ x => x
    obtain ⟨z', H', I', rz, e1, e2⟩ := z
    subst e1 e2
    cases (show w = Value.bool b from rz)
    exact ⟨b, rfl, rfl, I'⟩
  unfold eqBool
  refine wpAny_holding ?_
  refine wpAny_ite_split (fun hab => absurd (eq_of_beq hab) nofun) (fun _ => ?_)
  refine wpAny_bind (wpAny_mono rc (fun r s' hv => ?_) fun _ _ x => x)
  obtain ⟨z, rfl, hz, hI⟩ := hv
  exact wpAny_truthy_bool ⟨hz, hI⟩
theorem any_from (f : V → Bool) : ∀ (xs ys : List V), anyFrom (fun i => f ((ys ++ xs).getD i .non)) ys.length xs.length = xs.any f
  | [], _ => rfl
  | x :: xs, ys => by
    have ih := any_from f xs (ys ++ [x])
    rw [List.append_assoc] at ih
    have h0 : (ys ++ x :: xs).getD ys.length .non = x := by simp [List.getD_eq_getElem?_getD]
    show (f ((ys ++ x :: xs).getD ys.length .non) || anyFrom _ (ys.length + 1) xs.length) = (x :: xs).any f
    rw [h0, List.any_cons, ← ih]
    simp
/-- x in a list, by what == says of each item -/
theorem in_ok {p : Addr} {xs : List V} {x : V} {v : Value} (e : V → Bool) (hr : Room (k + 1) X.A) (I : Inv X pins σ H s) (hp : H p = some (.lst xs)) (rx : RelV x v) (he : ∀ z ∈ xs, EqB X k z x H (e z)) {Q : Value → Shared → Prop}
    (q : ∀ s', Inv X pins σ H s' → Q (.bool (xs.any e)) s') : wpAny (model X.prog X.w) X.A (call (.builtin "list.__contains__") [.ref p, v]) Q X.xe s := by
  obtain ⟨hz, its, n, r, hl⟩ := (show ObjOk X.prog X.w H s.heap p (.lst xs) from I.hok p _ hp)
  refine GQ.call_here PySem.F.slot_list_contains ⟨_, hl, rfl⟩ PySem.F.entry_list_contains (PySem.F.args_list_contains_2 _ _) ?_
  refine list_containsG p v xs.length (fun i => e (xs.getD i .non)) (fun s' => Inv X pins σ H s') (fun s' I' => ?_) (fun s' I' => ?_) I
  · obtain ⟨hz', its', n', r', hl'⟩ := (show ObjOk X.prog X.w H s'.heap p (.lst xs) from I'.hok p _ hp)
    refine ⟨its'.toArray, n', hl', by rw [List.size_toArray, ← r'.length], fun i hi => ?_⟩
    have h1 : i < its'.length := by simpa using hi
    have h2 : i < xs.length := by rw [r'.length]; exact h1
    obtain ⟨u, hu, ru⟩ := r'.get (List.getElem?_eq_getElem h2)
    rw [List.getElem?_eq_getElem h1] at hu
    have e1 : its'.toArray[i] = u := by simpa using Option.some.inj hu
    have e2 : xs.getD i .non = xs[i] := by simp [List.getD_eq_getElem?_getD, h2]
    rw [e1]
    show wpAny _ _ _ (fun r s'' => r = e (xs.getD i .non) ∧ Inv X pins σ H s'') _ _
    rw [e2]
    exact he _ (List.getElem_mem h2) X.A.in1 pins σ s' u v ⟨hr.in1, rfl⟩ I' ru rx
  · have z := any_from e xs []
    rw [List.nil_append, List.length_nil] at z
    show Q (.bool (anyFrom _ 0 xs.length)) s'
    rw [z]
    exact q s' I'
/-- the same of every place of the program -/
def EqG (P : Program) (w : World) (K : PySem.W.Frag) (mg : Str → Option Value) (base : Heap) (k : Nat) (y x : V) (H : Hp) (b : Bool) : Prop := ∀ X : Cx, X.prog = P → X.w = w → X.K = K → X.mg = mg → X.base = base → EqB X k y x H b
section
variable {P : Program} {w : World} {K : PySem.W.Frag} {mg : Str → Option Value} {base : Heap}
theorem EqG.same {a : Addr} : EqG P w K mg base k (.ref a) (.ref a) H true := fun _ _ _ _ _ _ => EqB.same
theorem EqG.flat {x y : V} (fx : flatV x = true) (fy : flatV y = true) : EqG P w K mg base k x y H (eqV x y) := fun _ _ _ _ _ _ => EqB.flat fx fy
theorem EqG.own {C a dx : Addr} {fs : List (Str × V)} {x : V} {t : Value} {b : Bool} (M : Meth K C "__eq__" f) (F : FnOk P w K mg base CX0 k f fd ps sp) (hb : Binds K fd ps [])
    (ha : H a = some (.ins C dx fs)) (ty : TyX K H x t) (nf : PySem.W.notFirst K C t = true) (ne : x ≠ .ref a) (h : sp [.ref a, x] H (fun v H' => v = .bl b ∧ H' = H) E0) : EqG P w K mg base k (.ref a) x H b := by
  intro X e1 e2 e3 e4 e5
  subst e1 e2 e3 e4 e5
  exact EqB.own M F hb ha ty nf ne h
theorem EqG.int {C a dx : Addr} {fs : List (Str × V)} {i : Int} {b : Bool} (M : Meth K C "__eq__" f) (F : FnOk P w K mg base CX0 k f fd ps sp) (hb : Binds K fd ps [])
    (ha : H a = some (.ins C dx fs)) (sub : PySem.W.subIn K (.ref C) (.type "int") = some false) (h : sp [.ref a, .int i] H (fun v H' => v = .bl b ∧ H' = H) E0) : EqG P w K mg base k (.int i) (.ref a) H b := by
  intro X e1 e2 e3 e4 e5
  subst e1 e2 e3 e4 e5
  exact EqB.int M F hb ha sub h
end
/-- x in p, x not in p: all that == says of the items is told -/
def rInO (P : Program) (w : World) (K : PySem.W.Frag) (mg : Str → Option Value) (base : Heap) (k : Nat) (neg : Bool) : R2 := fun x y H Q => ∃ (p : Addr) (xs : List V) (e : V → Bool), y = .ref p ∧ H p = some (.lst xs) ∧ (∀ z ∈ xs, EqG P w K mg base k z x H (e z)) ∧ Q (.bl (if neg = true then !xs.any e else xs.any e)) H
section
variable {P : Program} {w : World} {K : PySem.W.Frag} {mg : Str → Option Value} {base : Heap}
theorem o_inO (e1 : X.prog = P) (e2 : X.w = w) (e3 : X.K = K) (e4 : X.mg = mg) (e5 : X.base = base) (hr : Room (k + 1) X.A) : OpR X (compareOp .In) (rInO P w K mg base k false) := by
  intro pins s σ H x y v u Q I rx ry h
  obtain ⟨p, xs, e, rfl, hp, he, q⟩ := h
  cases (show u = Value.ref p from ry)
  obtain ⟨hz, its, n, r, hl⟩ := (show ObjOk X.prog X.w H s.heap p (.lst xs) from I.hok p _ hp)
  show wpAny _ X.A (do return Value.bool (← contains (.ref p) v)) _ _ s
  refine wpAny_bind (wpAny_contains_slot ⟨_, hl, rfl⟩ PySem.F.slot_list_contains (in_ok e hr I hp rx (fun z hz => he z hz X e1 e2 e3 e4 e5) fun s' I' => ?_))
  exact wpAny_truthy_bool (wpAny_pure ⟨.bl _, H, I', rfl, q⟩)
theorem o_notInO (e1 : X.prog = P) (e2 : X.w = w) (e3 : X.K = K) (e4 : X.mg = mg) (e5 : X.base = base) (hr : Room (k + 1) X.A) : OpR X (compareOp .NotIn) (rInO P w K mg base k true) := by
  intro pins s σ H x y v u Q I rx ry h
  obtain ⟨p, xs, e, rfl, hp, he, q⟩ := h
  cases (show u = Value.ref p from ry)
  obtain ⟨hz, its, n, r, hl⟩ := (show ObjOk X.prog X.w H s.heap p (.lst xs) from I.hok p _ hp)
  show wpAny _ X.A (do return Value.bool (!(← contains (.ref p) v))) _ _ s
  refine wpAny_bind (wpAny_contains_slot ⟨_, hl, rfl⟩ PySem.F.slot_list_contains (in_ok e hr I hp rx (fun z hz => he z hz X e1 e2 e3 e4 e5) fun s' I' => ?_))
  exact wpAny_truthy_bool (wpAny_pure ⟨.bl _, H, I', rfl, q⟩)
end
end
end Z
namespace Z
open PySem PySem.Spec PyProof.Rows L2
section
variable {prog : Program} {w : World} {A : Around} {E : Value → Shared → Prop} {s : Shared} {K : PySem.W.Frag} {x y C f : Addr} {ox oy : Obj} {od od' : Option Obj} {nm : String}
theorem bin1_same {Q : Value → Shared → Prop} (X : K.In s.heap) (I : PySem.W.InstAt s.heap x ox C od) (J : PySem.W.InstAt s.heap y oy C od') (hc : PySem.W.selfFirst K C = true)
    (hs : PySem.W.findIn K (.ref C) (PySem.dunder nm) = some (some (.ref f))) (hf : PySem.W.isFn K (.ref f) = true)
    (h : wpAny (model prog w) A (call (.ref f) [.ref x, .ref y]) (PySem.W.CmpBack Q) E s) : wpAny (model prog w) A (binaryOp1 nm (.ref x) (.ref y)) (fun r s' => ∃ v, r = some v ∧ Q v s') E s := by
  obtain ⟨cd, rest, hcd, hm⟩ := PySem.W.ksp_first hc
  have one := PySem.W.ksp_try X I hs hf h
  obtain ⟨hh, g, d, tt, os⟩ := s
  have L1 : PySem.W.Looks (model prog w) hh (typeOf (.ref x)) (.ref C) := I.type
  have L2 : PySem.W.Looks (model prog w) hh (typeOf (.ref y)) (.ref C) := J.type
  have L3 : PySem.W.Looks (model prog w) hh (fillsNumberSlot (.ref C) nm) true := PySem.W.fills_K X hcd hm hs
  have heq : (Value.ref C == Value.ref C) = true := beq_self_eq_true _
  unfold binaryOp1
  refine wpAny_bind (L1.at (wpAny_bind (L2.at (wpAny_bind (L3.at ?_)))))
  simp only [heq, if_true]
  ksp_lk
  refine wpAny_mono one (fun r s' hr' => ?_) fun _ _ e => e
  obtain ⟨v, rfl, hq⟩ := hr'
  ksp_lk
  exact ⟨v, rfl, hq⟩
theorem bin1_own {b : Value} {T : String} {fo ro rc : Option Value} {Q : Value → Shared → Prop} (X : K.In s.heap) (I : PySem.W.InstAt s.heap x ox C od) (hb : typeOf b = pure (.type T)) (hc : PySem.W.selfFirst K C = true)
    (hs : PySem.W.findIn K (.ref C) (PySem.dunder nm) = some (some (.ref f))) (hf : PySem.W.isFn K (.ref f) = true) (hr : PySem.W.findIn K (.ref C) (PySem.dunderR nm) = some rc) (hp : rc = none ∨ ∃ g : Addr, rc = some (.ref g))
    (h1 : PySem.W.findIn K (.type T) (PySem.dunder nm) = some fo) (h2 : PySem.W.findIn K (.type T) (PySem.dunderR nm) = some ro) (hsub : PySem.W.subIn K (.type T) (.ref C) = some false)
    (h : wpAny (model prog w) A (call (.ref f) [.ref x, b]) (PySem.W.CmpBack Q) E s) : wpAny (model prog w) A (binaryOp1 nm (.ref x) b) (fun r s' => ∃ v, r = some v ∧ Q v s') E s := by
  obtain ⟨cd, rest, hcd, hm⟩ := PySem.W.ksp_first hc
  have one := PySem.W.ksp_try X I hs hf h
  obtain ⟨hh, g, d, tt, os⟩ := s
  have L1 : PySem.W.Looks (model prog w) hh (typeOf (.ref x)) (.ref C) := I.type
  have L2 : PySem.W.Looks (model prog w) hh (typeOf b) (.type T) := PySem.W.Looks.of_pure hb
  have L3 : PySem.W.Looks (model prog w) hh (fillsNumberSlot (.ref C) nm) true := PySem.W.fills_K X hcd hm hs
  have L4 : PySem.W.Looks (model prog w) hh (fillsNumberSlot (.type T) nm) ((fo.isSome && !isSeqSlot fo) || (ro.isSome && !isSeqSlot ro)) := PySem.W.ksp_fillsT X h1 h2
  have L5 : PySem.W.Looks (model prog w) hh (isSubtype (.type T) (.ref C)) false := PySem.W.looks_subIn X hsub
  have L6 : PySem.W.Looks (model prog w) hh (numberSlotInPython (.ref C) nm) true := PySem.W.ksp_inPy X hs hr hp
  have L7 : PySem.W.Looks (model prog w) hh (numberSlotInPython (.type T) nm) false := PySem.W.Looks.of_pure rfl
  have L8 : PySem.W.Looks (model prog w) hh (typeLookup (.type T) (PySem.dunderR nm)) ro := PySem.W.looks_findIn X h2
  generalize ((fo.isSome && !isSeqSlot fo) || (ro.isSome && !isSeqSlot ro)) = right at L4
  have hne : (Value.ref C == Value.type T) = false := Bool.eq_false_iff.mpr fun q => by cases beq_iff_eq.mp q
  unfold binaryOp1
  refine wpAny_bind (L1.at (wpAny_bind (L2.at (wpAny_bind (L3.at ?_)))))
  simp only [hne, Bool.false_eq_true, if_false]
  cases right with
  | false =>
    ksp_lk
    refine wpAny_mono one (fun r s' hr' => ?_) fun _ _ e => e
    obtain ⟨v, rfl, hq⟩ := hr'
    ksp_lk
    exact ⟨v, rfl, hq⟩
  | true =>
    ksp_lk
    refine wpAny_mono one (fun r s' hr' => ?_) fun _ _ e => e
    obtain ⟨v, rfl, hq⟩ := hr'
    ksp_lk
    exact ⟨v, rfl, hq⟩
theorem bin1_int {i : Int} {t : Tok} {id : String} {B : Builtin} {Q : Value → Shared → Prop} (X : K.In s.heap) (I : PySem.W.InstAt s.heap x ox C od) (hd : ox.data = .plain) (hc : PySem.W.selfFirst K C = true)
    (slot : Slot "int" (PySem.dunder nm) id) (entry : entryFor table id = some B) (args : ∀ a b, argsOk id ⟨[a, b], []⟩) (D : Declines B) (fills : fillsNumberSlot (.type "int") nm = pure true)
    (hl : PySem.W.findIn K (.ref C) (PySem.dunder nm) = some (some (.ref y))) (hs : PySem.W.findIn K (.ref C) (PySem.dunderR nm) = some (some (.ref f))) (hf : PySem.W.isFn K (.ref f) = true) (sub : PySem.W.subIn K (.ref C) (.type "int") = some false)
    (h : wpAny (model prog w) A (call (.ref f) [.ref x, .int i t]) (PySem.W.CmpBack Q) E s) : wpAny (model prog w) A (binaryOp1 nm (.int i t) (.ref x)) (fun r s' => ∃ v, r = some v ∧ Q v s') E s := by
  obtain ⟨cd, rest, hcd, hm⟩ := PySem.W.ksp_first hc
  have one := PySem.W.ksp_try X I hs hf h
  have dec : ∀ {Q : Option Value → Shared → Prop}, Q none s → wpAny (model prog w) A (tryMethod (.int i t) (PySem.dunder nm) (.ref x)) Q E s := fun q =>
    wpAny_tryMethod_declines (typeIs_int s i t) slot (dec_call (T := "int") slot entry args D I.at_ hd ⟨rfl, q⟩)
  obtain ⟨hh, g, d, tt, os⟩ := s
  have L1 : PySem.W.Looks (model prog w) hh (typeOf (.int i t)) (.type "int") := PySem.W.Looks.of_pure rfl
  have L2 : PySem.W.Looks (model prog w) hh (typeOf (.ref x)) (.ref C) := I.type
  have L3 : PySem.W.Looks (model prog w) hh (fillsNumberSlot (.type "int") nm) true := PySem.W.Looks.of_pure fills
  have L4 : PySem.W.Looks (model prog w) hh (fillsNumberSlot (.ref C) nm) true := PySem.W.fills_K X hcd hm hl
  have L5 : PySem.W.Looks (model prog w) hh (isSubtype (.ref C) (.type "int")) false := PySem.W.looks_subIn X sub
  have L7 : PySem.W.Looks (model prog w) hh (numberSlotInPython (.type "int") nm) false := PySem.W.Looks.of_pure rfl
  have hne : (Value.type "int" == Value.ref C) = false := Bool.eq_false_iff.mpr fun q => by cases beq_iff_eq.mp q
  unfold binaryOp1
  refine wpAny_bind (L1.at (wpAny_bind (L2.at (wpAny_bind (L3.at ?_)))))
  simp only [hne, Bool.false_eq_true, if_false]
  ksp_lk
  refine dec ?_
  ksp_lk
  refine wpAny_mono one (fun r s' hr' => ?_) fun _ _ e => e
  obtain ⟨v, rfl, hq⟩ := hr'
  ksp_lk
  exact ⟨v, rfl, hq⟩
theorem bin_of1 {op : Operator} {a b : Value} {Q : Value → Shared → Prop} (h : wpAny (model prog w) A (binaryOp1 op.info.2 a b) (fun r s' => ∃ v, r = some v ∧ Q v s') E s) : wpAny (model prog w) A (binaryOp op a b) Q E s := by
  rcases hi : op.info with ⟨sym, nm'⟩
  rw [hi] at h
  simp only [binaryOp, hi]
  refine wpAny_holding (wpAny_bind (wpAny_mono h (fun r s' hr => ?_) fun _ _ e => e))
  obtain ⟨v, rfl, hq⟩ := hr
  exact wpAny_pure hq
/-- op= where the left type has no in-place def -/
theorem inp_of1 {op : Operator} {a b ta : Value} {Q : Value → Shared → Prop} (L1 : PySem.W.Looks (model prog w) s.heap (typeOf a) ta) (L2 : PySem.W.Looks (model prog w) s.heap (fillsInplaceSlot ta op.info.2 (op == .Add)) false)
    (h : wpAny (model prog w) A (binaryOp1 op.info.2 a b) (fun r s' => ∃ v, r = some v ∧ Q v s') E s) : wpAny (model prog w) A (inplaceOp op a b) Q E s := by
  obtain ⟨hh, g, d, tt, os⟩ := s
  unfold inplaceOp
  refine wpAny_holding (wpAny_bind (L1.at (wpAny_bind (L2.at ?_))))
  simp only [Bool.false_eq_true, if_false]
  refine wpAny_bind (wpAny_mono h (fun r s' hr => ?_) fun _ _ e => e)
  obtain ⟨v, rfl, hq⟩ := hr
  exact wpAny_pure hq
theorem dec_add : Declines Builtin.«int.__add__» := fun prog w A E s x o a t Q hx hd h => by
  obtain ⟨oc, od, data, sl⟩ := o
  simp only at hd
  subst hd
  obtain ⟨hp, g, d, tk, os⟩ := s
  wp_walk using AutoSeq1.wpAny_loadPart' hx
  exact h
theorem dec_sub : Declines Builtin.«int.__sub__» := fun prog w A E s x o a t Q hx hd h => by
  obtain ⟨oc, od, data, sl⟩ := o
  simp only at hd
  subst hd
  obtain ⟨hp, g, d, tk, os⟩ := s
  wp_walk using AutoSeq1.wpAny_loadPart' hx
  exact h
theorem dec_mul : Declines Builtin.«int.__mul__» := fun prog w A E s x o a t Q hx hd h => by
  obtain ⟨oc, od, data, sl⟩ := o
  simp only at hd
  subst hd
  obtain ⟨hp, g, d, tk, os⟩ := s
  wp_walk using AutoSeq1.wpAny_loadPart' hx
  exact h
theorem dec_floordiv : Declines Builtin.«int.__floordiv__» := fun prog w A E s x o a t Q hx hd h => by
  obtain ⟨oc, od, data, sl⟩ := o
  simp only at hd
  subst hd
  obtain ⟨hp, g, d, tk, os⟩ := s
  wp_walk using AutoSeq1.wpAny_loadPart' hx
  exact h
theorem dec_mod : Declines Builtin.«int.__mod__» := fun prog w A E s x o a t Q hx hd h => by
  obtain ⟨oc, od, data, sl⟩ := o
  simp only at hd
  subst hd
  obtain ⟨hp, g, d, tk, os⟩ := s
  wp_walk using AutoSeq1.wpAny_loadPart' hx
  exact h
end
end Z
namespace Z
open PySem PySem.Spec PyProof.Rows L2
section
variable {K : PySem.W.Frag} {C f : Addr} {nm : String}
theorem inpl_own {M : Model} {h : Heap} {add : Bool} {cd : ClassData} (X : K.In h) (hc : PySem.W.clsIn K C = some cd) (hm : cd.mro = [.ref C, .type "object"]) (h1 : PySem.W.findIn K (.ref C) (PySem.dunderI nm) = some none) (h2 : PySem.W.findIn K (.type "object") (PySem.dunderI nm) = some none) :
    PySem.W.Looks M h (fillsInplaceSlot (.ref C) nm add) false := by
  intro A Q E s k q
  have Lm : PySem.W.Looks M h (mroOf (.ref C)) cd.mro := (PySem.W.looks_clsIn X hc).andThen (f := fun cd => pure cd.mro) .now
  have Lm' := Lm.keeps k
  obtain ⟨hh, g, d, tt, os⟩ := s
  have X' : K.In hh := X.keeps k
  have L1 : PySem.W.Looks M hh (typeLookup (.ref C) (PySem.dunderI nm)) none := PySem.W.looks_findIn X' h1
  have L2 : PySem.W.Looks M hh (typeLookup (.type "object") (PySem.dunderI nm)) none := PySem.W.looks_findIn X' h2
  unfold fillsInplaceSlot
  refine wpAny_bind (Lm'.at ?_)
  rw [hm, List.anyM_cons]
  refine wpAny_bind ?_
  refine wpAny_bind (L1.at ?_)
  refine wpAny_pure ?_
  simp only [Bool.false_eq_true, if_false]
  rw [List.anyM_cons]
  refine wpAny_bind ?_
  refine wpAny_bind (L2.at ?_)
  refine wpAny_pure ?_
  simp only [Bool.false_eq_true, if_false]
  exact wpAny_pure q
end
section
variable {X : Cx} {C f g : Addr} {fd : FuncData} {k : Nat} {ps : List Str} {sp : Sp} {op : Operator}
/-- an int, or another instance of the class -/
def NumOr (C : Addr) (H : Hp) (y : V) : Prop := (∃ i, y = .int i) ∨ ∃ b dy gs, y = .ref b ∧ H b = some (.ins C dy gs)
def rBinL (C : Addr) (sp : Sp) : R2 := fun x y H Q => ∃ a dx fs, x = .ref a ∧ H a = some (.ins C dx fs) ∧ NumOr C H y ∧ sp ([x, y] ++ []) H Q E0
def rBinR (C : Addr) (sp : Sp) : R2 := fun x y H Q => ∃ i b dx fs, x = .int i ∧ y = .ref b ∧ H b = some (.ins C dx fs) ∧ sp ([y, x] ++ []) H Q E0
theorem bin1_L {pins : List (Addr × Obj)} {s : Shared} {σ : L2.St} {H : Hp} {x y : V} {v u : Value} {Q : VK} (B : BinF X.K C op.info.2 f g) (F : FnOk X.prog X.w X.K X.mg X.base CX0 k f fd ps sp) (hr : Room k X.A) (hb : Binds X.K fd ps [])
    (I : Inv X pins σ H s) (rx : RelV x v) (ry : RelV y u) (h : rBinL C sp x y H Q) : wpAny (model X.prog X.w) X.A (binaryOp1 op.info.2 v u) (fun r s' => ∃ v, r = some v ∧ EP X pins σ Q v s') X.xe s := by
  obtain ⟨a, dx, fs, rfl, ha, hy, q⟩ := h
  cases (show v = Value.ref a from rx)
  obtain ⟨mA, O, _⟩ := ins_get I.hok ha
  obtain ⟨od, J, _⟩ := O.look
  have call : wpAny (model X.prog X.w) X.A (PySem.call (.ref f) [.ref a, u]) (PySem.W.CmpBack (EP X pins σ Q)) X.xe s := by
    refine wpAny_mono (run_fn (us := [.ref a, u]) (vs := [.ref a, y]) F hr hb .nil pass0 I (.cons rfl (.cons ry .nil)) q) (fun w s' z => ?_) fun _ _ x => x
    obtain ⟨z', H', I', rz, qz⟩ := z
    exact SlX.cmpback rz ⟨z', H', I', rz, qz⟩
  rcases hy with ⟨i, rfl⟩ | ⟨b, dy, gs, rfl, hB⟩
  · obtain ⟨t, rfl⟩ := (show ∃ t, u = Value.int i t from ry)
    obtain ⟨fo, hfo⟩ := B.fo
    obtain ⟨ro, hro⟩ := B.ro
    exact bin1_own I.kIn J rfl B.sf B.at_ B.fn B.rat (.inr ⟨g, rfl⟩) hfo hro B.isub call
  · cases (show u = Value.ref b from ry)
    obtain ⟨mB, O', _⟩ := ins_get I.hok hB
    obtain ⟨od', J', _⟩ := O'.look
    exact bin1_same I.kIn J J' B.sf B.at_ B.fn call
theorem o_binL (B : BinF X.K C op.info.2 f g) (F : FnOk X.prog X.w X.K X.mg X.base CX0 k f fd ps sp) (hr : Room k X.A) (hb : Binds X.K fd ps []) : OpR X (binaryOp op) (rBinL C sp) := by
  intro pins s σ H x y v u Q I rx ry h
  exact bin_of1 (bin1_L B F hr hb I rx ry h)
theorem o_inpL (B : BinF X.K C op.info.2 f g) (F : FnOk X.prog X.w X.K X.mg X.base CX0 k f fd ps sp) (hr : Room k X.A) (hb : Binds X.K fd ps []) : OpR X (inplaceOp op) (rBinL C sp) := by
  intro pins s σ H x y v u Q I rx ry h
  obtain ⟨a, dx, fs, ex, ha, _⟩ := id h
  subst ex
  cases (show v = Value.ref a from rx)
  obtain ⟨mA, O, _⟩ := ins_get I.hok ha
  obtain ⟨od, J, _⟩ := O.look
  obtain ⟨cd, hc, hm⟩ := B.cls
  exact inp_of1 J.type (inpl_own I.kIn hc hm B.ni B.noi) (bin1_L B F hr hb I rx ry h)
theorem bin1_R {id : String} {Bi : Builtin} {pins : List (Addr × Obj)} {s : Shared} {σ : L2.St} {H : Hp} {x y : V} {v u : Value} {Q : VK} (B : BinF X.K C op.info.2 g f) (slot : Slot "int" (PySem.dunder op.info.2) id) (entry : entryFor table id = some Bi) (args : ∀ a b, argsOk id ⟨[a, b], []⟩) (D : Declines Bi)
    (fills : fillsNumberSlot (.type "int") op.info.2 = pure true) (F : FnOk X.prog X.w X.K X.mg X.base CX0 k f fd ps sp) (hr : Room k X.A) (hb : Binds X.K fd ps [])
    (I : Inv X pins σ H s) (rx : RelV x v) (ry : RelV y u) (h : rBinR C sp x y H Q) : wpAny (model X.prog X.w) X.A (binaryOp1 op.info.2 v u) (fun r s' => ∃ v, r = some v ∧ EP X pins σ Q v s') X.xe s := by
  obtain ⟨i, b, dx, fs, rfl, rfl, hB, q⟩ := h
  obtain ⟨t, rfl⟩ := (show ∃ t, v = Value.int i t from rx)
  cases (show u = Value.ref b from ry)
  obtain ⟨mA, O, _⟩ := ins_get I.hok hB
  obtain ⟨od, J, _⟩ := O.look
  refine bin1_int I.kIn J rfl B.sf slot entry args D fills B.at_ B.rat B.rfn B.sub ?_
  refine wpAny_mono (run_fn (us := [.ref b, .int i t]) (vs := [.ref b, .int i]) F hr hb .nil pass0 I (.cons rfl (.cons ⟨t, rfl⟩ .nil)) q) (fun w s' z => ?_) fun _ _ x => x
  obtain ⟨z', H', I', rz, qz⟩ := z
  exact SlX.cmpback rz ⟨z', H', I', rz, qz⟩
theorem o_binR {id : String} {Bi : Builtin} (B : BinF X.K C op.info.2 g f) (slot : Slot "int" (PySem.dunder op.info.2) id) (entry : entryFor table id = some Bi) (args : ∀ a b, argsOk id ⟨[a, b], []⟩) (D : Declines Bi)
    (fills : fillsNumberSlot (.type "int") op.info.2 = pure true) (F : FnOk X.prog X.w X.K X.mg X.base CX0 k f fd ps sp) (hr : Room k X.A) (hb : Binds X.K fd ps []) : OpR X (binaryOp op) (rBinR C sp) := by
  intro pins s σ H x y v u Q I rx ry h
  exact bin_of1 (bin1_R B slot entry args D fills F hr hb I rx ry h)
theorem o_inpR {id : String} {Bi : Builtin} (B : BinF X.K C op.info.2 g f) (slot : Slot "int" (PySem.dunder op.info.2) id) (entry : entryFor table id = some Bi) (args : ∀ a b, argsOk id ⟨[a, b], []⟩) (D : Declines Bi)
    (fills : fillsNumberSlot (.type "int") op.info.2 = pure true) (hno : typeLookup (.type "int") (dunderI op.info.2) = pure none) (F : FnOk X.prog X.w X.K X.mg X.base CX0 k f fd ps sp) (hr : Room k X.A) (hb : Binds X.K fd ps []) : OpR X (inplaceOp op) (rBinR C sp) := by
  intro pins s σ H x y v u Q I rx ry h
  obtain ⟨i, b, dx, fs, ex, _⟩ := _root_.id h
  subst ex
  obtain ⟨t, e⟩ := (show ∃ t, v = Value.int i t from rx)
  subst e
  have noi : fillsInplaceSlot (.type "int") op.info.2 (op == .Add) = pure false := by
    unfold fillsInplaceSlot
    show (typeLookup (.type "int") (dunderI op.info.2) >>= fun fi => pure (fi.isSome && !isSeqSlot fi)) = pure false
    rw [hno]; rfl
  exact inp_of1 (ta := .type "int") (PySem.W.Looks.of_pure rfl) (PySem.W.Looks.of_pure noi) (bin1_R B slot entry args D fills F hr hb I rx ry h)
end
section
variable {X : Cx} {k : Nat} {C f : Addr} {fd : FuncData} {ps : List Str} {sp : Sp}
def rUO (C : Addr) (sp : Sp) : V → Hp → VK → Prop := fun x H Q => ∃ a dx fs, x = .ref a ∧ H a = some (.ins C dx fs) ∧ sp ([.ref a] ++ []) H Q E0
def rAbsO (C : Addr) (sp : Sp) : List V → Hp → VK → Prop := fun xs H Q => ∃ a dx fs, xs = [.ref a] ∧ H a = some (.ins C dx fs) ∧ sp ([.ref a] ++ []) H Q E0
theorem un_negO (M : Meth X.K C "__neg__" f) (F : FnOk X.prog X.w X.K X.mg X.base CX0 k f fd ps sp) (hr : Room k X.A) (hb : Binds X.K fd ps []) : UnR X (unaryOp .USub) (rUO C sp) := by
  intro pins s σ H x v Q I rx h
  obtain ⟨a, dx, fs, rfl, ha, q⟩ := h
  cases (show v = Value.ref a from rx)
  obtain ⟨mA, O, _⟩ := ins_get I.hok ha
  obtain ⟨od, J, _⟩ := O.look
  unfold unaryOp
  refine wpAny_holding ?_
  exact wpAny_bind (PySem.W.special_fn I.kIn J M.at_ (beq_iff_eq.mp M.fn) (wpAny_mono (run_fn (us := [.ref a]) (vs := [.ref a]) F hr hb .nil pass0 I (.cons rfl .nil) q) (fun w s' z => wpAny_pure z) fun _ _ x => x))
theorem un_posO (M : Meth X.K C "__pos__" f) (F : FnOk X.prog X.w X.K X.mg X.base CX0 k f fd ps sp) (hr : Room k X.A) (hb : Binds X.K fd ps []) : UnR X (unaryOp .UAdd) (rUO C sp) := by
  intro pins s σ H x v Q I rx h
  obtain ⟨a, dx, fs, rfl, ha, q⟩ := h
  cases (show v = Value.ref a from rx)
  obtain ⟨mA, O, _⟩ := ins_get I.hok ha
  obtain ⟨od, J, _⟩ := O.look
  unfold unaryOp
  refine wpAny_holding ?_
  exact wpAny_bind (PySem.W.special_fn I.kIn J M.at_ (beq_iff_eq.mp M.fn) (wpAny_mono (run_fn (us := [.ref a]) (vs := [.ref a]) F hr hb .nil pass0 I (.cons rfl .nil) q) (fun w s' z => wpAny_pure z) fun _ _ x => x))
theorem c_absO (M : Meth X.K C "__abs__" f) (F : FnOk X.prog X.w X.K X.mg X.base CX0 k f fd ps sp) (hr : Room (k + 1) X.A) (hb : Binds X.K fd ps []) : CallR X (.builtin "abs") (rAbsO C sp) := by
  intro pins s σ H xs us Q I r h
  obtain ⟨a, dx, fs, rfl, ha, q⟩ := h
  obtain ⟨u, rfl, ru⟩ := vals1 r
  cases (show u = Value.ref a from ru)
  obtain ⟨mA, O, _⟩ := ins_get I.hok ha
  obtain ⟨od, J, _⟩ := O.look
  refine PySem.Calls.call_function_entry kind_abs plain_abs entry_abs (args_abs _) ?_
  unfold Builtin.«abs»
  refine wpAny_bind (m := oneArg "abs" _) (wpAny_pure ?_)
  refine wpAny_bind (m := callSpecial? (.ref a) (Str.ofString "__abs__")) (PySem.W.special_fn I.kIn J M.at_ (beq_iff_eq.mp M.fn) (wpAny_mono (run_below (us := [.ref a]) (vs := [.ref a]) (A := X.A.in1) ⟨hr.in1, rfl⟩ F hb I (.cons rfl .nil) q) (fun w s' z => ?_) fun _ _ x => x))
  exact wpAny_pure ⟨_, rfl, z⟩
end
section
variable {H : Hp} {Q : VK} {a C dx : Addr} {fs : List (Str × V)} {sp : Sp}
theorem r_UO (e : H a = some (.ins C dx fs)) (h : sp ([.ref a] ++ []) H Q E0) : rUO C sp (.ref a) H Q := ⟨a, dx, fs, rfl, e, h⟩
theorem r_absO (e : H a = some (.ins C dx fs)) (h : sp ([.ref a] ++ []) H Q E0) : rAbsO C sp [.ref a] H Q := ⟨a, dx, fs, rfl, e, h⟩
end
section
variable {H : Hp} {Q : VK} {x y : V} {a b C dx : Addr} {fs : List (Str × V)} {sp : Sp} {i : Int}
theorem r_binL (e : H a = some (.ins C dx fs)) (n : NumOr C H y) (h : sp ([.ref a, y] ++ []) H Q E0) : rBinL C sp (.ref a) y H Q := ⟨a, dx, fs, rfl, e, n, h⟩
theorem r_binR (e : H b = some (.ins C dx fs)) (h : sp ([.ref b, .int i] ++ []) H Q E0) : rBinR C sp (.int i) (.ref b) H Q := ⟨i, b, dx, fs, rfl, rfl, e, h⟩
theorem nm_int : NumOr C H (.int i) := .inl ⟨i, rfl⟩
theorem nm_ref (e : H b = some (.ins C dx fs)) : NumOr C H (.ref b) := .inr ⟨b, dx, fs, rfl, e⟩
end
section
variable {X : Cx} {k : Nat} {H : Hp} {Q : VK} {x : V} {p : Addr} {xs : List V} {neg : Bool}
theorem r_inO {P : Program} {w : World} {K : PySem.W.Frag} {mg : Str → Option Value} {base : Heap} (e : V → Bool) (hp : H p = some (.lst xs)) (he : ∀ z ∈ xs, EqG P w K mg base k z x H (e z)) (q : Q (.bl (if neg = true then !xs.any e else xs.any e)) H) : rInO P w K mg base k neg x (.ref p) H Q := ⟨p, xs, e, rfl, hp, he, q⟩
end
end Z
local macro_rules | `(tactic| walk_at "num") => `(tactic| first | exact Z.nm_int | exact Z.nm_ref (by walk_at "hp") | assumption)
local macro_rules | `(tactic| walk_at "call") => `(tactic| first
  | ((with_reducible refine' Z.r_binL ?e ?n ?_); (case e => walk_at "hp"); (case n => walk_at "num"))
  | ((with_reducible refine' Z.r_binR ?e ?_); (case e => walk_at "hp"))
  | ((with_reducible refine' Z.r_UO ?e ?_); (case e => walk_at "hp"))
  | ((with_reducible refine' Z.r_absO ?e ?_); (case e => walk_at "hp")))

theorem rep_non {C : Addr} {H : Hp} : Rep C H .non .non := rfl
theorem rep_num {C : Addr} {H : Hp} {i : Int} : Rep C H (.int i) (.num i) := rfl
theorem rep_mark {C a dx : Addr} {H : Hp} {n : Str} (h : H a = some (.ins C dx [("name", .str n)])) : Rep C H (.ref a) (.mark n) := ⟨a, dx, rfl, h⟩
local macro_rules | `(tactic| walk_at "rep") => `(tactic| first | exact rep_non | exact rep_num | exact rep_mark (by walk_at "hp") | assumption)
/-- a number, or an unnumbered value -/
def EntV (C : Addr) (H : Hp) (y : V) : Prop := (∃ i, y = .int i) ∨ ∃ b dy m, y = .ref b ∧ H b = some (.ins C dy [("name", .str m)])
theorem ent_int {C : Addr} {H : Hp} {i : Int} : EntV C H (.int i) := .inl ⟨i, rfl⟩
theorem ent_ref {C b dy : Addr} {H : Hp} {m : Str} (h : H b = some (.ins C dy [("name", .str m)])) : EntV C H (.ref b) := .inr ⟨b, dy, m, rfl, h⟩
local macro_rules | `(tactic| walk_at "ent") => `(tactic| first | exact ent_int | exact ent_ref (by walk_at "hp") | assumption)
theorem fresh_ne {H : Hp} {a b : Addr} {o : HO} (nr : H a = none) (h : H b = some o) : V.ref a ≠ V.ref b := fun e => by cases e; exact absurd (nr.symm.trans h) (by simp)
theorem log_lt {n k : Nat} (h : n < 2 ^ k) (hk : 0 < k) : n.log2 < k := by
  by_cases z : n = 0
  · subst z; simpa using hk
  · exact (Nat.log2_lt z).mpr h
/-- what the running sums hold: numbers until the first unnumbered term, then its name -/
def Led (C : Addr) (H0 : Hp) (xs : List V) (i : Nat) (H : Hp) (vt vl vp vf vq : V) : Prop :=
  (∃ s p : Int, vt = .int s ∧ vl = .int (0 - s) ∧ vp = .int p ∧ vf = .non ∧ vq = .int s ∧ p.natAbs ≤ (10 ^ 246) ^ i) ∨
  (∃ (t l a dt dl da : Addr) (n : Str) (q : Int), vt = .ref t ∧ vl = .ref l ∧ vf = .ref a ∧ vq = .int q ∧ H t = some (.ins C dt [("name", .str n)]) ∧ H l = some (.ins C dl [("name", .str n)]) ∧ H0 a = some (.ins C da [("name", .str n)]) ∧ H0 t = none ∧ H0 l = none ∧
    (xs.length < 3 → ∃ p dp, vp = .ref p ∧ H p = some (.ins C dp [("name", .str n)]) ∧ H0 p = none))
theorem none_of {H H' : Hp} {a : Addr} (s : Same H H') (h : H' a = none) : H a = none := by
  cases e : H a with
  | none => rfl
  | some o => rw [s _ _ e] at h; cases h
section
variable {P : Program} {w : World} {K : PySem.W.Frag} {mg : Str → Option Value} {base : Heap}
theorem sc_law_draw : FnScope ["_law_bag_here", "_law_many", "_law_first", "_law_second", "_law_digit"] ["_law_bag_here", "_law_many"] (defScope s_law_draw) := ⟨rfl, rfl, rfl, by decide +kernel, rfl, by decide +kernel, by decide +kernel⟩
def sp_law_draw : Sp := fun vs H Q _ => ∃ (b : Addr) (m : Int) (n : Nat), vs = [.ref b, .int m] ∧ Bag H b n ∧ 0 < m ∧ m < 1073741824 ∧ n < 1073741824 ∧
  ∀ r H', 0 ≤ r → r < m → Z.But b H H' → Bag H' b (n + 1) → Q (.int r) H'
theorem ok_law_draw (T : Top K mg) : FnOk P w K mg base CX0 1 T.f_law_draw T.fd_law_draw ["_law_bag_here", "_law_many"] sp_law_draw := by
  refine T.F_law_draw.ok sc_law_draw (fun vs H Q E h => ?_) (fun cdv A outer s H vs Q E hr h => ?_)
  · obtain ⟨b, m, n, rfl, _⟩ := h
    rfl
  · obtain ⟨b, m, n, rfl, ⟨g, sd, k, hb, hg, hs0, hs1, hk0, hk1⟩, hm0, hm1, hn, q⟩ := h
    refine ⟨_, pss_cons (ps_if (pt_cmpR op_gt (pe_ix ix_seq (pv 0) (pe_int) (fun _ _ => rfl)) (pe_int) (nomark _)) (pss_cons (ps_set (i := 4) sc_law_draw.nd rfl (.inl rfl) (pe_op op_mod (pe_callTy Z.c_int1 (by rfl) T.z_int (by decide +kernel) (pa_cons (pe_ix ix_seq (pv 0) (pe_int) (fun _ _ => rfl)) (pa_nil))) (pv 1))) (pss_cons (ps_asg (pe_op op_fdiv (pe_ix ix_seq (pv 0) (pe_int) (fun _ _ => rfl)) (pv 1)) (pg_sub (pv 0) (pe_int) set_list)) (pss_one (ps_ret (pv 4))))) (pss_nil)) (pss_cons (ps_asg (pe_op op_add (pe_ix ix_seq (pv 0) (pe_int) (fun _ _ => rfl)) (pe_int)) (pg_sub (pv 0) (pe_int) set_list)) (pss_cons (ps_set (i := 2) sc_law_draw.nd rfl (.inl rfl) (pe_op op_mod (pe_callTy Z.c_int1 (by rfl) T.z_int (by decide +kernel) (pa_cons (pe_op op_add (pe_op op_pow (pe_op op_add (pe_ix ix_seq (pv 0) (pe_int) (fun _ _ => rfl)) (pe_op op_mul (pe_int) (pe_ix ix_seq (pv 0) (pe_int) (fun _ _ => rfl)))) (pe_int)) (pe_op op_mul (pe_ix ix_seq (pv 0) (pe_int) (fun _ _ => rfl)) (pe_int))) (pa_nil))) (pe_int))) (pss_cons (ps_set (i := 3) sc_law_draw.nd rfl (.inl rfl) (pe_op op_mod (pe_callTy Z.c_int1 (by rfl) T.z_int (by decide +kernel) (pa_cons (pe_op op_add (pe_op op_mul (pv 2) (pv 2)) (pe_op op_mul (pe_int) (pe_ix ix_seq (pv 0) (pe_int) (fun _ _ => rfl)))) (pa_nil))) (pe_int))) (pss_one (ps_ret (pe_op op_mod (pe_callTy Z.c_int1 (by rfl) T.z_int (by decide +kernel) (pa_cons (pe_op op_fdiv (pv 3) (pe_int)) (pa_nil))) (pv 1))))))), ?_⟩
    refine Z.r_start (σ' := [some (.ref b), some (.int m), none, none, none]) rfl ?_
    walk_at "go"
    refine Z.ways (fun c => ?_) (fun c => ?_)
    · walk_at "go"
      intro H1 b1 h1
      walk_at "go"
      refine q _ _ ?_ ?_ b1 ⟨_, _, _, h1, ?_, hs0, hs1, hk0, ?_⟩
      · exact Int.emod_nonneg _ (by omega)
      · exact Int.emod_lt_of_pos _ hm0
      · exact Int.ediv_nonneg hg (by omega)
      · omega
    · walk_at "go"
      intro H1 b1 h1
      walk_at "go"
      refine q _ _ (Int.emod_nonneg _ (by omega)) (Int.emod_lt_of_pos _ hm0) b1 ⟨_, _, _, h1, hg, hs0, hs1, by omega, by omega⟩
theorem sc_law_bag : FnScope ["_law_script", "_law_at", "_law_cell", "_law_great"] ["_law_script", "_law_at"] (defScope s_law_bag) := ⟨rfl, rfl, rfl, by decide +kernel, rfl, by decide +kernel, by decide +kernel⟩
def sp_law_bag (K : PySem.W.Frag) : Sp := fun vs H Q _ => ∃ (a : Addr) (ns : List Int) (at_ : Nat), vs = [.ref a, .int at_] ∧ SqL K H a (ns.map V.int) ∧ at_ ≤ 100 ∧
  ∀ p H', Same H H' → H p = none → Bag H' p 0 → Q (.ref p) H'
theorem ok_law_bag (T : Top K mg) : FnOk P w K mg base CX0 1 T.f_law_bag T.fd_law_bag ["_law_script", "_law_at"] (sp_law_bag K) := by
  refine T.F_law_bag.ok sc_law_bag (fun vs H Q E h => ?_) (fun cdv A outer s H vs Q E hr h => ?_)
  · obtain ⟨a, ns, at_, rfl, _⟩ := h
    rfl
  · obtain ⟨a, ns, at_, rfl, hS, hat, q⟩ := h
    refine ⟨_, pss_cons (ps_set (i := 2) sc_law_bag.nd rfl (.inl rfl) (pe_ifExp (pt_cmpR op_lt (pv 1) (pe_callB Z.c_len (by rfl) T.z_len (by decide +kernel) (pa_cons (pv 0) (pa_nil))) (nomark _)) (pe_ix ix_seq (pv 0) (pv 1) (fun _ _ => rfl)) (pe_int))) (pss_cons (ps_set (i := 3) sc_law_bag.nd rfl (.inl rfl) (pe_ifExp (pt_cmpR op_ge (pe_callB Z.c_abs (by rfl) T.z_abs (by decide +kernel) (pa_cons (pv 2) (pa_nil))) (pe_op op_pow (pe_int) (pe_int)) (nomark _)) (pe_callB Z.c_abs (by rfl) T.z_abs (by decide +kernel) (pa_cons (pv 2) (pa_nil))) (pe_int))) (pss_one (ps_ret (pe_lst (pa_cons (pv 3) (pa_cons (pe_op op_add (pe_op op_add (pe_op op_mul (pe_op op_mod (pe_callTy Z.c_int1 (by rfl) T.z_int (by decide +kernel) (pa_cons (pv 2) (pa_nil))) (pe_int)) (pe_int)) (pe_op op_mul (pe_int) (pv 1))) (pe_int)) (pa_cons (pe_int) (pa_nil)))))))), ?_⟩
    refine Z.r_start (σ' := [some (.ref a), some (.int at_), none, none]) rfl ?_
    walk_at "go"
    refine Z.join (fun v H' => (∃ c : Int, v = .int c) ∧ H' = H) (fun c M k => ?_) (fun c M k => ?_) (fun v H' hv => ?_)
    · obtain ⟨z, hz⟩ := Z.get_int (ns := ns) (i := at_) (by rw [List.length_map] at c; omega)
      refine' Z.r_op ?_
      walk_at "go"
      exact k _ _ ⟨⟨z, rfl⟩, rfl⟩
    · exact k _ _ ⟨⟨0, rfl⟩, rfl⟩
    · obtain ⟨⟨z, rfl⟩, rfl⟩ := hv
      walk_at "go"
      refine Z.join (fun v H'' => (∃ c : Int, v = .int c ∧ 0 ≤ c) ∧ H'' = H') (fun c M k => ?_) (fun c M k => ?_) (fun v H'' hv => ?_)
      · walk_at "go"
        refine k _ _ ⟨⟨_, rfl, ?_⟩, rfl⟩
        split <;> omega
      · exact k _ _ ⟨⟨0, rfl, Int.le_refl 0⟩, rfl⟩
      · obtain ⟨⟨y, rfl, hy⟩, rfl⟩ := hv
        walk_at "go"
        intro p H1 np s1 hp
        exact q _ _ s1 np ⟨_, _, _, hp, hy, by omega, by omega, Int.le_refl 0, Int.le_refl _⟩
theorem k_law_bag {K : PySem.W.Frag} {a : Addr} {ns : List Int} {at_ : Nat} {H : Hp} {Q : VK} {E : XK} (hS : SqL K H a (ns.map V.int)) (h : at_ ≤ 100) (q : ∀ p H', Same H H' → H p = none → Bag H' p 0 → Q (.ref p) H') :
    sp_law_bag K ([.ref a, .int at_] ++ []) H Q E := ⟨a, ns, at_, rfl, hS, h, q⟩
theorem sc_law_number : FnScope ["_law_bag_here", "_law_road", "_law_number_here", "_law_turn"] ["_law_bag_here"] (defScope s_law_number) := ⟨rfl, rfl, rfl, by decide +kernel, rfl, by decide +kernel, by decide +kernel⟩
def sp_law_number : Sp := fun vs H Q _ => ∃ (b : Addr) (n : Nat), vs = [.ref b] ∧ Bag H b n ∧ n < 1073741000 ∧ ∀ (i : Int) (H' : Hp), i.natAbs < 10 ^ 246 → Z.But b H H' → Bag H' b (n + 60) → Q (.int i) H'
theorem ok_law_number (T : Top K mg) : FnOk P w K mg base CX0 2 T.f_law_number T.fd_law_number ["_law_bag_here"] sp_law_number := by
  refine T.F_law_number.ok sc_law_number (fun vs H Q E h => ?_) (fun cdv A outer s H vs Q E hr h => ?_)
  · obtain ⟨b, n, rfl, _⟩ := h
    rfl
  · obtain ⟨b, n, rfl, hb, hn, q⟩ := h
    refine ⟨_, pss_cons (ps_set (i := 1) sc_law_number.nd rfl (.inl rfl) (pe_call (ok_law_draw T) (hr.mono (by decide)) (by rfl) T.mg_law_draw T.F_law_draw.kp T.B_law_draw .nil pass0 (pa_cons (pv 0) (pa_cons (pe_int) (pa_nil))))) (pss_cons (ps_if (pt_cmpR op_eq (pv 1) (pe_int) (nomark _)) (pss_one (ps_ret (pe_int))) (pss_nil)) (pss_cons (ps_if (pt_cmpR op_lt (pv 1) (pe_int) (nomark _)) (pss_one (ps_ret (pe_op op_sub (pe_call (ok_law_draw T) (hr.mono (by decide)) (by rfl) T.mg_law_draw T.F_law_draw.kp T.B_law_draw .nil pass0 (pa_cons (pv 0) (pa_cons (pe_int) (pa_nil)))) (pe_int)))) (pss_nil)) (pss_cons (ps_if (pt_cmpR op_eq (pv 1) (pe_int) (nomark _)) (pss_one (ps_ret (pe_op op_sub (pe_call (ok_law_draw T) (hr.mono (by decide)) (by rfl) T.mg_law_draw T.F_law_draw.kp T.B_law_draw .nil pass0 (pa_cons (pv 0) (pa_cons (pe_int) (pa_nil)))) (pe_int)))) (pss_nil)) (pss_cons (ps_set (i := 2) sc_law_number.nd rfl (.inl rfl) (pe_op op_add (pe_int) (pe_call (ok_law_draw T) (hr.mono (by decide)) (by rfl) T.mg_law_draw T.F_law_draw.kp T.B_law_draw .nil pass0 (pa_cons (pv 0) (pa_cons (pe_int) (pa_nil)))))) (pss_cons (ps_for PassesOwn.never rfl (pi_range1 (by rfl) T.z_range (pa_cons (pe_call (ok_law_draw T) (hr.mono (by decide)) (by rfl) T.mg_law_draw T.F_law_draw.kp T.B_law_draw .nil pass0 (pa_cons (pv 0) (pa_cons (pe_int) (pa_nil)))) (pa_nil))) (pg_name (i := 3) sc_law_number.nd rfl (.inl rfl)) (pss_one (ps_set (i := 2) sc_law_number.nd rfl (.inl rfl) (pe_op op_add (pe_op op_mul (pv 2) (pe_int)) (pe_call (ok_law_draw T) (hr.mono (by decide)) (by rfl) T.mg_law_draw T.F_law_draw.kp T.B_law_draw .nil pass0 (pa_cons (pv 0) (pa_cons (pe_int) (pa_nil)))))))) (pss_one (ps_ret (pe_ifExp (pt_cmpR op_eq (pe_call (ok_law_draw T) (hr.mono (by decide)) (by rfl) T.mg_law_draw T.F_law_draw.kp T.B_law_draw .nil pass0 (pa_cons (pv 0) (pa_cons (pe_int) (pa_nil)))) (pe_int) (nomark _)) (pv 2) (pe_op op_sub (pe_int) (pv 2)))))))))), ?_⟩
    refine Z.r_start (σ' := [some (.ref b), none, none, none]) rfl ?_
    walk_at "go"
    walk_at "draw"
    intro r H1 r0 r1 t1 g1
    walk_at "go"
    refine Z.ways (fun c => ?_) (fun c => ?_)
    · walk_at "go"
      exact q 0 H1 (by decide) t1 (g1.mono (by omega))
    walk_at "go"
    refine Z.ways (fun c2 => ?_) (fun c2 => ?_)
    · walk_at "go"
      walk_at "draw"
      intro r2 H2 r20 r21 t2 g2
      walk_at "go"
      exact q _ _ (Nat.lt_of_lt_of_le (show (r2 - 4).natAbs < 10000 by omega) (by decide)) (t1.trans t2) (g2.mono (by omega))
    walk_at "go"
    refine Z.ways (fun c3 => ?_) (fun c3 => ?_)
    · walk_at "go"
      walk_at "draw"
      intro r2 H2 r20 r21 t2 g2
      walk_at "go"
      exact q _ _ (Nat.lt_of_lt_of_le (show (r2 - 2000).natAbs < 10000 by omega) (by decide)) (t1.trans t2) (g2.mono (by omega))
    walk_at "go"
    walk_at "draw"
    intro x H2 x0 x1 t2 g2
    walk_at "go"
    walk_at "draw"
    intro j H3 j0 j1 t3 g3
    walk_at "go"
    refine Z.r_rng j0 (by omega) (fun i σ' H' => ∃ (x : Int) (v : Option V), σ' = [some (.ref b), some (.int r), some (.int x), v] ∧ 0 < x ∧ x < 2 * 10 ^ (6 * (i + 1)) ∧ Z.But b H H' ∧ Bag H' b (n + 3 + i)) ?_ ?_ ?_
    · exact ⟨_, _, rfl, by omega, by omega, (t1.trans t2).trans t3, g3⟩
    · rintro i σ' H' hi ⟨x, v, rfl, hx0, hx1, t, gb⟩
      walk_at "go"
      walk_at "draw"
      intro d H4 d0 d1 t4 g4
      walk_at "go"
      refine ⟨_, _, rfl, by omega, ?_, t.trans t4, g4⟩
      have e : (10 : Int) ^ (6 * (i + 1 + 1)) = 10 ^ (6 * (i + 1)) * 1000000 := by
        rw [show 6 * (i + 1 + 1) = 6 * (i + 1) + 6 by omega, Int.pow_add]
        rfl
      rw [e]
      omega
    · rintro σ' H' ⟨x, v, rfl, hx0, hx1, t, gb⟩
      have hb2 : x < 10 ^ 246 := by
        have h2 : (10 : Int) ^ (6 * (j.toNat + 1)) ≤ 10 ^ 240 := by
          exact Z.pow10_le (by omega)
        have e : (10 : Int) ^ 246 = 10 ^ 240 * 1000000 := by decide
        omega
      have hb3 : x.natAbs < 10 ^ 246 := by
        have : ((x.natAbs : Nat) : Int) < ((10 ^ 246 : Nat) : Int) := by
          rw [Int.natAbs_of_nonneg (by omega)]
          exact hb2
        omega
      walk_at "go"
      walk_at "draw"
      intro d H4 d0 d1 t4 g4
      walk_at "go"
      refine Z.ways (fun c => ?_) (fun c => ?_)
      · walk_at "go"
        exact q _ _ hb3 (t.trans t4) (g4.mono (by omega))
      · walk_at "go"
        refine q _ _ ?_ (t.trans t4) (g4.mono (by omega))
        rw [Int.zero_sub, Int.natAbs_neg]
        exact hb3
theorem k_law_number {b : Addr} {n : Nat} {H : Hp} {Q : VK} {E : XK} (bg : Bag H b n) (hn : n < 1073741000) (q : ∀ (i : Int) (H' : Hp), i.natAbs < 10 ^ 246 → Z.But b H H' → Bag H' b (n + 60) → Q (.int i) H') :
    sp_law_number ([.ref b] ++ []) H Q E := ⟨b, n, rfl, bg, hn, q⟩
theorem sc_law_word : FnScope ["_law_bag_here", "_law_word_here", "_law_turn"] ["_law_bag_here"] (defScope s_law_word) := ⟨rfl, rfl, rfl, by decide +kernel, rfl, by decide +kernel, by decide +kernel⟩
def sp_law_word : Sp := fun vs H Q _ => ∃ (b : Addr) (n : Nat), vs = [.ref b] ∧ Bag H b n ∧ n < 1073741000 ∧ ∀ (x : Str) (H' : Hp), Word x → Z.But b H H' → Bag H' b (n + 60) → Q (.str x) H'
theorem ok_law_word (T : Top K mg) : FnOk P w K mg base CX0 2 T.f_law_word T.fd_law_word ["_law_bag_here"] sp_law_word := by
  refine T.F_law_word.ok sc_law_word (fun vs H Q E h => ?_) (fun cdv A outer s H vs Q E hr h => ?_)
  · obtain ⟨b, n, rfl, _⟩ := h
    rfl
  · obtain ⟨b, n, rfl, hb, hn, q⟩ := h
    refine ⟨_, pss_cons (ps_if (pt_cmpR op_eq (pe_call (ok_law_draw T) (hr.mono (by decide)) (by rfl) T.mg_law_draw T.F_law_draw.kp T.B_law_draw .nil pass0 (pa_cons (pv 0) (pa_cons (pe_int) (pa_nil)))) (pe_int) (nomark _)) (pss_one (ps_ret (pe_ix ix_seq (pe_lst (pa_cons (pe_str) (pa_cons (pe_str) (pa_cons (pe_str) (pa_cons (pe_str) (pa_nil)))))) (pe_call (ok_law_draw T) (hr.mono (by decide)) (by rfl) T.mg_law_draw T.F_law_draw.kp T.B_law_draw .nil pass0 (pa_cons (pv 0) (pa_cons (pe_int) (pa_nil)))) (fun _ _ => rfl)))) (pss_nil)) (pss_cons (ps_set (i := 1) sc_law_word.nd rfl (.inl rfl) (pe_str)) (pss_cons (ps_for PassesOwn.never rfl (pi_range1 (by rfl) T.z_range (pa_cons (pe_op op_add (pe_int) (pe_call (ok_law_draw T) (hr.mono (by decide)) (by rfl) T.mg_law_draw T.F_law_draw.kp T.B_law_draw .nil pass0 (pa_cons (pv 0) (pa_cons (pe_int) (pa_nil))))) (pa_nil))) (pg_name (i := 2) sc_law_word.nd rfl (.inl rfl)) (pss_one (ps_set (i := 1) sc_law_word.nd rfl (.inl rfl) (pe_op Z.o_addS (pv 1) (pe_ix ix_seq (pe_str) (pe_call (ok_law_draw T) (hr.mono (by decide)) (by rfl) T.mg_law_draw T.F_law_draw.kp T.B_law_draw .nil pass0 (pa_cons (pv 0) (pa_cons (pe_int) (pa_nil)))) (fun _ _ => rfl)))))) (pss_one (ps_ret (pv 1))))), ?_⟩
    refine Z.r_start (σ' := [some (.ref b), none, none]) rfl ?_
    walk_at "go"
    walk_at "draw"
    intro r H1 r0 r1 t1 g1
    walk_at "go"
    refine Z.ways (fun c => ?_) (fun c => ?_)
    · walk_at "go"
      intro p H2 np s1 hp
      have nb : p ≠ b := fun e => by
        obtain ⟨_, _, _, hb1, _⟩ := g1
        rw [e, hb1] at np; cases np
      walk_at "go"
      walk_at "draw"
      intro r2 H3 r20 r21 t2 g2
      have fin : ∀ x, Word x → Q (.str x) H3 := fun x hx => q x H3 hx ((t1.trans (Z.But.same s1)).trans t2) (g2.mono (by omega))
      rcases (show r2 = 0 ∨ r2 = 1 ∨ r2 = 2 ∨ r2 = 3 by omega) with rfl | rfl | rfl | rfl
      all_goals
        walk_at "go"
        exact fin _ ⟨by decide +kernel, by decide +kernel, by decide +kernel⟩
    walk_at "go"
    walk_at "draw"
    intro j H2 j0 j1 t2 g2
    walk_at "go"
    refine Z.r_rng (by omega) (by omega) (fun i σ' H' => ∃ (x : Str) (v : Option V), σ' = [some (.ref b), some (.str x), v] ∧ Wd i x ∧ Z.But b H H' ∧ Bag H' b (n + 2 + i)) ?_ ?_ ?_
    · exact ⟨_, _, rfl, ⟨rfl, by decide +kernel⟩, t1.trans t2, g2⟩
    · rintro i σ' H' hi ⟨x, v, rfl, hx, t, gb⟩
      walk_at "go"
      walk_at "draw"
      intro d H3 d0 d1 t3 g3
      obtain ⟨k, rfl⟩ := Int.eq_ofNat_of_zero_le d0
      obtain ⟨c, hc, c0, c1⟩ := Z.letters (n := k) (by omega)
      refine Z.r_ixS (by decide +kernel) (atI_nat hc) ?_
      refine Z.r_addS (Z.szle ?_) ?_
      · have := hx.1
        show x.length + 1 ≤ 1000
        omega
      walk_at "go"
      exact ⟨_, _, rfl, hx.add c0 c1, t.trans t3, g3⟩
    · rintro σ' H' ⟨x, v, rfl, hx, t, gb⟩
      walk_at "go"
      exact q x H' ⟨by have := hx.1; omega, by have := hx.1; omega, hx.2⟩ t (gb.mono (by omega))
theorem k_law_word {b : Addr} {n : Nat} {H : Hp} {Q : VK} {E : XK} (bg : Bag H b n) (hn : n < 1073741000) (q : ∀ (x : Str) (H' : Hp), Word x → Z.But b H H' → Bag H' b (n + 60) → Q (.str x) H') :
    sp_law_word ([.ref b] ++ []) H Q E := ⟨b, n, rfl, bg, hn, q⟩

theorem sc_is_number : FnScope ["thing"] ["thing"] (defScope s_is_number) := ⟨rfl, rfl, rfl, by decide +kernel, rfl, by decide +kernel, by decide +kernel⟩
def sp_is_number (K : PySem.W.Frag) : Sp := fun vs H Q _ => ∃ (x : V) (t : Value) (bi bb : Bool), vs = [x] ∧ TyX K H x t ∧ PySem.W.kitOne K t (.type "int") = some bi ∧ PySem.W.kitOne K t (.type "bool") = some bb ∧ Q (.bl (bi && !bb)) H
theorem ok_is_number (T : Top K mg) : FnOk P w K mg base CX0 1 T.f_is_number T.fd_is_number ["thing"] (sp_is_number K) := by
  refine T.F_is_number.ok sc_is_number (fun vs H Q E h => ?_) (fun cdv A outer s H vs Q E hr h => ?_)
  · obtain ⟨x, t, bi, bb, rfl, _⟩ := h
    rfl
  · obtain ⟨x, t, bi, bb, rfl, ty, ki, kb, q⟩ := h
    refine ⟨_, pss_one (ps_ret (pe_and (pe_callB (Z.c_isi (K := K) rfl) (by rfl) T.z_isinstance (by decide +kernel) (pa_cons (pv 0) (pa_cons (pe_bltn (v := .ty "int") (by rfl) T.z_int (by decide +kernel) rfl) (pa_nil)))) (pe_one (pe_not (pe_callB (Z.c_isi (K := K) rfl) (by rfl) T.z_isinstance (by decide +kernel) (pa_cons (pv 0) (pa_cons (pe_bltn (v := .ty "bool") (by rfl) T.z_bool (by decide +kernel) rfl) (pa_nil)))))))), ?_⟩
    refine Z.r_start (σ' := [some (x)]) rfl ?_
    walk_at "go"
    cases bi with
    | true => walk_at "go"; exact q
    | false => walk_at "go"; exact q
theorem k_is_number {x : V} {t : Value} {bi bb : Bool} {H : Hp} {Q : VK} {E : XK} (ty : TyX K H x t) (ki : PySem.W.kitOne K t (.type "int") = some bi) (kb : PySem.W.kitOne K t (.type "bool") = some bb) (q : Q (.bl (bi && !bb)) H) :
    sp_is_number K ([x] ++ []) H Q E := ⟨x, t, bi, bb, rfl, ty, ki, kb, q⟩
local macro_rules | `(tactic| walk_at "call") => `(tactic| ((with_reducible refine' k_is_number ?ty ?ki ?kb ?_); (case ty => walk_at "ty"); (case ki => walk_at "ki"); (case kb => walk_at "ki")))
theorem sc_Unnumbered___init : FnScope ["self", "name"] ["self", "name"] (defScope s_Unnumbered___init) := ⟨rfl, rfl, rfl, by decide +kernel, rfl, by decide +kernel, by decide +kernel⟩
def sp_Un (C : Addr) : Sp := fun vs H Q _ => ∃ (p dx : Addr) (n : Str), vs = [.ref p, .str n] ∧ H p = some (.ins C dx []) ∧ ∀ H', Z.But p H H' → H' p = some (.ins C dx [("name", .str n)]) → Q .non H'
theorem ok_Unnumbered___init (T : Top K mg) : FnOk P w K mg base CX0 1 T.f_Unnumbered___init T.fd_Unnumbered___init ["self", "name"] (sp_Un T.C_Unnumbered) := by
  refine T.F_Unnumbered___init.ok sc_Unnumbered___init (fun vs H Q E h => ?_) (fun cdv A outer s H vs Q E hr h => ?_)
  · obtain ⟨p, dx, n, rfl, _⟩ := h
    rfl
  · obtain ⟨p, dx, n, rfl, hp, q⟩ := h
    refine ⟨_, pss_one (ps_fld (pv 0) (pv 1) rfl), ?_⟩
    refine Z.r_start (σ' := [some (.ref p), some (.str n)]) rfl ?_
    walk_at "go"
    intro H1 b1 h1
    exact q H1 b1 h1
theorem r_mkUn {C : Addr} {n : Str} {H : Hp} {Q : VK} {E : XK} (h : ∀ x dx H1, H x = none → Same H H1 → H1 x = some (.ins C dx [("name", .str n)]) → Q (.ref x) H1) : Z.mkI C (sp_Un C) [] [.str n] H Q E := by
  intro x dx nx nd ne
  refine ⟨x, dx, n, rfl, upd_same, fun H1 b1 h1 => ⟨rfl, h x dx H1 nx (fun b o e => ?_) h1⟩⟩
  exact b1 _ _ (ne_of_none e nx) (by rw [upd_ne (ne_of_none e nx), upd_ne (ne_of_none e nd)]; exact e)
local macro_rules | `(tactic| walk_at "call") => `(tactic| with_reducible refine r_mkUn ?_)
theorem sc_is_entry : FnScope ["thing"] ["thing"] (defScope s_is_entry) := ⟨rfl, rfl, rfl, by decide +kernel, rfl, by decide +kernel, by decide +kernel⟩
def sp_is_entry (K : PySem.W.Frag) (C : Addr) : Sp := fun vs H Q _ => ∃ (x : V) (t : Value) (bi bb bu : Bool), vs = [x] ∧ TyX K H x t ∧ PySem.W.kitOne K t (.type "int") = some bi ∧ PySem.W.kitOne K t (.type "bool") = some bb ∧ PySem.W.kitOne K t (.ref C) = some bu ∧ Q (.bl ((bi && !bb) || bu)) H
theorem ok_is_entry (T : Top K mg) : FnOk P w K mg base CX0 2 T.f_is_entry T.fd_is_entry ["thing"] (sp_is_entry K T.C_Unnumbered) := by
  refine T.F_is_entry.ok sc_is_entry (fun vs H Q E h => ?_) (fun cdv A outer s H vs Q E hr h => ?_)
  · obtain ⟨x, t, bi, bb, bu, rfl, _⟩ := h
    rfl
  · obtain ⟨x, t, bi, bb, bu, rfl, ty, ki, kb, ku, q⟩ := h
    refine ⟨_, pss_one (ps_ret (pe_or (pe_call (ok_is_number T) (hr.mono (by decide)) (by rfl) T.mg_is_number T.F_is_number.kp T.B_is_number .nil pass0 (pa_cons (pv 0) (pa_nil))) (pe_one (pe_callB (Z.c_isi (K := K) rfl) (by rfl) T.z_isinstance (by decide +kernel) (pa_cons (pv 0) (pa_cons (pe_glob (v := .ref T.C_Unnumbered) (by exact rfl) T.mgC_Unnumbered rfl) (pa_nil))))))), ?_⟩
    refine Z.r_start (σ' := [some (x)]) rfl ?_
    walk_at "go"
    cases bi with
    | true =>
      cases bb with
      | true => walk_at "go"; exact q
      | false => walk_at "go"; exact q
    | false => walk_at "go"; exact q
theorem k_is_entry {K : PySem.W.Frag} {C : Addr} {x : V} {t : Value} {bi bb bu : Bool} {H : Hp} {Q : VK} {E : XK} (ty : TyX K H x t) (ki : PySem.W.kitOne K t (.type "int") = some bi) (kb : PySem.W.kitOne K t (.type "bool") = some bb) (ku : PySem.W.kitOne K t (.ref C) = some bu)
    (q : Q (.bl ((bi && !bb) || bu)) H) : sp_is_entry K C ([x] ++ []) H Q E := ⟨x, t, bi, bb, bu, rfl, ty, ki, kb, ku, q⟩
local macro_rules | `(tactic| walk_at "call") => `(tactic| ((with_reducible refine' k_is_entry ?ty ?ki ?kb ?ku ?_); (case ty => walk_at "ty"); (case ki => walk_at "ki"); (case kb => walk_at "ki"); (case ku => walk_at "ki")))
theorem sc_is_value : FnScope ["thing"] ["thing"] (defScope s_is_value) := ⟨rfl, rfl, rfl, by decide +kernel, rfl, by decide +kernel, by decide +kernel⟩
def sp_is_value (C : Addr) : Sp := fun vs H Q _ => ∃ (x : V) (s : Tag), vs = [x] ∧ Rep C H x s ∧ Q (.bl true) H
theorem ok_is_value (T : Top K mg) : FnOk P w K mg base CX0 3 T.f_is_value T.fd_is_value ["thing"] (sp_is_value T.C_Unnumbered) := by
  refine T.F_is_value.ok sc_is_value (fun vs H Q E h => ?_) (fun cdv A outer s H vs Q E hr h => ?_)
  · obtain ⟨x, s, rfl, _⟩ := h
    rfl
  · obtain ⟨x, s, rfl, hx, q⟩ := h
    refine ⟨_, pss_one (ps_ret (pe_or (pe_cmpR Z.o_isN (pv 0) (pe_non) (nomark _)) (pe_one (pe_call (ok_is_entry T) (hr.mono (by decide)) (by rfl) T.mg_is_entry T.F_is_entry.kp T.B_is_entry .nil pass0 (pa_cons (pv 0) (pa_nil)))))), ?_⟩
    refine Z.r_start (σ' := [some (x)]) rfl ?_
    cases s with
    | non => cases hx; walk_at "go"; exact q
    | num i => cases hx; walk_at "go"; exact q
    | mark n => obtain ⟨a, dx, rfl, ha⟩ := hx; walk_at "go"; exact q
theorem k_is_value {C : Addr} {x : V} {s : Tag} {H : Hp} {Q : VK} {E : XK} (hx : Rep C H x s) (q : Q (.bl true) H) : sp_is_value C ([x] ++ []) H Q E := ⟨x, s, rfl, hx, q⟩
local macro_rules | `(tactic| walk_at "call") => `(tactic| ((with_reducible refine' k_is_value ?hx ?_); (case hx => walk_at "rep")))
theorem sc_Unnumbered___eq : FnScope ["self", "other"] ["self", "other"] (defScope s_Unnumbered___eq) := ⟨rfl, rfl, rfl, by decide +kernel, rfl, by decide +kernel, by decide +kernel⟩
def sp_Un_eq (K : PySem.W.Frag) (C : Addr) : Sp := fun vs H Q _ => ∃ (a dx : Addr) (n : Str) (y : V) (s : Tag), vs = [.ref a, y] ∧ H a = some (.ins C dx [("name", .str n)]) ∧ Rep C H y s ∧ Q (.bl false) H
theorem ok_Unnumbered___eq (T : Top K mg) : FnOk P w K mg base CX0 1 T.f_Unnumbered___eq T.fd_Unnumbered___eq ["self", "other"] (sp_Un_eq K T.C_Unnumbered) := by
  refine T.F_Unnumbered___eq.ok sc_Unnumbered___eq (fun vs H Q E h => ?_) (fun cdv A outer s H vs Q E hr h => ?_)
  · obtain ⟨a, dx, n, y, s, rfl, _⟩ := h
    rfl
  · obtain ⟨a, dx, n, y, s, rfl, ha, hy, q⟩ := h
    refine ⟨_, pss_one (ps_ret (pe_bl)), ?_⟩
    refine Z.r_start (σ' := [some (.ref a), some (y)]) rfl ?_
    cases s with
    | non => cases hy; walk_at "go"; exact q
    | num i => cases hy; walk_at "go"; exact q
    | mark m => obtain ⟨b, dy, rfl, hb⟩ := hy; walk_at "go"; exact q
theorem k_Un_eq {K : PySem.W.Frag} {C a dx : Addr} {n : Str} {y : V} {s : Tag} {H : Hp} {Q : VK} {E : XK} (ha : H a = some (.ins C dx [("name", .str n)])) (hy : Rep C H y s) (q : Q (.bl false) H) : sp_Un_eq K C ([.ref a, y] ++ []) H Q E := ⟨a, dx, n, y, s, rfl, ha, hy, q⟩
local macro_rules | `(tactic| walk_at "call") => `(tactic| ((with_reducible refine' k_Un_eq ?ha ?hy ?_); (case ha => walk_at "hp"); (case hy => walk_at "rep")))
theorem sc_Unnumbered___ne : FnScope ["self", "other"] ["self", "other"] (defScope s_Unnumbered___ne) := ⟨rfl, rfl, rfl, by decide +kernel, rfl, by decide +kernel, by decide +kernel⟩
def sp_Un_ne (K : PySem.W.Frag) (C : Addr) : Sp := fun vs H Q _ => ∃ (a dx : Addr) (n : Str) (y : V) (s : Tag), vs = [.ref a, y] ∧ H a = some (.ins C dx [("name", .str n)]) ∧ Rep C H y s ∧ Q (.bl true) H
theorem ok_Unnumbered___ne (T : Top K mg) : FnOk P w K mg base CX0 1 T.f_Unnumbered___ne T.fd_Unnumbered___ne ["self", "other"] (sp_Un_ne K T.C_Unnumbered) := by
  refine T.F_Unnumbered___ne.ok sc_Unnumbered___ne (fun vs H Q E h => ?_) (fun cdv A outer s H vs Q E hr h => ?_)
  · obtain ⟨a, dx, n, y, s, rfl, _⟩ := h
    rfl
  · obtain ⟨a, dx, n, y, s, rfl, ha, hy, q⟩ := h
    refine ⟨_, pss_one (ps_ret (pe_bl)), ?_⟩
    refine Z.r_start (σ' := [some (.ref a), some (y)]) rfl ?_
    cases s with
    | non => cases hy; walk_at "go"; exact q
    | num i => cases hy; walk_at "go"; exact q
    | mark m => obtain ⟨b, dy, rfl, hb⟩ := hy; walk_at "go"; exact q
theorem k_Un_ne {K : PySem.W.Frag} {C a dx : Addr} {n : Str} {y : V} {s : Tag} {H : Hp} {Q : VK} {E : XK} (ha : H a = some (.ins C dx [("name", .str n)])) (hy : Rep C H y s) (q : Q (.bl true) H) : sp_Un_ne K C ([.ref a, y] ++ []) H Q E := ⟨a, dx, n, y, s, rfl, ha, hy, q⟩
local macro_rules | `(tactic| walk_at "call") => `(tactic| ((with_reducible refine' k_Un_ne ?ha ?hy ?_); (case ha => walk_at "hp"); (case hy => walk_at "rep")))
theorem sc_Unnumbered___lt : FnScope ["self", "other"] ["self", "other"] (defScope s_Unnumbered___lt) := ⟨rfl, rfl, rfl, by decide +kernel, rfl, by decide +kernel, by decide +kernel⟩
def sp_Un_lt (K : PySem.W.Frag) (C : Addr) : Sp := fun vs H Q _ => ∃ (a dx : Addr) (n : Str) (y : V) (s : Tag), vs = [.ref a, y] ∧ H a = some (.ins C dx [("name", .str n)]) ∧ Rep C H y s ∧ Q (.bl false) H
theorem ok_Unnumbered___lt (T : Top K mg) : FnOk P w K mg base CX0 4 T.f_Unnumbered___lt T.fd_Unnumbered___lt ["self", "other"] (sp_Un_lt K T.C_Unnumbered) := by
  refine T.F_Unnumbered___lt.ok sc_Unnumbered___lt (fun vs H Q E h => ?_) (fun cdv A outer s H vs Q E hr h => ?_)
  · obtain ⟨a, dx, n, y, s, rfl, _⟩ := h
    rfl
  · obtain ⟨a, dx, n, y, s, rfl, ha, hy, q⟩ := h
    refine ⟨_, pss_cons (ps_if (pt_not (pt_val (pe_call (ok_is_value T) (hr.mono (by decide)) (by rfl) T.mg_is_value T.F_is_value.kp T.B_is_value .nil pass0 (pa_cons (pv 1) (pa_nil))))) (pss_one (ps_never)) (pss_nil)) (pss_one (ps_ret (pe_bl))), ?_⟩
    refine Z.r_start (σ' := [some (.ref a), some (y)]) rfl ?_
    cases s with
    | non => cases hy; walk_at "go"; exact q
    | num i => cases hy; walk_at "go"; exact q
    | mark m => obtain ⟨b, dy, rfl, hb⟩ := hy; walk_at "go"; exact q
theorem k_Un_lt {K : PySem.W.Frag} {C a dx : Addr} {n : Str} {y : V} {s : Tag} {H : Hp} {Q : VK} {E : XK} (ha : H a = some (.ins C dx [("name", .str n)])) (hy : Rep C H y s) (q : Q (.bl false) H) : sp_Un_lt K C ([.ref a, y] ++ []) H Q E := ⟨a, dx, n, y, s, rfl, ha, hy, q⟩
local macro_rules | `(tactic| walk_at "call") => `(tactic| ((with_reducible refine' k_Un_lt ?ha ?hy ?_); (case ha => walk_at "hp"); (case hy => walk_at "rep")))
theorem sc_Unnumbered___le : FnScope ["self", "other"] ["self", "other"] (defScope s_Unnumbered___le) := ⟨rfl, rfl, rfl, by decide +kernel, rfl, by decide +kernel, by decide +kernel⟩
def sp_Un_le (K : PySem.W.Frag) (C : Addr) : Sp := fun vs H Q _ => ∃ (a dx : Addr) (n : Str) (y : V) (s : Tag), vs = [.ref a, y] ∧ H a = some (.ins C dx [("name", .str n)]) ∧ Rep C H y s ∧ Q (.bl false) H
theorem ok_Unnumbered___le (T : Top K mg) : FnOk P w K mg base CX0 4 T.f_Unnumbered___le T.fd_Unnumbered___le ["self", "other"] (sp_Un_le K T.C_Unnumbered) := by
  refine T.F_Unnumbered___le.ok sc_Unnumbered___le (fun vs H Q E h => ?_) (fun cdv A outer s H vs Q E hr h => ?_)
  · obtain ⟨a, dx, n, y, s, rfl, _⟩ := h
    rfl
  · obtain ⟨a, dx, n, y, s, rfl, ha, hy, q⟩ := h
    refine ⟨_, pss_cons (ps_if (pt_not (pt_val (pe_call (ok_is_value T) (hr.mono (by decide)) (by rfl) T.mg_is_value T.F_is_value.kp T.B_is_value .nil pass0 (pa_cons (pv 1) (pa_nil))))) (pss_one (ps_never)) (pss_nil)) (pss_one (ps_ret (pe_bl))), ?_⟩
    refine Z.r_start (σ' := [some (.ref a), some (y)]) rfl ?_
    cases s with
    | non => cases hy; walk_at "go"; exact q
    | num i => cases hy; walk_at "go"; exact q
    | mark m => obtain ⟨b, dy, rfl, hb⟩ := hy; walk_at "go"; exact q
theorem k_Un_le {K : PySem.W.Frag} {C a dx : Addr} {n : Str} {y : V} {s : Tag} {H : Hp} {Q : VK} {E : XK} (ha : H a = some (.ins C dx [("name", .str n)])) (hy : Rep C H y s) (q : Q (.bl false) H) : sp_Un_le K C ([.ref a, y] ++ []) H Q E := ⟨a, dx, n, y, s, rfl, ha, hy, q⟩
local macro_rules | `(tactic| walk_at "call") => `(tactic| ((with_reducible refine' k_Un_le ?ha ?hy ?_); (case ha => walk_at "hp"); (case hy => walk_at "rep")))
theorem sc_Unnumbered___gt : FnScope ["self", "other"] ["self", "other"] (defScope s_Unnumbered___gt) := ⟨rfl, rfl, rfl, by decide +kernel, rfl, by decide +kernel, by decide +kernel⟩
def sp_Un_gt (K : PySem.W.Frag) (C : Addr) : Sp := fun vs H Q _ => ∃ (a dx : Addr) (n : Str) (y : V) (s : Tag), vs = [.ref a, y] ∧ H a = some (.ins C dx [("name", .str n)]) ∧ Rep C H y s ∧ Q (.bl false) H
theorem ok_Unnumbered___gt (T : Top K mg) : FnOk P w K mg base CX0 4 T.f_Unnumbered___gt T.fd_Unnumbered___gt ["self", "other"] (sp_Un_gt K T.C_Unnumbered) := by
  refine T.F_Unnumbered___gt.ok sc_Unnumbered___gt (fun vs H Q E h => ?_) (fun cdv A outer s H vs Q E hr h => ?_)
  · obtain ⟨a, dx, n, y, s, rfl, _⟩ := h
    rfl
  · obtain ⟨a, dx, n, y, s, rfl, ha, hy, q⟩ := h
    refine ⟨_, pss_cons (ps_if (pt_not (pt_val (pe_call (ok_is_value T) (hr.mono (by decide)) (by rfl) T.mg_is_value T.F_is_value.kp T.B_is_value .nil pass0 (pa_cons (pv 1) (pa_nil))))) (pss_one (ps_never)) (pss_nil)) (pss_one (ps_ret (pe_bl))), ?_⟩
    refine Z.r_start (σ' := [some (.ref a), some (y)]) rfl ?_
    cases s with
    | non => cases hy; walk_at "go"; exact q
    | num i => cases hy; walk_at "go"; exact q
    | mark m => obtain ⟨b, dy, rfl, hb⟩ := hy; walk_at "go"; exact q
theorem k_Un_gt {K : PySem.W.Frag} {C a dx : Addr} {n : Str} {y : V} {s : Tag} {H : Hp} {Q : VK} {E : XK} (ha : H a = some (.ins C dx [("name", .str n)])) (hy : Rep C H y s) (q : Q (.bl false) H) : sp_Un_gt K C ([.ref a, y] ++ []) H Q E := ⟨a, dx, n, y, s, rfl, ha, hy, q⟩
local macro_rules | `(tactic| walk_at "call") => `(tactic| ((with_reducible refine' k_Un_gt ?ha ?hy ?_); (case ha => walk_at "hp"); (case hy => walk_at "rep")))
theorem sc_Unnumbered___ge : FnScope ["self", "other"] ["self", "other"] (defScope s_Unnumbered___ge) := ⟨rfl, rfl, rfl, by decide +kernel, rfl, by decide +kernel, by decide +kernel⟩
def sp_Un_ge (K : PySem.W.Frag) (C : Addr) : Sp := fun vs H Q _ => ∃ (a dx : Addr) (n : Str) (y : V) (s : Tag), vs = [.ref a, y] ∧ H a = some (.ins C dx [("name", .str n)]) ∧ Rep C H y s ∧ Q (.bl false) H
theorem ok_Unnumbered___ge (T : Top K mg) : FnOk P w K mg base CX0 4 T.f_Unnumbered___ge T.fd_Unnumbered___ge ["self", "other"] (sp_Un_ge K T.C_Unnumbered) := by
  refine T.F_Unnumbered___ge.ok sc_Unnumbered___ge (fun vs H Q E h => ?_) (fun cdv A outer s H vs Q E hr h => ?_)
  · obtain ⟨a, dx, n, y, s, rfl, _⟩ := h
    rfl
  · obtain ⟨a, dx, n, y, s, rfl, ha, hy, q⟩ := h
    refine ⟨_, pss_cons (ps_if (pt_not (pt_val (pe_call (ok_is_value T) (hr.mono (by decide)) (by rfl) T.mg_is_value T.F_is_value.kp T.B_is_value .nil pass0 (pa_cons (pv 1) (pa_nil))))) (pss_one (ps_never)) (pss_nil)) (pss_one (ps_ret (pe_bl))), ?_⟩
    refine Z.r_start (σ' := [some (.ref a), some (y)]) rfl ?_
    cases s with
    | non => cases hy; walk_at "go"; exact q
    | num i => cases hy; walk_at "go"; exact q
    | mark m => obtain ⟨b, dy, rfl, hb⟩ := hy; walk_at "go"; exact q
theorem k_Un_ge {K : PySem.W.Frag} {C a dx : Addr} {n : Str} {y : V} {s : Tag} {H : Hp} {Q : VK} {E : XK} (ha : H a = some (.ins C dx [("name", .str n)])) (hy : Rep C H y s) (q : Q (.bl false) H) : sp_Un_ge K C ([.ref a, y] ++ []) H Q E := ⟨a, dx, n, y, s, rfl, ha, hy, q⟩
local macro_rules | `(tactic| walk_at "call") => `(tactic| ((with_reducible refine' k_Un_ge ?ha ?hy ?_); (case ha => walk_at "hp"); (case hy => walk_at "rep")))
theorem sc_Unnumbered___add : FnScope ["self", "other"] ["self", "other"] (defScope s_Unnumbered___add) := ⟨rfl, rfl, rfl, by decide +kernel, rfl, by decide +kernel, by decide +kernel⟩
def sp_Un_add (C : Addr) : Sp := fun vs H Q _ => ∃ (a dx : Addr) (n : Str) (y : V), vs = [.ref a, y] ∧ H a = some (.ins C dx [("name", .str n)]) ∧ EntV C H y ∧ ∀ p dp H', H p = none → Same H H' → H' p = some (.ins C dp [("name", .str n)]) → Q (.ref p) H'
theorem ok_Unnumbered___add (T : Top K mg) : FnOk P w K mg base CX0 3 T.f_Unnumbered___add T.fd_Unnumbered___add ["self", "other"] (sp_Un_add T.C_Unnumbered) := by
  refine T.F_Unnumbered___add.ok sc_Unnumbered___add (fun vs H Q E h => ?_) (fun cdv A outer s H vs Q E hr h => ?_)
  · obtain ⟨a, dx, n, y, rfl, _⟩ := h
    rfl
  · obtain ⟨a, dx, n, y, rfl, ha, hy, q⟩ := h
    refine ⟨_, pss_cons (ps_if (pt_not (pt_val (pe_call (ok_is_entry T) (hr.mono (by decide)) (by rfl) T.mg_is_entry T.F_is_entry.kp T.B_is_entry .nil pass0 (pa_cons (pv 1) (pa_nil))))) (pss_one (ps_never)) (pss_nil)) (pss_one (ps_ret (pe_make T.mk_Unnumbered (ok_Unnumbered___init T) (hr.mono (by decide)) (by rfl) T.mgC_Unnumbered T.B_Unnumbered___init .nil pass0 (pa_cons (pe_fld (pv 0) rfl) (pa_nil))))), ?_⟩
    refine Z.r_start (σ' := [some (.ref a), some (y)]) rfl ?_
    rcases hy with ⟨i, rfl⟩ | ⟨b, dy, m, rfl, hb⟩
    · walk_at "go"
      intro p dp H1 np s1 hp
      exact q p dp H1 np s1 hp
    · walk_at "go"
      intro p dp H1 np s1 hp
      exact q p dp H1 np s1 hp
theorem k_Un_add {C a dx : Addr} {n : Str} {y : V} {H : Hp} {Q : VK} {E : XK} (ha : H a = some (.ins C dx [("name", .str n)])) (hy : EntV C H y) (q : ∀ p dp H', H p = none → Same H H' → H' p = some (.ins C dp [("name", .str n)]) → Q (.ref p) H') :
    sp_Un_add C ([.ref a, y] ++ []) H Q E := ⟨a, dx, n, y, rfl, ha, hy, q⟩
local macro_rules | `(tactic| walk_at "call") => `(tactic| ((with_reducible refine' k_Un_add ?ha ?hy ?_); (case ha => walk_at "hp"); (case hy => walk_at "ent")))
theorem sc_Unnumbered___radd : FnScope ["self", "other"] ["self", "other"] (defScope s_Unnumbered___radd) := ⟨rfl, rfl, rfl, by decide +kernel, rfl, by decide +kernel, by decide +kernel⟩
def sp_Un_radd (C : Addr) : Sp := fun vs H Q _ => ∃ (a dx : Addr) (n : Str) (y : V), vs = [.ref a, y] ∧ H a = some (.ins C dx [("name", .str n)]) ∧ EntV C H y ∧ ∀ p dp H', H p = none → Same H H' → H' p = some (.ins C dp [("name", .str n)]) → Q (.ref p) H'
theorem ok_Unnumbered___radd (T : Top K mg) : FnOk P w K mg base CX0 3 T.f_Unnumbered___radd T.fd_Unnumbered___radd ["self", "other"] (sp_Un_radd T.C_Unnumbered) := by
  refine T.F_Unnumbered___radd.ok sc_Unnumbered___radd (fun vs H Q E h => ?_) (fun cdv A outer s H vs Q E hr h => ?_)
  · obtain ⟨a, dx, n, y, rfl, _⟩ := h
    rfl
  · obtain ⟨a, dx, n, y, rfl, ha, hy, q⟩ := h
    refine ⟨_, pss_cons (ps_if (pt_not (pt_val (pe_call (ok_is_entry T) (hr.mono (by decide)) (by rfl) T.mg_is_entry T.F_is_entry.kp T.B_is_entry .nil pass0 (pa_cons (pv 1) (pa_nil))))) (pss_one (ps_never)) (pss_nil)) (pss_one (ps_ret (pe_make T.mk_Unnumbered (ok_Unnumbered___init T) (hr.mono (by decide)) (by rfl) T.mgC_Unnumbered T.B_Unnumbered___init .nil pass0 (pa_cons (pe_fld (pv 0) rfl) (pa_nil))))), ?_⟩
    refine Z.r_start (σ' := [some (.ref a), some (y)]) rfl ?_
    rcases hy with ⟨i, rfl⟩ | ⟨b, dy, m, rfl, hb⟩
    · walk_at "go"
      intro p dp H1 np s1 hp
      exact q p dp H1 np s1 hp
    · walk_at "go"
      intro p dp H1 np s1 hp
      exact q p dp H1 np s1 hp
theorem k_Un_radd {C a dx : Addr} {n : Str} {y : V} {H : Hp} {Q : VK} {E : XK} (ha : H a = some (.ins C dx [("name", .str n)])) (hy : EntV C H y) (q : ∀ p dp H', H p = none → Same H H' → H' p = some (.ins C dp [("name", .str n)]) → Q (.ref p) H') :
    sp_Un_radd C ([.ref a, y] ++ []) H Q E := ⟨a, dx, n, y, rfl, ha, hy, q⟩
local macro_rules | `(tactic| walk_at "call") => `(tactic| ((with_reducible refine' k_Un_radd ?ha ?hy ?_); (case ha => walk_at "hp"); (case hy => walk_at "ent")))
theorem sc_Unnumbered___sub : FnScope ["self", "other"] ["self", "other"] (defScope s_Unnumbered___sub) := ⟨rfl, rfl, rfl, by decide +kernel, rfl, by decide +kernel, by decide +kernel⟩
def sp_Un_sub (C : Addr) : Sp := fun vs H Q _ => ∃ (a dx : Addr) (n : Str) (y : V), vs = [.ref a, y] ∧ H a = some (.ins C dx [("name", .str n)]) ∧ EntV C H y ∧ ∀ p dp H', H p = none → Same H H' → H' p = some (.ins C dp [("name", .str n)]) → Q (.ref p) H'
theorem ok_Unnumbered___sub (T : Top K mg) : FnOk P w K mg base CX0 3 T.f_Unnumbered___sub T.fd_Unnumbered___sub ["self", "other"] (sp_Un_sub T.C_Unnumbered) := by
  refine T.F_Unnumbered___sub.ok sc_Unnumbered___sub (fun vs H Q E h => ?_) (fun cdv A outer s H vs Q E hr h => ?_)
  · obtain ⟨a, dx, n, y, rfl, _⟩ := h
    rfl
  · obtain ⟨a, dx, n, y, rfl, ha, hy, q⟩ := h
    refine ⟨_, pss_cons (ps_if (pt_not (pt_val (pe_call (ok_is_entry T) (hr.mono (by decide)) (by rfl) T.mg_is_entry T.F_is_entry.kp T.B_is_entry .nil pass0 (pa_cons (pv 1) (pa_nil))))) (pss_one (ps_never)) (pss_nil)) (pss_one (ps_ret (pe_make T.mk_Unnumbered (ok_Unnumbered___init T) (hr.mono (by decide)) (by rfl) T.mgC_Unnumbered T.B_Unnumbered___init .nil pass0 (pa_cons (pe_fld (pv 0) rfl) (pa_nil))))), ?_⟩
    refine Z.r_start (σ' := [some (.ref a), some (y)]) rfl ?_
    rcases hy with ⟨i, rfl⟩ | ⟨b, dy, m, rfl, hb⟩
    · walk_at "go"
      intro p dp H1 np s1 hp
      exact q p dp H1 np s1 hp
    · walk_at "go"
      intro p dp H1 np s1 hp
      exact q p dp H1 np s1 hp
theorem k_Un_sub {C a dx : Addr} {n : Str} {y : V} {H : Hp} {Q : VK} {E : XK} (ha : H a = some (.ins C dx [("name", .str n)])) (hy : EntV C H y) (q : ∀ p dp H', H p = none → Same H H' → H' p = some (.ins C dp [("name", .str n)]) → Q (.ref p) H') :
    sp_Un_sub C ([.ref a, y] ++ []) H Q E := ⟨a, dx, n, y, rfl, ha, hy, q⟩
local macro_rules | `(tactic| walk_at "call") => `(tactic| ((with_reducible refine' k_Un_sub ?ha ?hy ?_); (case ha => walk_at "hp"); (case hy => walk_at "ent")))
theorem sc_Unnumbered___rsub : FnScope ["self", "other"] ["self", "other"] (defScope s_Unnumbered___rsub) := ⟨rfl, rfl, rfl, by decide +kernel, rfl, by decide +kernel, by decide +kernel⟩
def sp_Un_rsub (C : Addr) : Sp := fun vs H Q _ => ∃ (a dx : Addr) (n : Str) (y : V), vs = [.ref a, y] ∧ H a = some (.ins C dx [("name", .str n)]) ∧ EntV C H y ∧ ∀ p dp H', H p = none → Same H H' → H' p = some (.ins C dp [("name", .str n)]) → Q (.ref p) H'
theorem ok_Unnumbered___rsub (T : Top K mg) : FnOk P w K mg base CX0 3 T.f_Unnumbered___rsub T.fd_Unnumbered___rsub ["self", "other"] (sp_Un_rsub T.C_Unnumbered) := by
  refine T.F_Unnumbered___rsub.ok sc_Unnumbered___rsub (fun vs H Q E h => ?_) (fun cdv A outer s H vs Q E hr h => ?_)
  · obtain ⟨a, dx, n, y, rfl, _⟩ := h
    rfl
  · obtain ⟨a, dx, n, y, rfl, ha, hy, q⟩ := h
    refine ⟨_, pss_cons (ps_if (pt_not (pt_val (pe_call (ok_is_entry T) (hr.mono (by decide)) (by rfl) T.mg_is_entry T.F_is_entry.kp T.B_is_entry .nil pass0 (pa_cons (pv 1) (pa_nil))))) (pss_one (ps_never)) (pss_nil)) (pss_one (ps_ret (pe_make T.mk_Unnumbered (ok_Unnumbered___init T) (hr.mono (by decide)) (by rfl) T.mgC_Unnumbered T.B_Unnumbered___init .nil pass0 (pa_cons (pe_fld (pv 0) rfl) (pa_nil))))), ?_⟩
    refine Z.r_start (σ' := [some (.ref a), some (y)]) rfl ?_
    rcases hy with ⟨i, rfl⟩ | ⟨b, dy, m, rfl, hb⟩
    · walk_at "go"
      intro p dp H1 np s1 hp
      exact q p dp H1 np s1 hp
    · walk_at "go"
      intro p dp H1 np s1 hp
      exact q p dp H1 np s1 hp
theorem k_Un_rsub {C a dx : Addr} {n : Str} {y : V} {H : Hp} {Q : VK} {E : XK} (ha : H a = some (.ins C dx [("name", .str n)])) (hy : EntV C H y) (q : ∀ p dp H', H p = none → Same H H' → H' p = some (.ins C dp [("name", .str n)]) → Q (.ref p) H') :
    sp_Un_rsub C ([.ref a, y] ++ []) H Q E := ⟨a, dx, n, y, rfl, ha, hy, q⟩
local macro_rules | `(tactic| walk_at "call") => `(tactic| ((with_reducible refine' k_Un_rsub ?ha ?hy ?_); (case ha => walk_at "hp"); (case hy => walk_at "ent")))
theorem sc_Unnumbered___mul : FnScope ["self", "other"] ["self", "other"] (defScope s_Unnumbered___mul) := ⟨rfl, rfl, rfl, by decide +kernel, rfl, by decide +kernel, by decide +kernel⟩
def sp_Un_mul (C : Addr) : Sp := fun vs H Q _ => ∃ (a dx : Addr) (n : Str) (y : V), vs = [.ref a, y] ∧ H a = some (.ins C dx [("name", .str n)]) ∧ EntV C H y ∧ ∀ p dp H', H p = none → Same H H' → H' p = some (.ins C dp [("name", .str n)]) → Q (.ref p) H'
theorem ok_Unnumbered___mul (T : Top K mg) : FnOk P w K mg base CX0 3 T.f_Unnumbered___mul T.fd_Unnumbered___mul ["self", "other"] (sp_Un_mul T.C_Unnumbered) := by
  refine T.F_Unnumbered___mul.ok sc_Unnumbered___mul (fun vs H Q E h => ?_) (fun cdv A outer s H vs Q E hr h => ?_)
  · obtain ⟨a, dx, n, y, rfl, _⟩ := h
    rfl
  · obtain ⟨a, dx, n, y, rfl, ha, hy, q⟩ := h
    refine ⟨_, pss_cons (ps_if (pt_not (pt_val (pe_call (ok_is_entry T) (hr.mono (by decide)) (by rfl) T.mg_is_entry T.F_is_entry.kp T.B_is_entry .nil pass0 (pa_cons (pv 1) (pa_nil))))) (pss_one (ps_never)) (pss_nil)) (pss_one (ps_ret (pe_make T.mk_Unnumbered (ok_Unnumbered___init T) (hr.mono (by decide)) (by rfl) T.mgC_Unnumbered T.B_Unnumbered___init .nil pass0 (pa_cons (pe_fld (pv 0) rfl) (pa_nil))))), ?_⟩
    refine Z.r_start (σ' := [some (.ref a), some (y)]) rfl ?_
    rcases hy with ⟨i, rfl⟩ | ⟨b, dy, m, rfl, hb⟩
    · walk_at "go"
      intro p dp H1 np s1 hp
      exact q p dp H1 np s1 hp
    · walk_at "go"
      intro p dp H1 np s1 hp
      exact q p dp H1 np s1 hp
theorem k_Un_mul {C a dx : Addr} {n : Str} {y : V} {H : Hp} {Q : VK} {E : XK} (ha : H a = some (.ins C dx [("name", .str n)])) (hy : EntV C H y) (q : ∀ p dp H', H p = none → Same H H' → H' p = some (.ins C dp [("name", .str n)]) → Q (.ref p) H') :
    sp_Un_mul C ([.ref a, y] ++ []) H Q E := ⟨a, dx, n, y, rfl, ha, hy, q⟩
local macro_rules | `(tactic| walk_at "call") => `(tactic| ((with_reducible refine' k_Un_mul ?ha ?hy ?_); (case ha => walk_at "hp"); (case hy => walk_at "ent")))
theorem sc_Unnumbered___rmul : FnScope ["self", "other"] ["self", "other"] (defScope s_Unnumbered___rmul) := ⟨rfl, rfl, rfl, by decide +kernel, rfl, by decide +kernel, by decide +kernel⟩
def sp_Un_rmul (C : Addr) : Sp := fun vs H Q _ => ∃ (a dx : Addr) (n : Str) (y : V), vs = [.ref a, y] ∧ H a = some (.ins C dx [("name", .str n)]) ∧ EntV C H y ∧ ∀ p dp H', H p = none → Same H H' → H' p = some (.ins C dp [("name", .str n)]) → Q (.ref p) H'
theorem ok_Unnumbered___rmul (T : Top K mg) : FnOk P w K mg base CX0 3 T.f_Unnumbered___rmul T.fd_Unnumbered___rmul ["self", "other"] (sp_Un_rmul T.C_Unnumbered) := by
  refine T.F_Unnumbered___rmul.ok sc_Unnumbered___rmul (fun vs H Q E h => ?_) (fun cdv A outer s H vs Q E hr h => ?_)
  · obtain ⟨a, dx, n, y, rfl, _⟩ := h
    rfl
  · obtain ⟨a, dx, n, y, rfl, ha, hy, q⟩ := h
    refine ⟨_, pss_cons (ps_if (pt_not (pt_val (pe_call (ok_is_entry T) (hr.mono (by decide)) (by rfl) T.mg_is_entry T.F_is_entry.kp T.B_is_entry .nil pass0 (pa_cons (pv 1) (pa_nil))))) (pss_one (ps_never)) (pss_nil)) (pss_one (ps_ret (pe_make T.mk_Unnumbered (ok_Unnumbered___init T) (hr.mono (by decide)) (by rfl) T.mgC_Unnumbered T.B_Unnumbered___init .nil pass0 (pa_cons (pe_fld (pv 0) rfl) (pa_nil))))), ?_⟩
    refine Z.r_start (σ' := [some (.ref a), some (y)]) rfl ?_
    rcases hy with ⟨i, rfl⟩ | ⟨b, dy, m, rfl, hb⟩
    · walk_at "go"
      intro p dp H1 np s1 hp
      exact q p dp H1 np s1 hp
    · walk_at "go"
      intro p dp H1 np s1 hp
      exact q p dp H1 np s1 hp
theorem k_Un_rmul {C a dx : Addr} {n : Str} {y : V} {H : Hp} {Q : VK} {E : XK} (ha : H a = some (.ins C dx [("name", .str n)])) (hy : EntV C H y) (q : ∀ p dp H', H p = none → Same H H' → H' p = some (.ins C dp [("name", .str n)]) → Q (.ref p) H') :
    sp_Un_rmul C ([.ref a, y] ++ []) H Q E := ⟨a, dx, n, y, rfl, ha, hy, q⟩
local macro_rules | `(tactic| walk_at "call") => `(tactic| ((with_reducible refine' k_Un_rmul ?ha ?hy ?_); (case ha => walk_at "hp"); (case hy => walk_at "ent")))
theorem sc_Unnumbered___floordiv : FnScope ["self", "other"] ["self", "other"] (defScope s_Unnumbered___floordiv) := ⟨rfl, rfl, rfl, by decide +kernel, rfl, by decide +kernel, by decide +kernel⟩
def sp_Un_floordiv (C : Addr) : Sp := fun vs H Q _ => ∃ (a dx : Addr) (n : Str) (y : V), vs = [.ref a, y] ∧ H a = some (.ins C dx [("name", .str n)]) ∧ EntV C H y ∧ ∀ p dp H', H p = none → Same H H' → H' p = some (.ins C dp [("name", .str n)]) → Q (.ref p) H'
theorem ok_Unnumbered___floordiv (T : Top K mg) : FnOk P w K mg base CX0 3 T.f_Unnumbered___floordiv T.fd_Unnumbered___floordiv ["self", "other"] (sp_Un_floordiv T.C_Unnumbered) := by
  refine T.F_Unnumbered___floordiv.ok sc_Unnumbered___floordiv (fun vs H Q E h => ?_) (fun cdv A outer s H vs Q E hr h => ?_)
  · obtain ⟨a, dx, n, y, rfl, _⟩ := h
    rfl
  · obtain ⟨a, dx, n, y, rfl, ha, hy, q⟩ := h
    refine ⟨_, pss_cons (ps_if (pt_not (pt_val (pe_call (ok_is_entry T) (hr.mono (by decide)) (by rfl) T.mg_is_entry T.F_is_entry.kp T.B_is_entry .nil pass0 (pa_cons (pv 1) (pa_nil))))) (pss_one (ps_never)) (pss_nil)) (pss_one (ps_ret (pe_make T.mk_Unnumbered (ok_Unnumbered___init T) (hr.mono (by decide)) (by rfl) T.mgC_Unnumbered T.B_Unnumbered___init .nil pass0 (pa_cons (pe_fld (pv 0) rfl) (pa_nil))))), ?_⟩
    refine Z.r_start (σ' := [some (.ref a), some (y)]) rfl ?_
    rcases hy with ⟨i, rfl⟩ | ⟨b, dy, m, rfl, hb⟩
    · walk_at "go"
      intro p dp H1 np s1 hp
      exact q p dp H1 np s1 hp
    · walk_at "go"
      intro p dp H1 np s1 hp
      exact q p dp H1 np s1 hp
theorem k_Un_floordiv {C a dx : Addr} {n : Str} {y : V} {H : Hp} {Q : VK} {E : XK} (ha : H a = some (.ins C dx [("name", .str n)])) (hy : EntV C H y) (q : ∀ p dp H', H p = none → Same H H' → H' p = some (.ins C dp [("name", .str n)]) → Q (.ref p) H') :
    sp_Un_floordiv C ([.ref a, y] ++ []) H Q E := ⟨a, dx, n, y, rfl, ha, hy, q⟩
local macro_rules | `(tactic| walk_at "call") => `(tactic| ((with_reducible refine' k_Un_floordiv ?ha ?hy ?_); (case ha => walk_at "hp"); (case hy => walk_at "ent")))
theorem sc_Unnumbered___rfloordiv : FnScope ["self", "other"] ["self", "other"] (defScope s_Unnumbered___rfloordiv) := ⟨rfl, rfl, rfl, by decide +kernel, rfl, by decide +kernel, by decide +kernel⟩
def sp_Un_rfloordiv (C : Addr) : Sp := fun vs H Q _ => ∃ (a dx : Addr) (n : Str) (y : V), vs = [.ref a, y] ∧ H a = some (.ins C dx [("name", .str n)]) ∧ EntV C H y ∧ ∀ p dp H', H p = none → Same H H' → H' p = some (.ins C dp [("name", .str n)]) → Q (.ref p) H'
theorem ok_Unnumbered___rfloordiv (T : Top K mg) : FnOk P w K mg base CX0 3 T.f_Unnumbered___rfloordiv T.fd_Unnumbered___rfloordiv ["self", "other"] (sp_Un_rfloordiv T.C_Unnumbered) := by
  refine T.F_Unnumbered___rfloordiv.ok sc_Unnumbered___rfloordiv (fun vs H Q E h => ?_) (fun cdv A outer s H vs Q E hr h => ?_)
  · obtain ⟨a, dx, n, y, rfl, _⟩ := h
    rfl
  · obtain ⟨a, dx, n, y, rfl, ha, hy, q⟩ := h
    refine ⟨_, pss_cons (ps_if (pt_not (pt_val (pe_call (ok_is_entry T) (hr.mono (by decide)) (by rfl) T.mg_is_entry T.F_is_entry.kp T.B_is_entry .nil pass0 (pa_cons (pv 1) (pa_nil))))) (pss_one (ps_never)) (pss_nil)) (pss_one (ps_ret (pe_make T.mk_Unnumbered (ok_Unnumbered___init T) (hr.mono (by decide)) (by rfl) T.mgC_Unnumbered T.B_Unnumbered___init .nil pass0 (pa_cons (pe_fld (pv 0) rfl) (pa_nil))))), ?_⟩
    refine Z.r_start (σ' := [some (.ref a), some (y)]) rfl ?_
    rcases hy with ⟨i, rfl⟩ | ⟨b, dy, m, rfl, hb⟩
    · walk_at "go"
      intro p dp H1 np s1 hp
      exact q p dp H1 np s1 hp
    · walk_at "go"
      intro p dp H1 np s1 hp
      exact q p dp H1 np s1 hp
theorem k_Un_rfloordiv {C a dx : Addr} {n : Str} {y : V} {H : Hp} {Q : VK} {E : XK} (ha : H a = some (.ins C dx [("name", .str n)])) (hy : EntV C H y) (q : ∀ p dp H', H p = none → Same H H' → H' p = some (.ins C dp [("name", .str n)]) → Q (.ref p) H') :
    sp_Un_rfloordiv C ([.ref a, y] ++ []) H Q E := ⟨a, dx, n, y, rfl, ha, hy, q⟩
local macro_rules | `(tactic| walk_at "call") => `(tactic| ((with_reducible refine' k_Un_rfloordiv ?ha ?hy ?_); (case ha => walk_at "hp"); (case hy => walk_at "ent")))
theorem sc_Unnumbered___mod : FnScope ["self", "other"] ["self", "other"] (defScope s_Unnumbered___mod) := ⟨rfl, rfl, rfl, by decide +kernel, rfl, by decide +kernel, by decide +kernel⟩
def sp_Un_mod (C : Addr) : Sp := fun vs H Q _ => ∃ (a dx : Addr) (n : Str) (y : V), vs = [.ref a, y] ∧ H a = some (.ins C dx [("name", .str n)]) ∧ EntV C H y ∧ ∀ p dp H', H p = none → Same H H' → H' p = some (.ins C dp [("name", .str n)]) → Q (.ref p) H'
theorem ok_Unnumbered___mod (T : Top K mg) : FnOk P w K mg base CX0 3 T.f_Unnumbered___mod T.fd_Unnumbered___mod ["self", "other"] (sp_Un_mod T.C_Unnumbered) := by
  refine T.F_Unnumbered___mod.ok sc_Unnumbered___mod (fun vs H Q E h => ?_) (fun cdv A outer s H vs Q E hr h => ?_)
  · obtain ⟨a, dx, n, y, rfl, _⟩ := h
    rfl
  · obtain ⟨a, dx, n, y, rfl, ha, hy, q⟩ := h
    refine ⟨_, pss_cons (ps_if (pt_not (pt_val (pe_call (ok_is_entry T) (hr.mono (by decide)) (by rfl) T.mg_is_entry T.F_is_entry.kp T.B_is_entry .nil pass0 (pa_cons (pv 1) (pa_nil))))) (pss_one (ps_never)) (pss_nil)) (pss_one (ps_ret (pe_make T.mk_Unnumbered (ok_Unnumbered___init T) (hr.mono (by decide)) (by rfl) T.mgC_Unnumbered T.B_Unnumbered___init .nil pass0 (pa_cons (pe_fld (pv 0) rfl) (pa_nil))))), ?_⟩
    refine Z.r_start (σ' := [some (.ref a), some (y)]) rfl ?_
    rcases hy with ⟨i, rfl⟩ | ⟨b, dy, m, rfl, hb⟩
    · walk_at "go"
      intro p dp H1 np s1 hp
      exact q p dp H1 np s1 hp
    · walk_at "go"
      intro p dp H1 np s1 hp
      exact q p dp H1 np s1 hp
theorem k_Un_mod {C a dx : Addr} {n : Str} {y : V} {H : Hp} {Q : VK} {E : XK} (ha : H a = some (.ins C dx [("name", .str n)])) (hy : EntV C H y) (q : ∀ p dp H', H p = none → Same H H' → H' p = some (.ins C dp [("name", .str n)]) → Q (.ref p) H') :
    sp_Un_mod C ([.ref a, y] ++ []) H Q E := ⟨a, dx, n, y, rfl, ha, hy, q⟩
local macro_rules | `(tactic| walk_at "call") => `(tactic| ((with_reducible refine' k_Un_mod ?ha ?hy ?_); (case ha => walk_at "hp"); (case hy => walk_at "ent")))
theorem sc_Unnumbered___rmod : FnScope ["self", "other"] ["self", "other"] (defScope s_Unnumbered___rmod) := ⟨rfl, rfl, rfl, by decide +kernel, rfl, by decide +kernel, by decide +kernel⟩
def sp_Un_rmod (C : Addr) : Sp := fun vs H Q _ => ∃ (a dx : Addr) (n : Str) (y : V), vs = [.ref a, y] ∧ H a = some (.ins C dx [("name", .str n)]) ∧ EntV C H y ∧ ∀ p dp H', H p = none → Same H H' → H' p = some (.ins C dp [("name", .str n)]) → Q (.ref p) H'
theorem ok_Unnumbered___rmod (T : Top K mg) : FnOk P w K mg base CX0 3 T.f_Unnumbered___rmod T.fd_Unnumbered___rmod ["self", "other"] (sp_Un_rmod T.C_Unnumbered) := by
  refine T.F_Unnumbered___rmod.ok sc_Unnumbered___rmod (fun vs H Q E h => ?_) (fun cdv A outer s H vs Q E hr h => ?_)
  · obtain ⟨a, dx, n, y, rfl, _⟩ := h
    rfl
  · obtain ⟨a, dx, n, y, rfl, ha, hy, q⟩ := h
    refine ⟨_, pss_cons (ps_if (pt_not (pt_val (pe_call (ok_is_entry T) (hr.mono (by decide)) (by rfl) T.mg_is_entry T.F_is_entry.kp T.B_is_entry .nil pass0 (pa_cons (pv 1) (pa_nil))))) (pss_one (ps_never)) (pss_nil)) (pss_one (ps_ret (pe_make T.mk_Unnumbered (ok_Unnumbered___init T) (hr.mono (by decide)) (by rfl) T.mgC_Unnumbered T.B_Unnumbered___init .nil pass0 (pa_cons (pe_fld (pv 0) rfl) (pa_nil))))), ?_⟩
    refine Z.r_start (σ' := [some (.ref a), some (y)]) rfl ?_
    rcases hy with ⟨i, rfl⟩ | ⟨b, dy, m, rfl, hb⟩
    · walk_at "go"
      intro p dp H1 np s1 hp
      exact q p dp H1 np s1 hp
    · walk_at "go"
      intro p dp H1 np s1 hp
      exact q p dp H1 np s1 hp
theorem k_Un_rmod {C a dx : Addr} {n : Str} {y : V} {H : Hp} {Q : VK} {E : XK} (ha : H a = some (.ins C dx [("name", .str n)])) (hy : EntV C H y) (q : ∀ p dp H', H p = none → Same H H' → H' p = some (.ins C dp [("name", .str n)]) → Q (.ref p) H') :
    sp_Un_rmod C ([.ref a, y] ++ []) H Q E := ⟨a, dx, n, y, rfl, ha, hy, q⟩
local macro_rules | `(tactic| walk_at "call") => `(tactic| ((with_reducible refine' k_Un_rmod ?ha ?hy ?_); (case ha => walk_at "hp"); (case hy => walk_at "ent")))
theorem sc_Unnumbered___neg : FnScope ["self"] ["self"] (defScope s_Unnumbered___neg) := ⟨rfl, rfl, rfl, by decide +kernel, rfl, by decide +kernel, by decide +kernel⟩
def sp_Un_neg (C : Addr) : Sp := fun vs H Q _ => ∃ (a dx : Addr) (n : Str), vs = [.ref a] ∧ H a = some (.ins C dx [("name", .str n)]) ∧ ∀ p dp H', H p = none → Same H H' → H' p = some (.ins C dp [("name", .str n)]) → Q (.ref p) H'
theorem ok_Unnumbered___neg (T : Top K mg) : FnOk P w K mg base CX0 3 T.f_Unnumbered___neg T.fd_Unnumbered___neg ["self"] (sp_Un_neg T.C_Unnumbered) := by
  refine T.F_Unnumbered___neg.ok sc_Unnumbered___neg (fun vs H Q E h => ?_) (fun cdv A outer s H vs Q E hr h => ?_)
  · obtain ⟨a, dx, n, rfl, _⟩ := h
    rfl
  · obtain ⟨a, dx, n, rfl, ha, q⟩ := h
    refine ⟨_, pss_one (ps_ret (pe_make T.mk_Unnumbered (ok_Unnumbered___init T) (hr.mono (by decide)) (by rfl) T.mgC_Unnumbered T.B_Unnumbered___init .nil pass0 (pa_cons (pe_fld (pv 0) rfl) (pa_nil)))), ?_⟩
    refine Z.r_start (σ' := [some (.ref a)]) rfl ?_
    walk_at "go"
    intro p dp H1 np s1 hp
    exact q p dp H1 np s1 hp
theorem k_Un_neg {C a dx : Addr} {n : Str} {H : Hp} {Q : VK} {E : XK} (ha : H a = some (.ins C dx [("name", .str n)])) (q : ∀ p dp H', H p = none → Same H H' → H' p = some (.ins C dp [("name", .str n)]) → Q (.ref p) H') :
    sp_Un_neg C ([.ref a] ++ []) H Q E := ⟨a, dx, n, rfl, ha, q⟩
local macro_rules | `(tactic| walk_at "call") => `(tactic| ((with_reducible refine' k_Un_neg ?ha ?_); (case ha => walk_at "hp")))
theorem sc_Unnumbered___pos : FnScope ["self"] ["self"] (defScope s_Unnumbered___pos) := ⟨rfl, rfl, rfl, by decide +kernel, rfl, by decide +kernel, by decide +kernel⟩
def sp_Un_pos (C : Addr) : Sp := fun vs H Q _ => ∃ (a dx : Addr) (n : Str), vs = [.ref a] ∧ H a = some (.ins C dx [("name", .str n)]) ∧ ∀ p dp H', H p = none → Same H H' → H' p = some (.ins C dp [("name", .str n)]) → Q (.ref p) H'
theorem ok_Unnumbered___pos (T : Top K mg) : FnOk P w K mg base CX0 3 T.f_Unnumbered___pos T.fd_Unnumbered___pos ["self"] (sp_Un_pos T.C_Unnumbered) := by
  refine T.F_Unnumbered___pos.ok sc_Unnumbered___pos (fun vs H Q E h => ?_) (fun cdv A outer s H vs Q E hr h => ?_)
  · obtain ⟨a, dx, n, rfl, _⟩ := h
    rfl
  · obtain ⟨a, dx, n, rfl, ha, q⟩ := h
    refine ⟨_, pss_one (ps_ret (pe_make T.mk_Unnumbered (ok_Unnumbered___init T) (hr.mono (by decide)) (by rfl) T.mgC_Unnumbered T.B_Unnumbered___init .nil pass0 (pa_cons (pe_fld (pv 0) rfl) (pa_nil)))), ?_⟩
    refine Z.r_start (σ' := [some (.ref a)]) rfl ?_
    walk_at "go"
    intro p dp H1 np s1 hp
    exact q p dp H1 np s1 hp
theorem k_Un_pos {C a dx : Addr} {n : Str} {H : Hp} {Q : VK} {E : XK} (ha : H a = some (.ins C dx [("name", .str n)])) (q : ∀ p dp H', H p = none → Same H H' → H' p = some (.ins C dp [("name", .str n)]) → Q (.ref p) H') :
    sp_Un_pos C ([.ref a] ++ []) H Q E := ⟨a, dx, n, rfl, ha, q⟩
local macro_rules | `(tactic| walk_at "call") => `(tactic| ((with_reducible refine' k_Un_pos ?ha ?_); (case ha => walk_at "hp")))
theorem sc_Unnumbered___abs : FnScope ["self"] ["self"] (defScope s_Unnumbered___abs) := ⟨rfl, rfl, rfl, by decide +kernel, rfl, by decide +kernel, by decide +kernel⟩
def sp_Un_abs (C : Addr) : Sp := fun vs H Q _ => ∃ (a dx : Addr) (n : Str), vs = [.ref a] ∧ H a = some (.ins C dx [("name", .str n)]) ∧ ∀ p dp H', H p = none → Same H H' → H' p = some (.ins C dp [("name", .str n)]) → Q (.ref p) H'
theorem ok_Unnumbered___abs (T : Top K mg) : FnOk P w K mg base CX0 3 T.f_Unnumbered___abs T.fd_Unnumbered___abs ["self"] (sp_Un_abs T.C_Unnumbered) := by
  refine T.F_Unnumbered___abs.ok sc_Unnumbered___abs (fun vs H Q E h => ?_) (fun cdv A outer s H vs Q E hr h => ?_)
  · obtain ⟨a, dx, n, rfl, _⟩ := h
    rfl
  · obtain ⟨a, dx, n, rfl, ha, q⟩ := h
    refine ⟨_, pss_one (ps_ret (pe_make T.mk_Unnumbered (ok_Unnumbered___init T) (hr.mono (by decide)) (by rfl) T.mgC_Unnumbered T.B_Unnumbered___init .nil pass0 (pa_cons (pe_fld (pv 0) rfl) (pa_nil)))), ?_⟩
    refine Z.r_start (σ' := [some (.ref a)]) rfl ?_
    walk_at "go"
    intro p dp H1 np s1 hp
    exact q p dp H1 np s1 hp
theorem k_Un_abs {C a dx : Addr} {n : Str} {H : Hp} {Q : VK} {E : XK} (ha : H a = some (.ins C dx [("name", .str n)])) (q : ∀ p dp H', H p = none → Same H H' → H' p = some (.ins C dp [("name", .str n)]) → Q (.ref p) H') :
    sp_Un_abs C ([.ref a] ++ []) H Q E := ⟨a, dx, n, rfl, ha, q⟩
local macro_rules | `(tactic| walk_at "call") => `(tactic| ((with_reducible refine' k_Un_abs ?ha ?_); (case ha => walk_at "hp")))

theorem sc_law_new : FnScope ["_law_told", "_law_name", "_law_olds", "_law_old"] ["_law_told", "_law_name", "_law_olds"] (defScope s_law_new) := ⟨rfl, rfl, rfl, by decide +kernel, rfl, by decide +kernel, by decide +kernel⟩
def sp_law_new (C : Addr) : Sp := fun vs H Q _ => ∃ (r dr : Addr) (n : Str) (L : Addr) (xs : List V), vs = [.ref r, .str n, .ref L] ∧ H r = some (.ins C dr [("name", .str n)]) ∧ H L = some (.lst xs) ∧ xs.length ≤ 100 ∧
  (∀ x ∈ xs, ∃ a da m, x = .ref a ∧ H a = some (.ins C da [("name", .str m)]) ∧ a ≠ r) ∧ ∀ H', Same H H' → Q (.bl true) H'
theorem ok_law_new (T : Top K mg) : FnOk P w K mg base CX0 3 T.f_law_new T.fd_law_new ["_law_told", "_law_name", "_law_olds"] (sp_law_new T.C_Unnumbered) := by
  refine T.F_law_new.ok sc_law_new (fun vs H Q E h => ?_) (fun cdv A outer s H vs Q E hr h => ?_)
  · obtain ⟨r, dr, n, L, xs, rfl, _⟩ := h
    rfl
  · obtain ⟨r, dr, n, L, xs, rfl, hr', hL, hlen, hxs, q⟩ := h
    refine ⟨_, pss_cons (ps_if ((pw_or (pt_not (pt_val (pe_callB (Z.c_isi (K := K) rfl) (by rfl) T.z_isinstance (by decide +kernel) (pa_cons (pv 0) (pa_cons (pe_glob (v := .ref T.C_Unnumbered) (by exact rfl) T.mgC_Unnumbered rfl) (pa_nil)))))) (pw_or1 (pt_cmpR op_ne (pe_fld (pv 0) rfl) (pv 1) (nomark _)))).pt) (pss_one (ps_ret (pe_bl))) (pss_nil)) (pss_one (ps_ret (pe_and (pe_not (pe_callB (cr_any rfl) (by rfl) T.z_any (by decide +kernel) (pa_cons (pe_lc (own := [("_law_old", 3)]) (g := gName 3) (tt := tYes) rfl sc_law_new.nd (pi_list (pv 2)) (blkOk_by (own := [("_law_old", 3)]) (N := ["_law_told", "_law_name", "_law_olds", "_law_old"]) (sc := defScope s_law_new) (by decide +kernel)) (fun _ _ _ _ _ => pg_name (i := 3) sc_law_new.nd rfl (.inl rfl)) (fun _ _ _ _ _ => pts_nil) (fun _ _ _ _ _ => pe_cmpR (Z.o_inO (P := P) (w := w) (K := K) (mg := mg) (base := base) (k := 1) rfl rfl rfl rfl rfl (hr.mono (by decide))) (pv 0) (pe_lst (pa_cons (pv 3) (pa_nil))) rfl)) (pa_nil)))) (pe_one (pe_cmpR (Z.o_inO (P := P) (w := w) (K := K) (mg := mg) (base := base) (k := 1) rfl rfl rfl rfl rfl (hr.mono (by decide))) (pv 0) (pe_lst (pa_cons (pv 0) (pa_nil))) rfl))))), ?_⟩
    refine Z.r_start (σ' := [some (.ref r), some (.str n), some (.ref L), none]) rfl ?_
    walk_at "go"
    refine Z.no (by simp) ?_
    walk_at "go"
    refine Z.r_lcL (SqL.of hL) (fun _ => rfl) (fun D i H' => Same H H' ∧ H' D = some (.lst ((List.replicate i false).map V.bl))) ?_ ?_ ?_ ?_
    · intro D H1 nD s1 h1
      exact ⟨s1, h1⟩
    · rintro D i H1 nD ⟨s1, _⟩
      exact SqL.of (s1 _ _ hL)
    · rintro D i x H1 nD hx ⟨s1, hD⟩
      obtain ⟨a, da, m, rfl, ha, ne⟩ := hxs x (List.mem_of_getElem? hx)
      have li : i < xs.length := (List.getElem?_eq_some_iff.mp hx).1
      have ha1 := s1 _ _ ha
      have hr1 := s1 _ _ hr'
      walk_at "go"
      intro l H2 nl s2 hl
      have ha2 := s2 _ _ ha1
      have hr2 := s2 _ _ hr1
      refine Z.r_inO (fun _ => false) hl (fun z hz => ?_) ?_
      · have e := List.mem_singleton.mp hz
        subst e
        refine Z.EqG.own T.me_Unnumbered___eq (ok_Unnumbered___eq T) T.B_Unnumbered___eq ha2 (by walk_at "ty") (by walk_at "nf") (by intro e; cases e; exact ne rfl) ?_
        exact ⟨_, _, _, _, .mark _, rfl, ha2, ⟨_, _, rfl, hr2⟩, rfl, rfl⟩
      · refine Z.r_ap (s2 _ _ hD) (by rw [List.length_map, List.length_replicate]; omega) fun H3 t3 h3 => ?_
        refine ⟨fun b' o h => t3 _ _ (ne_of_none h nD) (s2 _ _ (s1 _ _ h)), ?_⟩
        rw [h3, List.replicate_succ', List.map_append]
        rfl
    · rintro D H1 nD ⟨s1, hD⟩
      walk_at "go"
      refine Z.r_anyB (SqL.of hD) ?_
      rw [show (List.replicate xs.length false).any id = false by simp]
      walk_at "go"
      intro l H2 nl s2 hl
      refine Z.r_inO (fun _ => true) hl (fun z hz => by rw [List.mem_singleton.mp hz]; exact Z.EqG.same) ?_
      exact q _ (s1.trans s2)
theorem k_law_new {C r dr L : Addr} {n : Str} {xs : List V} {H : Hp} {Q : VK} {E : XK} (hr : H r = some (.ins C dr [("name", .str n)])) (hL : H L = some (.lst xs)) (hl : xs.length ≤ 100)
    (hx : ∀ x ∈ xs, ∃ a da m, x = .ref a ∧ H a = some (.ins C da [("name", .str m)]) ∧ a ≠ r) (q : ∀ H', Same H H' → Q (.bl true) H') : sp_law_new C ([.ref r, .str n, .ref L] ++ []) H Q E := ⟨r, dr, n, L, xs, rfl, hr, hL, hl, hx, q⟩
theorem sc_law_row : FnScope ["_law_bag_here", "_law_marks", "_law_found", "_law_turn"] ["_law_bag_here", "_law_marks"] (defScope s_law_row) := ⟨rfl, rfl, rfl, by decide +kernel, rfl, by decide +kernel, by decide +kernel⟩
def sp_law_row : Sp := fun vs H Q _ => ∃ (b L mk ot : Addr) (n : Nat), vs = [.ref b, .ref L] ∧ Bag H b n ∧ n ≤ 1000 ∧ H L = some (.lst [.ref mk, .ref ot]) ∧ L ≠ b ∧
  ∀ D xs H', H D = none → Z.But b H H' → H' D = some (.lst xs) → xs.length ≤ 9 → (∀ x ∈ xs, x = .ref mk ∨ x = .ref ot ∨ ∃ i : Int, x = .int i ∧ i.natAbs < 10 ^ 246) → Q (.ref D) H'
theorem ok_law_row (T : Top K mg) : FnOk P w K mg base CX0 3 T.f_law_row T.fd_law_row ["_law_bag_here", "_law_marks"] sp_law_row := by
  refine T.F_law_row.ok sc_law_row (fun vs H Q E h => ?_) (fun cdv A outer s H vs Q E hr h => ?_)
  · obtain ⟨b, L, mk, ot, n, rfl, _⟩ := h
    rfl
  · obtain ⟨b, L, mk, ot, n, rfl, bg, hn, hL, nLb, q⟩ := h
    refine ⟨_, pss_cons (ps_set (i := 2) sc_law_row.nd rfl (.inl rfl) (pe_lst (pa_nil))) (pss_cons (ps_for PassesOwn.never rfl (pi_range1 (by rfl) T.z_range (pa_cons (pe_op op_add (pe_int) (pe_call (ok_law_draw T) (hr.mono (by decide)) (by rfl) T.mg_law_draw T.F_law_draw.kp T.B_law_draw .nil pass0 (pa_cons (pv 0) (pa_cons (pe_int) (pa_nil))))) (pa_nil))) (pg_name (i := 3) sc_law_row.nd rfl (.inl rfl)) (pss_one (ps_expr (pe_bm PySem.F.plainAttrs_list PySem.F.slot_list_append PySem.F.type_list_append mt_append (pv 2) (pa_cons (pe_ifExp (pt_cmpR op_eq (pe_call (ok_law_draw T) (hr.mono (by decide)) (by rfl) T.mg_law_draw T.F_law_draw.kp T.B_law_draw .nil pass0 (pa_cons (pv 0) (pa_cons (pe_int) (pa_nil)))) (pe_int) (nomark _)) (pe_ix ix_seq (pv 1) (pe_call (ok_law_draw T) (hr.mono (by decide)) (by rfl) T.mg_law_draw T.F_law_draw.kp T.B_law_draw .nil pass0 (pa_cons (pv 0) (pa_cons (pe_int) (pa_nil)))) (fun _ _ => rfl)) (pe_call (ok_law_number T) (hr.mono (by decide)) (by rfl) T.mg_law_number T.F_law_number.kp T.B_law_number .nil pass0 (pa_cons (pv 0) (pa_nil)))) (pa_nil)))))) (pss_one (ps_ret (pv 2)))), ?_⟩
    refine Z.r_start (σ' := [some (.ref b), some (.ref L), none, none]) rfl ?_
    walk_at "go"
    intro D H1 nD s1 hD
    walk_at "go"
    walk_at "draw"
    intro r H2 r0 r1 t2 g2
    walk_at "go"
    have nDb : D ≠ b := bg.ne nD
    refine Z.r_rng (by omega) (by omega) (fun i σ' H' => ∃ (xs : List V) (v : Option V), σ' = [some (.ref b), some (.ref L), some (.ref D), v] ∧ Z.But b H H' ∧ Bag H' b (n + 1 + 70 * i) ∧ H' D = some (.lst xs) ∧ xs.length = i ∧
      H' L = some (.lst [.ref mk, .ref ot]) ∧ ∀ x ∈ xs, x = .ref mk ∨ x = .ref ot ∨ ∃ i : Int, x = .int i ∧ i.natAbs < 10 ^ 246) ?_ ?_ ?_
    · exact ⟨[], _, rfl, (Z.But.same s1).trans t2, g2.mono (by omega), t2 _ _ nDb hD, rfl, t2 _ _ nLb (s1 _ _ hL), (fun x hx => by cases hx)⟩
    · rintro i σ' H3 hi ⟨xs, v, rfl, t, g, hD3, hxl, hL3, hP⟩
      have grow : ∀ (y : V), (y = .ref mk ∨ y = .ref ot ∨ ∃ i : Int, y = .int i ∧ i.natAbs < 10 ^ 246) → ∀ x ∈ xs ++ [y], x = .ref mk ∨ x = .ref ot ∨ ∃ i : Int, x = .int i ∧ i.natAbs < 10 ^ 246 := fun y hy x hx => by
        rcases List.mem_append.mp hx with h | h
        · exact hP x h
        · rw [List.mem_singleton.mp h]; exact hy
      walk_at "go"
      walk_at "draw"
      intro d H4 d0 d1 t4 g4
      have hD4 := t4 _ _ nDb hD3
      have hL4 := t4 _ _ nLb hL3
      walk_at "go"
      refine Z.ways (fun c => ?_) (fun c => ?_)
      · walk_at "go"
        walk_at "draw"
        intro e H5 e0 e1 t5 g5
        have hD5 := t5 _ _ nDb hD4
        have hL5 := t5 _ _ nLb hL4
        have he : e = 0 ∨ e = 1 := by omega
        rcases he with rfl | rfl
        · walk_at "go"
          refine Z.r_app hD5 (by omega) fun H6 t6 h6 => ?_
          walk_at "go"
          exact ⟨_, _, rfl, fun b' o nb h => t6 _ _ (ne_of_none h nD) (t5 _ _ nb (t4 _ _ nb (t _ _ nb h))), (g5.but t6 nDb.symm).mono (by omega), h6, by rw [List.length_append, hxl]; rfl, t6 _ _ (ne_of_none hL nD) hL5, grow _ (.inl rfl)⟩
        · walk_at "go"
          refine Z.r_app hD5 (by omega) fun H6 t6 h6 => ?_
          walk_at "go"
          exact ⟨_, _, rfl, fun b' o nb h => t6 _ _ (ne_of_none h nD) (t5 _ _ nb (t4 _ _ nb (t _ _ nb h))), (g5.but t6 nDb.symm).mono (by omega), h6, by rw [List.length_append, hxl]; rfl, t6 _ _ (ne_of_none hL nD) hL5, grow _ (.inr (.inl rfl))⟩
      · walk_at "go"
        refine k_law_number g4 (by omega) ?_
        intro j H5 hj t5 g5
        have hD5 := t5 _ _ nDb hD4
        have hL5 := t5 _ _ nLb hL4
        walk_at "go"
        refine Z.r_app hD5 (by omega) fun H6 t6 h6 => ?_
        walk_at "go"
        exact ⟨_, _, rfl, fun b' o nb h => t6 _ _ (ne_of_none h nD) (t5 _ _ nb (t4 _ _ nb (t _ _ nb h))), (g5.but t6 nDb.symm).mono (by omega), h6, by rw [List.length_append, hxl]; rfl, t6 _ _ (ne_of_none hL nD) hL5, grow _ (.inr (.inr ⟨_, rfl, hj⟩))⟩
    · rintro σ' H3 ⟨xs, v, rfl, t, g, hD3, hxl, hL3, hP⟩
      walk_at "go"
      exact q _ xs _ nD t hD3 (by omega) hP
theorem k_law_row {b L mk ot : Addr} {n : Nat} {H : Hp} {Q : VK} {E : XK} (bg : Bag H b n) (hn : n ≤ 1000) (hL : H L = some (.lst [.ref mk, .ref ot])) (nLb : L ≠ b)
    (q : ∀ D xs H', H D = none → Z.But b H H' → H' D = some (.lst xs) → xs.length ≤ 9 → (∀ x ∈ xs, x = .ref mk ∨ x = .ref ot ∨ ∃ i : Int, x = .int i ∧ i.natAbs < 10 ^ 246) → Q (.ref D) H') : sp_law_row ([.ref b, .ref L] ++ []) H Q E := ⟨b, L, mk, ot, n, rfl, bg, hn, hL, nLb, q⟩
theorem sc_law_led : FnScope ["_law_row_here", "_law_term", "_law_olds", "_law_total", "_law_less", "_law_product", "_law_first", "_law_plain"] ["_law_row_here"] (defScope s_law_led) := ⟨rfl, rfl, rfl, by decide +kernel, rfl, by decide +kernel, by decide +kernel⟩
def sp_law_led (C : Addr) : Sp := fun vs H Q _ => ∃ (D : Addr) (xs : List V), vs = [.ref D] ∧ H D = some (.lst xs) ∧ xs.length ≤ 9 ∧
  (∀ x ∈ xs, (∃ a da m, x = .ref a ∧ H a = some (.ins C da [("name", .str m)])) ∨ ∃ i : Int, x = .int i ∧ i.natAbs < 10 ^ 246) ∧ ∀ H', Same H H' → Q (.bl true) H'
theorem ok_law_led (T : Top K mg) : FnOk P w K mg base CX0 4 T.f_law_led T.fd_law_led ["_law_row_here"] (sp_law_led T.C_Unnumbered) := by
  refine T.F_law_led.ok sc_law_led (fun vs H Q E h => ?_) (fun cdv A outer s H vs Q E hr h => ?_)
  · obtain ⟨D, xs, rfl, _⟩ := h
    rfl
  · obtain ⟨D, xs, rfl, hD, hlen, hxs, q⟩ := h
    refine ⟨_, pss_cons (ps_asg (pe_tup (pa_cons (pe_int) (pa_cons (pe_int) (pa_cons (pe_int) (pa_nil))))) (pg_tup rfl (pgs_cons (pg_name (i := 3) sc_law_led.nd rfl (.inl rfl)) (pgs_cons (pg_name (i := 4) sc_law_led.nd rfl (.inl rfl)) (pgs_cons (pg_name (i := 5) sc_law_led.nd rfl (.inl rfl)) (pgs_nil)))))) (pss_cons (ps_asg (pe_tup (pa_cons (pe_non) (pa_cons (pe_int) (pa_nil)))) (pg_tup rfl (pgs_cons (pg_name (i := 6) sc_law_led.nd rfl (.inl rfl)) (pgs_cons (pg_name (i := 7) sc_law_led.nd rfl (.inl rfl)) (pgs_nil))))) (pss_cons (ps_for PassesOwn.never rfl (pi_list (pv 0)) (pg_name (i := 1) sc_law_led.nd rfl (.inl rfl)) (pss_cons (ps_aug (i := 3) sc_law_led.nd rfl (.inl rfl) (pv 1) (Z.o_any3 iop_add (Z.o_inpL (op := .Add) T.bf_Unnumbered_add (ok_Unnumbered___add T) (hr.mono (by decide)) T.B_Unnumbered___add) (Z.o_inpR (op := .Add) T.bf_Unnumbered_add PySem.F.slot_int_add PySem.F.entry_int_add PySem.F.args_int_add_2 Z.dec_add PySem.F.fills_int_add PySem.F.noI_int_add (ok_Unnumbered___radd T) (hr.mono (by decide)) T.B_Unnumbered___radd))) (pss_cons (ps_aug (i := 4) sc_law_led.nd rfl (.inl rfl) (pv 1) (Z.o_any3 iop_sub (Z.o_inpL (op := .Sub) T.bf_Unnumbered_sub (ok_Unnumbered___sub T) (hr.mono (by decide)) T.B_Unnumbered___sub) (Z.o_inpR (op := .Sub) T.bf_Unnumbered_sub PySem.F.slot_int_sub PySem.F.entry_int_sub PySem.F.args_int_sub_2 Z.dec_sub PySem.F.fills_int_sub PySem.F.noI_int_sub (ok_Unnumbered___rsub T) (hr.mono (by decide)) T.B_Unnumbered___rsub))) (pss_cons (ps_set (i := 5) sc_law_led.nd rfl (.inl rfl) (pe_ifExp (pt_cmpR op_lt (pe_callB Z.c_len (by rfl) T.z_len (by decide +kernel) (pa_cons (pv 0) (pa_nil))) (pe_int) (nomark _)) (pe_op (Z.o_any3 op_mulW (Z.o_binL (op := .Mult) T.bf_Unnumbered_mul (ok_Unnumbered___mul T) (hr.mono (by decide)) T.B_Unnumbered___mul) (Z.o_binR (op := .Mult) T.bf_Unnumbered_mul PySem.F.slot_int_mul PySem.F.entry_int_mul PySem.F.args_int_mul_2 Z.dec_mul PySem.F.fills_int_mul (ok_Unnumbered___rmul T) (hr.mono (by decide)) T.B_Unnumbered___rmul)) (pv 5) (pv 1)) (pv 5))) (pss_one (ps_if (pt_val (pe_callB (Z.c_isi (K := K) rfl) (by rfl) T.z_isinstance (by decide +kernel) (pa_cons (pv 1) (pa_cons (pe_glob (v := .ref T.C_Unnumbered) (by exact rfl) T.mgC_Unnumbered rfl) (pa_nil))))) (pss_one (ps_set (i := 6) sc_law_led.nd rfl (.inl rfl) (pe_ifExp (pt_cmpR Z.o_isN (pv 6) (pe_non) (nomark _)) (pv 1) (pv 6)))) (pss_one (ps_set (i := 7) sc_law_led.nd rfl (.inl rfl) (pe_op op_add (pv 7) (pv 1)))))))))) (pss_cons (ps_if (pt_cmpR Z.o_isN (pv 6) (pe_non) (nomark _)) (pss_one (ps_ret (pe_and (pe_cmpR op_eq (pv 3) (pv 7) (nomark _)) (pe_one (pe_cmpR op_eq (pv 4) (pe_op op_sub (pe_int) (pv 7)) (nomark _)))))) (pss_nil)) (pss_cons (ps_setLc (i := 2) (own := [("_law_term", 1)]) (g := gName 1) rfl sc_law_led.nd rfl rfl (sw_true rfl rfl rfl (by decide +kernel)) (pi_list (pv 0)) (blkOk_by (own := [("_law_term", 1)]) (N := ["_law_row_here", "_law_term", "_law_olds", "_law_total", "_law_less", "_law_product", "_law_first", "_law_plain"]) (sc := defScope s_law_led) (by decide +kernel)) (fun _ _ _ _ _ => pg_name (i := 1) sc_law_led.nd rfl (.inl rfl)) (fun _ _ _ _ _ => pts_one (pt_val (pe_callB (Z.c_isi (K := K) rfl) (by rfl) T.z_isinstance (by decide +kernel) (pa_cons (pv 1) (pa_cons (pe_glob (v := .ref T.C_Unnumbered) (by exact rfl) T.mgC_Unnumbered rfl) (pa_nil)))))) (fun _ _ _ _ _ => pv 1)) (pss_cons (ps_if ((pw_or (pt_not (pt_val (pe_call (ok_law_new T) (hr.mono (by decide)) (by rfl) T.mg_law_new T.F_law_new.kp T.B_law_new .nil pass0 (pa_cons (pv 3) (pa_cons (pe_fld (pv 6) rfl) (pa_cons (pv 2) (pa_nil))))))) (pw_or1 (pt_not (pt_val (pe_call (ok_law_new T) (hr.mono (by decide)) (by rfl) T.mg_law_new T.F_law_new.kp T.B_law_new .nil pass0 (pa_cons (pv 4) (pa_cons (pe_fld (pv 6) rfl) (pa_cons (pv 2) (pa_nil))))))))).pt) (pss_one (ps_ret (pe_bl))) (pss_nil)) (pss_one (ps_ret (pe_or (pe_cmpR op_ge (pe_callB Z.c_len (by rfl) T.z_len (by decide +kernel) (pa_cons (pv 0) (pa_nil))) (pe_int) (nomark _)) (pe_one (pe_call (ok_law_new T) (hr.mono (by decide)) (by rfl) T.mg_law_new T.F_law_new.kp T.B_law_new .nil pass0 (pa_cons (pv 5) (pa_cons (pe_fld (pv 6) rfl) (pa_cons (pv 2) (pa_nil)))))))))))))), ?_⟩
    refine Z.r_start (σ' := [some (.ref D), none, none, none, none, none, none, none]) rfl ?_
    walk_at "go"
    intro p1 H1 n1 s1 e1
    walk_at "go"
    intro p2 H2 n2 s2 e2
    have s12 := s1.trans s2
    have hD2 := s12 _ _ hD
    walk_at "go"
    refine Z.r_lst_by (SqL.of hD2) (fun i σ' H' => Same H H' ∧ ∃ (vt vl vp vf vq : V) (v1 v2 : Option V), σ' = [some (.ref D), v1, v2, some vt, some vl, some vp, some vf, some vq] ∧ Led T.C_Unnumbered H xs i H' vt vl vp vf vq) ?_ ?_ ?_ ?_
    · exact ⟨s12, _, _, _, _, _, _, _, rfl, .inl ⟨0, 1, rfl, rfl, rfl, rfl, rfl, by decide⟩⟩
    · rintro i σ' H3 ⟨s3, _⟩
      exact SqL.of (s3 _ _ hD)
    · rintro i x σ' H3 hx ⟨s3, vt, vl, vp, vf, vq, v1, v2, rfl, led⟩
      have hi : i < xs.length := (List.getElem?_eq_some_iff.mp hx).1
      have hD3 := s3 _ _ hD
      rcases led with ⟨s, p, rfl, rfl, rfl, rfl, rfl, hp⟩ | ⟨t, l, a, dt, dl, da, n, q', rfl, rfl, rfl, rfl, ht, hl, ha, nt, nl, hp⟩
      · rcases hxs x (List.mem_of_getElem? hx) with ⟨a, da, m, rfl, ha⟩ | ⟨k, rfl, hk⟩
        · have ha3 := s3 _ _ ha
          walk_at "go"
          intro rt drt H4 nt4 s4 ht4
          have ha4 := s4 _ _ ha3
          have hD4 := s4 _ _ hD3
          walk_at "go"
          intro rl drl H5 nl5 s5 hl5
          have ha5 := s5 _ _ ha4
          have hD5 := s5 _ _ hD4
          walk_at "go"
          refine Z.ways (fun c => ?_) (fun c => ?_)
          · walk_at "go"
            intro rp drp H6 np6 s6 hp6
            have ha6 := s6 _ _ ha5
            walk_at "go"
            exact ⟨s3.trans (s4.trans (s5.trans s6)), _, _, _, _, _, _, _, rfl, .inr ⟨rt, rl, a, _, _, _, m, _, rfl, rfl, rfl, rfl, s6 _ _ (s5 _ _ ht4), s6 _ _ hl5, ha, none_of s3 nt4, none_of (s3.trans s4) nl5, fun _ => ⟨rp, _, rfl, hp6, none_of (s3.trans (s4.trans s5)) np6⟩⟩⟩
          · walk_at "go"
            exact ⟨s3.trans (s4.trans s5), _, _, _, _, _, _, _, rfl, .inr ⟨rt, rl, a, _, _, _, m, _, rfl, rfl, rfl, rfl, s5 _ _ ht4, hl5, ha, none_of s3 nt4, none_of (s3.trans s4) nl5, fun h => absurd (show (xs.length : Int) < 3 by omega) c⟩⟩
        · walk_at "go"
          refine Z.ways (fun c => ?_) (fun c => ?_)
          · walk_at "go"
            refine Z.r_I ?_ ?_
            · have h2 : i ≤ 2 := by omega
              have b1 : p.natAbs < 2 ^ 3000 := Nat.lt_of_le_of_lt (Nat.le_trans hp (Nat.pow_le_pow_right (by decide) h2)) (by decide +kernel)
              have b2 : k.natAbs < 2 ^ 3000 := Nat.lt_trans hk (by decide +kernel)
              have c1 := log_lt b1 (by decide)
              have c2 := log_lt b2 (by decide)
              show p.natAbs.log2 + k.natAbs.log2 < 1000000
              omega
            walk_at "go"
            exact ⟨s3, _, _, _, _, _, _, _, rfl, .inl ⟨s + k, p * k, rfl, congrArg V.int (by omega), rfl, rfl, rfl, by rw [Int.natAbs_mul, Nat.pow_succ]; exact Nat.mul_le_mul hp (Nat.le_of_lt hk)⟩⟩
          · walk_at "go"
            exact ⟨s3, _, _, _, _, _, _, _, rfl, .inl ⟨s + k, p, rfl, congrArg V.int (by omega), rfl, rfl, rfl, Nat.le_trans hp (Nat.pow_le_pow_right (by decide) (Nat.le_succ i))⟩⟩
      · have ha3 := s3 _ _ ha
        rcases hxs x (List.mem_of_getElem? hx) with ⟨b, db, m, rfl, hb⟩ | ⟨k, rfl, hk⟩
        · have hb3 := s3 _ _ hb
          walk_at "go"
          intro rt drt H4 nt4 s4 ht4
          have hb4 := s4 _ _ hb3
          have hD4 := s4 _ _ hD3
          have hl4 := s4 _ _ hl
          walk_at "go"
          intro rl drl H5 nl5 s5 hl5
          have hb5 := s5 _ _ hb4
          have hD5 := s5 _ _ hD4
          walk_at "go"
          refine Z.ways (fun c => ?_) (fun c => ?_)
          · obtain ⟨p, dp, rfl, hp', np⟩ := hp (by omega)
            have hp5 := s5 _ _ (s4 _ _ hp')
            walk_at "go"
            intro rp drp H6 np6 s6 hp6
            have hb6 := s6 _ _ hb5
            walk_at "go"
            exact ⟨s3.trans (s4.trans (s5.trans s6)), _, _, _, _, _, _, _, rfl, .inr ⟨rt, rl, a, _, _, _, n, _, rfl, rfl, rfl, rfl, s6 _ _ (s5 _ _ ht4), s6 _ _ hl5, ha, none_of s3 nt4, none_of (s3.trans s4) nl5, fun _ => ⟨rp, _, rfl, hp6, none_of (s3.trans (s4.trans s5)) np6⟩⟩⟩
          · walk_at "go"
            exact ⟨s3.trans (s4.trans s5), _, _, _, _, _, _, _, rfl, .inr ⟨rt, rl, a, _, _, _, n, _, rfl, rfl, rfl, rfl, s5 _ _ ht4, hl5, ha, none_of s3 nt4, none_of (s3.trans s4) nl5, fun h => absurd (show (xs.length : Int) < 3 by omega) c⟩⟩
        · walk_at "go"
          intro rt drt H4 nt4 s4 ht4
          have hD4 := s4 _ _ hD3
          have hl4 := s4 _ _ hl
          walk_at "go"
          intro rl drl H5 nl5 s5 hl5
          have hD5 := s5 _ _ hD4
          walk_at "go"
          refine Z.ways (fun c => ?_) (fun c => ?_)
          · obtain ⟨p, dp, rfl, hp', np⟩ := hp (by omega)
            have hp5 := s5 _ _ (s4 _ _ hp')
            walk_at "go"
            intro rp drp H6 np6 s6 hp6
            walk_at "go"
            exact ⟨s3.trans (s4.trans (s5.trans s6)), _, _, _, _, _, _, _, rfl, .inr ⟨rt, rl, a, _, _, _, n, _, rfl, rfl, rfl, rfl, s6 _ _ (s5 _ _ ht4), s6 _ _ hl5, ha, none_of s3 nt4, none_of (s3.trans s4) nl5, fun _ => ⟨rp, _, rfl, hp6, none_of (s3.trans (s4.trans s5)) np6⟩⟩⟩
          · walk_at "go"
            exact ⟨s3.trans (s4.trans s5), _, _, _, _, _, _, _, rfl, .inr ⟨rt, rl, a, _, _, _, n, _, rfl, rfl, rfl, rfl, s5 _ _ ht4, hl5, ha, none_of s3 nt4, none_of (s3.trans s4) nl5, fun h => absurd (show (xs.length : Int) < 3 by omega) c⟩⟩
    · rintro σ' H3 ⟨s3, vt, vl, vp, vf, vq, v1, v2, rfl, led⟩
      rcases led with ⟨s, p, rfl, rfl, rfl, rfl, rfl, hp⟩ | ⟨t, l, a, dt, dl, da, n, q', rfl, rfl, rfl, rfl, ht, hl, ha, nt, nl, hp⟩
      · walk_at "go"
        refine Z.yes (by simp) ?_
        walk_at "go"
        rw [decide_eq_true rfl]
        exact q _ s3
      · have ha3 := s3 _ _ ha
        have hD3 := s3 _ _ hD
        walk_at "go"
        refine Z.r_lcF (SqL.of hD3) (fun _ => rfl) (fun D' i H' => Same H3 H' ∧ ∃ ys : List V, H' D' = some (.lst ys) ∧ ys.length ≤ i ∧ ∀ y ∈ ys, ∃ a da m, y = .ref a ∧ H a = some (.ins T.C_Unnumbered da [("name", .str m)])) ?_ ?_ ?_ ?_
        · intro D' H4 nD' s4 h4
          exact ⟨s4, [], h4, Nat.le_refl _, fun y hy => by cases hy⟩
        · rintro D' i H4 nD' ⟨s4, _⟩
          exact SqL.of (s4 _ _ hD3)
        · rintro D' i x H4 nD' hx ⟨s4, ys, hD', hyl, hys⟩
          have hi : i < xs.length := (List.getElem?_eq_some_iff.mp hx).1
          rcases hxs x (List.mem_of_getElem? hx) with ⟨b, db, m, rfl, hb⟩ | ⟨k, rfl, hk⟩
          · have hb4 := s4 _ _ (s3 _ _ hb)
            walk_at "go"
            refine Z.r_ap hD' (by omega) fun H5 t5 h5 => ?_
            refine ⟨fun b' o h => t5 _ _ (ne_of_none h nD') (s4 _ _ h), _, h5, by rw [List.length_append]; exact Nat.succ_le_succ hyl, fun y hy => ?_⟩
            rcases List.mem_append.mp hy with h | h
            · exact hys y h
            · rw [List.mem_singleton.mp h]; exact ⟨_, _, _, rfl, hb⟩
          · walk_at "go"
            exact ⟨s4, ys, hD', Nat.le_succ_of_le hyl, hys⟩
        · rintro D' H4 nD' ⟨s4, ys, hD', hyl, hys⟩
          have other : ∀ {H' : Hp} (sm : Same H H') (r : Addr), H r = none → ∀ x ∈ ys, ∃ a da m, x = .ref a ∧ H' a = some (.ins T.C_Unnumbered da [("name", .str m)]) ∧ a ≠ r := fun sm r nr x hx => by
            obtain ⟨c, dc, m, e, hc⟩ := hys x hx
            exact ⟨c, dc, m, e, sm _ _ hc, ne_of_none hc nr⟩
          have s34 := s3.trans s4
          have ht4 := s4 _ _ ht
          have hl4 := s4 _ _ hl
          have ha4 := s4 _ _ ha3
          have hD4 := s4 _ _ hD3
          walk_at "go"
          refine k_law_new ht4 hD' (by omega) (other s34 _ nt) ?_
          intro H5 s5
          have hl5 := s5 _ _ hl4
          have ha5 := s5 _ _ ha4
          have hD5 := s5 _ _ hD4
          have hE5 := s5 _ _ hD'
          walk_at "go"
          refine k_law_new hl5 hE5 (by omega) (other (s34.trans s5) _ nl) ?_
          intro H6 s6
          have ha6 := s6 _ _ ha5
          have hD6 := s6 _ _ hD5
          have hE6 := s6 _ _ hE5
          walk_at "go"
          refine Z.ways (fun c => ?_) (fun c => ?_)
          · exact q _ (s34.trans (s5.trans s6))
          · obtain ⟨p, dp, rfl, hp', np⟩ := hp (by omega)
            have hp6 := s6 _ _ (s5 _ _ (s4 _ _ hp'))
            walk_at "go"
            refine k_law_new hp6 hE6 (by omega) (other (s34.trans (s5.trans s6)) _ np) ?_
            intro H7 s7
            exact q _ (s34.trans (s5.trans (s6.trans s7)))
theorem k_law_led {C D : Addr} {xs : List V} {H : Hp} {Q : VK} {E : XK} (hD : H D = some (.lst xs)) (hl : xs.length ≤ 9)
    (hx : ∀ x ∈ xs, (∃ a da m, x = .ref a ∧ H a = some (.ins C da [("name", .str m)])) ∨ ∃ i : Int, x = .int i ∧ i.natAbs < 10 ^ 246) (q : ∀ H', Same H H' → Q (.bl true) H') : sp_law_led C ([.ref D] ++ []) H Q E := ⟨D, xs, rfl, hD, hl, hx, q⟩
theorem sc_law : FnScope ["_law_script", "_law_at", "_law_bag_here", "_law_told", "_law_number_here", "_law_word_here", "_law_second", "_law_mark", "_law_other", "_law_one", "_law_two", "_law_name"] ["_law_script"] (defScope s_law) := ⟨rfl, rfl, rfl, by decide +kernel, rfl, by decide +kernel, by decide +kernel⟩
def sp_law (K : PySem.W.Frag) : Sp := fun vs H Q _ => ∃ (a : Addr) (ns : List Int), vs = [.ref a] ∧ SqL K H a (ns.map V.int) ∧ ns.length ≤ 63 ∧ ∀ H', Q (.bl true) H'
theorem ok_law (T : Top K mg) : FnOk P w K mg base CX0 5 T.f_law T.fd_law ["_law_script"] (sp_law K) := by
  refine T.F_law.ok sc_law (fun vs H Q E h => ?_) (fun cdv A outer s H vs Q E hr h => ?_)
  · obtain ⟨a, ns, rfl, _⟩ := h
    rfl
  · obtain ⟨a, ns, rfl, hS, hlen, q⟩ := h
    refine ⟨_, pss_cons (ps_for PassesOwn.never rfl (pi_range1 (by rfl) T.z_range (pa_cons (pe_callB (Z.c_max2 rfl) (by rfl) T.z_max (by decide +kernel) (pa_cons (pe_int) (pa_cons (pe_callB (Z.c_min2 rfl) (by rfl) T.z_min (by decide +kernel) (pa_cons (pe_int) (pa_cons (pe_callB Z.c_len (by rfl) T.z_len (by decide +kernel) (pa_cons (pv 0) (pa_nil))) (pa_nil)))) (pa_nil)))) (pa_nil))) (pg_name (i := 1) sc_law.nd rfl (.inl rfl)) (pss_cons (ps_set (i := 2) sc_law.nd rfl (.inl rfl) (pe_call (ok_law_bag T) (hr.mono (by decide)) (by rfl) T.mg_law_bag T.F_law_bag.kp T.B_law_bag .nil pass0 (pa_cons (pv 0) (pa_cons (pv 1) (pa_nil))))) (pss_cons (ps_par3 (i := 4) (j := 5) (l := 6) rfl sc_law.nd rfl rfl rfl (by decide) (by decide) (by decide) rfl rfl rfl (pa_cons (pe_call (ok_law_number T) (hr.mono (by decide)) (by rfl) T.mg_law_number T.F_law_number.kp T.B_law_number .nil pass0 (pa_cons (pv 2) (pa_nil))) (pa_cons (pe_call (ok_law_word T) (hr.mono (by decide)) (by rfl) T.mg_law_word T.F_law_word.kp T.B_law_word .nil pass0 (pa_cons (pv 2) (pa_nil))) (pa_cons (pe_call (ok_law_word T) (hr.mono (by decide)) (by rfl) T.mg_law_word T.F_law_word.kp T.B_law_word .nil pass0 (pa_cons (pv 2) (pa_nil))) (pa_nil)))) (by rfl)) (pss_cons (ps_par (i := 7) (j := 8) rfl sc_law.nd rfl rfl (by decide) rfl rfl (pa_cons (pe_make T.mk_Unnumbered (ok_Unnumbered___init T) (hr.mono (by decide)) (by rfl) T.mgC_Unnumbered T.B_Unnumbered___init .nil pass0 (pa_cons (pv 5) (pa_nil))) (pa_cons (pe_make T.mk_Unnumbered (ok_Unnumbered___init T) (hr.mono (by decide)) (by rfl) T.mgC_Unnumbered T.B_Unnumbered___init .nil pass0 (pa_cons (pv 6) (pa_nil))) (pa_nil))) (by rfl)) (pss_cons (ps_for PassesOwn.never rfl (pi_list (pe_lst (pa_cons (pe_tup (pa_cons (pv 7) (pa_cons (pv 4) (pa_nil)))) (pa_cons (pe_tup (pa_cons (pv 4) (pa_cons (pv 7) (pa_nil)))) (pa_cons (pe_tup (pa_cons (pv 7) (pa_cons (pe_int) (pa_nil)))) (pa_cons (pe_tup (pa_cons (pe_int) (pa_cons (pv 7) (pa_nil)))) (pa_cons (pe_tup (pa_cons (pv 7) (pa_cons (pv 8) (pa_nil)))) (pa_cons (pe_tup (pa_cons (pv 8) (pa_cons (pv 7) (pa_nil)))) (pa_cons (pe_tup (pa_cons (pv 7) (pa_cons (pv 7) (pa_nil)))) (pa_nil)))))))))) (pg_tup rfl (pgs_cons (pg_name (i := 9) sc_law.nd rfl (.inl rfl)) (pgs_cons (pg_name (i := 10) sc_law.nd rfl (.inl rfl)) (pgs_nil)))) (pss_cons (ps_set (i := 11) sc_law.nd rfl (.inl rfl) (pe_ifExp (pt_val (pe_callB (Z.c_isi (K := K) rfl) (by rfl) T.z_isinstance (by decide +kernel) (pa_cons (pv 9) (pa_cons (pe_glob (v := .ref T.C_Unnumbered) (by exact rfl) T.mgC_Unnumbered rfl) (pa_nil))))) (pe_fld (pv 9) rfl) (pe_fld (pv 10) rfl))) (pss_one (ps_for PassesOwn.never rfl (pi_list (pe_lst (pa_cons (pe_op (Z.o_any3 op_add (Z.o_binL (op := .Add) T.bf_Unnumbered_add (ok_Unnumbered___add T) (hr.mono (by decide)) T.B_Unnumbered___add) (Z.o_binR (op := .Add) T.bf_Unnumbered_add PySem.F.slot_int_add PySem.F.entry_int_add PySem.F.args_int_add_2 Z.dec_add PySem.F.fills_int_add (ok_Unnumbered___radd T) (hr.mono (by decide)) T.B_Unnumbered___radd)) (pv 9) (pv 10)) (pa_cons (pe_op (Z.o_any3 op_sub (Z.o_binL (op := .Sub) T.bf_Unnumbered_sub (ok_Unnumbered___sub T) (hr.mono (by decide)) T.B_Unnumbered___sub) (Z.o_binR (op := .Sub) T.bf_Unnumbered_sub PySem.F.slot_int_sub PySem.F.entry_int_sub PySem.F.args_int_sub_2 Z.dec_sub PySem.F.fills_int_sub (ok_Unnumbered___rsub T) (hr.mono (by decide)) T.B_Unnumbered___rsub)) (pv 9) (pv 10)) (pa_cons (pe_op (Z.o_any3 op_mulW (Z.o_binL (op := .Mult) T.bf_Unnumbered_mul (ok_Unnumbered___mul T) (hr.mono (by decide)) T.B_Unnumbered___mul) (Z.o_binR (op := .Mult) T.bf_Unnumbered_mul PySem.F.slot_int_mul PySem.F.entry_int_mul PySem.F.args_int_mul_2 Z.dec_mul PySem.F.fills_int_mul (ok_Unnumbered___rmul T) (hr.mono (by decide)) T.B_Unnumbered___rmul)) (pv 9) (pv 10)) (pa_cons (pe_op (Z.o_any3 op_fdiv (Z.o_binL (op := .FloorDiv) T.bf_Unnumbered_floordiv (ok_Unnumbered___floordiv T) (hr.mono (by decide)) T.B_Unnumbered___floordiv) (Z.o_binR (op := .FloorDiv) T.bf_Unnumbered_floordiv PySem.F.slot_int_floordiv PySem.F.entry_int_floordiv PySem.F.args_int_floordiv_2 Z.dec_floordiv PySem.F.fills_int_floordiv (ok_Unnumbered___rfloordiv T) (hr.mono (by decide)) T.B_Unnumbered___rfloordiv)) (pv 9) (pv 10)) (pa_nil))))))) (pg_name (i := 3) sc_law.nd rfl (.inl rfl)) (pss_one (ps_if (pt_not (pt_val (pe_call (ok_law_new T) (hr.mono (by decide)) (by rfl) T.mg_law_new T.F_law_new.kp T.B_law_new .nil pass0 (pa_cons (pv 3) (pa_cons (pv 11) (pa_cons (pe_lst (pa_cons (pv 7) (pa_cons (pv 8) (pa_nil)))) (pa_nil))))))) (pss_one (ps_ret (pe_bl))) (pss_nil))))))) (pss_cons (ps_for PassesOwn.never rfl (pi_list (pe_lst (pa_cons (pe_un (Z.un_negO T.me_Unnumbered___neg (ok_Unnumbered___neg T) (hr.mono (by decide)) T.B_Unnumbered___neg) (pv 7)) (pa_cons (pe_un (Z.un_posO T.me_Unnumbered___pos (ok_Unnumbered___pos T) (hr.mono (by decide)) T.B_Unnumbered___pos) (pv 7)) (pa_cons (pe_callB (Z.c_absO (k := 3) T.me_Unnumbered___abs (ok_Unnumbered___abs T) (hr.mono (by decide)) T.B_Unnumbered___abs) (by rfl) T.z_abs (by decide +kernel) (pa_cons (pv 7) (pa_nil))) (pa_cons (pe_op (Z.o_any3 op_mod (Z.o_binL (op := .Mod) T.bf_Unnumbered_mod (ok_Unnumbered___mod T) (hr.mono (by decide)) T.B_Unnumbered___mod) (Z.o_binR (op := .Mod) T.bf_Unnumbered_mod PySem.F.slot_int_mod PySem.F.entry_int_mod PySem.F.args_int_mod_2 Z.dec_mod PySem.F.fills_int_mod (ok_Unnumbered___rmod T) (hr.mono (by decide)) T.B_Unnumbered___rmod)) (pe_callTy Z.c_int1 (by rfl) T.z_int (by decide +kernel) (pa_cons (pv 4) (pa_nil))) (pv 7)) (pa_cons (pe_op (Z.o_any3 op_mod (Z.o_binL (op := .Mod) T.bf_Unnumbered_mod (ok_Unnumbered___mod T) (hr.mono (by decide)) T.B_Unnumbered___mod) (Z.o_binR (op := .Mod) T.bf_Unnumbered_mod PySem.F.slot_int_mod PySem.F.entry_int_mod PySem.F.args_int_mod_2 Z.dec_mod PySem.F.fills_int_mod (ok_Unnumbered___rmod T) (hr.mono (by decide)) T.B_Unnumbered___rmod)) (pe_callTy Z.c_int1 (by rfl) T.z_int (by decide +kernel) (pa_cons (pe_int) (pa_nil))) (pv 7)) (pa_nil)))))))) (pg_name (i := 3) sc_law.nd rfl (.inl rfl)) (pss_one (ps_if (pt_not (pt_val (pe_call (ok_law_new T) (hr.mono (by decide)) (by rfl) T.mg_law_new T.F_law_new.kp T.B_law_new .nil pass0 (pa_cons (pv 3) (pa_cons (pv 5) (pa_cons (pe_lst (pa_cons (pv 7) (pa_cons (pv 8) (pa_nil)))) (pa_nil))))))) (pss_one (ps_ret (pe_bl))) (pss_nil)))) (pss_one (ps_if ((pw_or (pt_not (pt_val (pe_call (ok_law_led T) (hr.mono (by decide)) (by rfl) T.mg_law_led T.F_law_led.kp T.B_law_led .nil pass0 (pa_cons (pe_call (ok_law_row T) (hr.mono (by decide)) (by rfl) T.mg_law_row T.F_law_row.kp T.B_law_row .nil pass0 (pa_cons (pv 2) (pa_cons (pe_lst (pa_cons (pv 7) (pa_cons (pv 8) (pa_nil)))) (pa_nil)))) (pa_nil))))) (pw_or (pt_cmpR op_ne (pe_fld (pv 7) rfl) (pv 5) (nomark _)) (pw_or1 (pt_cmpR op_ne (pe_fld (pv 8) rfl) (pv 6) (nomark _))))).pt) (pss_one (ps_ret (pe_bl))) (pss_nil))))))))) (pss_one (ps_ret (pe_bl))), ?_⟩
    refine Z.r_start (σ' := [some (.ref a), none, none, none, none, none, none, none, none, none, none, none]) rfl ?_
    walk_at "go"
    refine Z.r_rng (Z.turns _ 5 (by decide) (by decide)).1 (Z.turns _ 5 (by decide) (by decide)).2 (fun i σ' H' => Same H H' ∧ ∃ v1 v2 v3 v4 v5 v6 v7 v8 v9 v10 v11, σ' = [some (.ref a), v1, v2, v3, v4, v5, v6, v7, v8, v9, v10, v11]) ?_ ?_ ?_
    · exact ⟨Same.refl H, _, _, _, _, _, _, _, _, _, _, _, rfl⟩
    · rintro i σ' H0 hi ⟨s0, v1, v2, v3, v4, v5, v6, v7, v8, v9, v10, v11, rfl⟩
      have hi5 := Int.lt_of_lt_of_le hi (Z.turns_le _ 5 (by decide))
      walk_at "go"
      refine k_law_bag (s0.seq hS) (by omega) ?_
      intro b H1 s1 nb g1
      walk_at "go"
      refine k_law_number g1 (by decide) ?_
      intro j H2 hj t2 g2
      walk_at "go"
      refine k_law_word g2 (by decide) ?_
      intro w1 H3 hw1 t3 g3
      walk_at "go"
      refine k_law_word g3 (by decide) ?_
      intro w2 H4 hw2 t4 g4
      walk_at "go"
      intro mk dmk H5 nmk s5 hmk
      walk_at "go"
      intro ot dot H6 not_ s6 hot
      have hmk6 := s6 _ _ hmk
      walk_at "go"
      intro p1 H7 n1 s7 e1
      walk_at "go"
      intro p2 H8 n2 s8 e2
      walk_at "go"
      intro p3 H9 n3 s9 e3
      walk_at "go"
      intro p4 H10 n4 s10 e4
      walk_at "go"
      intro p5 H11 n5 s11 e5
      walk_at "go"
      intro p6 H12 n6 s12 e6
      walk_at "go"
      intro p7 H13 n7 s13 e7
      walk_at "go"
      intro L H14 nL s14 hL
      have nmb : mk ≠ b := g4.ne nmk
      have nob : ot ≠ b := (g4.same s5).ne not_
      have z7 := s7.trans (s8.trans (s9.trans (s10.trans (s11.trans (s12.trans (s13.trans s14))))))
      have hmk14 := z7 _ _ hmk6
      have hot14 := z7 _ _ hot
      have g14 := g4.same ((s5.trans s6).trans z7)
      have b14 : Z.But b H1 H14 := ((t2.trans t3).trans t4).trans (Z.But.same ((s5.trans s6).trans z7))
      have hxs : ∀ x ∈ [V.ref p1, V.ref p2, V.ref p3, V.ref p4, V.ref p5, V.ref p6, V.ref p7], ∃ (t : Addr) (y z : V), x = .ref t ∧ H14 t = some (.tup [y, z]) ∧
          ((∃ (p : Addr) (dp : Addr) (n : Str), y = .ref p ∧ H14 p = some (.ins T.C_Unnumbered dp [("name", .str n)]) ∧ EntV T.C_Unnumbered H14 z) ∨ (∃ (k : Int) (p : Addr) (dp : Addr) (n : Str), y = .int k ∧ z = .ref p ∧ H14 p = some (.ins T.C_Unnumbered dp [("name", .str n)]))) := by
        have em : EntV T.C_Unnumbered H14 (.ref mk) := ent_ref hmk14
        have eo : EntV T.C_Unnumbered H14 (.ref ot) := ent_ref hot14
        have q7 := s14 _ _ e7
        have q6 := s14 _ _ (s13 _ _ e6)
        have q5 := s14 _ _ (s13 _ _ (s12 _ _ e5))
        have q4 := s14 _ _ (s13 _ _ (s12 _ _ (s11 _ _ e4)))
        have q3 := s14 _ _ (s13 _ _ (s12 _ _ (s11 _ _ (s10 _ _ e3))))
        have q2 := s14 _ _ (s13 _ _ (s12 _ _ (s11 _ _ (s10 _ _ (s9 _ _ e2)))))
        have q1 := s14 _ _ (s13 _ _ (s12 _ _ (s11 _ _ (s10 _ _ (s9 _ _ (s8 _ _ e1))))))
        intro x hx
        rcases List.mem_cons.mp hx with rfl | hx
        · exact ⟨_, _, _, rfl, q1, .inl ⟨_, _, _, rfl, hmk14, ent_int⟩⟩
        rcases List.mem_cons.mp hx with rfl | hx
        · exact ⟨_, _, _, rfl, q2, .inr ⟨_, _, _, _, rfl, rfl, hmk14⟩⟩
        rcases List.mem_cons.mp hx with rfl | hx
        · exact ⟨_, _, _, rfl, q3, .inl ⟨_, _, _, rfl, hmk14, ent_int⟩⟩
        rcases List.mem_cons.mp hx with rfl | hx
        · exact ⟨_, _, _, rfl, q4, .inr ⟨_, _, _, _, rfl, rfl, hmk14⟩⟩
        rcases List.mem_cons.mp hx with rfl | hx
        · exact ⟨_, _, _, rfl, q5, .inl ⟨_, _, _, rfl, hmk14, eo⟩⟩
        rcases List.mem_cons.mp hx with rfl | hx
        · exact ⟨_, _, _, rfl, q6, .inl ⟨_, _, _, rfl, hot14, em⟩⟩
        rcases List.mem_cons.mp hx with rfl | hx
        · exact ⟨_, _, _, rfl, q7, .inl ⟨_, _, _, rfl, hmk14, em⟩⟩
        · cases hx
      clear e1 e2 e3 e4 e5 e6 e7 n1 n2 n3 n4 n5 n6 n7 s7 s8 s9 s10 s11 s12 s13 hmk hot hmk6 s5 s6 nmk not_
      refine Z.r_lst_by (SqL.of hL) (fun i' σ' H' => Same H14 H' ∧ ∃ u3 u9 u10 u11, σ' = [some (.ref a), some (.int i), some (.ref b), u3, some (.int j), some (.str w1), some (.str w2), some (.ref mk), some (.ref ot), u9, u10, u11]) ?_ ?_ ?_ ?_
      · exact ⟨Same.refl _, _, _, _, _, rfl⟩
      · rintro i' σ' H' ⟨s15, _⟩
        exact SqL.of (s15 _ _ hL)
      · rintro i' x σ' H15 hx ⟨s15, u3, u9, u10, u11, rfl⟩
        obtain ⟨t, y, z, rfl, ht, hyz⟩ := hxs x (List.mem_of_getElem? hx)
        have ht15 := s15 _ _ ht
        have hm15 := s15 _ _ hmk14
        have ho15 := s15 _ _ hot14
        rcases hyz with ⟨p, dp, n, rfl, hp, hz⟩ | ⟨k, p, dp, n, rfl, rfl, hp⟩
        · have hp15 := s15 _ _ hp
          rcases hz with ⟨k, rfl⟩ | ⟨c, dc, m, rfl, hc⟩
          · walk_at "go"
            intro r1 d1 H16 nr1 s16 hr1
            have hp16 := s16 _ _ hp15
            have hm16 := s16 _ _ hm15
            have ho16 := s16 _ _ ho15
            walk_at "go"
            intro r2 d2 H17 nr2 s17 hr2
            have hp17 := s17 _ _ hp16
            have hm17 := s17 _ _ hm16
            have ho17 := s17 _ _ ho16
            walk_at "go"
            intro r3 d3 H18 nr3 s18 hr3
            have hp18 := s18 _ _ hp17
            have hm18 := s18 _ _ hm17
            have ho18 := s18 _ _ ho17
            walk_at "go"
            intro r4 d4 H19 nr4 s19 hr4
            have hp19 := s19 _ _ hp18
            have hm19 := s19 _ _ hm18
            have ho19 := s19 _ _ ho18
            walk_at "go"
            intro L2 H20 nL2 s20 hL2
            have hm20 := s20 _ _ hm19
            have ho20 := s20 _ _ ho19
            have hrs : ∀ x ∈ [V.ref r1, V.ref r2, V.ref r3, V.ref r4], ∃ r dr, x = V.ref r ∧ H20 r = some (.ins T.C_Unnumbered dr [("name", .str n)]) ∧ mk ≠ r ∧ ot ≠ r := by
              intro x hx
              rcases List.mem_cons.mp hx with rfl | hx
              · exact ⟨_, _, rfl, s20 _ _ (s19 _ _ (s18 _ _ (s17 _ _ (hr1)))), ne_of_none hm15 nr1, ne_of_none ho15 nr1⟩
              rcases List.mem_cons.mp hx with rfl | hx
              · exact ⟨_, _, rfl, s20 _ _ (s19 _ _ (s18 _ _ (hr2))), ne_of_none hm16 nr2, ne_of_none ho16 nr2⟩
              rcases List.mem_cons.mp hx with rfl | hx
              · exact ⟨_, _, rfl, s20 _ _ (s19 _ _ (hr3)), ne_of_none hm17 nr3, ne_of_none ho17 nr3⟩
              rcases List.mem_cons.mp hx with rfl | hx
              · exact ⟨_, _, rfl, s20 _ _ (hr4), ne_of_none hm18 nr4, ne_of_none ho18 nr4⟩
              · cases hx
            refine Z.r_lst_by (SqL.of hL2) (fun i2 σ' H' => Same H20 H' ∧ ∃ u3, σ' = [some (.ref a), some (.int i), some (.ref b), u3, some (.int j), some (.str w1), some (.str w2), some (.ref mk), some (.ref ot), some (.ref p), some (.int k), some (.str n)]) ?_ ?_ ?_ ?_
            · exact ⟨Same.refl _, _, rfl⟩
            · rintro i2 σ' H' ⟨s30, _⟩
              exact SqL.of (s30 _ _ hL2)
            · rintro i2 x σ' H30 hx2 ⟨s30, u30, rfl⟩
              obtain ⟨r, dr, rfl, hr', nmr, nor⟩ := hrs x (List.mem_of_getElem? hx2)
              have hr30 := s30 _ _ hr'
              have hm30 := s30 _ _ hm20
              have ho30 := s30 _ _ ho20
              walk_at "go"
              intro l H31 nl s31 hl'
              walk_at "go"
              refine k_law_new (s31 _ _ hr30) hl' (Nat.le_of_ble_eq_true rfl) (fun x hx => ?_) ?_
              · rcases List.mem_cons.mp hx with rfl | hx
                · exact ⟨_, _, _, rfl, s31 _ _ hm30, nmr⟩
                rcases List.mem_cons.mp hx with rfl | hx
                · exact ⟨_, _, _, rfl, s31 _ _ ho30, nor⟩
                · cases hx
              intro H32 s32
              walk_at "go"
              exact ⟨s30.trans (s31.trans s32), _, rfl⟩
            · rintro σ' H30 ⟨s30, u30, rfl⟩
              walk_at "go"
              exact ⟨s15.trans (s16.trans (s17.trans (s18.trans (s19.trans (s20.trans s30))))), _, _, _, _, rfl⟩
          · have hc15 := s15 _ _ hc
            walk_at "go"
            intro r1 d1 H16 nr1 s16 hr1
            have hp16 := s16 _ _ hp15
            have hm16 := s16 _ _ hm15
            have ho16 := s16 _ _ ho15
            have hc16 := s16 _ _ hc15
            walk_at "go"
            intro r2 d2 H17 nr2 s17 hr2
            have hp17 := s17 _ _ hp16
            have hm17 := s17 _ _ hm16
            have ho17 := s17 _ _ ho16
            have hc17 := s17 _ _ hc16
            walk_at "go"
            intro r3 d3 H18 nr3 s18 hr3
            have hp18 := s18 _ _ hp17
            have hm18 := s18 _ _ hm17
            have ho18 := s18 _ _ ho17
            have hc18 := s18 _ _ hc17
            walk_at "go"
            intro r4 d4 H19 nr4 s19 hr4
            have hp19 := s19 _ _ hp18
            have hm19 := s19 _ _ hm18
            have ho19 := s19 _ _ ho18
            have hc19 := s19 _ _ hc18
            walk_at "go"
            intro L2 H20 nL2 s20 hL2
            have hm20 := s20 _ _ hm19
            have ho20 := s20 _ _ ho19
            have hrs : ∀ x ∈ [V.ref r1, V.ref r2, V.ref r3, V.ref r4], ∃ r dr, x = V.ref r ∧ H20 r = some (.ins T.C_Unnumbered dr [("name", .str n)]) ∧ mk ≠ r ∧ ot ≠ r := by
              intro x hx
              rcases List.mem_cons.mp hx with rfl | hx
              · exact ⟨_, _, rfl, s20 _ _ (s19 _ _ (s18 _ _ (s17 _ _ (hr1)))), ne_of_none hm15 nr1, ne_of_none ho15 nr1⟩
              rcases List.mem_cons.mp hx with rfl | hx
              · exact ⟨_, _, rfl, s20 _ _ (s19 _ _ (s18 _ _ (hr2))), ne_of_none hm16 nr2, ne_of_none ho16 nr2⟩
              rcases List.mem_cons.mp hx with rfl | hx
              · exact ⟨_, _, rfl, s20 _ _ (s19 _ _ (hr3)), ne_of_none hm17 nr3, ne_of_none ho17 nr3⟩
              rcases List.mem_cons.mp hx with rfl | hx
              · exact ⟨_, _, rfl, s20 _ _ (hr4), ne_of_none hm18 nr4, ne_of_none ho18 nr4⟩
              · cases hx
            refine Z.r_lst_by (SqL.of hL2) (fun i2 σ' H' => Same H20 H' ∧ ∃ u3, σ' = [some (.ref a), some (.int i), some (.ref b), u3, some (.int j), some (.str w1), some (.str w2), some (.ref mk), some (.ref ot), some (.ref p), some (.ref c), some (.str n)]) ?_ ?_ ?_ ?_
            · exact ⟨Same.refl _, _, rfl⟩
            · rintro i2 σ' H' ⟨s30, _⟩
              exact SqL.of (s30 _ _ hL2)
            · rintro i2 x σ' H30 hx2 ⟨s30, u30, rfl⟩
              obtain ⟨r, dr, rfl, hr', nmr, nor⟩ := hrs x (List.mem_of_getElem? hx2)
              have hr30 := s30 _ _ hr'
              have hm30 := s30 _ _ hm20
              have ho30 := s30 _ _ ho20
              walk_at "go"
              intro l H31 nl s31 hl'
              walk_at "go"
              refine k_law_new (s31 _ _ hr30) hl' (Nat.le_of_ble_eq_true rfl) (fun x hx => ?_) ?_
              · rcases List.mem_cons.mp hx with rfl | hx
                · exact ⟨_, _, _, rfl, s31 _ _ hm30, nmr⟩
                rcases List.mem_cons.mp hx with rfl | hx
                · exact ⟨_, _, _, rfl, s31 _ _ ho30, nor⟩
                · cases hx
              intro H32 s32
              walk_at "go"
              exact ⟨s30.trans (s31.trans s32), _, rfl⟩
            · rintro σ' H30 ⟨s30, u30, rfl⟩
              walk_at "go"
              exact ⟨s15.trans (s16.trans (s17.trans (s18.trans (s19.trans (s20.trans s30))))), _, _, _, _, rfl⟩
        · have hp15 := s15 _ _ hp
          walk_at "go"
          intro r1 d1 H16 nr1 s16 hr1
          have hp16 := s16 _ _ hp15
          have hm16 := s16 _ _ hm15
          have ho16 := s16 _ _ ho15
          walk_at "go"
          intro r2 d2 H17 nr2 s17 hr2
          have hp17 := s17 _ _ hp16
          have hm17 := s17 _ _ hm16
          have ho17 := s17 _ _ ho16
          walk_at "go"
          intro r3 d3 H18 nr3 s18 hr3
          have hp18 := s18 _ _ hp17
          have hm18 := s18 _ _ hm17
          have ho18 := s18 _ _ ho17
          walk_at "go"
          intro r4 d4 H19 nr4 s19 hr4
          have hp19 := s19 _ _ hp18
          have hm19 := s19 _ _ hm18
          have ho19 := s19 _ _ ho18
          walk_at "go"
          intro L2 H20 nL2 s20 hL2
          have hm20 := s20 _ _ hm19
          have ho20 := s20 _ _ ho19
          have hrs : ∀ x ∈ [V.ref r1, V.ref r2, V.ref r3, V.ref r4], ∃ r dr, x = V.ref r ∧ H20 r = some (.ins T.C_Unnumbered dr [("name", .str n)]) ∧ mk ≠ r ∧ ot ≠ r := by
            intro x hx
            rcases List.mem_cons.mp hx with rfl | hx
            · exact ⟨_, _, rfl, s20 _ _ (s19 _ _ (s18 _ _ (s17 _ _ (hr1)))), ne_of_none hm15 nr1, ne_of_none ho15 nr1⟩
            rcases List.mem_cons.mp hx with rfl | hx
            · exact ⟨_, _, rfl, s20 _ _ (s19 _ _ (s18 _ _ (hr2))), ne_of_none hm16 nr2, ne_of_none ho16 nr2⟩
            rcases List.mem_cons.mp hx with rfl | hx
            · exact ⟨_, _, rfl, s20 _ _ (s19 _ _ (hr3)), ne_of_none hm17 nr3, ne_of_none ho17 nr3⟩
            rcases List.mem_cons.mp hx with rfl | hx
            · exact ⟨_, _, rfl, s20 _ _ (hr4), ne_of_none hm18 nr4, ne_of_none ho18 nr4⟩
            · cases hx
          refine Z.r_lst_by (SqL.of hL2) (fun i2 σ' H' => Same H20 H' ∧ ∃ u3, σ' = [some (.ref a), some (.int i), some (.ref b), u3, some (.int j), some (.str w1), some (.str w2), some (.ref mk), some (.ref ot), some (.int k), some (.ref p), some (.str n)]) ?_ ?_ ?_ ?_
          · exact ⟨Same.refl _, _, rfl⟩
          · rintro i2 σ' H' ⟨s30, _⟩
            exact SqL.of (s30 _ _ hL2)
          · rintro i2 x σ' H30 hx2 ⟨s30, u30, rfl⟩
            obtain ⟨r, dr, rfl, hr', nmr, nor⟩ := hrs x (List.mem_of_getElem? hx2)
            have hr30 := s30 _ _ hr'
            have hm30 := s30 _ _ hm20
            have ho30 := s30 _ _ ho20
            walk_at "go"
            intro l H31 nl s31 hl'
            walk_at "go"
            refine k_law_new (s31 _ _ hr30) hl' (Nat.le_of_ble_eq_true rfl) (fun x hx => ?_) ?_
            · rcases List.mem_cons.mp hx with rfl | hx
              · exact ⟨_, _, _, rfl, s31 _ _ hm30, nmr⟩
              rcases List.mem_cons.mp hx with rfl | hx
              · exact ⟨_, _, _, rfl, s31 _ _ ho30, nor⟩
              · cases hx
            intro H32 s32
            walk_at "go"
            exact ⟨s30.trans (s31.trans s32), _, rfl⟩
          · rintro σ' H30 ⟨s30, u30, rfl⟩
            walk_at "go"
            exact ⟨s15.trans (s16.trans (s17.trans (s18.trans (s19.trans (s20.trans s30))))), _, _, _, _, rfl⟩
      · rintro σ' H15 ⟨s15, u3, u9, u10, u11, rfl⟩
        have hm15 := s15 _ _ hmk14
        have ho15 := s15 _ _ hot14
        walk_at "go"
        intro r1 d1 H16 nr1 s16 hr1
        have hm16 := s16 _ _ hm15
        have ho16 := s16 _ _ ho15
        walk_at "go"
        intro r2 d2 H17 nr2 s17 hr2
        have hm17 := s17 _ _ hm16
        have ho17 := s17 _ _ ho16
        walk_at "go"
        intro r3 d3 H18 nr3 s18 hr3
        have hm18 := s18 _ _ hm17
        have ho18 := s18 _ _ ho17
        walk_at "go"
        intro r4 d4 H19 nr4 s19 hr4
        have hm19 := s19 _ _ hm18
        have ho19 := s19 _ _ ho18
        walk_at "go"
        intro r5 d5 H20 nr5 s20 hr5
        have hm20 := s20 _ _ hm19
        have ho20 := s20 _ _ ho19
        walk_at "go"
        intro L2 H21 nL2 s21 hL2
        have hm21 := s21 _ _ hm20
        have ho21 := s21 _ _ ho20
        have hrs : ∀ x ∈ [V.ref r1, V.ref r2, V.ref r3, V.ref r4, V.ref r5], ∃ r dr, x = V.ref r ∧ H21 r = some (.ins T.C_Unnumbered dr [("name", .str w1)]) ∧ mk ≠ r ∧ ot ≠ r := by
          intro x hx
          rcases List.mem_cons.mp hx with rfl | hx
          · exact ⟨_, _, rfl, s21 _ _ (s20 _ _ (s19 _ _ (s18 _ _ (s17 _ _ (hr1))))), ne_of_none hm15 nr1, ne_of_none ho15 nr1⟩
          rcases List.mem_cons.mp hx with rfl | hx
          · exact ⟨_, _, rfl, s21 _ _ (s20 _ _ (s19 _ _ (s18 _ _ (hr2)))), ne_of_none hm16 nr2, ne_of_none ho16 nr2⟩
          rcases List.mem_cons.mp hx with rfl | hx
          · exact ⟨_, _, rfl, s21 _ _ (s20 _ _ (s19 _ _ (hr3))), ne_of_none hm17 nr3, ne_of_none ho17 nr3⟩
          rcases List.mem_cons.mp hx with rfl | hx
          · exact ⟨_, _, rfl, s21 _ _ (s20 _ _ (hr4)), ne_of_none hm18 nr4, ne_of_none ho18 nr4⟩
          rcases List.mem_cons.mp hx with rfl | hx
          · exact ⟨_, _, rfl, s21 _ _ (hr5), ne_of_none hm19 nr5, ne_of_none ho19 nr5⟩
          · cases hx
        refine Z.r_lst_by (SqL.of hL2) (fun i2 σ' H' => Same H21 H' ∧ ∃ u3, σ' = [some (.ref a), some (.int i), some (.ref b), u3, some (.int j), some (.str w1), some (.str w2), some (.ref mk), some (.ref ot), u9, u10, u11]) ?_ ?_ ?_ ?_
        · exact ⟨Same.refl _, _, rfl⟩
        · rintro i2 σ' H' ⟨s30, _⟩
          exact SqL.of (s30 _ _ hL2)
        · rintro i2 x σ' H30 hx2 ⟨s30, u30, rfl⟩
          obtain ⟨r, dr, rfl, hr', nmr, nor⟩ := hrs x (List.mem_of_getElem? hx2)
          have hr30 := s30 _ _ hr'
          have hm30 := s30 _ _ hm21
          have ho30 := s30 _ _ ho21
          walk_at "go"
          intro l H31 nl s31 hl'
          walk_at "go"
          refine k_law_new (s31 _ _ hr30) hl' (Nat.le_of_ble_eq_true rfl) (fun x hx => ?_) ?_
          · rcases List.mem_cons.mp hx with rfl | hx
            · exact ⟨_, _, _, rfl, s31 _ _ hm30, nmr⟩
            rcases List.mem_cons.mp hx with rfl | hx
            · exact ⟨_, _, _, rfl, s31 _ _ ho30, nor⟩
            · cases hx
          intro H32 s32
          walk_at "go"
          exact ⟨s30.trans (s31.trans s32), _, rfl⟩
        · rintro σ' H30 ⟨s30, u30, rfl⟩
          have z30 := s15.trans (s16.trans (s17.trans (s18.trans (s19.trans (s20.trans (s21.trans s30))))))
          have hm30 := s30 _ _ hm21
          have ho30 := s30 _ _ ho21
          have g30 := g14.same z30
          walk_at "go"
          intro l H31 nl s31 hl'
          have g31 := g30.same s31
          walk_at "go"
          refine k_law_row g31 (by omega) hl' (g30.ne nl) ?_
          intro D xs H32 nD t32 hD hxl hP
          have hm32 := t32 _ _ nmb (s31 _ _ hm30)
          have ho32 := t32 _ _ nob (s31 _ _ ho30)
          walk_at "go"
          refine k_law_led hD hxl (fun x hx => ?_) ?_
          · rcases hP x hx with rfl | rfl | ⟨k, rfl, hk⟩
            · exact .inl ⟨_, _, _, rfl, hm32⟩
            · exact .inl ⟨_, _, _, rfl, ho32⟩
            · exact .inr ⟨_, rfl, hk⟩
          intro H33 s33
          have hm33 := s33 _ _ hm32
          have ho33 := s33 _ _ ho32
          walk_at "go"
          refine Z.no (by simp) ?_
          walk_at "go"
          refine Z.no (by simp) ?_
          walk_at "go"
          exact ⟨s0.trans (Z.But.back s1 nb (((b14.trans (Z.But.same (z30.trans s31))).trans t32).trans (Z.But.same s33))), _, _, _, _, _, _, _, _, _, _, _, rfl⟩
    · rintro σ' H' ⟨_, v1, v2, v3, v4, v5, v6, v7, v8, v9, v10, v11, rfl⟩
      walk_at "go"
      exact q _

end
theorem all_mk {l : PySem.W.OpenLaw} {w : World} {K : PySem.W.Frag} {h : Heap} {mg : Str → Option Value} {fa : Addr} (X : K.In h) (G : h.Ns mainGlobals mg) (hfa : mg "law" = some (.ref fa)) {C_Unnumbered f_law_draw f_law_bag f_law_number f_law_word f_is_number f_Unnumbered___init f_is_entry f_is_value f_Unnumbered___eq f_Unnumbered___ne f_Unnumbered___lt f_Unnumbered___le f_Unnumbered___gt f_Unnumbered___ge f_Unnumbered___add f_Unnumbered___radd f_Unnumbered___sub f_Unnumbered___rsub f_Unnumbered___mul f_Unnumbered___rmul f_Unnumbered___floordiv f_Unnumbered___rfloordiv f_Unnumbered___mod f_Unnumbered___rmod f_Unnumbered___neg f_Unnumbered___pos f_Unnumbered___abs f_law_new f_law_row f_law_led f_law : Addr}
    {od_law_draw an_law_draw : Option Addr} {sl_law_draw : Array (Option Value)} {oc_law_draw kV_law_draw dc_law_draw pm_law_draw cd_law_draw ct_law_draw : Value}
    {od_law_bag an_law_bag : Option Addr} {sl_law_bag : Array (Option Value)} {oc_law_bag kV_law_bag dc_law_bag pm_law_bag cd_law_bag ct_law_bag : Value}
    {od_law_number an_law_number : Option Addr} {sl_law_number : Array (Option Value)} {oc_law_number kV_law_number dc_law_number pm_law_number cd_law_number ct_law_number : Value}
    {od_law_word an_law_word : Option Addr} {sl_law_word : Array (Option Value)} {oc_law_word kV_law_word dc_law_word pm_law_word cd_law_word ct_law_word : Value}
    {od_is_number an_is_number : Option Addr} {sl_is_number : Array (Option Value)} {oc_is_number kV_is_number dc_is_number pm_is_number cd_is_number ct_is_number : Value}
    {od_Unnumbered___init an_Unnumbered___init : Option Addr} {sl_Unnumbered___init : Array (Option Value)} {oc_Unnumbered___init kV_Unnumbered___init dc_Unnumbered___init pm_Unnumbered___init cd_Unnumbered___init ct_Unnumbered___init : Value}
    {od_is_entry an_is_entry : Option Addr} {sl_is_entry : Array (Option Value)} {oc_is_entry kV_is_entry dc_is_entry pm_is_entry cd_is_entry ct_is_entry : Value}
    {od_is_value an_is_value : Option Addr} {sl_is_value : Array (Option Value)} {oc_is_value kV_is_value dc_is_value pm_is_value cd_is_value ct_is_value : Value}
    {od_Unnumbered___eq an_Unnumbered___eq : Option Addr} {sl_Unnumbered___eq : Array (Option Value)} {oc_Unnumbered___eq kV_Unnumbered___eq dc_Unnumbered___eq pm_Unnumbered___eq cd_Unnumbered___eq ct_Unnumbered___eq : Value}
    {od_Unnumbered___ne an_Unnumbered___ne : Option Addr} {sl_Unnumbered___ne : Array (Option Value)} {oc_Unnumbered___ne kV_Unnumbered___ne dc_Unnumbered___ne pm_Unnumbered___ne cd_Unnumbered___ne ct_Unnumbered___ne : Value}
    {od_Unnumbered___lt an_Unnumbered___lt : Option Addr} {sl_Unnumbered___lt : Array (Option Value)} {oc_Unnumbered___lt kV_Unnumbered___lt dc_Unnumbered___lt pm_Unnumbered___lt cd_Unnumbered___lt ct_Unnumbered___lt : Value}
    {od_Unnumbered___le an_Unnumbered___le : Option Addr} {sl_Unnumbered___le : Array (Option Value)} {oc_Unnumbered___le kV_Unnumbered___le dc_Unnumbered___le pm_Unnumbered___le cd_Unnumbered___le ct_Unnumbered___le : Value}
    {od_Unnumbered___gt an_Unnumbered___gt : Option Addr} {sl_Unnumbered___gt : Array (Option Value)} {oc_Unnumbered___gt kV_Unnumbered___gt dc_Unnumbered___gt pm_Unnumbered___gt cd_Unnumbered___gt ct_Unnumbered___gt : Value}
    {od_Unnumbered___ge an_Unnumbered___ge : Option Addr} {sl_Unnumbered___ge : Array (Option Value)} {oc_Unnumbered___ge kV_Unnumbered___ge dc_Unnumbered___ge pm_Unnumbered___ge cd_Unnumbered___ge ct_Unnumbered___ge : Value}
    {od_Unnumbered___add an_Unnumbered___add : Option Addr} {sl_Unnumbered___add : Array (Option Value)} {oc_Unnumbered___add kV_Unnumbered___add dc_Unnumbered___add pm_Unnumbered___add cd_Unnumbered___add ct_Unnumbered___add : Value}
    {od_Unnumbered___radd an_Unnumbered___radd : Option Addr} {sl_Unnumbered___radd : Array (Option Value)} {oc_Unnumbered___radd kV_Unnumbered___radd dc_Unnumbered___radd pm_Unnumbered___radd cd_Unnumbered___radd ct_Unnumbered___radd : Value}
    {od_Unnumbered___sub an_Unnumbered___sub : Option Addr} {sl_Unnumbered___sub : Array (Option Value)} {oc_Unnumbered___sub kV_Unnumbered___sub dc_Unnumbered___sub pm_Unnumbered___sub cd_Unnumbered___sub ct_Unnumbered___sub : Value}
    {od_Unnumbered___rsub an_Unnumbered___rsub : Option Addr} {sl_Unnumbered___rsub : Array (Option Value)} {oc_Unnumbered___rsub kV_Unnumbered___rsub dc_Unnumbered___rsub pm_Unnumbered___rsub cd_Unnumbered___rsub ct_Unnumbered___rsub : Value}
    {od_Unnumbered___mul an_Unnumbered___mul : Option Addr} {sl_Unnumbered___mul : Array (Option Value)} {oc_Unnumbered___mul kV_Unnumbered___mul dc_Unnumbered___mul pm_Unnumbered___mul cd_Unnumbered___mul ct_Unnumbered___mul : Value}
    {od_Unnumbered___rmul an_Unnumbered___rmul : Option Addr} {sl_Unnumbered___rmul : Array (Option Value)} {oc_Unnumbered___rmul kV_Unnumbered___rmul dc_Unnumbered___rmul pm_Unnumbered___rmul cd_Unnumbered___rmul ct_Unnumbered___rmul : Value}
    {od_Unnumbered___floordiv an_Unnumbered___floordiv : Option Addr} {sl_Unnumbered___floordiv : Array (Option Value)} {oc_Unnumbered___floordiv kV_Unnumbered___floordiv dc_Unnumbered___floordiv pm_Unnumbered___floordiv cd_Unnumbered___floordiv ct_Unnumbered___floordiv : Value}
    {od_Unnumbered___rfloordiv an_Unnumbered___rfloordiv : Option Addr} {sl_Unnumbered___rfloordiv : Array (Option Value)} {oc_Unnumbered___rfloordiv kV_Unnumbered___rfloordiv dc_Unnumbered___rfloordiv pm_Unnumbered___rfloordiv cd_Unnumbered___rfloordiv ct_Unnumbered___rfloordiv : Value}
    {od_Unnumbered___mod an_Unnumbered___mod : Option Addr} {sl_Unnumbered___mod : Array (Option Value)} {oc_Unnumbered___mod kV_Unnumbered___mod dc_Unnumbered___mod pm_Unnumbered___mod cd_Unnumbered___mod ct_Unnumbered___mod : Value}
    {od_Unnumbered___rmod an_Unnumbered___rmod : Option Addr} {sl_Unnumbered___rmod : Array (Option Value)} {oc_Unnumbered___rmod kV_Unnumbered___rmod dc_Unnumbered___rmod pm_Unnumbered___rmod cd_Unnumbered___rmod ct_Unnumbered___rmod : Value}
    {od_Unnumbered___neg an_Unnumbered___neg : Option Addr} {sl_Unnumbered___neg : Array (Option Value)} {oc_Unnumbered___neg kV_Unnumbered___neg dc_Unnumbered___neg pm_Unnumbered___neg cd_Unnumbered___neg ct_Unnumbered___neg : Value}
    {od_Unnumbered___pos an_Unnumbered___pos : Option Addr} {sl_Unnumbered___pos : Array (Option Value)} {oc_Unnumbered___pos kV_Unnumbered___pos dc_Unnumbered___pos pm_Unnumbered___pos cd_Unnumbered___pos ct_Unnumbered___pos : Value}
    {od_Unnumbered___abs an_Unnumbered___abs : Option Addr} {sl_Unnumbered___abs : Array (Option Value)} {oc_Unnumbered___abs kV_Unnumbered___abs dc_Unnumbered___abs pm_Unnumbered___abs cd_Unnumbered___abs ct_Unnumbered___abs : Value}
    {od_law_new an_law_new : Option Addr} {sl_law_new : Array (Option Value)} {oc_law_new kV_law_new dc_law_new pm_law_new cd_law_new ct_law_new : Value}
    {od_law_row an_law_row : Option Addr} {sl_law_row : Array (Option Value)} {oc_law_row kV_law_row dc_law_row pm_law_row cd_law_row ct_law_row : Value}
    {od_law_led an_law_led : Option Addr} {sl_law_led : Array (Option Value)} {oc_law_led kV_law_led dc_law_led pm_law_led cd_law_led ct_law_led : Value}
    {od_law an_law : Option Addr} {sl_law : Array (Option Value)} {oc_law kV_law dc_law pm_law cd_law ct_law : Value}
    {cd_Unnumbered : ClassData}
    {fo_Unnumbered_add ro_Unnumbered_add : Option Value}
    {fo_Unnumbered_floordiv ro_Unnumbered_floordiv : Option Value}
    {fo_Unnumbered_mod ro_Unnumbered_mod : Option Value}
    {fo_Unnumbered_mul ro_Unnumbered_mul : Option Value}
    {fo_Unnumbered_sub ro_Unnumbered_sub : Option Value}
    (aC_Unnumbered : PySem.W.nsIn K mainGlobals "Unnumbered" = some (some (.ref C_Unnumbered)))
    (a_law_draw : PySem.W.nsIn K mainGlobals "_law_draw" = some (some (.ref f_law_draw)))
    (l_law_draw : K.lookup f_law_draw = some ⟨oc_law_draw, od_law_draw, .func (PySem.W.fnOf "_law_draw" "_law_draw" (defArgs s_law_draw) (defBody s_law_draw) (defScope s_law_draw) .none kV_law_draw dc_law_draw pm_law_draw an_law_draw cd_law_draw ct_law_draw), sl_law_draw⟩)
    (c_law_draw : PySem.W.codeIn K cd_law_draw "_law_draw" = true)
    (k_law_draw : PySem.W.keepIn K (.ref f_law_draw) = true)
    (a_law_bag : PySem.W.nsIn K mainGlobals "_law_bag" = some (some (.ref f_law_bag)))
    (l_law_bag : K.lookup f_law_bag = some ⟨oc_law_bag, od_law_bag, .func (PySem.W.fnOf "_law_bag" "_law_bag" (defArgs s_law_bag) (defBody s_law_bag) (defScope s_law_bag) .none kV_law_bag dc_law_bag pm_law_bag an_law_bag cd_law_bag ct_law_bag), sl_law_bag⟩)
    (c_law_bag : PySem.W.codeIn K cd_law_bag "_law_bag" = true)
    (k_law_bag : PySem.W.keepIn K (.ref f_law_bag) = true)
    (a_law_number : PySem.W.nsIn K mainGlobals "_law_number" = some (some (.ref f_law_number)))
    (l_law_number : K.lookup f_law_number = some ⟨oc_law_number, od_law_number, .func (PySem.W.fnOf "_law_number" "_law_number" (defArgs s_law_number) (defBody s_law_number) (defScope s_law_number) .none kV_law_number dc_law_number pm_law_number an_law_number cd_law_number ct_law_number), sl_law_number⟩)
    (c_law_number : PySem.W.codeIn K cd_law_number "_law_number" = true)
    (k_law_number : PySem.W.keepIn K (.ref f_law_number) = true)
    (a_law_word : PySem.W.nsIn K mainGlobals "_law_word" = some (some (.ref f_law_word)))
    (l_law_word : K.lookup f_law_word = some ⟨oc_law_word, od_law_word, .func (PySem.W.fnOf "_law_word" "_law_word" (defArgs s_law_word) (defBody s_law_word) (defScope s_law_word) .none kV_law_word dc_law_word pm_law_word an_law_word cd_law_word ct_law_word), sl_law_word⟩)
    (c_law_word : PySem.W.codeIn K cd_law_word "_law_word" = true)
    (k_law_word : PySem.W.keepIn K (.ref f_law_word) = true)
    (a_is_number : PySem.W.nsIn K mainGlobals "is_number" = some (some (.ref f_is_number)))
    (l_is_number : K.lookup f_is_number = some ⟨oc_is_number, od_is_number, .func (PySem.W.fnOf "is_number" "is_number" (defArgs s_is_number) (defBody s_is_number) (defScope s_is_number) .none kV_is_number dc_is_number pm_is_number an_is_number cd_is_number ct_is_number), sl_is_number⟩)
    (c_is_number : PySem.W.codeIn K cd_is_number "is_number" = true)
    (k_is_number : PySem.W.keepIn K (.ref f_is_number) = true)
    (a_Unnumbered___init : PySem.W.findIn K (.ref C_Unnumbered) "__init__" = some (some (.ref f_Unnumbered___init)))
    (i_Unnumbered___init : PySem.W.isFn K (.ref f_Unnumbered___init) = true)
    (l_Unnumbered___init : K.lookup f_Unnumbered___init = some ⟨oc_Unnumbered___init, od_Unnumbered___init, .func (PySem.W.fnOf "__init__" "Unnumbered.__init__" (defArgs s_Unnumbered___init) (defBody s_Unnumbered___init) (defScope s_Unnumbered___init) .none kV_Unnumbered___init dc_Unnumbered___init pm_Unnumbered___init an_Unnumbered___init cd_Unnumbered___init ct_Unnumbered___init), sl_Unnumbered___init⟩)
    (c_Unnumbered___init : PySem.W.codeIn K cd_Unnumbered___init "Unnumbered.__init__" = true)
    (k_Unnumbered___init : PySem.W.keepIn K (.ref f_Unnumbered___init) = true)
    (a_is_entry : PySem.W.nsIn K mainGlobals "is_entry" = some (some (.ref f_is_entry)))
    (l_is_entry : K.lookup f_is_entry = some ⟨oc_is_entry, od_is_entry, .func (PySem.W.fnOf "is_entry" "is_entry" (defArgs s_is_entry) (defBody s_is_entry) (defScope s_is_entry) .none kV_is_entry dc_is_entry pm_is_entry an_is_entry cd_is_entry ct_is_entry), sl_is_entry⟩)
    (c_is_entry : PySem.W.codeIn K cd_is_entry "is_entry" = true)
    (k_is_entry : PySem.W.keepIn K (.ref f_is_entry) = true)
    (a_is_value : PySem.W.nsIn K mainGlobals "_is_value" = some (some (.ref f_is_value)))
    (l_is_value : K.lookup f_is_value = some ⟨oc_is_value, od_is_value, .func (PySem.W.fnOf "_is_value" "_is_value" (defArgs s_is_value) (defBody s_is_value) (defScope s_is_value) .none kV_is_value dc_is_value pm_is_value an_is_value cd_is_value ct_is_value), sl_is_value⟩)
    (c_is_value : PySem.W.codeIn K cd_is_value "_is_value" = true)
    (k_is_value : PySem.W.keepIn K (.ref f_is_value) = true)
    (a_Unnumbered___eq : PySem.W.findIn K (.ref C_Unnumbered) "__eq__" = some (some (.ref f_Unnumbered___eq)))
    (i_Unnumbered___eq : PySem.W.isFn K (.ref f_Unnumbered___eq) = true)
    (l_Unnumbered___eq : K.lookup f_Unnumbered___eq = some ⟨oc_Unnumbered___eq, od_Unnumbered___eq, .func (PySem.W.fnOf "__eq__" "Unnumbered.__eq__" (defArgs s_Unnumbered___eq) (defBody s_Unnumbered___eq) (defScope s_Unnumbered___eq) .none kV_Unnumbered___eq dc_Unnumbered___eq pm_Unnumbered___eq an_Unnumbered___eq cd_Unnumbered___eq ct_Unnumbered___eq), sl_Unnumbered___eq⟩)
    (c_Unnumbered___eq : PySem.W.codeIn K cd_Unnumbered___eq "Unnumbered.__eq__" = true)
    (k_Unnumbered___eq : PySem.W.keepIn K (.ref f_Unnumbered___eq) = true)
    (a_Unnumbered___ne : PySem.W.findIn K (.ref C_Unnumbered) "__ne__" = some (some (.ref f_Unnumbered___ne)))
    (i_Unnumbered___ne : PySem.W.isFn K (.ref f_Unnumbered___ne) = true)
    (l_Unnumbered___ne : K.lookup f_Unnumbered___ne = some ⟨oc_Unnumbered___ne, od_Unnumbered___ne, .func (PySem.W.fnOf "__ne__" "Unnumbered.__ne__" (defArgs s_Unnumbered___ne) (defBody s_Unnumbered___ne) (defScope s_Unnumbered___ne) .none kV_Unnumbered___ne dc_Unnumbered___ne pm_Unnumbered___ne an_Unnumbered___ne cd_Unnumbered___ne ct_Unnumbered___ne), sl_Unnumbered___ne⟩)
    (c_Unnumbered___ne : PySem.W.codeIn K cd_Unnumbered___ne "Unnumbered.__ne__" = true)
    (k_Unnumbered___ne : PySem.W.keepIn K (.ref f_Unnumbered___ne) = true)
    (a_Unnumbered___lt : PySem.W.findIn K (.ref C_Unnumbered) "__lt__" = some (some (.ref f_Unnumbered___lt)))
    (i_Unnumbered___lt : PySem.W.isFn K (.ref f_Unnumbered___lt) = true)
    (l_Unnumbered___lt : K.lookup f_Unnumbered___lt = some ⟨oc_Unnumbered___lt, od_Unnumbered___lt, .func (PySem.W.fnOf "__lt__" "Unnumbered.__lt__" (defArgs s_Unnumbered___lt) (defBody s_Unnumbered___lt) (defScope s_Unnumbered___lt) .none kV_Unnumbered___lt dc_Unnumbered___lt pm_Unnumbered___lt an_Unnumbered___lt cd_Unnumbered___lt ct_Unnumbered___lt), sl_Unnumbered___lt⟩)
    (c_Unnumbered___lt : PySem.W.codeIn K cd_Unnumbered___lt "Unnumbered.__lt__" = true)
    (k_Unnumbered___lt : PySem.W.keepIn K (.ref f_Unnumbered___lt) = true)
    (a_Unnumbered___le : PySem.W.findIn K (.ref C_Unnumbered) "__le__" = some (some (.ref f_Unnumbered___le)))
    (i_Unnumbered___le : PySem.W.isFn K (.ref f_Unnumbered___le) = true)
    (l_Unnumbered___le : K.lookup f_Unnumbered___le = some ⟨oc_Unnumbered___le, od_Unnumbered___le, .func (PySem.W.fnOf "__le__" "Unnumbered.__le__" (defArgs s_Unnumbered___le) (defBody s_Unnumbered___le) (defScope s_Unnumbered___le) .none kV_Unnumbered___le dc_Unnumbered___le pm_Unnumbered___le an_Unnumbered___le cd_Unnumbered___le ct_Unnumbered___le), sl_Unnumbered___le⟩)
    (c_Unnumbered___le : PySem.W.codeIn K cd_Unnumbered___le "Unnumbered.__le__" = true)
    (k_Unnumbered___le : PySem.W.keepIn K (.ref f_Unnumbered___le) = true)
    (a_Unnumbered___gt : PySem.W.findIn K (.ref C_Unnumbered) "__gt__" = some (some (.ref f_Unnumbered___gt)))
    (i_Unnumbered___gt : PySem.W.isFn K (.ref f_Unnumbered___gt) = true)
    (l_Unnumbered___gt : K.lookup f_Unnumbered___gt = some ⟨oc_Unnumbered___gt, od_Unnumbered___gt, .func (PySem.W.fnOf "__gt__" "Unnumbered.__gt__" (defArgs s_Unnumbered___gt) (defBody s_Unnumbered___gt) (defScope s_Unnumbered___gt) .none kV_Unnumbered___gt dc_Unnumbered___gt pm_Unnumbered___gt an_Unnumbered___gt cd_Unnumbered___gt ct_Unnumbered___gt), sl_Unnumbered___gt⟩)
    (c_Unnumbered___gt : PySem.W.codeIn K cd_Unnumbered___gt "Unnumbered.__gt__" = true)
    (k_Unnumbered___gt : PySem.W.keepIn K (.ref f_Unnumbered___gt) = true)
    (a_Unnumbered___ge : PySem.W.findIn K (.ref C_Unnumbered) "__ge__" = some (some (.ref f_Unnumbered___ge)))
    (i_Unnumbered___ge : PySem.W.isFn K (.ref f_Unnumbered___ge) = true)
    (l_Unnumbered___ge : K.lookup f_Unnumbered___ge = some ⟨oc_Unnumbered___ge, od_Unnumbered___ge, .func (PySem.W.fnOf "__ge__" "Unnumbered.__ge__" (defArgs s_Unnumbered___ge) (defBody s_Unnumbered___ge) (defScope s_Unnumbered___ge) .none kV_Unnumbered___ge dc_Unnumbered___ge pm_Unnumbered___ge an_Unnumbered___ge cd_Unnumbered___ge ct_Unnumbered___ge), sl_Unnumbered___ge⟩)
    (c_Unnumbered___ge : PySem.W.codeIn K cd_Unnumbered___ge "Unnumbered.__ge__" = true)
    (k_Unnumbered___ge : PySem.W.keepIn K (.ref f_Unnumbered___ge) = true)
    (a_Unnumbered___add : PySem.W.findIn K (.ref C_Unnumbered) "__add__" = some (some (.ref f_Unnumbered___add)))
    (i_Unnumbered___add : PySem.W.isFn K (.ref f_Unnumbered___add) = true)
    (l_Unnumbered___add : K.lookup f_Unnumbered___add = some ⟨oc_Unnumbered___add, od_Unnumbered___add, .func (PySem.W.fnOf "__add__" "Unnumbered.__add__" (defArgs s_Unnumbered___add) (defBody s_Unnumbered___add) (defScope s_Unnumbered___add) .none kV_Unnumbered___add dc_Unnumbered___add pm_Unnumbered___add an_Unnumbered___add cd_Unnumbered___add ct_Unnumbered___add), sl_Unnumbered___add⟩)
    (c_Unnumbered___add : PySem.W.codeIn K cd_Unnumbered___add "Unnumbered.__add__" = true)
    (k_Unnumbered___add : PySem.W.keepIn K (.ref f_Unnumbered___add) = true)
    (a_Unnumbered___radd : PySem.W.findIn K (.ref C_Unnumbered) "__radd__" = some (some (.ref f_Unnumbered___radd)))
    (i_Unnumbered___radd : PySem.W.isFn K (.ref f_Unnumbered___radd) = true)
    (l_Unnumbered___radd : K.lookup f_Unnumbered___radd = some ⟨oc_Unnumbered___radd, od_Unnumbered___radd, .func (PySem.W.fnOf "__radd__" "Unnumbered.__radd__" (defArgs s_Unnumbered___radd) (defBody s_Unnumbered___radd) (defScope s_Unnumbered___radd) .none kV_Unnumbered___radd dc_Unnumbered___radd pm_Unnumbered___radd an_Unnumbered___radd cd_Unnumbered___radd ct_Unnumbered___radd), sl_Unnumbered___radd⟩)
    (c_Unnumbered___radd : PySem.W.codeIn K cd_Unnumbered___radd "Unnumbered.__radd__" = true)
    (k_Unnumbered___radd : PySem.W.keepIn K (.ref f_Unnumbered___radd) = true)
    (a_Unnumbered___sub : PySem.W.findIn K (.ref C_Unnumbered) "__sub__" = some (some (.ref f_Unnumbered___sub)))
    (i_Unnumbered___sub : PySem.W.isFn K (.ref f_Unnumbered___sub) = true)
    (l_Unnumbered___sub : K.lookup f_Unnumbered___sub = some ⟨oc_Unnumbered___sub, od_Unnumbered___sub, .func (PySem.W.fnOf "__sub__" "Unnumbered.__sub__" (defArgs s_Unnumbered___sub) (defBody s_Unnumbered___sub) (defScope s_Unnumbered___sub) .none kV_Unnumbered___sub dc_Unnumbered___sub pm_Unnumbered___sub an_Unnumbered___sub cd_Unnumbered___sub ct_Unnumbered___sub), sl_Unnumbered___sub⟩)
    (c_Unnumbered___sub : PySem.W.codeIn K cd_Unnumbered___sub "Unnumbered.__sub__" = true)
    (k_Unnumbered___sub : PySem.W.keepIn K (.ref f_Unnumbered___sub) = true)
    (a_Unnumbered___rsub : PySem.W.findIn K (.ref C_Unnumbered) "__rsub__" = some (some (.ref f_Unnumbered___rsub)))
    (i_Unnumbered___rsub : PySem.W.isFn K (.ref f_Unnumbered___rsub) = true)
    (l_Unnumbered___rsub : K.lookup f_Unnumbered___rsub = some ⟨oc_Unnumbered___rsub, od_Unnumbered___rsub, .func (PySem.W.fnOf "__rsub__" "Unnumbered.__rsub__" (defArgs s_Unnumbered___rsub) (defBody s_Unnumbered___rsub) (defScope s_Unnumbered___rsub) .none kV_Unnumbered___rsub dc_Unnumbered___rsub pm_Unnumbered___rsub an_Unnumbered___rsub cd_Unnumbered___rsub ct_Unnumbered___rsub), sl_Unnumbered___rsub⟩)
    (c_Unnumbered___rsub : PySem.W.codeIn K cd_Unnumbered___rsub "Unnumbered.__rsub__" = true)
    (k_Unnumbered___rsub : PySem.W.keepIn K (.ref f_Unnumbered___rsub) = true)
    (a_Unnumbered___mul : PySem.W.findIn K (.ref C_Unnumbered) "__mul__" = some (some (.ref f_Unnumbered___mul)))
    (i_Unnumbered___mul : PySem.W.isFn K (.ref f_Unnumbered___mul) = true)
    (l_Unnumbered___mul : K.lookup f_Unnumbered___mul = some ⟨oc_Unnumbered___mul, od_Unnumbered___mul, .func (PySem.W.fnOf "__mul__" "Unnumbered.__mul__" (defArgs s_Unnumbered___mul) (defBody s_Unnumbered___mul) (defScope s_Unnumbered___mul) .none kV_Unnumbered___mul dc_Unnumbered___mul pm_Unnumbered___mul an_Unnumbered___mul cd_Unnumbered___mul ct_Unnumbered___mul), sl_Unnumbered___mul⟩)
    (c_Unnumbered___mul : PySem.W.codeIn K cd_Unnumbered___mul "Unnumbered.__mul__" = true)
    (k_Unnumbered___mul : PySem.W.keepIn K (.ref f_Unnumbered___mul) = true)
    (a_Unnumbered___rmul : PySem.W.findIn K (.ref C_Unnumbered) "__rmul__" = some (some (.ref f_Unnumbered___rmul)))
    (i_Unnumbered___rmul : PySem.W.isFn K (.ref f_Unnumbered___rmul) = true)
    (l_Unnumbered___rmul : K.lookup f_Unnumbered___rmul = some ⟨oc_Unnumbered___rmul, od_Unnumbered___rmul, .func (PySem.W.fnOf "__rmul__" "Unnumbered.__rmul__" (defArgs s_Unnumbered___rmul) (defBody s_Unnumbered___rmul) (defScope s_Unnumbered___rmul) .none kV_Unnumbered___rmul dc_Unnumbered___rmul pm_Unnumbered___rmul an_Unnumbered___rmul cd_Unnumbered___rmul ct_Unnumbered___rmul), sl_Unnumbered___rmul⟩)
    (c_Unnumbered___rmul : PySem.W.codeIn K cd_Unnumbered___rmul "Unnumbered.__rmul__" = true)
    (k_Unnumbered___rmul : PySem.W.keepIn K (.ref f_Unnumbered___rmul) = true)
    (a_Unnumbered___floordiv : PySem.W.findIn K (.ref C_Unnumbered) "__floordiv__" = some (some (.ref f_Unnumbered___floordiv)))
    (i_Unnumbered___floordiv : PySem.W.isFn K (.ref f_Unnumbered___floordiv) = true)
    (l_Unnumbered___floordiv : K.lookup f_Unnumbered___floordiv = some ⟨oc_Unnumbered___floordiv, od_Unnumbered___floordiv, .func (PySem.W.fnOf "__floordiv__" "Unnumbered.__floordiv__" (defArgs s_Unnumbered___floordiv) (defBody s_Unnumbered___floordiv) (defScope s_Unnumbered___floordiv) .none kV_Unnumbered___floordiv dc_Unnumbered___floordiv pm_Unnumbered___floordiv an_Unnumbered___floordiv cd_Unnumbered___floordiv ct_Unnumbered___floordiv), sl_Unnumbered___floordiv⟩)
    (c_Unnumbered___floordiv : PySem.W.codeIn K cd_Unnumbered___floordiv "Unnumbered.__floordiv__" = true)
    (k_Unnumbered___floordiv : PySem.W.keepIn K (.ref f_Unnumbered___floordiv) = true)
    (a_Unnumbered___rfloordiv : PySem.W.findIn K (.ref C_Unnumbered) "__rfloordiv__" = some (some (.ref f_Unnumbered___rfloordiv)))
    (i_Unnumbered___rfloordiv : PySem.W.isFn K (.ref f_Unnumbered___rfloordiv) = true)
    (l_Unnumbered___rfloordiv : K.lookup f_Unnumbered___rfloordiv = some ⟨oc_Unnumbered___rfloordiv, od_Unnumbered___rfloordiv, .func (PySem.W.fnOf "__rfloordiv__" "Unnumbered.__rfloordiv__" (defArgs s_Unnumbered___rfloordiv) (defBody s_Unnumbered___rfloordiv) (defScope s_Unnumbered___rfloordiv) .none kV_Unnumbered___rfloordiv dc_Unnumbered___rfloordiv pm_Unnumbered___rfloordiv an_Unnumbered___rfloordiv cd_Unnumbered___rfloordiv ct_Unnumbered___rfloordiv), sl_Unnumbered___rfloordiv⟩)
    (c_Unnumbered___rfloordiv : PySem.W.codeIn K cd_Unnumbered___rfloordiv "Unnumbered.__rfloordiv__" = true)
    (k_Unnumbered___rfloordiv : PySem.W.keepIn K (.ref f_Unnumbered___rfloordiv) = true)
    (a_Unnumbered___mod : PySem.W.findIn K (.ref C_Unnumbered) "__mod__" = some (some (.ref f_Unnumbered___mod)))
    (i_Unnumbered___mod : PySem.W.isFn K (.ref f_Unnumbered___mod) = true)
    (l_Unnumbered___mod : K.lookup f_Unnumbered___mod = some ⟨oc_Unnumbered___mod, od_Unnumbered___mod, .func (PySem.W.fnOf "__mod__" "Unnumbered.__mod__" (defArgs s_Unnumbered___mod) (defBody s_Unnumbered___mod) (defScope s_Unnumbered___mod) .none kV_Unnumbered___mod dc_Unnumbered___mod pm_Unnumbered___mod an_Unnumbered___mod cd_Unnumbered___mod ct_Unnumbered___mod), sl_Unnumbered___mod⟩)
    (c_Unnumbered___mod : PySem.W.codeIn K cd_Unnumbered___mod "Unnumbered.__mod__" = true)
    (k_Unnumbered___mod : PySem.W.keepIn K (.ref f_Unnumbered___mod) = true)
    (a_Unnumbered___rmod : PySem.W.findIn K (.ref C_Unnumbered) "__rmod__" = some (some (.ref f_Unnumbered___rmod)))
    (i_Unnumbered___rmod : PySem.W.isFn K (.ref f_Unnumbered___rmod) = true)
    (l_Unnumbered___rmod : K.lookup f_Unnumbered___rmod = some ⟨oc_Unnumbered___rmod, od_Unnumbered___rmod, .func (PySem.W.fnOf "__rmod__" "Unnumbered.__rmod__" (defArgs s_Unnumbered___rmod) (defBody s_Unnumbered___rmod) (defScope s_Unnumbered___rmod) .none kV_Unnumbered___rmod dc_Unnumbered___rmod pm_Unnumbered___rmod an_Unnumbered___rmod cd_Unnumbered___rmod ct_Unnumbered___rmod), sl_Unnumbered___rmod⟩)
    (c_Unnumbered___rmod : PySem.W.codeIn K cd_Unnumbered___rmod "Unnumbered.__rmod__" = true)
    (k_Unnumbered___rmod : PySem.W.keepIn K (.ref f_Unnumbered___rmod) = true)
    (a_Unnumbered___neg : PySem.W.findIn K (.ref C_Unnumbered) "__neg__" = some (some (.ref f_Unnumbered___neg)))
    (i_Unnumbered___neg : PySem.W.isFn K (.ref f_Unnumbered___neg) = true)
    (l_Unnumbered___neg : K.lookup f_Unnumbered___neg = some ⟨oc_Unnumbered___neg, od_Unnumbered___neg, .func (PySem.W.fnOf "__neg__" "Unnumbered.__neg__" (defArgs s_Unnumbered___neg) (defBody s_Unnumbered___neg) (defScope s_Unnumbered___neg) .none kV_Unnumbered___neg dc_Unnumbered___neg pm_Unnumbered___neg an_Unnumbered___neg cd_Unnumbered___neg ct_Unnumbered___neg), sl_Unnumbered___neg⟩)
    (c_Unnumbered___neg : PySem.W.codeIn K cd_Unnumbered___neg "Unnumbered.__neg__" = true)
    (k_Unnumbered___neg : PySem.W.keepIn K (.ref f_Unnumbered___neg) = true)
    (a_Unnumbered___pos : PySem.W.findIn K (.ref C_Unnumbered) "__pos__" = some (some (.ref f_Unnumbered___pos)))
    (i_Unnumbered___pos : PySem.W.isFn K (.ref f_Unnumbered___pos) = true)
    (l_Unnumbered___pos : K.lookup f_Unnumbered___pos = some ⟨oc_Unnumbered___pos, od_Unnumbered___pos, .func (PySem.W.fnOf "__pos__" "Unnumbered.__pos__" (defArgs s_Unnumbered___pos) (defBody s_Unnumbered___pos) (defScope s_Unnumbered___pos) .none kV_Unnumbered___pos dc_Unnumbered___pos pm_Unnumbered___pos an_Unnumbered___pos cd_Unnumbered___pos ct_Unnumbered___pos), sl_Unnumbered___pos⟩)
    (c_Unnumbered___pos : PySem.W.codeIn K cd_Unnumbered___pos "Unnumbered.__pos__" = true)
    (k_Unnumbered___pos : PySem.W.keepIn K (.ref f_Unnumbered___pos) = true)
    (a_Unnumbered___abs : PySem.W.findIn K (.ref C_Unnumbered) "__abs__" = some (some (.ref f_Unnumbered___abs)))
    (i_Unnumbered___abs : PySem.W.isFn K (.ref f_Unnumbered___abs) = true)
    (l_Unnumbered___abs : K.lookup f_Unnumbered___abs = some ⟨oc_Unnumbered___abs, od_Unnumbered___abs, .func (PySem.W.fnOf "__abs__" "Unnumbered.__abs__" (defArgs s_Unnumbered___abs) (defBody s_Unnumbered___abs) (defScope s_Unnumbered___abs) .none kV_Unnumbered___abs dc_Unnumbered___abs pm_Unnumbered___abs an_Unnumbered___abs cd_Unnumbered___abs ct_Unnumbered___abs), sl_Unnumbered___abs⟩)
    (c_Unnumbered___abs : PySem.W.codeIn K cd_Unnumbered___abs "Unnumbered.__abs__" = true)
    (k_Unnumbered___abs : PySem.W.keepIn K (.ref f_Unnumbered___abs) = true)
    (a_law_new : PySem.W.nsIn K mainGlobals "_law_new" = some (some (.ref f_law_new)))
    (l_law_new : K.lookup f_law_new = some ⟨oc_law_new, od_law_new, .func (PySem.W.fnOf "_law_new" "_law_new" (defArgs s_law_new) (defBody s_law_new) (defScope s_law_new) .none kV_law_new dc_law_new pm_law_new an_law_new cd_law_new ct_law_new), sl_law_new⟩)
    (c_law_new : PySem.W.codeIn K cd_law_new "_law_new" = true)
    (k_law_new : PySem.W.keepIn K (.ref f_law_new) = true)
    (a_law_row : PySem.W.nsIn K mainGlobals "_law_row" = some (some (.ref f_law_row)))
    (l_law_row : K.lookup f_law_row = some ⟨oc_law_row, od_law_row, .func (PySem.W.fnOf "_law_row" "_law_row" (defArgs s_law_row) (defBody s_law_row) (defScope s_law_row) .none kV_law_row dc_law_row pm_law_row an_law_row cd_law_row ct_law_row), sl_law_row⟩)
    (c_law_row : PySem.W.codeIn K cd_law_row "_law_row" = true)
    (k_law_row : PySem.W.keepIn K (.ref f_law_row) = true)
    (a_law_led : PySem.W.nsIn K mainGlobals "_law_led" = some (some (.ref f_law_led)))
    (l_law_led : K.lookup f_law_led = some ⟨oc_law_led, od_law_led, .func (PySem.W.fnOf "_law_led" "_law_led" (defArgs s_law_led) (defBody s_law_led) (defScope s_law_led) .none kV_law_led dc_law_led pm_law_led an_law_led cd_law_led ct_law_led), sl_law_led⟩)
    (c_law_led : PySem.W.codeIn K cd_law_led "_law_led" = true)
    (k_law_led : PySem.W.keepIn K (.ref f_law_led) = true)
    (a_law : PySem.W.nsIn K mainGlobals "law" = some (some (.ref f_law)))
    (l_law : K.lookup f_law = some ⟨oc_law, od_law, .func (PySem.W.fnOf "law" "law" (defArgs s_law) (defBody s_law) (defScope s_law) .none kV_law dc_law pm_law an_law cd_law ct_law), sl_law⟩)
    (c_law : PySem.W.codeIn K cd_law "law" = true)
    (k_law : PySem.W.keepIn K (.ref f_law) = true)
    (pg_Unnumbered : PySem.W.plainGet K C_Unnumbered Str.empty = true)
    (hd_Unnumbered : PySem.W.hasDictIn K C_Unnumbered = true)
    (po_Unnumbered : PySem.W.plainOver K C_Unnumbered = true)
    (sa_Unnumbered : PySem.W.findIn K (.ref C_Unnumbered) "__setattr__" = some (some (.builtin "object.__setattr__")))
    (ca_Unnumbered : PySem.W.findIn K (.ref C_Unnumbered) "__class__" = some (some (.builtin "object.__class__")))
    (cm_Unnumbered : PySem.W.mroIn K C_Unnumbered (.type "object") = some true)
    (mk_Unnumbered : PySem.W.makesIn K C_Unnumbered = true)
    (kc_Unnumbered : PySem.W.keepIn K (.ref C_Unnumbered) = true)
    (cl_Unnumbered : PySem.W.clsIn K C_Unnumbered = some cd_Unnumbered)
    (mro_Unnumbered : cd_Unnumbered.mro = [.ref C_Unnumbered, .type "object"])
    (sf_Unnumbered : PySem.W.selfFirst K C_Unnumbered = true)
    (sub_Unnumbered : PySem.W.subIn K (.ref C_Unnumbered) (.type "int") = some false)
    (isub_Unnumbered : PySem.W.subIn K (.type "int") (.ref C_Unnumbered) = some false)
    (ba_Unnumbered_add : PySem.W.findIn K (.ref C_Unnumbered) (PySem.dunder "add") = some (some (.ref f_Unnumbered___add)))
    (br_Unnumbered_add : PySem.W.findIn K (.ref C_Unnumbered) (PySem.dunderR "add") = some (some (.ref f_Unnumbered___radd)))
    (bo_Unnumbered_add : PySem.W.findIn K (.type "int") (PySem.dunder "add") = some fo_Unnumbered_add)
    (bp_Unnumbered_add : PySem.W.findIn K (.type "int") (PySem.dunderR "add") = some ro_Unnumbered_add)
    (bi_Unnumbered_add : PySem.W.findIn K (.ref C_Unnumbered) (PySem.dunderI "add") = some none)
    (bj_Unnumbered_add : PySem.W.findIn K (.type "object") (PySem.dunderI "add") = some none)
    (ba_Unnumbered_floordiv : PySem.W.findIn K (.ref C_Unnumbered) (PySem.dunder "floordiv") = some (some (.ref f_Unnumbered___floordiv)))
    (br_Unnumbered_floordiv : PySem.W.findIn K (.ref C_Unnumbered) (PySem.dunderR "floordiv") = some (some (.ref f_Unnumbered___rfloordiv)))
    (bo_Unnumbered_floordiv : PySem.W.findIn K (.type "int") (PySem.dunder "floordiv") = some fo_Unnumbered_floordiv)
    (bp_Unnumbered_floordiv : PySem.W.findIn K (.type "int") (PySem.dunderR "floordiv") = some ro_Unnumbered_floordiv)
    (bi_Unnumbered_floordiv : PySem.W.findIn K (.ref C_Unnumbered) (PySem.dunderI "floordiv") = some none)
    (bj_Unnumbered_floordiv : PySem.W.findIn K (.type "object") (PySem.dunderI "floordiv") = some none)
    (ba_Unnumbered_mod : PySem.W.findIn K (.ref C_Unnumbered) (PySem.dunder "mod") = some (some (.ref f_Unnumbered___mod)))
    (br_Unnumbered_mod : PySem.W.findIn K (.ref C_Unnumbered) (PySem.dunderR "mod") = some (some (.ref f_Unnumbered___rmod)))
    (bo_Unnumbered_mod : PySem.W.findIn K (.type "int") (PySem.dunder "mod") = some fo_Unnumbered_mod)
    (bp_Unnumbered_mod : PySem.W.findIn K (.type "int") (PySem.dunderR "mod") = some ro_Unnumbered_mod)
    (bi_Unnumbered_mod : PySem.W.findIn K (.ref C_Unnumbered) (PySem.dunderI "mod") = some none)
    (bj_Unnumbered_mod : PySem.W.findIn K (.type "object") (PySem.dunderI "mod") = some none)
    (ba_Unnumbered_mul : PySem.W.findIn K (.ref C_Unnumbered) (PySem.dunder "mul") = some (some (.ref f_Unnumbered___mul)))
    (br_Unnumbered_mul : PySem.W.findIn K (.ref C_Unnumbered) (PySem.dunderR "mul") = some (some (.ref f_Unnumbered___rmul)))
    (bo_Unnumbered_mul : PySem.W.findIn K (.type "int") (PySem.dunder "mul") = some fo_Unnumbered_mul)
    (bp_Unnumbered_mul : PySem.W.findIn K (.type "int") (PySem.dunderR "mul") = some ro_Unnumbered_mul)
    (bi_Unnumbered_mul : PySem.W.findIn K (.ref C_Unnumbered) (PySem.dunderI "mul") = some none)
    (bj_Unnumbered_mul : PySem.W.findIn K (.type "object") (PySem.dunderI "mul") = some none)
    (ba_Unnumbered_sub : PySem.W.findIn K (.ref C_Unnumbered) (PySem.dunder "sub") = some (some (.ref f_Unnumbered___sub)))
    (br_Unnumbered_sub : PySem.W.findIn K (.ref C_Unnumbered) (PySem.dunderR "sub") = some (some (.ref f_Unnumbered___rsub)))
    (bo_Unnumbered_sub : PySem.W.findIn K (.type "int") (PySem.dunder "sub") = some fo_Unnumbered_sub)
    (bp_Unnumbered_sub : PySem.W.findIn K (.type "int") (PySem.dunderR "sub") = some ro_Unnumbered_sub)
    (bi_Unnumbered_sub : PySem.W.findIn K (.ref C_Unnumbered) (PySem.dunderI "sub") = some none)
    (bj_Unnumbered_sub : PySem.W.findIn K (.type "object") (PySem.dunderI "sub") = some none)
    (ocn : PySem.W.specialIn K (.builtin "object.__class__") "__get__" = some (some (.builtin "getset_descriptor.__get__")))
    (oct : PySem.W.takesIn K (.builtin "object.__class__") = some true)
    (no_Unnumbered_name : PySem.W.findIn K (.ref C_Unnumbered) "name" = some none)
    (z_abs : PySem.W.nsIn K mainGlobals "abs" = some none)
    (z_any : PySem.W.nsIn K mainGlobals "any" = some none)
    (z_bool : PySem.W.nsIn K mainGlobals "bool" = some none)
    (z_int : PySem.W.nsIn K mainGlobals "int" = some none)
    (z_isinstance : PySem.W.nsIn K mainGlobals "isinstance" = some none)
    (z_len : PySem.W.nsIn K mainGlobals "len" = some none)
    (z_max : PySem.W.nsIn K mainGlobals "max" = some none)
    (z_min : PySem.W.nsIn K mainGlobals "min" = some none)
    (z_range : PySem.W.nsIn K mainGlobals "range" = some none)
    (ki_NoneType_Unnumbered : PySem.W.kitOne K (.type "NoneType") (.ref C_Unnumbered) = some false)
    (ki_bool_Unnumbered : PySem.W.kitOne K (.type "bool") (.ref C_Unnumbered) = some false)
    (ki_int_Unnumbered : PySem.W.kitOne K (.type "int") (.ref C_Unnumbered) = some false)
    (ki_str_Unnumbered : PySem.W.kitOne K (.type "str") (.ref C_Unnumbered) = some false)
    (ki_list_Unnumbered : PySem.W.kitOne K (.type "list") (.ref C_Unnumbered) = some false)
    (ki_tuple_Unnumbered : PySem.W.kitOne K (.type "tuple") (.ref C_Unnumbered) = some false)
    (ki_Unnumbered_Unnumbered : PySem.W.kitOne K (.ref C_Unnumbered) (.ref C_Unnumbered) = some true)
    (ki_Unnumbered_bool : PySem.W.kitOne K (.ref C_Unnumbered) (.type "bool") = some false)
    (ki_Unnumbered_int : PySem.W.kitOne K (.ref C_Unnumbered) (.type "int") = some false)
    : ∃ fd : FuncData, (∀ (s : Shared) (v : Value), BindsTo s fd ⟨[v], []⟩ [("_law_script", v)]) ∧ ∀ base : Heap, K.In base → base.Ns mainGlobals mg → FnOk l.prog w K mg base CX0 5 fa fd ["_law_script"] (sp_law K) := by
  have e := hfa.symm.trans (PySem.W.mg_of X G a_law)
  cases e
  have F_law_draw := fun_mk (st := s_law_draw) l_law_draw c_law_draw k_law_draw
  have B_law_draw := F_law_draw.binds (ps := ["_law_bag_here", "_law_many"]) fun _ _ _ _ _ _ us hl => match us, hl with | [_, _], _ => rfl
  have F_law_bag := fun_mk (st := s_law_bag) l_law_bag c_law_bag k_law_bag
  have B_law_bag := F_law_bag.binds (ps := ["_law_script", "_law_at"]) fun _ _ _ _ _ _ us hl => match us, hl with | [_, _], _ => rfl
  have F_law_number := fun_mk (st := s_law_number) l_law_number c_law_number k_law_number
  have B_law_number := F_law_number.binds (ps := ["_law_bag_here"]) fun _ _ _ _ _ _ us hl => match us, hl with | [_], _ => rfl
  have F_law_word := fun_mk (st := s_law_word) l_law_word c_law_word k_law_word
  have B_law_word := F_law_word.binds (ps := ["_law_bag_here"]) fun _ _ _ _ _ _ us hl => match us, hl with | [_], _ => rfl
  have F_is_number := fun_mk (st := s_is_number) l_is_number c_is_number k_is_number
  have B_is_number := F_is_number.binds (ps := ["thing"]) fun _ _ _ _ _ _ us hl => match us, hl with | [_], _ => rfl
  have F_Unnumbered___init := fun_mk (st := s_Unnumbered___init) l_Unnumbered___init c_Unnumbered___init k_Unnumbered___init
  have B_Unnumbered___init := F_Unnumbered___init.binds (ps := ["self", "name"]) fun _ _ _ _ _ _ us hl => match us, hl with | [_, _], _ => rfl
  have F_is_entry := fun_mk (st := s_is_entry) l_is_entry c_is_entry k_is_entry
  have B_is_entry := F_is_entry.binds (ps := ["thing"]) fun _ _ _ _ _ _ us hl => match us, hl with | [_], _ => rfl
  have F_is_value := fun_mk (st := s_is_value) l_is_value c_is_value k_is_value
  have B_is_value := F_is_value.binds (ps := ["thing"]) fun _ _ _ _ _ _ us hl => match us, hl with | [_], _ => rfl
  have F_Unnumbered___eq := fun_mk (st := s_Unnumbered___eq) l_Unnumbered___eq c_Unnumbered___eq k_Unnumbered___eq
  have B_Unnumbered___eq := F_Unnumbered___eq.binds (ps := ["self", "other"]) fun _ _ _ _ _ _ us hl => match us, hl with | [_, _], _ => rfl
  have F_Unnumbered___ne := fun_mk (st := s_Unnumbered___ne) l_Unnumbered___ne c_Unnumbered___ne k_Unnumbered___ne
  have B_Unnumbered___ne := F_Unnumbered___ne.binds (ps := ["self", "other"]) fun _ _ _ _ _ _ us hl => match us, hl with | [_, _], _ => rfl
  have F_Unnumbered___lt := fun_mk (st := s_Unnumbered___lt) l_Unnumbered___lt c_Unnumbered___lt k_Unnumbered___lt
  have B_Unnumbered___lt := F_Unnumbered___lt.binds (ps := ["self", "other"]) fun _ _ _ _ _ _ us hl => match us, hl with | [_, _], _ => rfl
  have F_Unnumbered___le := fun_mk (st := s_Unnumbered___le) l_Unnumbered___le c_Unnumbered___le k_Unnumbered___le
  have B_Unnumbered___le := F_Unnumbered___le.binds (ps := ["self", "other"]) fun _ _ _ _ _ _ us hl => match us, hl with | [_, _], _ => rfl
  have F_Unnumbered___gt := fun_mk (st := s_Unnumbered___gt) l_Unnumbered___gt c_Unnumbered___gt k_Unnumbered___gt
  have B_Unnumbered___gt := F_Unnumbered___gt.binds (ps := ["self", "other"]) fun _ _ _ _ _ _ us hl => match us, hl with | [_, _], _ => rfl
  have F_Unnumbered___ge := fun_mk (st := s_Unnumbered___ge) l_Unnumbered___ge c_Unnumbered___ge k_Unnumbered___ge
  have B_Unnumbered___ge := F_Unnumbered___ge.binds (ps := ["self", "other"]) fun _ _ _ _ _ _ us hl => match us, hl with | [_, _], _ => rfl
  have F_Unnumbered___add := fun_mk (st := s_Unnumbered___add) l_Unnumbered___add c_Unnumbered___add k_Unnumbered___add
  have B_Unnumbered___add := F_Unnumbered___add.binds (ps := ["self", "other"]) fun _ _ _ _ _ _ us hl => match us, hl with | [_, _], _ => rfl
  have F_Unnumbered___radd := fun_mk (st := s_Unnumbered___radd) l_Unnumbered___radd c_Unnumbered___radd k_Unnumbered___radd
  have B_Unnumbered___radd := F_Unnumbered___radd.binds (ps := ["self", "other"]) fun _ _ _ _ _ _ us hl => match us, hl with | [_, _], _ => rfl
  have F_Unnumbered___sub := fun_mk (st := s_Unnumbered___sub) l_Unnumbered___sub c_Unnumbered___sub k_Unnumbered___sub
  have B_Unnumbered___sub := F_Unnumbered___sub.binds (ps := ["self", "other"]) fun _ _ _ _ _ _ us hl => match us, hl with | [_, _], _ => rfl
  have F_Unnumbered___rsub := fun_mk (st := s_Unnumbered___rsub) l_Unnumbered___rsub c_Unnumbered___rsub k_Unnumbered___rsub
  have B_Unnumbered___rsub := F_Unnumbered___rsub.binds (ps := ["self", "other"]) fun _ _ _ _ _ _ us hl => match us, hl with | [_, _], _ => rfl
  have F_Unnumbered___mul := fun_mk (st := s_Unnumbered___mul) l_Unnumbered___mul c_Unnumbered___mul k_Unnumbered___mul
  have B_Unnumbered___mul := F_Unnumbered___mul.binds (ps := ["self", "other"]) fun _ _ _ _ _ _ us hl => match us, hl with | [_, _], _ => rfl
  have F_Unnumbered___rmul := fun_mk (st := s_Unnumbered___rmul) l_Unnumbered___rmul c_Unnumbered___rmul k_Unnumbered___rmul
  have B_Unnumbered___rmul := F_Unnumbered___rmul.binds (ps := ["self", "other"]) fun _ _ _ _ _ _ us hl => match us, hl with | [_, _], _ => rfl
  have F_Unnumbered___floordiv := fun_mk (st := s_Unnumbered___floordiv) l_Unnumbered___floordiv c_Unnumbered___floordiv k_Unnumbered___floordiv
  have B_Unnumbered___floordiv := F_Unnumbered___floordiv.binds (ps := ["self", "other"]) fun _ _ _ _ _ _ us hl => match us, hl with | [_, _], _ => rfl
  have F_Unnumbered___rfloordiv := fun_mk (st := s_Unnumbered___rfloordiv) l_Unnumbered___rfloordiv c_Unnumbered___rfloordiv k_Unnumbered___rfloordiv
  have B_Unnumbered___rfloordiv := F_Unnumbered___rfloordiv.binds (ps := ["self", "other"]) fun _ _ _ _ _ _ us hl => match us, hl with | [_, _], _ => rfl
  have F_Unnumbered___mod := fun_mk (st := s_Unnumbered___mod) l_Unnumbered___mod c_Unnumbered___mod k_Unnumbered___mod
  have B_Unnumbered___mod := F_Unnumbered___mod.binds (ps := ["self", "other"]) fun _ _ _ _ _ _ us hl => match us, hl with | [_, _], _ => rfl
  have F_Unnumbered___rmod := fun_mk (st := s_Unnumbered___rmod) l_Unnumbered___rmod c_Unnumbered___rmod k_Unnumbered___rmod
  have B_Unnumbered___rmod := F_Unnumbered___rmod.binds (ps := ["self", "other"]) fun _ _ _ _ _ _ us hl => match us, hl with | [_, _], _ => rfl
  have F_Unnumbered___neg := fun_mk (st := s_Unnumbered___neg) l_Unnumbered___neg c_Unnumbered___neg k_Unnumbered___neg
  have B_Unnumbered___neg := F_Unnumbered___neg.binds (ps := ["self"]) fun _ _ _ _ _ _ us hl => match us, hl with | [_], _ => rfl
  have F_Unnumbered___pos := fun_mk (st := s_Unnumbered___pos) l_Unnumbered___pos c_Unnumbered___pos k_Unnumbered___pos
  have B_Unnumbered___pos := F_Unnumbered___pos.binds (ps := ["self"]) fun _ _ _ _ _ _ us hl => match us, hl with | [_], _ => rfl
  have F_Unnumbered___abs := fun_mk (st := s_Unnumbered___abs) l_Unnumbered___abs c_Unnumbered___abs k_Unnumbered___abs
  have B_Unnumbered___abs := F_Unnumbered___abs.binds (ps := ["self"]) fun _ _ _ _ _ _ us hl => match us, hl with | [_], _ => rfl
  have F_law_new := fun_mk (st := s_law_new) l_law_new c_law_new k_law_new
  have B_law_new := F_law_new.binds (ps := ["_law_told", "_law_name", "_law_olds"]) fun _ _ _ _ _ _ us hl => match us, hl with | [_, _, _], _ => rfl
  have F_law_row := fun_mk (st := s_law_row) l_law_row c_law_row k_law_row
  have B_law_row := F_law_row.binds (ps := ["_law_bag_here", "_law_marks"]) fun _ _ _ _ _ _ us hl => match us, hl with | [_, _], _ => rfl
  have F_law_led := fun_mk (st := s_law_led) l_law_led c_law_led k_law_led
  have B_law_led := F_law_led.binds (ps := ["_law_row_here"]) fun _ _ _ _ _ _ us hl => match us, hl with | [_], _ => rfl
  have F_law := fun_mk (st := s_law) l_law c_law k_law
  have B_law := F_law.binds (ps := ["_law_script"]) fun _ _ _ _ _ _ us hl => match us, hl with | [_], _ => rfl
  let T : Top K mg := { C_Unnumbered := C_Unnumbered, f_law_draw := f_law_draw, fd_law_draw := _, F_law_draw := F_law_draw, B_law_draw := B_law_draw, mg_law_draw := PySem.W.mg_of X G a_law_draw, f_law_bag := f_law_bag, fd_law_bag := _, F_law_bag := F_law_bag, B_law_bag := B_law_bag, mg_law_bag := PySem.W.mg_of X G a_law_bag, f_law_number := f_law_number, fd_law_number := _, F_law_number := F_law_number, B_law_number := B_law_number, mg_law_number := PySem.W.mg_of X G a_law_number, f_law_word := f_law_word, fd_law_word := _, F_law_word := F_law_word, B_law_word := B_law_word, mg_law_word := PySem.W.mg_of X G a_law_word, f_is_number := f_is_number, fd_is_number := _, F_is_number := F_is_number, B_is_number := B_is_number, mg_is_number := PySem.W.mg_of X G a_is_number, f_Unnumbered___init := f_Unnumbered___init, fd_Unnumbered___init := _, F_Unnumbered___init := F_Unnumbered___init, B_Unnumbered___init := B_Unnumbered___init, f_is_entry := f_is_entry, fd_is_entry := _, F_is_entry := F_is_entry, B_is_entry := B_is_entry, mg_is_entry := PySem.W.mg_of X G a_is_entry, f_is_value := f_is_value, fd_is_value := _, F_is_value := F_is_value, B_is_value := B_is_value, mg_is_value := PySem.W.mg_of X G a_is_value, f_Unnumbered___eq := f_Unnumbered___eq, fd_Unnumbered___eq := _, F_Unnumbered___eq := F_Unnumbered___eq, B_Unnumbered___eq := B_Unnumbered___eq, f_Unnumbered___ne := f_Unnumbered___ne, fd_Unnumbered___ne := _, F_Unnumbered___ne := F_Unnumbered___ne, B_Unnumbered___ne := B_Unnumbered___ne, f_Unnumbered___lt := f_Unnumbered___lt, fd_Unnumbered___lt := _, F_Unnumbered___lt := F_Unnumbered___lt, B_Unnumbered___lt := B_Unnumbered___lt, f_Unnumbered___le := f_Unnumbered___le, fd_Unnumbered___le := _, F_Unnumbered___le := F_Unnumbered___le, B_Unnumbered___le := B_Unnumbered___le, f_Unnumbered___gt := f_Unnumbered___gt, fd_Unnumbered___gt := _, F_Unnumbered___gt := F_Unnumbered___gt, B_Unnumbered___gt := B_Unnumbered___gt, f_Unnumbered___ge := f_Unnumbered___ge, fd_Unnumbered___ge := _, F_Unnumbered___ge := F_Unnumbered___ge, B_Unnumbered___ge := B_Unnumbered___ge, f_Unnumbered___add := f_Unnumbered___add, fd_Unnumbered___add := _, F_Unnumbered___add := F_Unnumbered___add, B_Unnumbered___add := B_Unnumbered___add, f_Unnumbered___radd := f_Unnumbered___radd, fd_Unnumbered___radd := _, F_Unnumbered___radd := F_Unnumbered___radd, B_Unnumbered___radd := B_Unnumbered___radd, f_Unnumbered___sub := f_Unnumbered___sub, fd_Unnumbered___sub := _, F_Unnumbered___sub := F_Unnumbered___sub, B_Unnumbered___sub := B_Unnumbered___sub, f_Unnumbered___rsub := f_Unnumbered___rsub, fd_Unnumbered___rsub := _, F_Unnumbered___rsub := F_Unnumbered___rsub, B_Unnumbered___rsub := B_Unnumbered___rsub, f_Unnumbered___mul := f_Unnumbered___mul, fd_Unnumbered___mul := _, F_Unnumbered___mul := F_Unnumbered___mul, B_Unnumbered___mul := B_Unnumbered___mul, f_Unnumbered___rmul := f_Unnumbered___rmul, fd_Unnumbered___rmul := _, F_Unnumbered___rmul := F_Unnumbered___rmul, B_Unnumbered___rmul := B_Unnumbered___rmul, f_Unnumbered___floordiv := f_Unnumbered___floordiv, fd_Unnumbered___floordiv := _, F_Unnumbered___floordiv := F_Unnumbered___floordiv, B_Unnumbered___floordiv := B_Unnumbered___floordiv, f_Unnumbered___rfloordiv := f_Unnumbered___rfloordiv, fd_Unnumbered___rfloordiv := _, F_Unnumbered___rfloordiv := F_Unnumbered___rfloordiv, B_Unnumbered___rfloordiv := B_Unnumbered___rfloordiv, f_Unnumbered___mod := f_Unnumbered___mod, fd_Unnumbered___mod := _, F_Unnumbered___mod := F_Unnumbered___mod, B_Unnumbered___mod := B_Unnumbered___mod, f_Unnumbered___rmod := f_Unnumbered___rmod, fd_Unnumbered___rmod := _, F_Unnumbered___rmod := F_Unnumbered___rmod, B_Unnumbered___rmod := B_Unnumbered___rmod, f_Unnumbered___neg := f_Unnumbered___neg, fd_Unnumbered___neg := _, F_Unnumbered___neg := F_Unnumbered___neg, B_Unnumbered___neg := B_Unnumbered___neg, f_Unnumbered___pos := f_Unnumbered___pos, fd_Unnumbered___pos := _, F_Unnumbered___pos := F_Unnumbered___pos, B_Unnumbered___pos := B_Unnumbered___pos, f_Unnumbered___abs := f_Unnumbered___abs, fd_Unnumbered___abs := _, F_Unnumbered___abs := F_Unnumbered___abs, B_Unnumbered___abs := B_Unnumbered___abs, f_law_new := f_law_new, fd_law_new := _, F_law_new := F_law_new, B_law_new := B_law_new, mg_law_new := PySem.W.mg_of X G a_law_new, f_law_row := f_law_row, fd_law_row := _, F_law_row := F_law_row, B_law_row := B_law_row, mg_law_row := PySem.W.mg_of X G a_law_row, f_law_led := f_law_led, fd_law_led := _, F_law_led := F_law_led, B_law_led := B_law_led, mg_law_led := PySem.W.mg_of X G a_law_led, f_law := fa, fd_law := _, F_law := F_law, B_law := B_law, mg_law := PySem.W.mg_of X G a_law, mgC_Unnumbered := PySem.W.mg_of X G aC_Unnumbered, cl_Unnumbered := ⟨pg_Unnumbered, hd_Unnumbered, po_Unnumbered, sa_Unnumbered⟩, in_Unnumbered := ⟨ca_Unnumbered, cm_Unnumbered, ocn, oct⟩, mk_Unnumbered := ⟨mk_Unnumbered, a_Unnumbered___init, i_Unnumbered___init, kc_Unnumbered⟩, me_Unnumbered___abs := ⟨a_Unnumbered___abs, i_Unnumbered___abs, k_Unnumbered___abs⟩, me_Unnumbered___add := ⟨a_Unnumbered___add, i_Unnumbered___add, k_Unnumbered___add⟩, me_Unnumbered___eq := ⟨a_Unnumbered___eq, i_Unnumbered___eq, k_Unnumbered___eq⟩, me_Unnumbered___floordiv := ⟨a_Unnumbered___floordiv, i_Unnumbered___floordiv, k_Unnumbered___floordiv⟩, me_Unnumbered___mod := ⟨a_Unnumbered___mod, i_Unnumbered___mod, k_Unnumbered___mod⟩, me_Unnumbered___mul := ⟨a_Unnumbered___mul, i_Unnumbered___mul, k_Unnumbered___mul⟩, me_Unnumbered___neg := ⟨a_Unnumbered___neg, i_Unnumbered___neg, k_Unnumbered___neg⟩, me_Unnumbered___pos := ⟨a_Unnumbered___pos, i_Unnumbered___pos, k_Unnumbered___pos⟩, me_Unnumbered___radd := ⟨a_Unnumbered___radd, i_Unnumbered___radd, k_Unnumbered___radd⟩, me_Unnumbered___rfloordiv := ⟨a_Unnumbered___rfloordiv, i_Unnumbered___rfloordiv, k_Unnumbered___rfloordiv⟩, me_Unnumbered___rmod := ⟨a_Unnumbered___rmod, i_Unnumbered___rmod, k_Unnumbered___rmod⟩, me_Unnumbered___rmul := ⟨a_Unnumbered___rmul, i_Unnumbered___rmul, k_Unnumbered___rmul⟩, me_Unnumbered___rsub := ⟨a_Unnumbered___rsub, i_Unnumbered___rsub, k_Unnumbered___rsub⟩, me_Unnumbered___sub := ⟨a_Unnumbered___sub, i_Unnumbered___sub, k_Unnumbered___sub⟩, bf_Unnumbered_add := ⟨sf_Unnumbered, ba_Unnumbered_add, i_Unnumbered___add, br_Unnumbered_add, i_Unnumbered___radd, ⟨_, bo_Unnumbered_add⟩, ⟨_, bp_Unnumbered_add⟩, sub_Unnumbered, isub_Unnumbered, ⟨_, cl_Unnumbered, mro_Unnumbered⟩, bi_Unnumbered_add, bj_Unnumbered_add⟩, bf_Unnumbered_floordiv := ⟨sf_Unnumbered, ba_Unnumbered_floordiv, i_Unnumbered___floordiv, br_Unnumbered_floordiv, i_Unnumbered___rfloordiv, ⟨_, bo_Unnumbered_floordiv⟩, ⟨_, bp_Unnumbered_floordiv⟩, sub_Unnumbered, isub_Unnumbered, ⟨_, cl_Unnumbered, mro_Unnumbered⟩, bi_Unnumbered_floordiv, bj_Unnumbered_floordiv⟩, bf_Unnumbered_mod := ⟨sf_Unnumbered, ba_Unnumbered_mod, i_Unnumbered___mod, br_Unnumbered_mod, i_Unnumbered___rmod, ⟨_, bo_Unnumbered_mod⟩, ⟨_, bp_Unnumbered_mod⟩, sub_Unnumbered, isub_Unnumbered, ⟨_, cl_Unnumbered, mro_Unnumbered⟩, bi_Unnumbered_mod, bj_Unnumbered_mod⟩, bf_Unnumbered_mul := ⟨sf_Unnumbered, ba_Unnumbered_mul, i_Unnumbered___mul, br_Unnumbered_mul, i_Unnumbered___rmul, ⟨_, bo_Unnumbered_mul⟩, ⟨_, bp_Unnumbered_mul⟩, sub_Unnumbered, isub_Unnumbered, ⟨_, cl_Unnumbered, mro_Unnumbered⟩, bi_Unnumbered_mul, bj_Unnumbered_mul⟩, bf_Unnumbered_sub := ⟨sf_Unnumbered, ba_Unnumbered_sub, i_Unnumbered___sub, br_Unnumbered_sub, i_Unnumbered___rsub, ⟨_, bo_Unnumbered_sub⟩, ⟨_, bp_Unnumbered_sub⟩, sub_Unnumbered, isub_Unnumbered, ⟨_, cl_Unnumbered, mro_Unnumbered⟩, bi_Unnumbered_sub, bj_Unnumbered_sub⟩, no_Unnumbered_name := no_Unnumbered_name, z_abs := PySem.W.mg_none_of X G z_abs, z_any := PySem.W.mg_none_of X G z_any, z_bool := PySem.W.mg_none_of X G z_bool, z_int := PySem.W.mg_none_of X G z_int, z_isinstance := PySem.W.mg_none_of X G z_isinstance, z_len := PySem.W.mg_none_of X G z_len, z_max := PySem.W.mg_none_of X G z_max, z_min := PySem.W.mg_none_of X G z_min, z_range := PySem.W.mg_none_of X G z_range, ki_NoneType_Unnumbered := ki_NoneType_Unnumbered, ki_bool_Unnumbered := ki_bool_Unnumbered, ki_int_Unnumbered := ki_int_Unnumbered, ki_str_Unnumbered := ki_str_Unnumbered, ki_list_Unnumbered := ki_list_Unnumbered, ki_tuple_Unnumbered := ki_tuple_Unnumbered, ki_Unnumbered_Unnumbered := ki_Unnumbered_Unnumbered, ki_Unnumbered_bool := ki_Unnumbered_bool, ki_Unnumbered_int := ki_Unnumbered_int }
  exact ⟨PySem.W.fnOf "law" "law" (defArgs s_law) (defBody s_law) (defScope s_law) .none kV_law dc_law pm_law an_law cd_law ct_law, fun s v => .of_eq rfl, fun base _ _ => ok_law T⟩
theorem walk {l : PySem.W.OpenLaw} {q : Program} {loose : List Str} {XP : (Str → Option Value) → Heap → Prop} {YP : World → Heap → Prop} {d : DefRec} {K : Params → PySem.W.Frag} (hn : l.most = some 63) (hdf : d.params.defaults = [])
    (hY : ∀ (w : World) (h : Heap), YP w h → (K w.params).In h)
    (F : ∀ (w : World) (mg : Str → Option Value) (fa : Addr) (h : Heap), (K w.params).In h → h.Ns mainGlobals mg → mg d.name = some (.ref fa) →
      ∃ fd : FuncData, (∀ (s : Shared) (u : Value), BindsTo s fd ⟨[u], []⟩ [("_law_script", u)]) ∧ ∀ base : Heap, (K w.params).In base → base.Ns mainGlobals mg → FnOk l.prog w (K w.params) mg base CX0 5 fa fd ["_law_script"] (sp_law (K w.params))) :
    PySem.W.WalkO q loose XP YP l.row.toRowW d [] (fun f vs => PySem.call f vs) :=
  L2.walk_of (n := 63) (k := 5) (x := "_law_script") (CX := fun _ => CX0) (sp := fun w => sp_law (K w.params)) hn (by decide) hdf ⟨rfl, by decide, by decide⟩ hY F (fun _ _ a ns hl _ hS => ⟨a, ns, rfl, hS, hl, fun _ => rfl⟩) fun _ _ _ _ _ z => z
end My

open PySem PySem.W PyProof.Rows in
set_option maxRecDepth 100000 in
set_option maxHeartbeats 0 in
theorem PySem.Challenge.cw_unnumbered_k03_sums_and_products_holds : PySem.Challenge.rw_unnumbered_k03_sums_and_products.Holds := by
  w_on; o_law; k_head; (case hw => w_witness2)
  k_fill
  refine My.walk (l := PySem.Challenge.rw_unnumbered_k03_sums_and_products) rfl rfl (fun w h Y => PySem.W.kIn_of Y) ?F
  case F =>
    intro w mg fa h KX G hmg
    refine' My.all_mk KX G hmg ?aC_Unnumbered ?a_law_draw ?l_law_draw ?c_law_draw ?k_law_draw ?a_law_bag ?l_law_bag ?c_law_bag ?k_law_bag ?a_law_number ?l_law_number ?c_law_number ?k_law_number ?a_law_word ?l_law_word ?c_law_word ?k_law_word ?a_is_number ?l_is_number ?c_is_number ?k_is_number ?a_Unnumbered___init ?i_Unnumbered___init ?l_Unnumbered___init ?c_Unnumbered___init ?k_Unnumbered___init ?a_is_entry ?l_is_entry ?c_is_entry ?k_is_entry ?a_is_value ?l_is_value ?c_is_value ?k_is_value ?a_Unnumbered___eq ?i_Unnumbered___eq ?l_Unnumbered___eq ?c_Unnumbered___eq ?k_Unnumbered___eq ?a_Unnumbered___ne ?i_Unnumbered___ne ?l_Unnumbered___ne ?c_Unnumbered___ne ?k_Unnumbered___ne ?a_Unnumbered___lt ?i_Unnumbered___lt ?l_Unnumbered___lt ?c_Unnumbered___lt ?k_Unnumbered___lt ?a_Unnumbered___le ?i_Unnumbered___le ?l_Unnumbered___le ?c_Unnumbered___le ?k_Unnumbered___le ?a_Unnumbered___gt ?i_Unnumbered___gt ?l_Unnumbered___gt ?c_Unnumbered___gt ?k_Unnumbered___gt ?a_Unnumbered___ge ?i_Unnumbered___ge ?l_Unnumbered___ge ?c_Unnumbered___ge ?k_Unnumbered___ge ?a_Unnumbered___add ?i_Unnumbered___add ?l_Unnumbered___add ?c_Unnumbered___add ?k_Unnumbered___add ?a_Unnumbered___radd ?i_Unnumbered___radd ?l_Unnumbered___radd ?c_Unnumbered___radd ?k_Unnumbered___radd ?a_Unnumbered___sub ?i_Unnumbered___sub ?l_Unnumbered___sub ?c_Unnumbered___sub ?k_Unnumbered___sub ?a_Unnumbered___rsub ?i_Unnumbered___rsub ?l_Unnumbered___rsub ?c_Unnumbered___rsub ?k_Unnumbered___rsub ?a_Unnumbered___mul ?i_Unnumbered___mul ?l_Unnumbered___mul ?c_Unnumbered___mul ?k_Unnumbered___mul ?a_Unnumbered___rmul ?i_Unnumbered___rmul ?l_Unnumbered___rmul ?c_Unnumbered___rmul ?k_Unnumbered___rmul ?a_Unnumbered___floordiv ?i_Unnumbered___floordiv ?l_Unnumbered___floordiv ?c_Unnumbered___floordiv ?k_Unnumbered___floordiv ?a_Unnumbered___rfloordiv ?i_Unnumbered___rfloordiv ?l_Unnumbered___rfloordiv ?c_Unnumbered___rfloordiv ?k_Unnumbered___rfloordiv ?a_Unnumbered___mod ?i_Unnumbered___mod ?l_Unnumbered___mod ?c_Unnumbered___mod ?k_Unnumbered___mod ?a_Unnumbered___rmod ?i_Unnumbered___rmod ?l_Unnumbered___rmod ?c_Unnumbered___rmod ?k_Unnumbered___rmod ?a_Unnumbered___neg ?i_Unnumbered___neg ?l_Unnumbered___neg ?c_Unnumbered___neg ?k_Unnumbered___neg ?a_Unnumbered___pos ?i_Unnumbered___pos ?l_Unnumbered___pos ?c_Unnumbered___pos ?k_Unnumbered___pos ?a_Unnumbered___abs ?i_Unnumbered___abs ?l_Unnumbered___abs ?c_Unnumbered___abs ?k_Unnumbered___abs ?a_law_new ?l_law_new ?c_law_new ?k_law_new ?a_law_row ?l_law_row ?c_law_row ?k_law_row ?a_law_led ?l_law_led ?c_law_led ?k_law_led ?a_law ?l_law ?c_law ?k_law ?pg_Unnumbered ?hd_Unnumbered ?po_Unnumbered ?sa_Unnumbered ?ca_Unnumbered ?cm_Unnumbered ?mk_Unnumbered ?kc_Unnumbered ?cl_Unnumbered ?mro_Unnumbered ?sf_Unnumbered ?sub_Unnumbered ?isub_Unnumbered ?ba_Unnumbered_add ?br_Unnumbered_add ?bo_Unnumbered_add ?bp_Unnumbered_add ?bi_Unnumbered_add ?bj_Unnumbered_add ?ba_Unnumbered_floordiv ?br_Unnumbered_floordiv ?bo_Unnumbered_floordiv ?bp_Unnumbered_floordiv ?bi_Unnumbered_floordiv ?bj_Unnumbered_floordiv ?ba_Unnumbered_mod ?br_Unnumbered_mod ?bo_Unnumbered_mod ?bp_Unnumbered_mod ?bi_Unnumbered_mod ?bj_Unnumbered_mod ?ba_Unnumbered_mul ?br_Unnumbered_mul ?bo_Unnumbered_mul ?bp_Unnumbered_mul ?bi_Unnumbered_mul ?bj_Unnumbered_mul ?ba_Unnumbered_sub ?br_Unnumbered_sub ?bo_Unnumbered_sub ?bp_Unnumbered_sub ?bi_Unnumbered_sub ?bj_Unnumbered_sub ?ocn ?oct ?no_Unnumbered_name ?z_abs ?z_any ?z_bool ?z_int ?z_isinstance ?z_len ?z_max ?z_min ?z_range ?ki_NoneType_Unnumbered ?ki_bool_Unnumbered ?ki_int_Unnumbered ?ki_str_Unnumbered ?ki_list_Unnumbered ?ki_tuple_Unnumbered ?ki_Unnumbered_Unnumbered ?ki_Unnumbered_bool ?ki_Unnumbered_int
    (case aC_Unnumbered => k_is)
    (case a_law_draw => k_is)
    (case l_law_draw => k_is)
    (case c_law_draw => k_is)
    (case k_law_draw => k_is)
    (case a_law_bag => k_is)
    (case l_law_bag => k_is)
    (case c_law_bag => k_is)
    (case k_law_bag => k_is)
    (case a_law_number => k_is)
    (case l_law_number => k_is)
    (case c_law_number => k_is)
    (case k_law_number => k_is)
    (case a_law_word => k_is)
    (case l_law_word => k_is)
    (case c_law_word => k_is)
    (case k_law_word => k_is)
    (case a_is_number => k_is)
    (case l_is_number => k_is)
    (case c_is_number => k_is)
    (case k_is_number => k_is)
    (case a_Unnumbered___init => k_is)
    (case i_Unnumbered___init => k_is)
    (case l_Unnumbered___init => k_is)
    (case c_Unnumbered___init => k_is)
    (case k_Unnumbered___init => k_is)
    (case a_is_entry => k_is)
    (case l_is_entry => k_is)
    (case c_is_entry => k_is)
    (case k_is_entry => k_is)
    (case a_is_value => k_is)
    (case l_is_value => k_is)
    (case c_is_value => k_is)
    (case k_is_value => k_is)
    (case a_Unnumbered___eq => k_is)
    (case i_Unnumbered___eq => k_is)
    (case l_Unnumbered___eq => k_is)
    (case c_Unnumbered___eq => k_is)
    (case k_Unnumbered___eq => k_is)
    (case a_Unnumbered___ne => k_is)
    (case i_Unnumbered___ne => k_is)
    (case l_Unnumbered___ne => k_is)
    (case c_Unnumbered___ne => k_is)
    (case k_Unnumbered___ne => k_is)
    (case a_Unnumbered___lt => k_is)
    (case i_Unnumbered___lt => k_is)
    (case l_Unnumbered___lt => k_is)
    (case c_Unnumbered___lt => k_is)
    (case k_Unnumbered___lt => k_is)
    (case a_Unnumbered___le => k_is)
    (case i_Unnumbered___le => k_is)
    (case l_Unnumbered___le => k_is)
    (case c_Unnumbered___le => k_is)
    (case k_Unnumbered___le => k_is)
    (case a_Unnumbered___gt => k_is)
    (case i_Unnumbered___gt => k_is)
    (case l_Unnumbered___gt => k_is)
    (case c_Unnumbered___gt => k_is)
    (case k_Unnumbered___gt => k_is)
    (case a_Unnumbered___ge => k_is)
    (case i_Unnumbered___ge => k_is)
    (case l_Unnumbered___ge => k_is)
    (case c_Unnumbered___ge => k_is)
    (case k_Unnumbered___ge => k_is)
    (case a_Unnumbered___add => k_is)
    (case i_Unnumbered___add => k_is)
    (case l_Unnumbered___add => k_is)
    (case c_Unnumbered___add => k_is)
    (case k_Unnumbered___add => k_is)
    (case a_Unnumbered___radd => k_is)
    (case i_Unnumbered___radd => k_is)
    (case l_Unnumbered___radd => k_is)
    (case c_Unnumbered___radd => k_is)
    (case k_Unnumbered___radd => k_is)
    (case a_Unnumbered___sub => k_is)
    (case i_Unnumbered___sub => k_is)
    (case l_Unnumbered___sub => k_is)
    (case c_Unnumbered___sub => k_is)
    (case k_Unnumbered___sub => k_is)
    (case a_Unnumbered___rsub => k_is)
    (case i_Unnumbered___rsub => k_is)
    (case l_Unnumbered___rsub => k_is)
    (case c_Unnumbered___rsub => k_is)
    (case k_Unnumbered___rsub => k_is)
    (case a_Unnumbered___mul => k_is)
    (case i_Unnumbered___mul => k_is)
    (case l_Unnumbered___mul => k_is)
    (case c_Unnumbered___mul => k_is)
    (case k_Unnumbered___mul => k_is)
    (case a_Unnumbered___rmul => k_is)
    (case i_Unnumbered___rmul => k_is)
    (case l_Unnumbered___rmul => k_is)
    (case c_Unnumbered___rmul => k_is)
    (case k_Unnumbered___rmul => k_is)
    (case a_Unnumbered___floordiv => k_is)
    (case i_Unnumbered___floordiv => k_is)
    (case l_Unnumbered___floordiv => k_is)
    (case c_Unnumbered___floordiv => k_is)
    (case k_Unnumbered___floordiv => k_is)
    (case a_Unnumbered___rfloordiv => k_is)
    (case i_Unnumbered___rfloordiv => k_is)
    (case l_Unnumbered___rfloordiv => k_is)
    (case c_Unnumbered___rfloordiv => k_is)
    (case k_Unnumbered___rfloordiv => k_is)
    (case a_Unnumbered___mod => k_is)
    (case i_Unnumbered___mod => k_is)
    (case l_Unnumbered___mod => k_is)
    (case c_Unnumbered___mod => k_is)
    (case k_Unnumbered___mod => k_is)
    (case a_Unnumbered___rmod => k_is)
    (case i_Unnumbered___rmod => k_is)
    (case l_Unnumbered___rmod => k_is)
    (case c_Unnumbered___rmod => k_is)
    (case k_Unnumbered___rmod => k_is)
    (case a_Unnumbered___neg => k_is)
    (case i_Unnumbered___neg => k_is)
    (case l_Unnumbered___neg => k_is)
    (case c_Unnumbered___neg => k_is)
    (case k_Unnumbered___neg => k_is)
    (case a_Unnumbered___pos => k_is)
    (case i_Unnumbered___pos => k_is)
    (case l_Unnumbered___pos => k_is)
    (case c_Unnumbered___pos => k_is)
    (case k_Unnumbered___pos => k_is)
    (case a_Unnumbered___abs => k_is)
    (case i_Unnumbered___abs => k_is)
    (case l_Unnumbered___abs => k_is)
    (case c_Unnumbered___abs => k_is)
    (case k_Unnumbered___abs => k_is)
    (case a_law_new => k_is)
    (case l_law_new => k_is)
    (case c_law_new => k_is)
    (case k_law_new => k_is)
    (case a_law_row => k_is)
    (case l_law_row => k_is)
    (case c_law_row => k_is)
    (case k_law_row => k_is)
    (case a_law_led => k_is)
    (case l_law_led => k_is)
    (case c_law_led => k_is)
    (case k_law_led => k_is)
    (case a_law => k_is)
    (case l_law => k_is)
    (case c_law => k_is)
    (case k_law => k_is)
    (case pg_Unnumbered => k_is)
    (case hd_Unnumbered => k_is)
    (case po_Unnumbered => k_is)
    (case sa_Unnumbered => k_is)
    (case ca_Unnumbered => k_is)
    (case cm_Unnumbered => k_is)
    (case mk_Unnumbered => k_is)
    (case kc_Unnumbered => k_is)
    (case cl_Unnumbered => k_is)
    (case mro_Unnumbered => rfl)
    (case sf_Unnumbered => k_is)
    (case sub_Unnumbered => k_is)
    (case isub_Unnumbered => k_is)
    (case ba_Unnumbered_add => k_is)
    (case br_Unnumbered_add => k_is)
    (case bo_Unnumbered_add => k_is)
    (case bp_Unnumbered_add => k_is)
    (case bi_Unnumbered_add => k_is)
    (case bj_Unnumbered_add => k_is)
    (case ba_Unnumbered_floordiv => k_is)
    (case br_Unnumbered_floordiv => k_is)
    (case bo_Unnumbered_floordiv => k_is)
    (case bp_Unnumbered_floordiv => k_is)
    (case bi_Unnumbered_floordiv => k_is)
    (case bj_Unnumbered_floordiv => k_is)
    (case ba_Unnumbered_mod => k_is)
    (case br_Unnumbered_mod => k_is)
    (case bo_Unnumbered_mod => k_is)
    (case bp_Unnumbered_mod => k_is)
    (case bi_Unnumbered_mod => k_is)
    (case bj_Unnumbered_mod => k_is)
    (case ba_Unnumbered_mul => k_is)
    (case br_Unnumbered_mul => k_is)
    (case bo_Unnumbered_mul => k_is)
    (case bp_Unnumbered_mul => k_is)
    (case bi_Unnumbered_mul => k_is)
    (case bj_Unnumbered_mul => k_is)
    (case ba_Unnumbered_sub => k_is)
    (case br_Unnumbered_sub => k_is)
    (case bo_Unnumbered_sub => k_is)
    (case bp_Unnumbered_sub => k_is)
    (case bi_Unnumbered_sub => k_is)
    (case bj_Unnumbered_sub => k_is)
    (case ocn => k_is)
    (case oct => k_is)
    (case no_Unnumbered_name => k_is)
    (case z_abs => k_is)
    (case z_any => k_is)
    (case z_bool => k_is)
    (case z_int => k_is)
    (case z_isinstance => k_is)
    (case z_len => k_is)
    (case z_max => k_is)
    (case z_min => k_is)
    (case z_range => k_is)
    (case ki_NoneType_Unnumbered => kit_is)
    (case ki_bool_Unnumbered => kit_is)
    (case ki_int_Unnumbered => kit_is)
    (case ki_str_Unnumbered => kit_is)
    (case ki_list_Unnumbered => kit_is)
    (case ki_tuple_Unnumbered => kit_is)
    (case ki_Unnumbered_Unnumbered => kit_is)
    (case ki_Unnumbered_bool => kit_is)
    (case ki_Unnumbered_int => kit_is)
#print axioms PySem.Challenge.cw_unnumbered_k03_sums_and_products_holds
