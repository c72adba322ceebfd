import PyProof.Rows.All
import Wide.All
import OpenK.AllK
import Wide.FinOn
import HandS.ForMost
import HandS.IsInst
import HandS.Style
import HandS.OwnEq
import HandS.SlotsOwn
import KE.RegKIsAll
import KE.KOpsOwn
import HandS.Wide
import HandS.FStr
import HandS.Iter
import KE.GoesMore
import HandS.IterVal
import HandS.ClsMeth
import HandS.Star
import HandS.Text
import HandS.ExcInit
import KE.KExcInit
import KE.KExcLine
import KE.KExcIs
import HandS.Exc
import HandS.ExcOwn
import HandS.ExcField
import HandS.ExcIs
import HandS.WordsExc
import HandS.Zip
import HandS.TupAny
import HandS.SetKeys
import PySem.Challenge.RW_unnumbered_k13_series_together
set_option Elab.async false
set_option linter.all false
set_option maxRecDepth 100000
set_option maxHeartbeats 4000000
set_option autoImplicit false
namespace My
open PySem PySem.Spec PyProof.Rows L2
/-! the text by its places -/
def topS (i : Nat) : Stmt := PySem.Challenge.pw_unnumbered_k13_series_together.main.body.getD i (.Pass ⟨0, 0, 0, 0⟩)
abbrev s_law_draw : Stmt := topS 23
abbrev s_law_bag : Stmt := topS 22
abbrev s_law_number : Stmt := topS 24
abbrev s_law_word : Stmt := topS 25
abbrev s_is_number : Stmt := topS 7
abbrev s_Unnumbered___init : Stmt := inClass (topS 12) 0
abbrev s_same : Stmt := topS 10
abbrev s_is_entry : Stmt := topS 8
abbrev s_Unnumbered___eq : Stmt := inClass (topS 12) 1
abbrev s_Unnumbered___str : Stmt := inClass (topS 12) 21
abbrev s_with_one_object_a_name : Stmt := topS 18
abbrev s_Series___init : Stmt := inClass (topS 17) 0
abbrev s_BadSeries___init : Stmt := inClass (topS 3) 0
abbrev s_NoKey___init : Stmt := inClass (topS 4) 0
abbrev s_Series___len : Stmt := inClass (topS 17) 5
abbrev s_Series___getitem : Stmt := inClass (topS 17) 7
abbrev s_Series___str : Stmt := inClass (topS 17) 11
abbrev s_Series___add : Stmt := inClass (topS 17) 9
abbrev s_Series___eq : Stmt := inClass (topS 17) 10
abbrev s_Series___contains : Stmt := inClass (topS 17) 8
abbrev s_Told___init : Stmt := inClass (topS 13) 0
abbrev s_law_is_int : Stmt := topS 26
abbrev s_law_alike : Stmt := topS 28
abbrev s_law_says : Stmt := topS 29
abbrev s_law_equal : Stmt := topS 32
abbrev s_law_no_key : Stmt := topS 33
abbrev s_law_too_long : Stmt := topS 34
abbrev s_law_entries : Stmt := topS 30
abbrev s_law_changed : Stmt := topS 31
abbrev s_law_added : Stmt := topS 35
abbrev s_law : Stmt := topS 36
/-! readings, step by step; heaps; short words -/
namespace Z
structure Inst (K : PySem.W.Frag) (C : Addr) : Prop where
  ca : PySem.W.findIn K (.ref C) "__class__" = some (some (.builtin "object.__class__"))
  cm : PySem.W.mroIn K C (.type "object") = some true
  cn : PySem.W.specialIn K (.builtin "object.__class__") "__get__" = some (some (.builtin "getset_descriptor.__get__"))
  ct : PySem.W.takesIn K (.builtin "object.__class__") = some true
/-- all but b stands -/
def But (b : Addr) (H H' : Hp) : Prop := ∀ a o, a ≠ b → H a = some o → H' a = some o
theorem But.refl {b : Addr} (H : Hp) : But b H H := fun _ _ _ h => h
theorem But.trans {b : Addr} {H H1 H2 : Hp} (x : But b H H1) (y : But b H1 H2) : But b H H2 := fun a o n h => y a o n (x a o n h)
theorem But.same {b : Addr} {H H1 : Hp} (x : Same H H1) : But b H H1 := fun a o _ h => x a o h
theorem But.upd {b : Addr} {H : Hp} {o : HO} : But b H (upd H b o) := fun a u n h => by
  rw [upd_ne n]; exact h
theorem same_upd {H : Hp} {p : Addr} {o : HO} (h : H p = none) : Same H (upd H p o) := fun b x e => by
  rw [upd_ne (ne_of_none e h)]; exact e
theorem But.free {b p : Addr} {H H1 : Hp} (e : But b H H1) (n : p ≠ b) (h : H1 p = none) : H p = none := by
  cases q : H p with
  | none => rfl
  | some o => rw [e p o n q] at h; cases h
/-- what was fresh may change: all the old stands -/
theorem But.back {b : Addr} {H H1 H2 : Hp} (s : Same H H1) (n : H b = none) (e : But b H1 H2) : Same H H2 := fun a o h => e a o (ne_of_none h n) (s a o h)
theorem But.seq {K : PySem.W.Frag} {b a : Addr} {H H' : Hp} {xs : List V} (e : But b H H') (n : a ≠ b) (h : SqL K H a xs) : SqL K H' a xs := by
  rcases h with (h | ⟨o, h⟩) | h
  · exact .inl (.inl (e _ _ n h))
  · exact .inl (.inr ⟨o, e _ _ n h⟩)
  · exact .inr h
section
variable {K : PySem.W.Frag} {σ : L2.St} {H : Hp} {Q : VK} {D : Ends} {t u : TS} {ta tb te tc : TE} {tt tu : TT} {i j : Nat} {v x y : V} {r : R2} {A : TA} {sp : Sp} {E : XK}
theorem r_start {σ' : L2.St} (e : σ = σ') (h : t D σ' H) : t D σ H := e ▸ h
theorem r_seq (h : t { D with nx := u D } σ H) : tSeq t u D σ H := h
theorem r_next (h : D.nx σ H) : tNext D σ H := h
theorem r_asg (h : te σ H fun x H1 => D.nx (σ.set i (some x)) H1) : tAsg te (gName i) D σ H := h
theorem r_asgG {g : TG} (h : te σ H fun x H1 => g x σ H1 D.nx) : tAsg te g D σ H := h
theorem r_gName {N : L2.St → Hp → Prop} (h : N (σ.set i (some v)) H) : gName i v σ H N := h
theorem r_ret (h : te σ H D.rt) : tRet te D σ H := h
theorem r_retN (h : D.rt .non H) : tRetN D σ H := h
theorem r_drop (h : te σ H fun _ H1 => D.nx σ H1) : tDrop te D σ H := h
theorem r_if (h : tt σ H fun b H1 => if b = true then t D σ H1 else u D σ H1) : tIfS tt t u D σ H := h
theorem r_par (h : A σ H fun vs H1 => ∃ v w, vs = [v, w] ∧ D.nx ((σ.set i (some v)).set j (some w)) H1) : tPar i j A D σ H := h
theorem r_aug {ti : TIp} (e : σ[i]? = some (some x)) (h : te σ H fun y H1 => ti x y H1 fun z H2 => D.nx (σ.set i (some z)) H2) : tAug i te ti D σ H := ⟨x, e, h⟩
theorem r_par3 {l : Nat} (h : A σ H fun vs H1 => ∃ u v w, vs = [u, v, w] ∧ D.nx (((σ.set i (some u)).set j (some v)).set l (some w)) H1) : tPar3 i j l A D σ H := h
theorem r_gTup {n : Nat} {w : TGs} {a : Addr} {xs : List V} {N : L2.St → Hp → Prop} (e : H a = some (.tup xs)) (hn : xs.length = n) (h : w xs σ H N) : gTup K n w (.ref a) σ H N := ⟨a, xs, rfl, SqT.of e, hn, h⟩
theorem r_gCons {g : TG} {w : TGs} {xs : List V} {N : L2.St → Hp → Prop} (h : g v σ H fun σ1 H1 => w xs σ1 H1 N) : gCons g w (v :: xs) σ H N := ⟨v, xs, rfl, h⟩
theorem r_gNil {N : L2.St → Hp → Prop} (h : N σ H) : gNil [] σ H N := ⟨rfl, h⟩
theorem r_vs2 {N : V → V → Prop} (h : N x y) : ∃ v w, [x, y] = [v, w] ∧ N v w := ⟨x, y, rfl, h⟩
theorem r_vs3 {z : V} {N : V → V → V → Prop} (h : N x y z) : ∃ u v w, [x, y, z] = [u, v, w] ∧ N u v w := ⟨x, y, z, rfl, h⟩
theorem r_var (e : σ[i]? = some (some v)) (h : Q v H) : tVar i σ H Q := ⟨v, e, h⟩
theorem r_c (h : Q v H) : tC v σ H Q := h
theorem r_op (h : ta σ H fun x H1 => tb σ H1 fun y H2 => r x y H2 Q) : tOp r ta tb σ H Q := h
theorem r_un {r : V → Hp → VK → Prop} (h : ta σ H fun x H1 => r x H1 Q) : tUn r ta σ H Q := h
theorem r_test {N : Bool → Hp → Prop} (h : te σ H fun x H' => ∃ k, x = .bl k ∧ N k H') : tTest te σ H N := h
theorem r_tB {N : Bool → Hp → Prop} (h : te σ H fun x H1 => ∃ c, x = .bl c ∧ N c H1) : tB te σ H N := h
theorem r_bl {k : Bool} {N : Bool → Prop} (h : N k) : ∃ c, V.bl k = .bl c ∧ N c := ⟨k, rfl, h⟩
theorem r_and {N : Bool → Hp → Prop} (h : tt σ H fun c H1 => if c = true then tu σ H1 N else N false H1) : tAnd tt tu σ H N := h
theorem r_or {N : Bool → Hp → Prop} (h : tt σ H fun c H1 => if c = true then N true H1 else tu σ H1 N) : tOr tt tu σ H N := h
theorem r_not {N : Bool → Hp → Prop} (h : tt σ H fun c H1 => N (!c) H1) : tNot tt σ H N := h
theorem r_andV (h : ta σ H fun x H1 => ∃ c, x = .bl c ∧ if c = true then tb σ H1 Q else Q (.bl false) H1) : tAndV ta tb σ H Q := h
theorem r_orV (h : ta σ H fun x H1 => ∃ c, x = .bl c ∧ if c = true then Q (.bl true) H1 else tb σ H1 Q) : tOrV ta tb σ H Q := h
theorem r_notV (h : ta σ H fun x H1 => ∃ c, x = .bl c ∧ Q (.bl (!c)) H1) : tNotV ta σ H Q := h
theorem r_ifE (h : tt σ H fun c H1 => if c = true then ta σ H1 Q else tb σ H1 Q) : tIf tt ta tb σ H Q := h
theorem via (R : V → Hp → Prop) (h : ∀ M : VK, (∀ v H', R v H' → M v H') → te σ H M) (k : ∀ v H', R v H' → Q v H') : te σ H Q := h Q k
theorem r_nil {N : List V → Hp → Prop} (h : N [] H) : tNil σ H N := h
theorem r_cons {N : List V → Hp → Prop} (h : te σ H fun x H1 => A σ H1 fun xs H2 => N (x :: xs) H2) : tCons te A σ H N := h
theorem r_call {ds : List V} (h : A σ H fun vs H1 => sp (vs ++ ds) H1 Q E) : tCall sp ds E A σ H Q := h
theorem r_cb {r : List V → Hp → VK → Prop} (h : A σ H fun vs H1 => r vs H1 Q) : tCB r A σ H Q := h
/-- a new list, a new tuple -/
def nwL (xs : List V) (H : Hp) (Q : VK) : Prop := xs.length ≤ sizeLine ∧ ∀ p, H p = none → Q (.ref p) (upd H p (.lst xs))
def nwT (xs : List V) (H : Hp) (Q : VK) : Prop := xs.length ≤ sizeLine ∧ ∀ p, H p = none → Q (.ref p) (upd H p (.tup xs))
theorem r_tup (h : A σ H fun xs H1 => nwT xs H1 Q) : tTup A σ H Q := h
theorem r_lst (h : A σ H fun xs H1 => nwL xs H1 Q) : tLst A σ H Q := h
theorem r_nwL {xs : List V} (z : xs.length ≤ 1000) (h : ∀ p H1, H p = none → Same H H1 → H1 p = some (.lst xs) → Q (.ref p) H1) : nwL xs H Q := ⟨Nat.le_trans z (by decide), fun p np => h p _ np (same_upd np) upd_same⟩
theorem r_nwT {xs : List V} (z : xs.length ≤ 1000) (h : ∀ p H1, H p = none → Same H H1 → H1 p = some (.tup xs) → Q (.ref p) H1) : nwT xs H Q := ⟨Nat.le_trans z (by decide), fun p np => h p _ np (same_upd np) upd_same⟩
def fldR (K : PySem.W.Frag) (f : Str) (x : V) (H : Hp) (Q : VK) : Prop := ∃ a C dx fs v, x = .ref a ∧ H a = some (.ins C dx fs) ∧ Cls K C ∧ NoAttr K C f ∧ fs.lookup f = some v ∧ Q v H
theorem r_fld {f : Str} (h : ta σ H fun x H1 => fldR K f x H1 Q) : tFld K ta f σ H Q := h
theorem r_fldV {f : Str} {a C dx : Addr} {fs : List (Str × V)} (e : H a = some (.ins C dx fs)) (c : Cls K C) (n : NoAttr K C f) (l : fs.lookup f = some v) (h : Q v H) : fldR K f (.ref a) H Q := ⟨a, C, dx, fs, v, rfl, e, c, n, l, h⟩
/-! operators on values that are known -/
theorem r_I0 {g : Int → Int → V} {a b : Int} (h : Q (g a b) H) : rI0 g (.int a) (.int b) H Q := ⟨a, b, rfl, rfl, h⟩
theorem r_I {C : Int → Int → Prop} {g : Int → Int → V} {a b : Int} (c : C a b) (h : Q (g a b) H) : rI C g (.int a) (.int b) H Q := ⟨a, b, rfl, rfl, c, h⟩
theorem r_U {g : Int → V} {a : Int} (h : Q (g a) H) : rU g (.int a) H Q := ⟨a, rfl, h⟩
theorem r_eqI {a b : Int} (h : Q (.bl (decide (a = b))) H) : rEq (.int a) (.int b) H Q := ⟨rfl, by
  have e : decide (V.int a = V.int b) = decide (a = b) := by
    by_cases q : a = b <;> simp [q]
  rw [e]; exact h⟩
theorem r_eqB {a b : Bool} (h : Q (.bl (decide (a = b))) H) : rEq (.bl a) (.bl b) H Q := ⟨rfl, by
  have e : decide (V.bl a = V.bl b) = decide (a = b) := by
    by_cases q : a = b <;> simp [q]
  rw [e]; exact h⟩
theorem r_eqS {a b : Str} (h : Q (.bl (decide (a = b))) H) : rEq (.str a) (.str b) H Q := ⟨rfl, by
  have e : decide (V.str a = V.str b) = decide (a = b) := by
    by_cases q : a = b <;> simp [q]
  rw [e]; exact h⟩
theorem r_neI {a b : Int} (h : Q (.bl (!decide (a = b))) H) : rNe (.int a) (.int b) H Q := ⟨rfl, by
  have e : decide (V.int a = V.int b) = decide (a = b) := by
    by_cases q : a = b <;> simp [q]
  rw [e]; exact h⟩
theorem r_neB {a b : Bool} (h : Q (.bl (!decide (a = b))) H) : rNe (.bl a) (.bl b) H Q := ⟨rfl, by
  have e : decide (V.bl a = V.bl b) = decide (a = b) := by
    by_cases q : a = b <;> simp [q]
  rw [e]; exact h⟩
theorem r_neS {a b : Str} (h : Q (.bl (!decide (a = b))) H) : rNe (.str a) (.str b) H Q := ⟨rfl, by
  have e : decide (V.str a = V.str b) = decide (a = b) := by
    by_cases q : a = b <;> simp [q]
  rw [e]; exact h⟩
theorem r_ixL {p : Addr} {xs : List V} {a : Int} (h : SqL K H p xs) (e : atI xs a = some v) (k : Q v H) : rIx K (.ref p) (.int a) H Q := .inl ⟨p, xs, a, v, rfl, rfl, h, e, k⟩
theorem r_ixT {p : Addr} {xs : List V} {a : Int} (h : SqT K H p xs) (e : atI xs a = some v) (k : Q v H) : rIx K (.ref p) (.int a) H Q := .inr (.inl ⟨p, xs, a, v, rfl, rfl, h, e, k⟩)
theorem r_ixS {z : Str} {a : Int} {c : Nat} (l : z.length ≤ sizeLine) (e : atI z.cps.toList a = some c) (k : Q (.str ⟨#[c]⟩) H) : rIx K (.str z) (.int a) H Q := .inr (.inr ⟨z, a, c, rfl, rfl, l, e, k⟩)
theorem r_setL {p : Addr} {xs : List V} {a : Int} {m : Nat} {N : Hp → Prop} (h : H p = some (.lst xs)) (e : ixN xs.length a = some m) (k : ∀ H1, But p H H1 → H1 p = some (.lst (xs.set m v)) → N H1) : rSetL (.ref p) (.int a) v H N :=
  ⟨p, xs, a, m, rfl, rfl, h, e, k _ But.upd upd_same⟩
theorem r_gSub {to ti : TE} {s : TSet} {N : L2.St → Hp → Prop} (h : to σ H fun o H1 => ti σ H1 fun i H2 => s o i v H2 fun H3 => N σ H3) : gSub to ti s v σ H N := h
theorem yes {c : Bool} {P1 P2 : Prop} (h : c = true) (k : P1) : if c = true then P1 else P2 := by
  rw [h, if_pos rfl]; exact k
theorem no {c : Bool} {P1 P2 : Prop} (h : c = false) (k : P2) : if c = true then P1 else P2 := by
  rw [h, if_neg Bool.false_ne_true]; exact k
theorem ways {c P1 P2 : Prop} [Decidable c] (h : c → P1) (k : ¬ c → P2) : if decide c = true then P1 else P2 := by
  by_cases q : c
  · rw [decide_eq_true q, if_pos rfl]; exact h q
  · rw [decide_eq_false q, if_neg Bool.false_ne_true]; exact k q
theorem waysN {c P1 P2 : Prop} [Decidable c] (h : ¬ c → P1) (k : c → P2) : if (!decide c) = true then P1 else P2 := by
  by_cases q : c
  · rw [decide_eq_true q]; exact k q
  · rw [decide_eq_false q]; exact h q
theorem waysB {c : Bool} {P1 P2 : Prop} (h : c = true → P1) (k : c = false → P2) : if c = true then P1 else P2 := by
  cases c with
  | true => rw [if_pos rfl]; exact h rfl
  | false => rw [if_neg Bool.false_ne_true]; exact k rfl
/-! calls of built-ins, their readings by name -/
def rInt1 : List V → Hp → VK → Prop := fun xs H Q => (∃ i, xs = [.int i] ∧ Q (.int i) H) ∨ ∃ k, xs = [.bl k] ∧ Q (.int (if k then 1 else 0)) H
def rAbs : List V → Hp → VK → Prop := fun xs H Q => ∃ i, xs = [.int i] ∧ Q (.int (if i < 0 then -i else i)) H
def rMax2 : List V → Hp → VK → Prop := fun xs H Q => ∃ i j, xs = [.int i, .int j] ∧ Q (.int (if j > i then j else i)) H
def rMin2 : List V → Hp → VK → Prop := fun xs H Q => ∃ i j, xs = [.int i, .int j] ∧ Q (.int (if j < i then j else i)) H
def rLen (K : PySem.W.Frag) : List V → Hp → VK → Prop := fun xs H Q => ∃ p ys, xs = [.ref p] ∧ (SqL K H p ys ∨ SqT K H p ys) ∧ Q (.int ys.length) H
def rLenS : List V → Hp → VK → Prop := fun xs H Q => ∃ z, xs = [.str z] ∧ z.length ≤ sizeLine ∧ Q (.int z.length) H
def rStrI : List V → Hp → VK → Prop := fun xs H Q => ∃ i, xs = [.int i] ∧ i.natAbs.log2 < 1920 ∧ Q (.str (toString i)) H
def rAddS : R2 := fun x y H Q => ∃ i j, x = .str i ∧ y = .str j ∧ i.length + j.length ≤ sizeLine ∧ Q (.str (i ++ j)) H
theorem c_int1 {X : Cx} : CallR X (.type "int") rInt1 := call_int1
theorem c_abs {X : Cx} : CallR X (.builtin "abs") rAbs := call_abs
theorem c_max2 {X : Cx} (hc : X.calm = true) : CallR X (.builtin "max") rMax2 := call_max2 hc
theorem c_min2 {X : Cx} (hc : X.calm = true) : CallR X (.builtin "min") rMin2 := call_min2 hc
theorem c_len {X : Cx} : CallR X (.builtin "len") (rLen X.K) := call_len_seq
theorem c_lenS {X : Cx} : CallR X (.builtin "len") rLenS := call_len_str
theorem c_strI {X : Cx} : CallR X (.type "str") rStrI := call_str_int
theorem o_addS {X : Cx} : OpR X (binaryOp .Add) rAddS := op_add_str
theorem r_int1 {a : Int} (h : Q (.int a) H) : rInt1 [.int a] H Q := .inl ⟨a, rfl, h⟩
theorem r_abs {a : Int} (h : Q (.int (if a < 0 then -a else a)) H) : rAbs [.int a] H Q := ⟨a, rfl, h⟩
theorem r_max2 {a b : Int} (h : Q (.int (if b > a then b else a)) H) : rMax2 [.int a, .int b] H Q := ⟨a, b, rfl, h⟩
theorem r_min2 {a b : Int} (h : Q (.int (if b < a then b else a)) H) : rMin2 [.int a, .int b] H Q := ⟨a, b, rfl, h⟩
theorem r_lenL {p : Addr} {ys : List V} (e : SqL K H p ys) (h : Q (.int ys.length) H) : rLen K [.ref p] H Q := ⟨p, ys, rfl, .inl e, h⟩
theorem r_lenT {p : Addr} {ys : List V} (e : SqT K H p ys) (h : Q (.int ys.length) H) : rLen K [.ref p] H Q := ⟨p, ys, rfl, .inr e, h⟩
theorem r_strI {a : Int} (e : a.natAbs.log2 < 1920) (h : Q (.str (toString a)) H) : rStrI [.int a] H Q := ⟨a, rfl, e, h⟩
theorem r_addS {a b : Str} (e : a.length + b.length ≤ sizeLine) (h : Q (.str (a ++ b)) H) : rAddS (.str a) (.str b) H Q := ⟨a, b, rfl, rfl, e, h⟩
/-! loops, comprehensions -/
theorem r_rng {tb : TS} {k : Nat} {j : Int} (h0 : 0 ≤ j) (h1 : j ≤ 100000) (Pv : Nat → L2.St → Hp → Prop) (hp : Pv 0 σ H)
    (ht : ∀ (i : Nat) σ' H', (i : Int) < j → Pv i σ' H' → tb { D with nx := Pv (i + 1), ct := Pv (i + 1), bk := D.nx } (σ'.set k (some (.int (i : Int)))) H') (hd : ∀ σ' H', Pv j.toNat σ' H' → D.nx σ' H') :
    ∃ j' : Int, [V.int j] = [V.int j'] ∧ -(2 ^ 62) ≤ j' ∧ j' < 2 ^ 62 ∧ ∃ W : Nat → Nat → L2.St → Hp → Prop, (∃ m, W 0 m σ H) ∧ ∀ i m σ H, W i m σ H →
      (((Itr 0 j'.toNat).stop i H ∧ D.nx σ H) ∨ ((Itr 0 j'.toNat).go i H ∧ ∃ N : L2.St → Hp → Prop, (∀ σ' H', N σ' H' → ∃ m', m' < m ∧ W (i + 1) m' σ' H') ∧ ∀ x H', (Itr 0 j'.toNat).yld i H x H' → gName k x σ H' fun σ2 H2 => tb { D with nx := N, ct := N, bk := D.nx } σ2 H2)) := by
  refine ⟨j, rfl, by omega, by omega, for_range (lo := 0) (n := j.toNat) Pv hp (fun i σ' H' hi p => ?_) hd⟩
  have e : (0 : Int) + (i : Int) = (i : Int) := Int.zero_add _
  show tb _ (σ'.set k (some (.int ((0 : Int) + (i : Int))))) H'
  rw [e]
  exact ht i σ' H' (by omega) p
theorem r_forRng {A : TA} {tb : TS} {k : Nat} (h : A σ H fun vs H1 => ∃ j : Int, vs = [.int j] ∧ -(2 ^ 62) ≤ j ∧ j < 2 ^ 62 ∧ ∃ W : Nat → Nat → L2.St → Hp → Prop, (∃ m, W 0 m σ H1) ∧ ∀ i m σ H, W i m σ H →
      (((Itr 0 j.toNat).stop i H ∧ D.nx σ H) ∨ ((Itr 0 j.toNat).go i H ∧ ∃ N : L2.St → Hp → Prop, (∀ σ' H', N σ' H' → ∃ m', m' < m ∧ W (i + 1) m' σ' H') ∧ ∀ x H', (Itr 0 j.toNat).yld i H x H' → gName k x σ H' fun σ2 H2 => tb { D with nx := N, ct := N, bk := D.nx } σ2 H2))) :
    tFor (iRng1 A) (gName k) tb D σ H := h
theorem r_forL0 {tl : TE} {g : TG} {tb : TS} (h : tl σ H fun x H1 => ∃ a, x = .ref a ∧ (∃ xs, SqL K H1 a xs) ∧ ∃ W : Nat → Nat → L2.St → Hp → Prop, (∃ m, W 0 m σ H1) ∧ ∀ i m σ H, W i m σ H →
      (((Itl K a).stop i H ∧ D.nx σ H) ∨ ((Itl K a).go i H ∧ ∃ N : L2.St → Hp → Prop, (∀ σ' H', N σ' H' → ∃ m', m' < m ∧ W (i + 1) m' σ' H') ∧ ∀ x H', (Itl K a).yld i H x H' → g x σ H' fun σ2 H2 => tb { D with nx := N, ct := N, bk := D.nx } σ2 H2))) :
    tFor (iList K tl) g tb D σ H := h
theorem r_lst_by {g : TG} {tb : TS} {a : Addr} {xs : List V} (hs : SqL K H a xs) (Pv : Nat → L2.St → Hp → Prop) (h0 : Pv 0 σ H) (hl : ∀ i σ' H', Pv i σ' H' → SqL K H' a xs)
    (ht : ∀ i x σ' H', xs[i]? = some x → Pv i σ' H' → g x σ' H' fun σ2 H2 => tb { D with nx := Pv (i + 1), ct := Pv (i + 1), bk := D.nx } σ2 H2) (hd : ∀ σ' H', Pv xs.length σ' H' → D.nx σ' H') :
    ∃ a', V.ref a = .ref a' ∧ (∃ xs, SqL K H a' xs) ∧ ∃ W : Nat → Nat → L2.St → Hp → Prop, (∃ m, W 0 m σ H) ∧ ∀ i m σ H, W i m σ H →
      (((Itl K a').stop i H ∧ D.nx σ H) ∨ ((Itl K a').go i H ∧ ∃ N : L2.St → Hp → Prop, (∀ σ' H', N σ' H' → ∃ m', m' < m ∧ W (i + 1) m' σ' H') ∧ ∀ x H', (Itl K a').yld i H x H' → g x σ H' fun σ2 H2 => tb { D with nx := N, ct := N, bk := D.nx } σ2 H2)) :=
  ⟨a, rfl, ⟨xs, hs⟩, for_list (xs := xs) Pv h0 (fun i σ' H' _ p => hl i σ' H' p) ht hd⟩
theorem r_eqD {d e : PyData} (hd : Dp K H x d) (he : Dp K H y e) (sd : SeqAt.shaped d = true) (se : SeqAt.shaped e = true) (h : Q (.bl (PyData.eqv d e)) H) : rEqD K x y H Q := ⟨d, e, hd, he, sd, se, h⟩
theorem r_cat {p q : Addr} {xs zs : List V} (h1 : H p = some (.lst xs)) (h2 : H q = some (.lst zs)) (l : xs.length + zs.length ≤ 100000) (k : ∀ p H1, H p = none → Same H H1 → H1 p = some (.lst (xs ++ zs)) → Q (.ref p) H1) : rCat (.ref p) (.ref q) H Q :=
  ⟨p, q, xs, zs, rfl, rfl, h1, h2, Nat.le_trans l (by decide), fun p np => k p _ np (same_upd np) upd_same⟩
theorem turns (z m : Int) (hm : 1 ≤ m) (hm2 : m ≤ 100000) : 0 ≤ (if (if z < m then z else m) > 1 then (if z < m then z else m) else 1) ∧ (if (if z < m then z else m) > 1 then (if z < m then z else m) else 1) ≤ 100000 := by
  constructor <;> (split <;> split <;> omega)
theorem turns_le (z m : Int) (hm : 1 ≤ m) : (if (if z < m then z else m) > 1 then (if z < m then z else m) else 1) ≤ m := by
  split <;> split <;> omega
/-- two ways that meet -/
theorem join {c : Prop} [Decidable c] {A B : VK → Prop} {N : VK} (R : V → Hp → Prop) (ha : c → ∀ M : VK, (∀ v H', R v H' → M v H') → A M) (hb : ¬ c → ∀ M : VK, (∀ v H', R v H' → M v H') → B M) (k : ∀ v H', R v H' → N v H') :
    if decide c = true then A N else B N := by
  by_cases q : c
  · rw [decide_eq_true q, if_pos rfl]; exact ha q N k
  · rw [decide_eq_false q, if_neg Bool.false_ne_true]; exact hb q N k
theorem get_int {ns : List Int} {i : Nat} (h : i < ns.length) : ∃ c, atI (ns.map V.int) (i : Int) = some (.int c) := by
  refine ⟨ns[i], atI_nat ?_⟩
  rw [List.getElem?_map, List.getElem?_eq_getElem h]; rfl
/-- [e for name in range(j)], [e for name in a list] -/
def lcR (j : Int) (k : Nat) (te : TE) (vs : List Nat) (σ : L2.St) (H : Hp) (Q : VK) : Prop := -(2 ^ 62) ≤ j ∧ j < 2 ^ 62 ∧ ∀ D, H D = none → ∃ W : Nat → Nat → Hp → Prop, (∃ m, W 0 m (L2.upd H D (.lst []))) ∧ ∀ i m H, W i m H →
  ((Itr 0 j.toNat).stop i H ∧ Q (.ref D) H) ∨ ((Itr 0 j.toNat).go i H ∧ ∃ Nx : Hp → Prop, (∀ H', Nx H' → ∃ m', m' < m ∧ W (i + 1) m' H') ∧ ∀ x H', (Itr 0 j.toNat).yld i H x H' → gName k x (wipe σ vs) H' fun σ2 H2 => wipe σ2 vs = wipe σ vs ∧ tYes σ2 H2 fun b H3 =>
    if b = true then te σ2 H3 fun y H4 => ∃ acc, H4 D = some (.lst acc) ∧ acc.length < sizeLine ∧ Nx (L2.upd H4 D (.lst (acc ++ [y]))) else Nx H3)
theorem r_lcRng {k : Nat} {vs : List Nat} (h : A σ H fun ws H1 => ∃ j : Int, ws = [.int j] ∧ lcR j k te vs σ H1 Q) : tLc (iRng1 A) (gName k) tYes te vs σ H Q := h
/-- what is made is put behind the list at Dl -/
def apR (Dl : Addr) (N : Hp → Prop) (y : V) (H : Hp) : Prop := ∃ acc, H Dl = some (.lst acc) ∧ acc.length < sizeLine ∧ N (L2.upd H Dl (.lst (acc ++ [y])))
theorem r_ap {Dl : Addr} {N : Hp → Prop} {acc : List V} (h : H Dl = some (.lst acc)) (l : acc.length ≤ 100000) (k : ∀ H1, But Dl H H1 → H1 Dl = some (.lst (acc ++ [y])) → N H1) : apR Dl N y H :=
  ⟨acc, h, Nat.lt_of_le_of_lt l (by decide), k _ But.upd upd_same⟩
theorem r_lcR {J : Int} {k : Nat} {vs : List Nat} (h0 : 0 ≤ J) (h1 : J ≤ 100000) (hw : ∀ x, wipe ((wipe σ vs).set k (some x)) vs = wipe σ vs) (Pv : Addr → Nat → Hp → Prop)
    (hs : ∀ Dl H1, H Dl = none → Same H H1 → H1 Dl = some (.lst []) → Pv Dl 0 H1)
    (ht : ∀ Dl (i : Nat) H', H Dl = none → (i : Int) < J → Pv Dl i H' → te ((wipe σ vs).set k (some (.int (i : Int)))) H' (apR Dl (Pv Dl (i + 1))))
    (hd : ∀ Dl H', H Dl = none → Pv Dl J.toNat H' → Q (.ref Dl) H') : ∃ j' : Int, [V.int J] = [V.int j'] ∧ lcR j' k te vs σ H Q := by
  refine ⟨J, rfl, by omega, by omega, fun Dl hD => ?_⟩
  refine lc_range (lo := 0) (n := J.toNat) (tt := tYes) (Pv Dl) (hs Dl _ hD (same_upd hD) upd_same) (fun i H' hi p => ?_) (fun H' p => hd Dl H' hD p)
  have e : (0 : Int) + (i : Int) = (i : Int) := Int.zero_add _
  show wipe ((wipe σ vs).set k (some (.int ((0 : Int) + (i : Int))))) vs = wipe σ vs ∧ (if true = true then te ((wipe σ vs).set k (some (.int ((0 : Int) + (i : Int))))) H' (apR Dl (Pv Dl (i + 1))) else Pv Dl (i + 1) H')
  rw [e, if_pos rfl]
  exact ⟨hw _, ht Dl i H' hD (by omega) p⟩
def lcL (K : PySem.W.Frag) (a : Addr) (k : Nat) (te : TE) (vs : List Nat) (σ : L2.St) (H : Hp) (Q : VK) : Prop := (∃ xs, SqL K H a xs) ∧ ∀ D, H D = none → ∃ W : Nat → Nat → Hp → Prop, (∃ m, W 0 m (L2.upd H D (.lst []))) ∧ ∀ i m H, W i m H →
  ((Itl K a).stop i H ∧ Q (.ref D) H) ∨ ((Itl K a).go i H ∧ ∃ Nx : Hp → Prop, (∀ H', Nx H' → ∃ m', m' < m ∧ W (i + 1) m' H') ∧ ∀ x H', (Itl K a).yld i H x H' → gName k x (wipe σ vs) H' fun σ2 H2 => wipe σ2 vs = wipe σ vs ∧ tYes σ2 H2 fun b H3 =>
    if b = true then te σ2 H3 fun y H4 => ∃ acc, H4 D = some (.lst acc) ∧ acc.length < sizeLine ∧ Nx (L2.upd H4 D (.lst (acc ++ [y]))) else Nx H3)
theorem r_lcLst {k : Nat} {vs : List Nat} {tl : TE} (h : tl σ H fun x H1 => ∃ a, x = .ref a ∧ lcL K a k te vs σ H1 Q) : tLc (iList K tl) (gName k) tYes te vs σ H Q := h
theorem r_lcL {a : Addr} {xs : List V} {k : Nat} {vs : List Nat} (hx : SqL K H a xs) (hw : ∀ x, wipe ((wipe σ vs).set k (some x)) vs = wipe σ vs) (Pv : Addr → Nat → Hp → Prop)
    (hs : ∀ Dl H1, H Dl = none → Same H H1 → H1 Dl = some (.lst []) → Pv Dl 0 H1) (hl : ∀ Dl i H', H Dl = none → Pv Dl i H' → SqL K H' a xs)
    (ht : ∀ Dl (i : Nat) x H', H Dl = none → xs[i]? = some x → Pv Dl i H' → te ((wipe σ vs).set k (some x)) H' (apR Dl (Pv Dl (i + 1))))
    (hd : ∀ Dl H', H Dl = none → Pv Dl xs.length H' → Q (.ref Dl) H') : ∃ a', V.ref a = .ref a' ∧ lcL K a' k te vs σ H Q := by
  refine ⟨a, rfl, ⟨xs, hx⟩, fun Dl hD => ?_⟩
  refine lc_list (xs := xs) (tt := tYes) (Pv Dl) (hs Dl _ hD (same_upd hD) upd_same) (fun i H' _ p => hl Dl i H' hD p) (fun i x H' hi p => ?_) (fun H' p => hd Dl H' hD p)
  show wipe ((wipe σ vs).set k (some x)) vs = wipe σ vs ∧ (if true = true then te ((wipe σ vs).set k (some x)) H' (apR Dl (Pv Dl (i + 1))) else Pv Dl (i + 1) H')
  rw [if_pos rfl]
  exact ⟨hw _, ht Dl i x H' hD hi p⟩
def lcF (K : PySem.W.Frag) (a : Addr) (k : Nat) (tt : TT) (te : TE) (vs : List Nat) (σ : L2.St) (H : Hp) (Q : VK) : Prop := (∃ xs, SqL K H a xs) ∧ ∀ D, H D = none → ∃ W : Nat → Nat → Hp → Prop, (∃ m, W 0 m (L2.upd H D (.lst []))) ∧ ∀ i m H, W i m H →
  ((Itl K a).stop i H ∧ Q (.ref D) H) ∨ ((Itl K a).go i H ∧ ∃ Nx : Hp → Prop, (∀ H', Nx H' → ∃ m', m' < m ∧ W (i + 1) m' H') ∧ ∀ x H', (Itl K a).yld i H x H' → gName k x (wipe σ vs) H' fun σ2 H2 => wipe σ2 vs = wipe σ vs ∧ tt σ2 H2 fun b H3 =>
    if b = true then te σ2 H3 fun y H4 => ∃ acc, H4 D = some (.lst acc) ∧ acc.length < sizeLine ∧ Nx (L2.upd H4 D (.lst (acc ++ [y]))) else Nx H3)
theorem r_lcFLst {k : Nat} {vs : List Nat} {tl : TE} {tt : TT} (h : tl σ H fun x H1 => ∃ a, x = .ref a ∧ lcF K a k tt te vs σ H1 Q) : tLc (iList K tl) (gName k) tt te vs σ H Q := h
theorem r_lcF {a : Addr} {xs : List V} {k : Nat} {vs : List Nat} {tt : TT} (hx : SqL K H a xs) (hw : ∀ x, wipe ((wipe σ vs).set k (some x)) vs = wipe σ vs) (Pv : Addr → Nat → Hp → Prop)
    (hs : ∀ Dl H1, H Dl = none → Same H H1 → H1 Dl = some (.lst []) → Pv Dl 0 H1) (hl : ∀ Dl i H', H Dl = none → Pv Dl i H' → SqL K H' a xs)
    (ht : ∀ Dl (i : Nat) x H', H Dl = none → xs[i]? = some x → Pv Dl i H' → tt ((wipe σ vs).set k (some x)) H' fun b H3 => if b = true then te ((wipe σ vs).set k (some x)) H3 (apR Dl (Pv Dl (i + 1))) else Pv Dl (i + 1) H3)
    (hd : ∀ Dl H', H Dl = none → Pv Dl xs.length H' → Q (.ref Dl) H') : ∃ a', V.ref a = .ref a' ∧ lcF K a' k tt te vs σ H Q := by
  refine ⟨a, rfl, ⟨xs, hx⟩, fun Dl hD => ?_⟩
  exact lc_list (xs := xs) (tt := tt) (Pv Dl) (hs Dl _ hD (same_upd hD) upd_same) (fun i H' _ p => hl Dl i H' hD p) (fun i x H' hi p => ⟨hw _, ht Dl i x H' hD hi p⟩) (fun H' p => hd Dl H' hD p)
theorem r_bmA {to : TE} {t : TA} (h : to σ H fun x H1 => tyV K "list" x H1 ∧ t σ H1 fun xs H2 => rAppend x xs H2 Q) : tBM K "list" rAppend to t σ H Q := h
theorem r_tyL {l : Addr} {xs : List V} {G : Prop} (e : H l = some (.lst xs)) (h : G) : tyV K "list" (.ref l) H ∧ G := ⟨.inl ⟨rfl, xs, SqL.of e⟩, h⟩
theorem r_app {l : Addr} {xs : List V} (e : H l = some (.lst xs)) (n : xs.length ≤ 100000) (k : ∀ H1, But l H H1 → H1 l = some (.lst (xs ++ [y])) → Q .non H1) : rAppend (.ref l) [y] H Q :=
  ⟨l, xs, y, rfl, rfl, e, Nat.lt_of_le_of_lt n (by decide), k _ But.upd upd_same⟩
theorem r_rep {l : Addr} {n : Int} {xs : List V} (e : H l = some (.lst xs)) (h0 : 0 ≤ n) (h1 : n ≤ 1000) (hl : xs.length * n.toNat ≤ 100000) (k : ∀ p H1, H p = none → Same H H1 → H1 p = some (.lst (List.replicate n.toNat xs).flatten) → Q (.ref p) H1) : rRep (.ref l) (.int n) H Q :=
  ⟨l, n, xs, rfl, rfl, e, by omega, by omega, Nat.le_trans hl (by decide), fun p np => k p _ np (same_upd np) upd_same⟩
theorem r_sl {te : TE} {tl th : TO} {r : V → Option Int → Option Int → Hp → VK → Prop} (h : te σ H fun x H1 => tl σ H1 fun l H2 => th σ H2 fun u H3 => r x l u H3 Q) : tSl r te tl th σ H Q := h
def prt (Q : Option Int → Hp → Prop) : VK := fun x H => ∃ i : Int, x = .int i ∧ Q (some i) H
theorem r_part {Q : Option Int → Hp → Prop} (h : te σ H (prt Q)) : tPart te σ H Q := h
theorem r_prt {Q : Option Int → Hp → Prop} {i : Int} (h : Q (some i) H) : prt Q (.int i) H := ⟨i, rfl, h⟩
theorem r_nopart {Q : Option Int → Hp → Prop} (h : Q none H) : tNoPart σ H Q := h
theorem r_slL {a : Addr} {xs : List V} {lo hi : Option Int} (e : H a = some (.lst xs)) (k : ∀ p H1, H p = none → Same H H1 → H1 p = some (.lst (cutV xs lo hi)) → Q (.ref p) H1) : rSlL K (.ref a) lo hi H Q :=
  ⟨a, xs, rfl, SqL.of e, fun p np => k p _ np (same_upd np) upd_same⟩
theorem r_anyB {a : Addr} {bs : List Bool} (hs : SqL K H a (bs.map V.bl)) (h : Q (.bl (bs.any id)) H) : rAny K [.ref a] H Q := ⟨a, bs, rfl, hs, h⟩
/-! dicts with keys that are texts -/
def dgR (x y : V) (H : Hp) (Q : VK) : Prop := ∃ a v, x = .ref a ∧ DGet H a y (some v) ∧ Q v H
theorem r_dget (h : ta σ H fun x H1 => tb σ H1 fun y H2 => dgR x y H2 Q) : tDGet ta tb σ H Q := h
theorem r_dgS {a : Addr} {g : Str} {kvs : List (Key × V)} (e : H a = some (.dK kvs)) (l : valV kvs (.inr g) = some v) (k : Q v H) : dgR (.ref a) (.str g) H Q := ⟨a, v, rfl, by
  have z := DGet.k (H := H) (a := a) (kvs := kvs) (k := .inr g) e
  rw [l] at z
  exact z, k⟩
def dpR (x y v : V) (H : Hp) (N : Hp → Prop) : Prop := ∃ a H1, x = .ref a ∧ DPut H a y v H1 ∧ N H1
theorem r_dput (h : tc σ H fun v H1 => ta σ H1 fun x H2 => tb σ H2 fun y H3 => dpR x y v H3 (D.nx σ)) : sDPut ta tb tc D σ H := h
theorem r_dpS {a : Addr} {g : Str} {kvs : List (Key × V)} {N : Hp → Prop} (e : H a = some (.dK kvs)) (l : kvs.length ≤ 1000) (k : ∀ H1, But a H H1 → H1 a = some (.dK (putK kvs (.inr g) v)) → N H1) : dpR (.ref a) (.str g) v H N :=
  ⟨a, _, rfl, DPut.k (k := .inr g) e (Nat.lt_of_le_of_lt l (by decide)), k _ But.upd upd_same⟩
def dspR (p : Addr) (ps : List (V × V)) (H : Hp) (Q : VK) : Prop := H p = some (.dK []) ∧ ∃ kvs : List (Key × V), ps = kvs.map (fun kv => (kV kv.1, kv.2)) ∧ kvs.length ≤ 15 ∧ Q (.ref p) (L2.upd H p (.dK (mergeK [] kvs)))
theorem r_disp {trs : List (TE × TE)} (h : ∀ p H1, H p = none → Same H H1 → H1 p = some (.dK []) → tPairs trs σ H1 fun ps H2 => dspR p ps H2 Q) : tDisp trs σ H Q := fun p np => h p _ np (same_upd np) upd_same
theorem r_pnil {N : List (V × V) → Hp → Prop} (h : N [] H) : tPairs [] σ H N := h
theorem r_pcons {trs : List (TE × TE)} {N : List (V × V) → Hp → Prop} (h : ta σ H fun x H1 => tb σ H1 fun y H2 => tPairs trs σ H2 fun ps H3 => N ((x, y) :: ps) H3) : tPairs ((ta, tb) :: trs) σ H N := h
theorem r_dsp {p : Addr} {ps : List (V × V)} (kvs : List (Key × V)) (e : H p = some (.dK [])) (hps : ps = kvs.map (fun kv => (kV kv.1, kv.2))) (l : kvs.length ≤ 15) (k : ∀ H1, But p H H1 → H1 p = some (.dK (mergeK [] kvs)) → Q (.ref p) H1) : dspR p ps H Q :=
  ⟨e, kvs, hps, l, k _ But.upd upd_same⟩
theorem pow10_le {a b : Nat} (h : a ≤ b) : (10 : Int) ^ a ≤ 10 ^ b := by
  have e : ∀ k : Nat, (10 : Int) ^ k = ((10 ^ k : Nat) : Int) := fun k => by rw [Int.natCast_pow]; rfl
  rw [e, e]
  exact Int.ofNat_le.mpr (Nat.pow_le_pow_right (by decide) h)
theorem letters {n : Nat} (h : n < 26) : ∃ c, ("abcdefghijklmnopqrstuvwxyz" : Str).cps.toList[n]? = some c ∧ 97 ≤ c ∧ c ≤ 122 := by
  have e : ("abcdefghijklmnopqrstuvwxyz" : Str).cps.toList = List.range' 97 26 := by decide +kernel
  refine ⟨97 + n, ?_, by omega, by omega⟩
  rw [e, List.getElem?_range' (by omega)]
  simp
theorem ty_ins {a C dx : Addr} {fs : List (Str × V)} (c : Cls K C) (i : Inst K C) (e : H a = some (.ins C dx fs)) : TyX K H (.ref a) (.ref C) := .base (.ins e c i.ca i.cn i.ct i.cm)
theorem ix_seqG {X : Cx} {K : PySem.W.Frag} (e : X.K = K) : IxR X (rIx K) := e ▸ ix_seq
theorem c_isi {X : Cx} {K : PySem.W.Frag} (e : X.K = K) : CallR X (.builtin "isinstance") (rIsi K) := e ▸ call_isi
theorem r_isiT {t : Value} {n : String} {b : Bool} (ty : TyX K H x t) (k : PySem.W.kitOne K t (.type n) = some b) (h : Q (.bl b) H) : rIsi K [x, .ty n] H Q := ⟨x, .ty n, t, .type n, b, rfl, .ty n, ty, k, h⟩
theorem r_isiC {t : Value} {C : Addr} {b : Bool} (ty : TyX K H x t) (k : PySem.W.kitOne K t (.ref C) = some b) (h : Q (.bl b) H) : rIsi K [x, .ref C] H Q := ⟨x, .ref C, t, .ref C, b, rfl, .own C, ty, k, h⟩
/-- a new instance, its dict made, its __init__ asked -/
def mkI (C : Addr) (sp : Sp) (ds vs : List V) (H : Hp) (Q : VK) (E : XK) : Prop := ∀ x dx, H x = none → H dx = none → dx ≠ x →
  sp (.ref x :: (vs ++ ds)) (L2.upd (L2.upd H dx (.own x)) x (.ins C dx [])) (fun v H2 => v = .non ∧ Q (.ref x) H2) E
theorem r_make {C : Addr} {ds : List V} (h : A σ H fun vs H1 => mkI C sp ds vs H1 Q E) : tMake C sp ds E A σ H Q := h
theorem look1 {f : Str} : ([(f, v)] : List (Str × V)).lookup f = some v := by simp [List.lookup]
/-- o.f = value -/
def stF (K : PySem.W.Frag) (f : Str) (y x : V) (H : Hp) (N : Hp → Prop) : Prop := ∃ a C dx fs, x = .ref a ∧ H a = some (.ins C dx fs) ∧ Cls K C ∧ NoAttr K C f ∧ fs.length < 1000 ∧ N (L2.upd H a (.ins C dx (putF f y fs)))
theorem r_sfld {f : Str} {tv : TE} (h : tv σ H fun y H1 => ta σ H1 fun x H2 => stF K f y x H2 (D.nx σ)) : sFld K ta tv f D σ H := h
theorem r_stF {f : Str} {a C dx : Addr} {fs : List (Str × V)} {N : Hp → Prop} (e : H a = some (.ins C dx fs)) (c : Cls K C) (n : NoAttr K C f) (l : fs.length ≤ 900) (h : ∀ H1, But a H H1 → H1 a = some (.ins C dx (putF f y fs)) → N H1) :
    stF K f y (.ref a) H N := ⟨a, C, dx, fs, rfl, e, c, n, by omega, h _ But.upd upd_same⟩
def rIsN : R2 := fun x y H Q => y = .non ∧ Q (.bl (decide (x = .non))) H
def rNotN : R2 := fun x y H Q => y = .non ∧ Q (.bl (!decide (x = .non))) H
theorem o_isN {X : Cx} : OpR X (compareOp .Is) rIsN := op_isN
theorem o_notN {X : Cx} : OpR X (compareOp .IsNot) rNotN := op_notN
theorem r_isN (h : Q (.bl (decide (x = .non))) H) : rIsN x .non H Q := ⟨rfl, h⟩
theorem r_notN (h : Q (.bl (!decide (x = .non))) H) : rNotN x .non H Q := ⟨rfl, h⟩
theorem z4 : (4 : Nat) ≤ sizeLine := by decide
theorem szle {n : Nat} (h : n ≤ 1000) : n ≤ sizeLine := Nat.le_trans h (by decide)
end
end Z
namespace Z
open PySem PySem.Spec PyProof.Rows L2
/-- what of the text an own operator leans on, the class of instances over object alone -/
structure BinF (K : PySem.W.Frag) (C : Addr) (nm : String) (f g : Addr) : Prop where
  sf : PySem.W.selfFirst K C = true
  at_ : PySem.W.findIn K (.ref C) (PySem.dunder nm) = some (some (.ref f))
  fn : PySem.W.isFn K (.ref f) = true
  rat : PySem.W.findIn K (.ref C) (PySem.dunderR nm) = some (some (.ref g))
  rfn : PySem.W.isFn K (.ref g) = true
  fo : ∃ fo, PySem.W.findIn K (.type "int") (PySem.dunder nm) = some fo
  ro : ∃ ro, PySem.W.findIn K (.type "int") (PySem.dunderR nm) = some ro
  sub : PySem.W.subIn K (.ref C) (.type "int") = some false
  isub : PySem.W.subIn K (.type "int") (.ref C) = some false
  cls : ∃ cd, PySem.W.clsIn K C = some cd ∧ cd.mro = [.ref C, .type "object"]
  ni : PySem.W.findIn K (.ref C) (PySem.dunderI nm) = some none
  noi : PySem.W.findIn K (.type "object") (PySem.dunderI nm) = some none
/-- what the formatting of an own object leans on -/
structure TxF (K : PySem.W.Frag) (C : Addr) : Prop where
  fm : PySem.W.findIn K (.ref C) "__format__" = some (some (.builtin "object.__format__"))
  mo : PySem.W.mroIn K C (.type "object") = some true
/-- != of an own class is the one of all objects -/
structure NeD (K : PySem.W.Frag) (C : Addr) : Prop where
  ne : PySem.W.findIn K (.ref C) "__ne__" = some (some (.builtin "object.__ne__"))
  mo : PySem.W.mroIn K C (.type "object") = some true
end Z

namespace Z
open PySem PySem.Spec PyProof.Rows L2
/-! exceptions of own classes, whose __init__ stores one field, as values -/
/-- what such a class, over a built-in one, leans on; f its __init__ -/
structure ExF (K : PySem.W.Frag) (C f : Addr) : Prop where
  mk_ : ∃ (B newId initId : String) (bmB : List Value), ExcBaseFacts B newId initId bmB ∧ PySem.W.excInitIn K C bmB newId = true
  st : ∃ (B : String) (bmB : List Value), StoreFacts B bmB "object.__setattr__" "object" ∧ PySem.W.excOver K C bmB = true
  ini : PySem.W.findIn K (.ref C) "__init__" = some (some (.ref f))
  fn : PySem.W.isFn K (.ref f) = true
  sa : PySem.W.findIn K (.ref C) "__setattr__" = some (some (.builtin "object.__setattr__"))
  hd : PySem.W.hasDictIn K C = true
  ga : PySem.W.findIn K (.ref C) "__getattribute__" = some (some (.builtin "BaseException.__getattribute__"))
  gt : PySem.W.findIn K (.ref C) "__getattr__" = some none
  sb : PySem.W.subIn K (.ref C) (.type "BaseException") = some true
  ss : PySem.W.subIn K (.ref C) (.ref C) = some true
  ty : PySem.W.typeIn K (.ref C) = some (.type "type")
  kp : PySem.W.keepIn K (.ref C) = true
  ca : PySem.W.findIn K (.ref C) "__class__" = some (some (.builtin "object.__class__"))
  cm : PySem.W.mroIn K C (.type "object") = some true
  cn : PySem.W.specialIn K (.builtin "object.__class__") "__get__" = some (some (.builtin "getset_descriptor.__get__"))
  ct : PySem.W.takesIn K (.builtin "object.__class__") = some true
section
open Builtin Builtin.ObjectAttr PySem.HandSPX
variable {prog : Program} {w : World} {A : Around} {R : Result → Shared → Prop} {s : Shared} {K : PySem.W.Frag} {a C f : Addr} {fv : Array Value} {name : Str} {tk : Tok} {v : Value}
theorem osa_first (T : ExF K C f) (X : K.In s.heap) (hx : s.heap.get? a = some { cls := .ref C, data := .fields fv }) (hn : PySem.W.findIn K (.ref C) name = some none)
    (hq : ∀ h' tk' dx, (∀ b o, b ≠ a → s.heap.get? b = some o → h'.get? b = some o) → s.heap.objs.size ≤ dx → dx ≠ a → h'.get? a = some { cls := .ref C, dict := some dx, data := .fields fv } → h'.Ns1 dx (fun y => if y = name then some v else none) →
      R (.ok (.ret .none)) { s with heap := h', toks := tk' }) : codeAny (model prog w) A (.call (.builtin "object.__setattr__") ⟨[.ref a, .str name tk, v], []⟩) R s := by
  obtain ⟨B, bmB, SF, ho⟩ := T.st
  have J : PySem.W.InstAt s.heap a { cls := .ref C, data := .fields fv } C none := ⟨hx, rfl, rfl, trivial⟩
  refine PySem.W.osa_openX SF X J ho (r := none) (by unfold PySem.W.takerIn; rw [hn]; rfl) fun b => ?_
  obtain ⟨cd, hcd, hdct⟩ := PySem.W.any_some T.hd
  have lc : PySem.W.Looks (model prog w) s.heap (classData C) cd := PySem.W.looks_clsIn X hcd
  have ne : a ≠ s.heap.objs.size := Nat.ne_of_lt (Heap.lt_size hx)
  obtain ⟨hp, g, d, t, os⟩ := s
  obtain ⟨nm, bs, mro, ns, qn, hd, sn, sb, ab, col, del⟩ := cd
  dsimp only at hdct
  subst hdct
  show wpAny _ _ (storeInOwnDict (.ref a) (.ref C) (.str name tk) name v b) _ _ _
  unfold storeInOwnDict ownDictForStores
  repeat (first | with_reducible refine store_in_new ?new ?stored | with_reducible refine wpAny_loadPart_at hx ?_ | with_reducible refine lc.at ?_ | wp_step)
  case new => exact ⟨_, #[], _, (Heap.get?_update_ne _ _ _ _ ne.symm).trans (Heap.get?_push_at rfl rfl), rfl, (fun e he => absurd he (by simp)), fun _ => rfl⟩
  case stored =>
    intro h' t' n1 sbut
    have ha : (hp.push { cls := .type "dict", data := .dict #[] }).get? a = some { cls := .ref C, data := .fields fv } := Heap.get?_push_of_some _ hx
    refine hq h' t' hp.objs.size (fun c o hc hco => ?_) (Nat.le_refl _) ne.symm ?_ n1
    · exact (sbut.2 c (Nat.ne_of_lt (Heap.lt_size hco))).trans ((Heap.get?_update_ne _ _ _ _ hc).trans (Heap.get?_push_of_some _ hco))
    · exact (sbut.2 a ne).trans (Heap.get?_update_self _ ha rfl)
end
section
variable {X : Cx} {pins : List (Addr × Obj)} {σ : L2.St} {H : Hp} {s : Shared} {a C f : Addr} {fl : Str} {y : V} {u : Value}
/-- self.fl = y in such an __init__ -/
theorem set_first {Q : Unit → Shared → Prop} {E : Value → Shared → Prop} {A : Around} (T : ExF X.K C f) (I : Inv X pins σ H s) (e : H a = some (exo a C none)) (hn : PySem.W.findIn X.K (.ref C) fl = some none) (ry : RelV y u)
    (h : ∀ dx s', H dx = none → dx ≠ a → Inv X pins σ (L2.upd (L2.upd H dx (exd dx [(fl, y)])) a (exo a C (some dx))) s' → Q () s') : wpAny (model X.prog X.w) A (setAttr (.ref a) fl u) Q E s := by
  obtain ⟨t1, ho⟩ := exo_at I.hok e
  refine PySem.W.set_plain I.kIn (ox := { cls := .ref C, dict := none, data := .fields #[.ref t1, .none, .none, .none, .bool false, .none] }) (od := none) ⟨ho, rfl, rfl, trivial⟩ T.sa ?_
  refine osa_first (s := { s with toks := s.toks + 1 }) T I.kIn ho hn fun h' tk' dx keep dn dne hx n1 => ?_
  have free : H dx = none := I.hok.fresh dn
  have away : ∀ {b : Addr}, H b = none → b ≠ a := fun z q => by
    rw [q, e] at z; cases z
  have older : ∀ {b : Addr} {o : Obj}, s.heap.get? b = some o → b ≠ dx := fun q => Nat.ne_of_lt (Nat.lt_of_lt_of_le (Heap.lt_size q) dn)
  have other : ∀ {b : Addr} {o : HO}, H b = some o → o ≠ exo a C none → b ≠ a := fun q z r => by
    rw [r, e] at q; exact z (Option.some.inj q).symm
  have U : Un X.fs [] H (L2.upd (L2.upd H dx (exd dx [(fl, y)])) a (exo a C (some dx))) s.heap h' := by
    constructor
    · exact fun b o q z _ _ => keep b o (away z) q
    · exact fun b o q z _ _ => ⟨_, keep b o (away z) q⟩
    · intro b o q z _
      rw [upd_ne (away z), upd_ne (older q)]; exact z
    · intro b o q _
      by_cases r : b = a
      · subst r; exact ⟨_, hx⟩
      · exact ⟨_, keep b o r q⟩
    · intro b xs q
      rw [upd_ne (other q fun z => exo_tup z.symm), upd_ne (ne_of_none q free)]; exact q
    · intro b o v q
      rw [upd_ne (other q fun z => exo_frz z.symm), upd_ne (ne_of_none q free)]; exact q
    · intro b ps q
      refine ⟨#[], ?_⟩
      rw [upd_ne (other q fun z => exo_tbl z.symm), upd_ne (ne_of_none q free), q]; simp
  refine h dx _ free dne (I.un (t' := tk') U fun b o q => ?_)
  by_cases r : b = a
  · subst r
    rw [upd_same] at q
    cases q
    exact exo_ok hx
  rw [upd_ne r] at q
  by_cases r2 : b = dx
  · subst r2
    rw [upd_same] at q
    cases q
    exact exd_ok n1 (relO_put (fs := []) ry fun g => True.intro)
  rw [upd_ne r2] at q
  refine (I.hok b o q).stay (fun c v hc z => keep c v ?_ z) (fun c hc => ?_) fun c xs hc => ?_
  · rcases hc with hc | hc
    · rw [hc]; exact r
    · exact other hc fun z => exo_own z.symm
  · rw [upd_ne (other hc fun z => exo_own z.symm), upd_ne (ne_of_none hc free)]; exact hc
  · rw [upd_ne (other hc fun z => exo_tup z.symm), upd_ne (ne_of_none hc free)]; exact hc
/-- such an exception, read -/
theorem exv_at (T : ExF X.K C f) (I : Inv X pins σ H s) {d : Addr} {fs : List (Str × V)} (ea : H a = some (exo a C (some d))) (ed : H d = some (exd d fs)) :
    ∃ ox od, PySem.W.InstAt s.heap a ox C (some od) ∧ ∀ n v, fs.lookup n = some v → ∃ u, PySem.W.lookIn n od = some (some u) ∧ RelV v u := by
  obtain ⟨t1, ho⟩ := exo_at I.hok ea
  obtain ⟨mA, hns, hr⟩ := exd_at I.hok ed
  obtain ⟨od, hod, hl⟩ := lookIn_ns hns
  refine ⟨_, od, ⟨ho, rfl, rfl, hod⟩, fun n v l => ?_⟩
  obtain ⟨u, hu, ru⟩ := RelO.some_of (v := v) (o := mA n) (by rw [← l]; exact hr n)
  exact ⟨u, by rw [hl, hu], ru⟩
end
def xstR (K : PySem.W.Frag) (fl : Str) (y x : V) (H : Hp) (N : Hp → Prop) : Prop := ∃ a C f, x = .ref a ∧ ExF K C f ∧ PySem.W.findIn K (.ref C) fl = some none ∧ H a = some (exo a C none) ∧
  ∀ dx, H dx = none → dx ≠ a → N (L2.upd (L2.upd H dx (exd dx [(fl, y)])) a (exo a C (some dx)))
def tXst (K : PySem.W.Frag) (fl : Str) (to te : TE) : TS := fun D σ H => te σ H fun y H1 => to σ H1 fun x H2 => xstR K fl y x H2 (D.nx σ)
def xvR (K : PySem.W.Frag) (n : Str) (x : V) (H : Hp) (Q : VK) : Prop := ∃ a C f d fs v, x = .ref a ∧ ExF K C f ∧ PySem.W.findIn K (.ref C) n = some none ∧ H a = some (exo a C (some d)) ∧ H d = some (exd d fs) ∧ fs.lookup n = some v ∧ Q v H
def tXv (K : PySem.W.Frag) (n : Str) (te : TE) : TE := fun σ H Q => te σ H fun x H1 => xvR K n x H1 Q
/-- C(e, ..), a new exception -/
def exI (C : Addr) (sp : Sp) (vs : List V) (H : Hp) (Q : VK) : Prop := vs.length ≤ 1000 ∧ ∀ a, H a = none → sp (.ref a :: vs) (L2.upd H a (exo a C none)) (fun v H2 => v = .non ∧ Q (.ref a) H2) E0
def tExv (C : Addr) (sp : Sp) (t : TA) : TE := fun σ H Q => t σ H fun vs H1 => exI C sp vs H1 Q
def rIsX (K : PySem.W.Frag) : List V → Hp → VK → Prop := fun xs H Q => ∃ a C f d fs c u b, xs = [.ref a, c] ∧ ClsV c u ∧ ExF K C f ∧ H a = some (exo a C (some d)) ∧ H d = some (exd d fs) ∧ PySem.W.kitOne K (.ref C) u = some b ∧ Q (.bl b) H
section
variable {X : Cx} {o e : Expr} {es : List Expr} {to te : TE} {ta : TA} {fl n x : Str} {p p' pos : Pos} {k : Nat} {C f : Addr} {fd : FuncData} {ps : List Str} {sp : Sp}
theorem ps_xst (ho : PE X o to) (he : PE X e te) (hs : swapsWith e (some (.Attribute o fl p')) pos.line X.env = pure false := by rfl) : PS X (.Assign [.Attribute o fl p'] e pos) (tXst X.K fl to te) := by
  refine ⟨fun pins s σ H D I h => ?_⟩
  refine plainObj_wpAny_Assign_Attribute (thn (he.run pins s σ H _ I h) fun v s1 ⟨y, H1, I1, r1, q1⟩ => thn (ho.run pins s1 σ H1 _ I1 q1) fun u s2 z => ?_) hs
  obtain ⟨x, H2, I2, r2, a, C, f, rfl, T, hn, ea, q⟩ := z
  cases (show u = Value.ref a from r2)
  exact set_first T I2 ea hn r1 fun dx s' n1 n2 J => ⟨σ, _, J, q dx n1 n2⟩
theorem pe_xv (he : PE X e te) (hb : attributeBase e n X.env (eval e X.env) = eval e X.env := by rfl) : PE X (.Attribute e n pos) (tXv X.K n te) := by
  refine ⟨fun pins s σ H Q I h => ?_⟩
  refine attr_of hb (thn (he.run pins s σ H _ I h) fun u s1 z => ?_)
  obtain ⟨x, H1, I1, rx, a, C, f, d, fs, v, rfl, T, hn, ea, ed, l, q⟩ := z
  cases (show u = Value.ref a from rx)
  obtain ⟨ox, od, J, look⟩ := exv_at T I1 ea ed
  obtain ⟨u, hu, ru⟩ := look n v l
  exact HandSPX.exc_get I1.kIn J T.ga T.gt T.sb (PySem.W.findObj_own T.hd hn rfl hu) (handed_of ru) ⟨v, H1, I1.tok _, ru, q⟩
theorem pe_exv (T : ExF X.K C f) (F : FnOk X.prog X.w X.K X.mg X.base CX0 k f fd ps sp) (hr : Room (k + 1) X.A) (hg : Gl X x) (hm : X.mg x = some (.ref C)) (hb : Binds X.K fd ps []) (ha : PA X (e :: es) ta)
    (hdb : (x == ("__debug__" : Str)) = false := by decide) (he : starEach (e :: es) X.env = (false, eval e X.env) :: starEach es X.env := by rfl) (hpl : (backTo pos (starEach es X.env)).any (·.1) = false := by rfl) :
    PE X (.Call (.Name x p) (e :: es) [] pos) (tExv C sp ta) := by
  refine ⟨fun pins s σ H Q I h => ?_⟩
  refine wpAny_Call_Name_kw (ld_glob I hg hm ?_ hdb)
  refine PySem.W.callWith_K (h₀ := X.base) I.ok.mod.kin T.kp (thn (ha.run pos pins s σ H _ I h) fun us s1 z => ?_) he hpl
  obtain ⟨vs, H1, I1, r1, hz, q1⟩ := z
  refine ⟨I1.kIn, ?_⟩
  obtain ⟨B, newId, initId, bmB, FB, hin⟩ := T.mk_
  obtain ⟨nm, N, qn, bs, bm, hdct, sn, sub, ab, col, dd, k0, k1, k2, k3, k5, hC, hT⟩ := PySem.W.excInit_of I1.kIn hin
  show wpAny _ _ (call (.ref C) us) _ _ _
  obtain ⟨hp, g, dr, tk, os⟩ := s1
  have up : hp.objs.size ≤ hp.objs.size + 1 := Nat.le_succ _
  have hq := q1 (hp.objs.size + 1) (I1.hok.fresh up)
  have keep : ∀ b o, hp.get? b = some o → ((hp.push (PySem.W.kdv_tup us)).push (PySem.HandSPX.excO C hp.objs.size)).get? b = some o := fun b o z => Heap.get?_push_of_some _ (Heap.get?_push_of_some _ z)
  have there : ((hp.push (PySem.W.kdv_tup us)).push (PySem.HandSPX.excO C hp.objs.size)).get? (hp.objs.size + 1) = some (PySem.HandSPX.excO C hp.objs.size) := by heap_get
  have I2 : Inv X pins σ (L2.upd H1 (hp.objs.size + 1) (exo (hp.objs.size + 1) C none)) ⟨(hp.push (PySem.W.kdv_tup us)).push (PySem.HandSPX.excO C hp.objs.size), g, dr, tk, os⟩ := I1.laid (t' := tk) keep up (exo_ok there)
  have r2 : Vals (V.ref (hp.objs.size + 1) :: vs) (Value.ref (hp.objs.size + 1) :: us) := .cons rfl r1
  have lus : us.length ≤ sizeLine := by
    rw [← Paired.length r1, sizeLine_eq]; omega
  have lps : (Value.ref (hp.objs.size + 1) :: us ++ []).length = ps.length := by
    have z := r2.length
    rw [F.len _ _ _ _ hq] at z
    rw [List.append_nil]; exact z.symm
  refine wpAny_call (PySem.HandSPX.call_own FB hT hC (PySem.W.looks_findIn I1.kIn T.ini) (fun self => PySem.W.bind_fn I1.kIn self (beq_iff_eq.mp T.fn)) lus
    (codeAny_mono (F.run _ X.stack _ _ ⟨Value.ref (hp.objs.size + 1) :: us, []⟩ (Value.ref (hp.objs.size + 1) :: us) _ _ E0 (hr.make C us []) (I2.env0.make C us []) (by
      have z := hb _ (Value.ref (hp.objs.size + 1) :: us) I2.kIn lps
      rw [List.append_nil] at z
      exact z) r2 hq) fun r s' z => ?_))
  cases r with
  | error x => exact z.elim
  | ok fl =>
    cases fl with
    | next => exact False.elim z
    | brk => exact False.elim z
    | cont => exact False.elim z
    | ret u =>
      obtain ⟨v, H', I3, rv, rfl, q3⟩ := I2.after z
      exact ⟨rv, ⟨V.ref (hp.objs.size + 1), H', I3, rfl, q3⟩⟩
theorem c_isX {K : PySem.W.Frag} (e : X.K = K) : CallR X (.builtin "isinstance") (rIsX K) := by
  subst e
  intro pins s σ H xs us Q I r h
  obtain ⟨a, C, f, d, fs, c, u, b, rfl, k, T, ea, ed, ek, q⟩ := h
  obtain ⟨u1, u2, rfl, r1, r2⟩ := vals2 r
  cases (show u1 = Value.ref a from r1)
  have e2 := k.eq r2
  subst e2
  obtain ⟨ox, od, J, _⟩ := exv_at T I ea ed
  exact PySem.W.kia_one (PySem.W.kitx_exc (by obtain ⟨cd, z, _⟩ := PySem.W.any_some T.hd; rw [z]; rfl) T.ga T.gt T.sb T.ca T.cn T.ct T.cm) I.kIn J ek (fun z => nomatch z) fun tk => ⟨.bl b, H, I.kept (t' := tk) fun _ _ z => z, rfl, q⟩
end
section
variable {K : PySem.W.Frag} {σ : L2.St} {H : Hp} {Q : VK} {D : Ends} {to te : TE} {ta : TA} {fl n : Str} {y v : V} {a C f d : Addr} {fs : List (Str × V)} {sp : Sp} {vs : List V}
theorem r_xst (h : te σ H fun y H1 => to σ H1 fun x H2 => xstR K fl y x H2 (D.nx σ)) : tXst K fl to te D σ H := h
theorem r_xstV {N : Hp → Prop} (T : ExF K C f) (hn : PySem.W.findIn K (.ref C) fl = some none) (e : H a = some (exo a C none))
    (h : ∀ dx H1, H dx = none → But a H H1 → H1 a = some (exo a C (some dx)) → H1 dx = some (exd dx [(fl, y)]) → N H1) : xstR K fl y (.ref a) H N :=
  ⟨a, C, f, rfl, T, hn, e, fun dx n1 n2 => h dx _ n1 (fun b o nb q => by rw [upd_ne nb, upd_ne (ne_of_none q n1)]; exact q) upd_same (by rw [upd_ne n2, upd_same])⟩
theorem r_xv (h : te σ H fun x H1 => xvR K n x H1 Q) : tXv K n te σ H Q := h
theorem r_xvV (T : ExF K C f) (hn : PySem.W.findIn K (.ref C) n = some none) (ea : H a = some (exo a C (some d))) (ed : H d = some (exd d fs)) (l : fs.lookup n = some v) (q : Q v H) : xvR K n (.ref a) H Q := ⟨a, C, f, d, fs, v, rfl, T, hn, ea, ed, l, q⟩
theorem r_exv (h : ta σ H fun vs H1 => exI C sp vs H1 Q) : tExv C sp ta σ H Q := h
theorem r_isX {u : Value} {c : V} {b : Bool} (k : ClsV c u) (T : ExF K C f) (ea : H a = some (exo a C (some d))) (ed : H d = some (exd d fs)) (ek : PySem.W.kitOne K (.ref C) u = some b) (q : Q (.bl b) H) : rIsX K [.ref a, c] H Q := ⟨a, C, f, d, fs, c, u, b, rfl, k, T, ea, ed, ek, q⟩
end
end Z
namespace Z
open PySem PySem.Spec PyProof.Rows L2
/-- one + other of two instances of a class -/
structure AddF (K : PySem.W.Frag) (C f : Addr) : Prop where
  sf : PySem.W.selfFirst K C = true
  at_ : PySem.W.findIn K (.ref C) (PySem.dunder "add") = some (some (.ref f))
  fn : PySem.W.isFn K (.ref f) = true
end Z
structure Top (K : PySem.W.Frag) (mg : Str → Option Value) where
  C_BadSeries : Addr
  C_NoAnswer : Addr
  C_NoKey : Addr
  C_Series : Addr
  C_Told : Addr
  C_Unnumbered : Addr
  C_UnnumberedError : Addr
  f_law_draw : Addr
  fd_law_draw : FuncData
  F_law_draw : Fun K "_law_draw" "_law_draw" s_law_draw f_law_draw fd_law_draw
  B_law_draw : Binds K fd_law_draw ["_law_bag_here", "_law_many"] []
  f_law_bag : Addr
  fd_law_bag : FuncData
  F_law_bag : Fun K "_law_bag" "_law_bag" s_law_bag f_law_bag fd_law_bag
  B_law_bag : Binds K fd_law_bag ["_law_script", "_law_at"] []
  f_law_number : Addr
  fd_law_number : FuncData
  F_law_number : Fun K "_law_number" "_law_number" s_law_number f_law_number fd_law_number
  B_law_number : Binds K fd_law_number ["_law_bag_here"] []
  f_law_word : Addr
  fd_law_word : FuncData
  F_law_word : Fun K "_law_word" "_law_word" s_law_word f_law_word fd_law_word
  B_law_word : Binds K fd_law_word ["_law_bag_here"] []
  f_is_number : Addr
  fd_is_number : FuncData
  F_is_number : Fun K "is_number" "is_number" s_is_number f_is_number fd_is_number
  B_is_number : Binds K fd_is_number ["thing"] []
  f_Unnumbered___init : Addr
  fd_Unnumbered___init : FuncData
  F_Unnumbered___init : Fun K "__init__" "Unnumbered.__init__" s_Unnumbered___init f_Unnumbered___init fd_Unnumbered___init
  B_Unnumbered___init : Binds K fd_Unnumbered___init ["self", "name"] []
  f_same : Addr
  fd_same : FuncData
  F_same : Fun K "same" "same" s_same f_same fd_same
  B_same : Binds K fd_same ["one", "other"] []
  f_is_entry : Addr
  fd_is_entry : FuncData
  F_is_entry : Fun K "is_entry" "is_entry" s_is_entry f_is_entry fd_is_entry
  B_is_entry : Binds K fd_is_entry ["thing"] []
  f_Unnumbered___eq : Addr
  fd_Unnumbered___eq : FuncData
  F_Unnumbered___eq : Fun K "__eq__" "Unnumbered.__eq__" s_Unnumbered___eq f_Unnumbered___eq fd_Unnumbered___eq
  B_Unnumbered___eq : Binds K fd_Unnumbered___eq ["self", "other"] []
  f_Unnumbered___str : Addr
  fd_Unnumbered___str : FuncData
  F_Unnumbered___str : Fun K "__str__" "Unnumbered.__str__" s_Unnumbered___str f_Unnumbered___str fd_Unnumbered___str
  B_Unnumbered___str : Binds K fd_Unnumbered___str ["self"] []
  f_with_one_object_a_name : Addr
  fd_with_one_object_a_name : FuncData
  F_with_one_object_a_name : Fun K "_with_one_object_a_name" "_with_one_object_a_name" s_with_one_object_a_name f_with_one_object_a_name fd_with_one_object_a_name
  B_with_one_object_a_name : Binds K fd_with_one_object_a_name ["entries"] []
  f_Series___init : Addr
  fd_Series___init : FuncData
  F_Series___init : Fun K "__init__" "Series.__init__" s_Series___init f_Series___init fd_Series___init
  B_Series___init : Binds K fd_Series___init ["self", "entries"] []
  f_BadSeries___init : Addr
  fd_BadSeries___init : FuncData
  F_BadSeries___init : Fun K "__init__" "BadSeries.__init__" s_BadSeries___init f_BadSeries___init fd_BadSeries___init
  B_BadSeries___init : Binds K fd_BadSeries___init ["self", "at"] []
  f_NoKey___init : Addr
  fd_NoKey___init : FuncData
  F_NoKey___init : Fun K "__init__" "NoKey.__init__" s_NoKey___init f_NoKey___init fd_NoKey___init
  B_NoKey___init : Binds K fd_NoKey___init ["self", "key"] []
  f_Series___len : Addr
  fd_Series___len : FuncData
  F_Series___len : Fun K "__len__" "Series.__len__" s_Series___len f_Series___len fd_Series___len
  B_Series___len : Binds K fd_Series___len ["self"] []
  f_Series___getitem : Addr
  fd_Series___getitem : FuncData
  F_Series___getitem : Fun K "__getitem__" "Series.__getitem__" s_Series___getitem f_Series___getitem fd_Series___getitem
  B_Series___getitem : Binds K fd_Series___getitem ["self", "at"] []
  f_Series___str : Addr
  fd_Series___str : FuncData
  F_Series___str : Fun K "__str__" "Series.__str__" s_Series___str f_Series___str fd_Series___str
  B_Series___str : Binds K fd_Series___str ["self"] []
  f_Series___add : Addr
  fd_Series___add : FuncData
  F_Series___add : Fun K "__add__" "Series.__add__" s_Series___add f_Series___add fd_Series___add
  B_Series___add : Binds K fd_Series___add ["self", "other"] []
  f_Series___eq : Addr
  fd_Series___eq : FuncData
  F_Series___eq : Fun K "__eq__" "Series.__eq__" s_Series___eq f_Series___eq fd_Series___eq
  B_Series___eq : Binds K fd_Series___eq ["self", "other"] []
  f_Series___contains : Addr
  fd_Series___contains : FuncData
  F_Series___contains : Fun K "__contains__" "Series.__contains__" s_Series___contains f_Series___contains fd_Series___contains
  B_Series___contains : Binds K fd_Series___contains ["self", "x"] []
  f_Told___init : Addr
  fd_Told___init : FuncData
  F_Told___init : Fun K "__init__" "Told.__init__" s_Told___init f_Told___init fd_Told___init
  B_Told___init : Binds K fd_Told___init ["self", "place"] []
  f_law_is_int : Addr
  fd_law_is_int : FuncData
  F_law_is_int : Fun K "_law_is_int" "_law_is_int" s_law_is_int f_law_is_int fd_law_is_int
  B_law_is_int : Binds K fd_law_is_int ["_law_thing"] []
  f_law_alike : Addr
  fd_law_alike : FuncData
  F_law_alike : Fun K "_law_alike" "_law_alike" s_law_alike f_law_alike fd_law_alike
  B_law_alike : Binds K fd_law_alike ["_law_one", "_law_other"] []
  f_law_says : Addr
  fd_law_says : FuncData
  F_law_says : Fun K "_law_says" "_law_says" s_law_says f_law_says fd_law_says
  B_law_says : Binds K fd_law_says ["_law_told", "_law_due"] []
  f_law_equal : Addr
  fd_law_equal : FuncData
  F_law_equal : Fun K "_law_equal" "_law_equal" s_law_equal f_law_equal fd_law_equal
  B_law_equal : Binds K fd_law_equal ["_law_one", "_law_other"] []
  f_law_no_key : Addr
  fd_law_no_key : FuncData
  F_law_no_key : Fun K "_law_no_key" "_law_no_key" s_law_no_key f_law_no_key fd_law_no_key
  B_law_no_key : Binds K fd_law_no_key ["_law_series", "_law_place"] []
  f_law_too_long : Addr
  fd_law_too_long : FuncData
  F_law_too_long : Fun K "_law_too_long" "_law_too_long" s_law_too_long f_law_too_long fd_law_too_long
  B_law_too_long : Binds K fd_law_too_long ["_law_one", "_law_other"] []
  f_law_entries : Addr
  fd_law_entries : FuncData
  F_law_entries : Fun K "_law_entries" "_law_entries" s_law_entries f_law_entries fd_law_entries
  B_law_entries : Binds K fd_law_entries ["_law_bag_here", "_law_words"] []
  f_law_changed : Addr
  fd_law_changed : FuncData
  F_law_changed : Fun K "_law_changed" "_law_changed" s_law_changed f_law_changed fd_law_changed
  B_law_changed : Binds K fd_law_changed ["_law_bag_here", "_law_entries_here", "_law_words"] []
  f_law_added : Addr
  fd_law_added : FuncData
  F_law_added : Fun K "_law_added" "_law_added" s_law_added f_law_added fd_law_added
  B_law_added : Binds K fd_law_added ["_law_left", "_law_right", "_law_one", "_law_other"] []
  f_law : Addr
  fd_law : FuncData
  F_law : Fun K "law" "law" s_law f_law fd_law
  B_law : Binds K fd_law ["_law_script"] []
  mgC_BadSeries : mg "BadSeries" = some (.ref C_BadSeries)
  ex_BadSeries : Z.ExF K C_BadSeries f_BadSeries___init
  mgC_NoAnswer : mg "NoAnswer" = some (.ref C_NoAnswer)
  mgC_NoKey : mg "NoKey" = some (.ref C_NoKey)
  ex_NoKey : Z.ExF K C_NoKey f_NoKey___init
  mgC_Series : mg "Series" = some (.ref C_Series)
  cl_Series : Cls K C_Series
  in_Series : Z.Inst K C_Series
  mk_Series : Mk K C_Series f_Series___init
  mgC_Told : mg "Told" = some (.ref C_Told)
  cl_Told : Cls K C_Told
  in_Told : Z.Inst K C_Told
  mk_Told : Mk K C_Told f_Told___init
  mgC_Unnumbered : mg "Unnumbered" = some (.ref C_Unnumbered)
  cl_Unnumbered : Cls K C_Unnumbered
  in_Unnumbered : Z.Inst K C_Unnumbered
  mk_Unnumbered : Mk K C_Unnumbered f_Unnumbered___init
  mgC_UnnumberedError : mg "UnnumberedError" = some (.ref C_UnnumberedError)
  me_Series___add : Meth K C_Series "__add__" f_Series___add
  me_Series___contains : Meth K C_Series "__contains__" f_Series___contains
  me_Series___eq : Meth K C_Series "__eq__" f_Series___eq
  me_Series___getitem : Meth K C_Series "__getitem__" f_Series___getitem
  me_Series___len : Meth K C_Series "__len__" f_Series___len
  me_Series___str : Meth K C_Series "__str__" f_Series___str
  me_Unnumbered___eq : Meth K C_Unnumbered "__eq__" f_Unnumbered___eq
  me_Unnumbered___str : Meth K C_Unnumbered "__str__" f_Unnumbered___str
  ad_Series : Z.AddF K C_Series f_Series___add
  ne_Series : Z.NeD K C_Series
  no_BadSeries_at : NoAttr K C_BadSeries "at"
  no_NoKey_key : NoAttr K C_NoKey "key"
  no_Series_entries : NoAttr K C_Series "entries"
  no_Told_place : NoAttr K C_Told "place"
  no_Unnumbered_name : NoAttr K C_Unnumbered "name"
  mg_law_draw : mg "_law_draw" = some (.ref f_law_draw)
  mg_law_bag : mg "_law_bag" = some (.ref f_law_bag)
  mg_law_number : mg "_law_number" = some (.ref f_law_number)
  mg_law_word : mg "_law_word" = some (.ref f_law_word)
  mg_is_number : mg "is_number" = some (.ref f_is_number)
  mg_same : mg "same" = some (.ref f_same)
  mg_is_entry : mg "is_entry" = some (.ref f_is_entry)
  mg_with_one_object_a_name : mg "_with_one_object_a_name" = some (.ref f_with_one_object_a_name)
  mg_law_is_int : mg "_law_is_int" = some (.ref f_law_is_int)
  mg_law_alike : mg "_law_alike" = some (.ref f_law_alike)
  mg_law_says : mg "_law_says" = some (.ref f_law_says)
  mg_law_equal : mg "_law_equal" = some (.ref f_law_equal)
  mg_law_no_key : mg "_law_no_key" = some (.ref f_law_no_key)
  mg_law_too_long : mg "_law_too_long" = some (.ref f_law_too_long)
  mg_law_entries : mg "_law_entries" = some (.ref f_law_entries)
  mg_law_changed : mg "_law_changed" = some (.ref f_law_changed)
  mg_law_added : mg "_law_added" = some (.ref f_law_added)
  mg_law : mg "law" = some (.ref f_law)
  z_LookupError : mg "LookupError" = none
  z_abs : mg "abs" = none
  z_all : mg "all" = none
  z_any : mg "any" = none
  z_bool : mg "bool" = none
  z_enumerate : mg "enumerate" = none
  z_int : mg "int" = none
  z_isinstance : mg "isinstance" = none
  z_len : mg "len" = none
  z_list : mg "list" = none
  z_max : mg "max" = none
  z_min : mg "min" = none
  z_range : mg "range" = none
  z_str : mg "str" = none
  z_tuple : mg "tuple" = none
  z_zip : mg "zip" = none
  tk_MOST_ENTRIES : Tok
  mgK_MOST_ENTRIES : mg "MOST_ENTRIES" = some (.int 250 tk_MOST_ENTRIES)
  ki_NoKey_LookupError : PySem.W.kitOne K (.ref C_NoKey) (.type "LookupError") = some true
  ki_NoKey_UnnumberedError : PySem.W.kitOne K (.ref C_NoKey) (.ref C_UnnumberedError) = some false
  ki_NoKey_NoAnswer : PySem.W.kitOne K (.ref C_NoKey) (.ref C_NoAnswer) = some false
  ki_NoneType_Series : PySem.W.kitOne K (.type "NoneType") (.ref C_Series) = some false
  ki_bool_Series : PySem.W.kitOne K (.type "bool") (.ref C_Series) = some false
  ki_int_Series : PySem.W.kitOne K (.type "int") (.ref C_Series) = some false
  ki_str_Series : PySem.W.kitOne K (.type "str") (.ref C_Series) = some false
  ki_list_Series : PySem.W.kitOne K (.type "list") (.ref C_Series) = some false
  ki_tuple_Series : PySem.W.kitOne K (.type "tuple") (.ref C_Series) = some false
  ki_Series_Series : PySem.W.kitOne K (.ref C_Series) (.ref C_Series) = some true
  ki_Told_Series : PySem.W.kitOne K (.ref C_Told) (.ref C_Series) = some false
  ki_Unnumbered_Series : PySem.W.kitOne K (.ref C_Unnumbered) (.ref C_Series) = some false
  ki_NoneType_Unnumbered : PySem.W.kitOne K (.type "NoneType") (.ref C_Unnumbered) = some false
  ki_bool_Unnumbered : PySem.W.kitOne K (.type "bool") (.ref C_Unnumbered) = some false
  ki_int_Unnumbered : PySem.W.kitOne K (.type "int") (.ref C_Unnumbered) = some false
  ki_str_Unnumbered : PySem.W.kitOne K (.type "str") (.ref C_Unnumbered) = some false
  ki_list_Unnumbered : PySem.W.kitOne K (.type "list") (.ref C_Unnumbered) = some false
  ki_tuple_Unnumbered : PySem.W.kitOne K (.type "tuple") (.ref C_Unnumbered) = some false
  ki_Series_Unnumbered : PySem.W.kitOne K (.ref C_Series) (.ref C_Unnumbered) = some false
  ki_Told_Unnumbered : PySem.W.kitOne K (.ref C_Told) (.ref C_Unnumbered) = some false
  ki_Unnumbered_Unnumbered : PySem.W.kitOne K (.ref C_Unnumbered) (.ref C_Unnumbered) = some true
  ki_Series_bool : PySem.W.kitOne K (.ref C_Series) (.type "bool") = some false
  ki_Told_bool : PySem.W.kitOne K (.ref C_Told) (.type "bool") = some false
  ki_Unnumbered_bool : PySem.W.kitOne K (.ref C_Unnumbered) (.type "bool") = some false
  ki_Series_int : PySem.W.kitOne K (.ref C_Series) (.type "int") = some false
  ki_Told_int : PySem.W.kitOne K (.ref C_Told) (.type "int") = some false
  ki_Unnumbered_int : PySem.W.kitOne K (.ref C_Unnumbered) (.type "int") = some false
  ki_Series_list : PySem.W.kitOne K (.ref C_Series) (.type "list") = some false
  ki_Told_list : PySem.W.kitOne K (.ref C_Told) (.type "list") = some false
  ki_Unnumbered_list : PySem.W.kitOne K (.ref C_Unnumbered) (.type "list") = some false
  ki_Series_tuple : PySem.W.kitOne K (.ref C_Series) (.type "tuple") = some false
  ki_Told_tuple : PySem.W.kitOne K (.ref C_Told) (.type "tuple") = some false
  ki_Unnumbered_tuple : PySem.W.kitOne K (.ref C_Unnumbered) (.type "tuple") = some false
theorem kb_NoneType_int : kitB "NoneType" "int" = some false := by decide +kernel
theorem kb_NoneType_bool : kitB "NoneType" "bool" = some false := by decide +kernel
theorem kb_NoneType_list : kitB "NoneType" "list" = some false := by decide +kernel
theorem kb_NoneType_tuple : kitB "NoneType" "tuple" = some false := by decide +kernel
theorem kb_bool_int : kitB "bool" "int" = some true := by decide +kernel
theorem kb_bool_bool : kitB "bool" "bool" = some true := by decide +kernel
theorem kb_bool_list : kitB "bool" "list" = some false := by decide +kernel
theorem kb_bool_tuple : kitB "bool" "tuple" = some false := by decide +kernel
theorem kb_int_int : kitB "int" "int" = some true := by decide +kernel
theorem kb_int_bool : kitB "int" "bool" = some false := by decide +kernel
theorem kb_int_list : kitB "int" "list" = some false := by decide +kernel
theorem kb_int_tuple : kitB "int" "tuple" = some false := by decide +kernel
theorem kb_str_int : kitB "str" "int" = some false := by decide +kernel
theorem kb_str_bool : kitB "str" "bool" = some false := by decide +kernel
theorem kb_str_list : kitB "str" "list" = some false := by decide +kernel
theorem kb_str_tuple : kitB "str" "tuple" = some false := by decide +kernel
theorem kb_list_int : kitB "list" "int" = some false := by decide +kernel
theorem kb_list_bool : kitB "list" "bool" = some false := by decide +kernel
theorem kb_list_list : kitB "list" "list" = some true := by decide +kernel
theorem kb_list_tuple : kitB "list" "tuple" = some false := by decide +kernel
theorem kb_tuple_int : kitB "tuple" "int" = some false := by decide +kernel
theorem kb_tuple_bool : kitB "tuple" "bool" = some false := by decide +kernel
theorem kb_tuple_list : kitB "tuple" "list" = some false := by decide +kernel
theorem kb_tuple_tuple : kitB "tuple" "tuple" = some true := by decide +kernel
local macro_rules | `(tactic| walk_at "ki") => `(tactic| first
  | assumption
  | exact kit_ty kb_NoneType_int
  | exact kit_ty kb_NoneType_bool
  | exact kit_ty kb_NoneType_list
  | exact kit_ty kb_NoneType_tuple
  | exact kit_ty kb_bool_int
  | exact kit_ty kb_bool_bool
  | exact kit_ty kb_bool_list
  | exact kit_ty kb_bool_tuple
  | exact kit_ty kb_int_int
  | exact kit_ty kb_int_bool
  | exact kit_ty kb_int_list
  | exact kit_ty kb_int_tuple
  | exact kit_ty kb_str_int
  | exact kit_ty kb_str_bool
  | exact kit_ty kb_str_list
  | exact kit_ty kb_str_tuple
  | exact kit_ty kb_list_int
  | exact kit_ty kb_list_bool
  | exact kit_ty kb_list_list
  | exact kit_ty kb_list_tuple
  | exact kit_ty kb_tuple_int
  | exact kit_ty kb_tuple_bool
  | exact kit_ty kb_tuple_list
  | exact kit_ty kb_tuple_tuple
  | exact Top.ki_NoneType_Series (by assumption)
  | exact Top.ki_bool_Series (by assumption)
  | exact Top.ki_int_Series (by assumption)
  | exact Top.ki_str_Series (by assumption)
  | exact Top.ki_list_Series (by assumption)
  | exact Top.ki_tuple_Series (by assumption)
  | exact Top.ki_Series_Series (by assumption)
  | exact Top.ki_Told_Series (by assumption)
  | exact Top.ki_Unnumbered_Series (by assumption)
  | exact Top.ki_NoneType_Unnumbered (by assumption)
  | exact Top.ki_bool_Unnumbered (by assumption)
  | exact Top.ki_int_Unnumbered (by assumption)
  | exact Top.ki_str_Unnumbered (by assumption)
  | exact Top.ki_list_Unnumbered (by assumption)
  | exact Top.ki_tuple_Unnumbered (by assumption)
  | exact Top.ki_Series_Unnumbered (by assumption)
  | exact Top.ki_Told_Unnumbered (by assumption)
  | exact Top.ki_Unnumbered_Unnumbered (by assumption)
  | exact Top.ki_Series_bool (by assumption)
  | exact Top.ki_Told_bool (by assumption)
  | exact Top.ki_Unnumbered_bool (by assumption)
  | exact Top.ki_Series_int (by assumption)
  | exact Top.ki_Told_int (by assumption)
  | exact Top.ki_Unnumbered_int (by assumption)
  | exact Top.ki_Series_list (by assumption)
  | exact Top.ki_Told_list (by assumption)
  | exact Top.ki_Unnumbered_list (by assumption)
  | exact Top.ki_Series_tuple (by assumption)
  | exact Top.ki_Told_tuple (by assumption)
  | exact Top.ki_Unnumbered_tuple (by assumption))
local macro_rules | `(tactic| walk_at "no") => `(tactic| first
  | exact Top.no_BadSeries_at (by assumption)
  | exact Top.no_NoKey_key (by assumption)
  | exact Top.no_Series_entries (by assumption)
  | exact Top.no_Told_place (by assumption)
  | exact Top.no_Unnumbered_name (by assumption)
  | assumption)
local macro_rules | `(tactic| walk_at "cl") => `(tactic| first
  | exact Top.cl_Series (by assumption)
  | exact Top.cl_Told (by assumption)
  | exact Top.cl_Unnumbered (by assumption)
  | assumption)
local macro_rules | `(tactic| walk_at "ty") => `(tactic| first
  | assumption
  | exact .base (.int _)
  | exact .base .non
  | exact .base (.bl _)
  | exact .base (.str _)
  | exact .base (.lst (by walk_at "hp"))
  | exact .base (.tup (by walk_at "hp"))
  | exact Z.ty_ins (Top.cl_Series (by assumption)) (Top.in_Series (by assumption)) (by walk_at "hp")
  | exact Z.ty_ins (Top.cl_Told (by assumption)) (Top.in_Told (by assumption)) (by walk_at "hp")
  | exact Z.ty_ins (Top.cl_Unnumbered (by assumption)) (Top.in_Unnumbered (by assumption)) (by walk_at "hp"))

/-! what stands at an address; which way a test goes; one step; as many as go -/
local macro_rules | `(tactic| walk_at "hp") => `(tactic| first
  | assumption
  | exact upd_same
  | (refine (‹Same _ _› : Same _ _) _ _ ?_; walk_at "hp")
  | (refine (‹Z.But _ _ _› : Z.But _ _ _) _ _ ?_ ?_; (first | assumption | (apply Ne.symm; assumption) | exact ne_of_none (by assumption) (by assumption)); walk_at "hp"))
local macro_rules | `(tactic| walk_at "sq") => `(tactic| first
  | assumption
  | exact SqL.of (by walk_at "hp")
  | (refine Same.seq (by assumption) ?_; walk_at "sq")
  | (refine Z.But.seq (by assumption) (by assumption) ?_; walk_at "sq"))
local macro_rules | `(tactic| walk_at "look") => `(tactic| first | assumption | exact Z.look1 | (simp [List.lookup]; done))
local macro_rules | `(tactic| walk_at "side") => `(tactic| first
  | (show (0 : Int) < _; omega)
  | (show CDiv _ _; exact ⟨by omega, by omega⟩)
  | (show CMul _ _; first | exact .inl ⟨by omega, by omega⟩ | exact .inr ⟨by omega, by omega⟩)
  | (show CPow _ _; exact ⟨by omega, by omega, by omega⟩))
local macro_rules | `(tactic| walk_at "st") => `(tactic| first
  | ((with_reducible refine' Z.r_var ?e ?_); (case e => exact rfl))
  | with_reducible refine Z.r_op ?_
  | with_reducible refine Z.r_c ?_
  | with_reducible refine Z.r_cons ?_
  | with_reducible refine Z.r_nil ?_
  | with_reducible refine Z.r_seq ?_
  | with_reducible refine Z.r_asg ?_
  | with_reducible refine Z.r_call ?_
  | with_reducible refine Z.r_cb ?_
  | with_reducible refine Z.r_asgG ?_
  | with_reducible refine Z.r_gName ?_
  | with_reducible refine Z.r_gSub ?_
  | with_reducible refine Z.r_ret ?_
  | with_reducible refine Z.r_retN ?_
  | with_reducible refine Z.r_next ?_
  | with_reducible refine Z.r_drop ?_
  | with_reducible refine Z.r_if ?_
  | with_reducible refine Z.r_par ?_
  | with_reducible refine Z.r_par3 ?_
  | with_reducible refine Z.r_vs3 ?_
  | with_reducible refine Z.r_gCons ?_
  | with_reducible refine Z.r_gNil ?_
  | ((with_reducible refine' Z.r_gTup ?e ?hn ?_); (case e => walk_at "hp"); (case hn => exact rfl))
  | with_reducible refine Z.r_vs2 ?_
  | ((with_reducible refine' Z.r_aug ?e ?_); (case e => exact rfl))
  | with_reducible refine Z.r_un ?_
  | with_reducible refine Z.r_test ?_
  | with_reducible refine Z.r_tB ?_
  | with_reducible refine Z.r_bl ?_
  | with_reducible refine Z.r_and ?_
  | with_reducible refine Z.r_or ?_
  | with_reducible refine Z.r_not ?_
  | with_reducible refine Z.r_andV ?_
  | with_reducible refine Z.r_orV ?_
  | with_reducible refine Z.r_notV ?_
  | with_reducible refine Z.r_ifE ?_
  | with_reducible refine Z.r_tup ?_
  | with_reducible refine Z.r_lst ?_
  | with_reducible refine Z.r_fld ?_
  | ((with_reducible refine' Z.r_fldV ?e ?c ?n ?l ?_); (case e => walk_at "hp"); (case c => walk_at "cl"); (case n => walk_at "no"); (case l => walk_at "look"))
  | ((with_reducible refine' Z.r_isiT ?ty ?k ?_); (case ty => walk_at "ty"); (case k => walk_at "ki"))
  | ((with_reducible refine' Z.r_isiC ?ty ?k ?_); (case ty => walk_at "ty"); (case k => walk_at "ki"))
  | with_reducible refine Z.r_make ?_
  | with_reducible refine Z.r_dget ?_
  | with_reducible refine Z.r_dput ?_
  | with_reducible refine Z.r_disp ?_
  | with_reducible refine Z.r_pnil ?_
  | with_reducible refine Z.r_pcons ?_
  | with_reducible refine Z.r_sfld ?_
  | ((with_reducible refine' Z.r_stF ?e ?c ?n ?l ?_); (case e => walk_at "hp"); (case c => walk_at "cl"); (case n => walk_at "no"); (case l => exact Nat.le_of_ble_eq_true rfl))
  | ((with_reducible refine' Z.r_nwL ?z ?_); (case z => exact Nat.le_of_ble_eq_true rfl))
  | ((with_reducible refine' Z.r_nwT ?z ?_); (case z => exact Nat.le_of_ble_eq_true rfl))
  | with_reducible refine Z.r_I0 ?_
  | with_reducible refine Z.r_U ?_
  | with_reducible refine Z.r_forRng ?_
  | with_reducible refine Z.r_forL0 ?_
  | with_reducible refine Z.r_lcRng ?_
  | with_reducible refine Z.r_lcLst ?_
  | with_reducible refine Z.r_sl ?_
  | with_reducible refine Z.r_part ?_
  | with_reducible refine Z.r_prt ?_
  | with_reducible refine Z.r_nopart ?_
  | with_reducible refine Z.r_bmA ?_
  | ((with_reducible refine' Z.r_tyL ?e ?_); (case e => walk_at "hp"))
  | with_reducible refine Z.r_lcFLst ?_
  | ((with_reducible refine' Z.r_I ?c ?_); (case c => walk_at "side"))
  | with_reducible refine Z.r_int1 ?_
  | with_reducible refine Z.r_abs ?_
  | with_reducible refine Z.r_max2 ?_
  | with_reducible refine Z.r_min2 ?_
  | ((with_reducible refine' Z.r_lenL ?e ?_); (case e => walk_at "sq"))
  | with_reducible refine Z.r_isN ?_
  | with_reducible refine Z.r_notN ?_
  | with_reducible refine Z.r_eqI ?_
  | with_reducible refine Z.r_eqB ?_
  | with_reducible refine Z.r_eqS ?_
  | with_reducible refine Z.r_neI ?_
  | with_reducible refine Z.r_neB ?_
  | with_reducible refine Z.r_neS ?_
  | ((with_reducible refine' Z.r_ixL ?h ?e ?_); (case h => walk_at "sq"); (case e => first | assumption | exact rfl))
  | ((with_reducible refine' Z.r_ixT ?h ?e ?_); (case h => exact SqT.of (by walk_at "hp")); (case e => first | assumption | exact rfl))
  | ((with_reducible refine' Z.r_setL ?h ?e ?_); (case h => walk_at "hp"); (case e => exact rfl))
  | ((with_reducible refine Z.yes ?_ ?_); (first | exact rfl | decide +kernel))
  | ((with_reducible refine Z.no ?_ ?_); (first | exact rfl | decide +kernel))
  | walk_at "call")
local macro_rules | `(tactic| walk_at "go") => `(tactic| repeat (first
  | ((with_reducible refine' Z.r_var ?e ?_); (case e => exact rfl))
  | with_reducible refine Z.r_op ?_
  | with_reducible refine Z.r_c ?_
  | with_reducible refine Z.r_cons ?_
  | with_reducible refine Z.r_nil ?_
  | with_reducible refine Z.r_seq ?_
  | with_reducible refine Z.r_asg ?_
  | with_reducible refine Z.r_call ?_
  | with_reducible refine Z.r_cb ?_
  | with_reducible refine Z.r_asgG ?_
  | with_reducible refine Z.r_gName ?_
  | with_reducible refine Z.r_gSub ?_
  | with_reducible refine Z.r_ret ?_
  | with_reducible refine Z.r_retN ?_
  | with_reducible refine Z.r_next ?_
  | with_reducible refine Z.r_drop ?_
  | with_reducible refine Z.r_if ?_
  | with_reducible refine Z.r_par ?_
  | with_reducible refine Z.r_par3 ?_
  | with_reducible refine Z.r_vs3 ?_
  | with_reducible refine Z.r_gCons ?_
  | with_reducible refine Z.r_gNil ?_
  | ((with_reducible refine' Z.r_gTup ?e ?hn ?_); (case e => walk_at "hp"); (case hn => exact rfl))
  | with_reducible refine Z.r_vs2 ?_
  | ((with_reducible refine' Z.r_aug ?e ?_); (case e => exact rfl))
  | with_reducible refine Z.r_un ?_
  | with_reducible refine Z.r_test ?_
  | with_reducible refine Z.r_tB ?_
  | with_reducible refine Z.r_bl ?_
  | with_reducible refine Z.r_and ?_
  | with_reducible refine Z.r_or ?_
  | with_reducible refine Z.r_not ?_
  | with_reducible refine Z.r_andV ?_
  | with_reducible refine Z.r_orV ?_
  | with_reducible refine Z.r_notV ?_
  | with_reducible refine Z.r_ifE ?_
  | with_reducible refine Z.r_tup ?_
  | with_reducible refine Z.r_lst ?_
  | with_reducible refine Z.r_fld ?_
  | ((with_reducible refine' Z.r_fldV ?e ?c ?n ?l ?_); (case e => walk_at "hp"); (case c => walk_at "cl"); (case n => walk_at "no"); (case l => walk_at "look"))
  | ((with_reducible refine' Z.r_isiT ?ty ?k ?_); (case ty => walk_at "ty"); (case k => walk_at "ki"))
  | ((with_reducible refine' Z.r_isiC ?ty ?k ?_); (case ty => walk_at "ty"); (case k => walk_at "ki"))
  | with_reducible refine Z.r_make ?_
  | with_reducible refine Z.r_dget ?_
  | with_reducible refine Z.r_dput ?_
  | with_reducible refine Z.r_disp ?_
  | with_reducible refine Z.r_pnil ?_
  | with_reducible refine Z.r_pcons ?_
  | with_reducible refine Z.r_sfld ?_
  | ((with_reducible refine' Z.r_stF ?e ?c ?n ?l ?_); (case e => walk_at "hp"); (case c => walk_at "cl"); (case n => walk_at "no"); (case l => exact Nat.le_of_ble_eq_true rfl))
  | ((with_reducible refine' Z.r_nwL ?z ?_); (case z => exact Nat.le_of_ble_eq_true rfl))
  | ((with_reducible refine' Z.r_nwT ?z ?_); (case z => exact Nat.le_of_ble_eq_true rfl))
  | with_reducible refine Z.r_I0 ?_
  | with_reducible refine Z.r_U ?_
  | with_reducible refine Z.r_forRng ?_
  | with_reducible refine Z.r_forL0 ?_
  | with_reducible refine Z.r_lcRng ?_
  | with_reducible refine Z.r_lcLst ?_
  | with_reducible refine Z.r_sl ?_
  | with_reducible refine Z.r_part ?_
  | with_reducible refine Z.r_prt ?_
  | with_reducible refine Z.r_nopart ?_
  | with_reducible refine Z.r_bmA ?_
  | ((with_reducible refine' Z.r_tyL ?e ?_); (case e => walk_at "hp"))
  | with_reducible refine Z.r_lcFLst ?_
  | ((with_reducible refine' Z.r_I ?c ?_); (case c => walk_at "side"))
  | with_reducible refine Z.r_int1 ?_
  | with_reducible refine Z.r_abs ?_
  | with_reducible refine Z.r_max2 ?_
  | with_reducible refine Z.r_min2 ?_
  | ((with_reducible refine' Z.r_lenL ?e ?_); (case e => walk_at "sq"))
  | with_reducible refine Z.r_isN ?_
  | with_reducible refine Z.r_notN ?_
  | with_reducible refine Z.r_eqI ?_
  | with_reducible refine Z.r_eqB ?_
  | with_reducible refine Z.r_eqS ?_
  | with_reducible refine Z.r_neI ?_
  | with_reducible refine Z.r_neB ?_
  | with_reducible refine Z.r_neS ?_
  | ((with_reducible refine' Z.r_ixL ?h ?e ?_); (case h => walk_at "sq"); (case e => first | assumption | exact rfl))
  | ((with_reducible refine' Z.r_ixT ?h ?e ?_); (case h => exact SqT.of (by walk_at "hp")); (case e => first | assumption | exact rfl))
  | ((with_reducible refine' Z.r_setL ?h ?e ?_); (case h => walk_at "hp"); (case e => exact rfl))
  | ((with_reducible refine Z.yes ?_ ?_); (first | exact rfl | decide +kernel))
  | ((with_reducible refine Z.no ?_ ?_); (first | exact rfl | decide +kernel))
  | walk_at "call"))
local macro_rules | `(tactic| walk_at "bag") => `(tactic| first
  | assumption
  | (refine Bag.mono (by omega) ?_; assumption)
  | (refine Bag.same (by assumption) ?_; walk_at "bag")
  | (refine Bag.but (by assumption) (by first | assumption | (apply Ne.symm; assumption)) ?_; walk_at "bag"))
local macro_rules | `(tactic| walk_at "len") => `(tactic| exact Z.szle (Nat.le_of_ble_eq_true rfl))
local macro_rules | `(tactic| walk_at "draw") => `(tactic| (refine' ⟨_, _, _, rfl, ?bg, ?m0, ?m1, ?n1, ?_⟩; (case bg => walk_at "bag"); (case m0 => omega); (case m1 => omega); (case n1 => omega)))
/-! the bag of a script's cell, its draws -/
/-- a bag: what is left of the digits, the seed, the number of draws (at most n) -/
def Bag (H : Hp) (b : Addr) (n : Nat) : Prop := ∃ g s k : Int, H b = some (.lst [.int g, .int s, .int k]) ∧ 0 ≤ g ∧ 0 ≤ s ∧ s < 1099511627776 ∧ 0 ≤ k ∧ k ≤ n
theorem Bag.mono {H : Hp} {b : Addr} {n m : Nat} (h : n ≤ m) (x : Bag H b n) : Bag H b m := by
  obtain ⟨g, s, k, h1, h2, h3, h4, h5, h6⟩ := x
  exact ⟨g, s, k, h1, h2, h3, h4, h5, by omega⟩
theorem Bag.same {H H' : Hp} {b : Addr} {n : Nat} (e : Same H H') (x : Bag H b n) : Bag H' b n := by
  obtain ⟨g, s, k, h1, h2⟩ := x
  exact ⟨g, s, k, e _ _ h1, h2⟩
theorem Bag.ne {H : Hp} {b p : Addr} {n : Nat} (x : Bag H b n) (h : H p = none) : p ≠ b := fun e => by
  obtain ⟨g, s, k, h1, _⟩ := x
  rw [e, h1] at h; cases h
theorem Bag.ne' {H : Hp} {b p : Addr} {n : Nat} {o : HO} (x : Bag H b n) (h : H p = some o) (d : ∀ xs, o ≠ .lst xs) : p ≠ b := fun e => by
  obtain ⟨g, s, k, h1, _⟩ := x
  rw [e, h1] at h; cases h; exact d _ rfl
theorem Bag.but {H H' : Hp} {b c : Addr} {n : Nat} (e : Z.But c H H') (ne : b ≠ c) (x : Bag H b n) : Bag H' b n := by
  obtain ⟨g, s, k, h1, h2⟩ := x
  exact ⟨g, s, k, e _ _ ne h1, h2⟩
local macro_rules | `(tactic| walk_at "bag") => `(tactic| first
  | assumption
  | (refine Bag.same (by assumption) ?_; walk_at "bag")
  | (refine Bag.but (by assumption) (by first | assumption | (apply Ne.symm; assumption)) ?_; walk_at "bag")
  | (refine Bag.mono (by omega) ?_; assumption))
/-- a word of one to eight small letters -/
def Word (x : Str) : Prop := 1 ≤ x.length ∧ x.length ≤ 8 ∧ ∀ c ∈ x.cps.toList, 97 ≤ c ∧ c ≤ 122
theorem Word.ok {x : Str} (h : Word x) : PyData.strOk x = true := by
  unfold PyData.strOk
  rw [Array.all_eq_true']
  intro c hc
  have := (h.2.2 c (Array.mem_toList_iff.mpr hc)).2
  exact decide_eq_true (by omega)
/-- a beginning of a word, of at most n letters -/
def Wd (n : Nat) (x : Str) : Prop := x.length = n ∧ ∀ c ∈ x.cps.toList, 97 ≤ c ∧ c ≤ 122
theorem Wd.add {n c : Nat} {x : Str} (h : Wd n x) (h1 : 97 ≤ c) (h2 : c ≤ 122) : Wd (n + 1) (x ++ (⟨#[c]⟩ : Str)) := by
  obtain ⟨h3, h4⟩ := h
  have e : (x ++ (⟨#[c]⟩ : Str)).cps = x.cps ++ #[c] := rfl
  constructor
  · show (x ++ (⟨#[c]⟩ : Str)).cps.size = n + 1
    rw [e, Array.size_append]
    have : x.cps.size = n := h3
    rw [this]; rfl
  · intro d hd
    rw [e, Array.toList_append, List.mem_append] at hd
    rcases hd with hd | hd
    · exact h4 d hd
    · have : d = c := by simpa using hd
      omega

/-- a value of the law's: nothing, an unnumbered value (an instance of the class at C) of this name, a number -/
inductive Tag where
  | non | mark (n : Str) | num (i : Int)
  deriving DecidableEq
def Rep (C : Addr) (H : Hp) (x : V) : Tag → Prop
  | .non => x = .non
  | .num i => x = .int i
  | .mark n => ∃ a dx, x = .ref a ∧ H a = some (.ins C dx [("name", .str n)])
theorem Rep.same {C : Addr} {H H' : Hp} {x : V} {t : Tag} (e : Same H H') (h : Rep C H x t) : Rep C H' x t := by
  cases t with
  | non => exact h
  | num i => exact h
  | mark n =>
    obtain ⟨a, dx, h1, h2⟩ := h
    exact ⟨a, dx, h1, e _ _ h2⟩
theorem Rep.but {C b : Addr} {H H' : Hp} {x : V} {t : Tag} {xs : List V} (e : Z.But b H H') (hb : H b = some (.lst xs)) (h : Rep C H x t) : Rep C H' x t := by
  cases t with
  | non => exact h
  | num i => exact h
  | mark n =>
    obtain ⟨a, dx, h1, h2⟩ := h
    exact ⟨a, dx, h1, e _ _ (ne_of h2 hb (by intro z; cases z)) h2⟩
/-! operators and comparisons of instances of an own class -/
namespace Z
open PySem PySem.Spec PyProof.Rows L2
section
variable {prog : Program} {w : World} {A : Around} {E : Value → Shared → Prop} {s : Shared} {x : Addr} {o : Obj} {a : Int} {t : Tok}
/-- what a built-in's operation on ints says of an instance -/
def Declines (B : Builtin) : Prop := ∀ (prog : Program) (w : World) (A : Around) (E : Value → Shared → Prop) (s : Shared) (x : Addr) (o : Obj) (a : Int) (t : Tok) (Q : Fin → Shared → Prop),
  s.heap.get? x = some o → o.data = .plain → Q (.done (.ret .notImplemented)) s → wpAny (model prog w) A (B ⟨[.int a t, .ref x], []⟩) Q E s
theorem dec_lt : Declines Builtin.«int.__lt__» := fun prog w A E s x o a t Q hx hd h => by
  obtain ⟨oc, od, data, sl⟩ := o
  simp only at hd
  subst hd
  obtain ⟨hp, g, d, tk, os⟩ := s
  wp_walk using AutoSeq1.wpAny_loadPart' hx
  exact h
theorem dec_le : Declines Builtin.«int.__le__» := fun prog w A E s x o a t Q hx hd h => by
  obtain ⟨oc, od, data, sl⟩ := o
  simp only at hd
  subst hd
  obtain ⟨hp, g, d, tk, os⟩ := s
  wp_walk using AutoSeq1.wpAny_loadPart' hx
  exact h
theorem dec_gt : Declines Builtin.«int.__gt__» := fun prog w A E s x o a t Q hx hd h => by
  obtain ⟨oc, od, data, sl⟩ := o
  simp only at hd
  subst hd
  obtain ⟨hp, g, d, tk, os⟩ := s
  wp_walk using AutoSeq1.wpAny_loadPart' hx
  exact h
theorem dec_ge : Declines Builtin.«int.__ge__» := fun prog w A E s x o a t Q hx hd h => by
  obtain ⟨oc, od, data, sl⟩ := o
  simp only at hd
  subst hd
  obtain ⟨hp, g, d, tk, os⟩ := s
  wp_walk using AutoSeq1.wpAny_loadPart' hx
  exact h
theorem dec_eq : Declines Builtin.«int.__eq__» := fun prog w A E s x o a t Q hx hd h => by
  obtain ⟨oc, od, data, sl⟩ := o
  simp only at hd
  subst hd
  obtain ⟨hp, g, d, tk, os⟩ := s
  wp_walk using AutoSeq1.wpAny_loadPart' hx
  exact h
theorem dec_ne : Declines Builtin.«int.__ne__» := fun prog w A E s x o a t Q hx hd h => by
  obtain ⟨oc, od, data, sl⟩ := o
  simp only at hd
  subst hd
  obtain ⟨hp, g, d, tk, os⟩ := s
  wp_walk using AutoSeq1.wpAny_loadPart' hx
  exact h
theorem dec_call {T : String} {name : Str} {id : String} {B : Builtin} (slot : Slot "int" name id) (entry : entryFor table id = some B) (args : ∀ a b, argsOk id ⟨[a, b], []⟩) (D : Declines B) {Q : Value → Shared → Prop}
    (hx : s.heap.get? x = some o) (hd : o.data = .plain) (h : Q .notImplemented s) : wpAny (model prog w) A (call (.builtin id) [.int a t, .ref x]) Q E s :=
  GQ.call_here slot (typeIs_int s a t) entry (args _ _) (D _ _ _ _ _ _ _ _ _ _ hx hd h)
/-- an int, a comparison, an instance: the instance's reflected def is asked -/
theorem cmp_int {K : PySem.W.Frag} {C f : Addr} {od : Option Obj} {op : CmpOp} {id : String} {B : Builtin} {Q : Value → Shared → Prop} (hu : A.units < cLine) (X : K.In s.heap) (I : PySem.W.InstAt s.heap x o C od) (hd : o.data = .plain)
    (slot : Slot "int" (cmpInfo op).2.1 id) (entry : entryFor table id = some B) (args : ∀ a b, argsOk id ⟨[a, b], []⟩) (D : Declines B)
    (sub : PySem.W.subIn K (.ref C) (.type "int") = some false) (hs : PySem.W.findIn K (.ref C) (cmpInfo op).2.2 = some (some (.ref f))) (hf : PySem.W.isFn K (.ref f) = true)
    (h : wpAny (model prog w) A (call (.ref f) [.ref x, .int a t]) (PySem.W.CmpBack Q) E s) : wpAny (model prog w) A (richCompare op (.int a t) (.ref x)) Q E s := by
  rcases hi : cmpInfo op with ⟨sym, nf, nr⟩
  rw [hi] at slot hs
  dsimp only at slot hs
  have one : wpAny (model prog w) A (tryCompare (.ref x) nr (.int a t)) (fun r s' => ∃ v, r = some v ∧ Q v s') E s := by
    unfold tryCompare
    refine wpAny_bind (PySem.W.ifBound_K X I hs hf (wpAny_mono h (fun v s' hv => ?_) fun _ _ e => e))
    cases v <;> first | exact hv.elim | exact wpAny_pure ⟨_, rfl, hv⟩
  simp only [richCompare, hi, (typeIs_int s a t).oneThing_none]
  refine wpAny_holding (wpAny_bind (wpAny_cRoomFor hu ?_))
  refine wpAny_bind (wpAny_typeOf (typeIs_int s a t) (wpAny_bind (I.type.here ?_)))
  have hne : (Value.type "int" != Value.ref C) = true := by simp
  simp only [hne, if_true]
  refine wpAny_bind ((PySem.W.looks_subIn X sub).here ?_)
  simp only [Bool.false_eq_true, if_false, Bool.not_false, if_true]
  refine wpAny_bind (m := tryCompare (.int a t) _ (.ref x)) (wpAny_tryCompare_declines (typeIs_int s a t) slot (dec_call (T := "int") slot entry args D I.at_ hd ⟨rfl, ?_⟩))
  refine wpAny_bind (m := tryCompare (.ref x) _ (.int a t)) (wpAny_mono one (fun r s' z => ?_) fun _ _ e => e)
  obtain ⟨v, rfl, hq⟩ := z
  exact wpAny_pure hq
end
section
variable {X : Cx} {C f : Addr} {fd : FuncData} {k : Nat} {ps : List Str} {sp : Sp} {op : CmpOp}
/-- x op y, x an instance of the class at C whose def for op keeps sp -/
def rCmpL (K : PySem.W.Frag) (C : Addr) (sp : Sp) : R2 := fun x y H Q => ∃ a dx fs t, x = .ref a ∧ H a = some (.ins C dx fs) ∧ TyX K H y t ∧ PySem.W.notFirst K C t = true ∧ sp ([x, y] ++ []) H Q E0
theorem o_cmpL (hop : ∀ a b, compareOp op a b = richCompare op a b) (M : Meth X.K C (cmpInfo op).2.1 f) (F : FnOk X.prog X.w X.K X.mg X.base CX0 k f fd ps sp) (hr : Room k X.A) (hb : Binds X.K fd ps []) : OpR X (compareOp op) (rCmpL X.K C sp) := by
  intro pins s σ H x y v u Q I rx ry h
  obtain ⟨a, dx, fs, t, rfl, ha, ty, hn, q⟩ := h
  cases (show v = Value.ref a from rx)
  obtain ⟨mA, O, _⟩ := ins_get I.hok ha
  obtain ⟨od, J, _⟩ := O.look
  obtain ⟨P, Z, p, _⟩ := kit_of I ry ty
  obtain ⟨m, hF⟩ := I.fr
  rw [hop]
  refine PySem.W.cmp_K (op := op) (tb := t) hr.units0 hF I.ok.mod.kin J (Z.ty _ _ I.kIn p) hn M.at_ M.fn ?_
  refine wpAny_mono (run_fn (us := [.ref a, u]) (vs := [.ref a, y]) F hr hb .nil pass0 I (.cons rfl (.cons ry .nil)) q) (fun w s' z => ?_) fun _ _ x => x
  obtain ⟨z', H', I', rz, qz⟩ := z
  exact SlX.cmpback rz ⟨z', H', I', rz, qz⟩
def rCmpR (K : PySem.W.Frag) (C : Addr) (sp : Sp) : R2 := fun x y H Q => ∃ i b dx fs, x = .int i ∧ y = .ref b ∧ H b = some (.ins C dx fs) ∧ PySem.W.subIn K (.ref C) (.type "int") = some false ∧ sp ([y, x] ++ []) H Q E0
theorem o_cmpR {id : String} {B : Builtin} (hop : ∀ a b, compareOp op a b = richCompare op a b) (slot : Slot "int" (cmpInfo op).2.1 id) (entry : entryFor table id = some B) (args : ∀ a b, argsOk id ⟨[a, b], []⟩) (D : Declines B)
    (M : Meth X.K C (cmpInfo op).2.2 f) (F : FnOk X.prog X.w X.K X.mg X.base CX0 k f fd ps sp) (hr : Room k X.A) (hb : Binds X.K fd ps []) : OpR X (compareOp op) (rCmpR X.K C sp) := by
  intro pins s σ H x y v u Q I rx ry h
  obtain ⟨i, b, dx, fs, rfl, rfl, hB, sub, q⟩ := h
  obtain ⟨t, rfl⟩ := (show ∃ t, v = Value.int i t from rx)
  cases (show u = Value.ref b from ry)
  obtain ⟨mA, O, _⟩ := ins_get I.hok hB
  obtain ⟨od, J, _⟩ := O.look
  rw [hop]
  refine cmp_int hr.units0 I.kIn J rfl slot entry args D sub M.at_ M.fn ?_
  refine wpAny_mono (run_fn (us := [.ref b, .int i t]) (vs := [.ref b, .int i]) F hr hb .nil pass0 I (.cons rfl (.cons ⟨t, rfl⟩ .nil)) q) (fun w s' z => ?_) fun _ _ x => x
  obtain ⟨z', H', I', rz, qz⟩ := z
  exact SlX.cmpback rz ⟨z', H', I', rz, qz⟩
/-- x in [x], the very object -/
def rInSelf : R2 := fun x y H Q => ∃ a p, x = .ref a ∧ y = .ref p ∧ H p = some (.lst [.ref a]) ∧ Q (.bl true) H
theorem o_inSelf : OpR X (compareOp .In) rInSelf := by
  intro pins s σ H x y v u Q I rx ry h
  obtain ⟨a, p, rfl, rfl, hp, q⟩ := h
  cases (show v = Value.ref a from rx)
  cases (show u = Value.ref p from ry)
  obtain ⟨its, r, pl, hz⟩ := I.list (SqL.of hp)
  have e : its = [Value.ref a] := by
    cases r with
    | cons r1 r2 =>
      cases r2
      cases r1
      rfl
  subst e
  refine SeqAt.in_listAt (fun _ => true) pl.isList (fun w hw => ?_) ⟨.bl true, H, I, (show Value.bool (#[Value.ref a].any fun _ => true) = Value.bool true by simp), q⟩
  have : w = Value.ref a := by simpa using hw
  subst this
  exact SeqAt.EqAt.same (.ref a)
/-- three kinds of one operator -/
def rAny3 (r1 r2 r3 : R2) : R2 := fun x y H Q => r1 x y H Q ∨ r2 x y H Q ∨ r3 x y H Q
theorem o_any3 {f : Value → Value → Sem Value} {r1 r2 r3 : R2} (h1 : OpR X f r1) (h2 : OpR X f r2) (h3 : OpR X f r3) : OpR X f (rAny3 r1 r2 r3) := OpR.or h1 (OpR.or h2 h3)
end
section
variable {K : PySem.W.Frag} {H : Hp} {Q : VK} {r1 r2 r3 : R2} {x y : V} {a b C dx : Addr} {fs : List (Str × V)} {t : Value} {sp : Sp} {i j : Int}
theorem r_anyII (h : r1 (.int i) (.int j) H Q) : rAny3 r1 r2 r3 (.int i) (.int j) H Q := .inl h
theorem r_anyR (h : r2 (.ref a) y H Q) : rAny3 r1 r2 r3 (.ref a) y H Q := .inr (.inl h)
theorem r_anyIR (h : r3 (.int i) (.ref b) H Q) : rAny3 r1 r2 r3 (.int i) (.ref b) H Q := .inr (.inr h)
theorem nf_self : PySem.W.notFirst K C (.ref C) = true := by
  unfold PySem.W.notFirst
  rw [beq_self_eq_true]; rfl
theorem nf_kit (h : PySem.W.kitOne K t (.ref C) = some false) : PySem.W.notFirst K C t = true := by
  unfold PySem.W.kitOne PySem.W.kitCls at h
  unfold PySem.W.notFirst
  split at h
  · cases h
  · split at h
    · rename_i C' he
      cases he
      split at h
      · rw [h]; simp
      · cases h
    · rename_i he; cases he
    · rename_i h1 h2; exact absurd rfl (h1 _)
theorem sub_kit {n : String} (h : PySem.W.kitOne K (.ref C) (.type n) = some false) : PySem.W.subIn K (.ref C) (.type n) = some false := by
  unfold PySem.W.kitOne PySem.W.kitCls at h
  split at h
  · cases h
  · split at h
    · rename_i he; cases he
    · rename_i T he
      cases he
      split at h
      · exact h
      · cases h
    · rename_i h1 h2; exact absurd rfl (h2 _)
theorem r_inSelf (e : H b = some (.lst [.ref a])) (h : Q (.bl true) H) : rInSelf (.ref a) (.ref b) H Q := ⟨a, b, rfl, rfl, e, h⟩
theorem r_cmpL (e : H a = some (.ins C dx fs)) (ty : TyX K H y t) (nf : PySem.W.notFirst K C t = true) (h : sp ([.ref a, y] ++ []) H Q E0) : rCmpL K C sp (.ref a) y H Q := ⟨a, dx, fs, t, rfl, e, ty, nf, h⟩
theorem r_cmpR (e : H b = some (.ins C dx fs)) (k : PySem.W.kitOne K (.ref C) (.type "int") = some false) (h : sp ([.ref b, .int i] ++ []) H Q E0) : rCmpR K C sp (.int i) (.ref b) H Q := ⟨i, b, dx, fs, rfl, rfl, e, sub_kit k, h⟩
end
end Z
local macro_rules | `(tactic| walk_at "nf") => `(tactic| first | exact Z.nf_self | exact Z.nf_kit (by walk_at "ki"))
local macro_rules | `(tactic| walk_at "call") => `(tactic| first
  | with_reducible refine Z.r_anyII ?_
  | ((with_reducible refine' Z.r_inSelf ?e ?_); (case e => walk_at "hp"))
  | with_reducible refine Z.r_anyR ?_
  | with_reducible refine Z.r_anyIR ?_
  | ((with_reducible refine' Z.r_cmpL ?e ?ty ?nf ?_); (case e => walk_at "hp"); (case ty => walk_at "ty"); (case nf => walk_at "nf"))
  | ((with_reducible refine' Z.r_cmpR ?e ?k ?_); (case e => walk_at "hp"); (case k => walk_at "ki")))
namespace Z
open PySem PySem.Spec PyProof.Rows L2 PySem.SeqAt
open MeetsSeq MeetsSeq2 MeetsSeq3 SeqRoads2
section
variable {prog : Program} {w : World} {A : Around} {R : Result → Shared → Prop}
def anyFrom (e : Nat → Bool) : Nat → Nat → Bool
  | _, 0 => false
  | i, k + 1 => e i || anyFrom e (i + 1) k
/-- at each turn the list is read anew; its i-th item's == with x tells e i -/
def Reads1 (prog : Program) (w : World) (A : Around) (R : Result → Shared → Prop) (l : Addr) (x : Value) (N : Nat) (e : Nat → Bool) (I : Shared → Prop) : Prop :=
  ∀ s, I s → ∃ (items : Array Value) (n : Nat), s.heap.get? l = some { cls := .type "list", data := .seq items n } ∧ items.size = N ∧
    ∀ (i : Nat) (h : i < items.size), wpAny (model prog w) A.in1 (eqBool items[i] x) (fun r s' => r = e i ∧ I s') (fun e s' => R (.error e) s') s
theorem contains_loopG (l : Addr) (x : Value) (N : Nat) (e : Nat → Bool) (I : Shared → Prop) (rd : Reads1 prog w A R l x N e I) (k : Nat) :
    ∀ i : Nat, N = i + k → (∀ s, I s → R (.ok (.ret (.bool (anyFrom e i k)))) s) → ∀ s, I s →
      wpAny (model prog w) A.in1 (Builtin.«list.__contains__.loop» ⟨[.ref l, x, rawInt i], []⟩) (GQ.FinOf prog w A R) (fun e s' => R (.error e) s') s := by
  induction k with
  | zero =>
    intro i hk fin s h
    obtain ⟨items, n, hl1, hs1, _⟩ := rd s h
    have hR := fin s h
    obtain ⟨hp, g, d, tk, os⟩ := s
    wp_walk using AutoSeq1.wpAny_loadPart' hl1
    have hi : items[((i : Nat) : Int).toNat]? = none := by simp; omega
    rw [hi]
    wp_walk
    exact hR
  | succ k ih =>
    intro i hk fin s h
    obtain ⟨items, n, hl1, hs1, turn⟩ := rd s h
    have hlt : i < items.size := by omega
    have ht := turn i hlt
    obtain ⟨hp, g, d, tk, os⟩ := s
    wp_walk using AutoSeq1.wpAny_loadPart' hl1
    have hi : items[((i : Nat) : Int).toNat]? = some items[i] := by simp [hlt]
    rw [hi]
    refine wpAny_bind (wpAny_mono ht (fun r s2 h2 => ?_) fun _ _ x => x)
    obtain ⟨hr, h2⟩ := h2
    subst hr
    cases hb : e i with
    | true =>
      have z := fin s2 h2
      rw [show anyFrom e i (k + 1) = (e i || anyFrom e (i + 1) k) from rfl, hb] at z
      obtain ⟨hp2, g2, d2, tk2, os2⟩ := s2
      wp_walk
      exact z
    | false =>
      have hrec := ih (i + 1) (by omega) (fun s q => by
        have z := fin s q
        rw [show anyFrom e i (k + 1) = (e i || anyFrom e (i + 1) k) from rfl, hb] at z
        exact z) s2 h2
      have hc : ((i : Int) + 1) = ((i + 1 : Nat) : Int) := by push_cast; rfl
      obtain ⟨hp2, g2, d2, tk2, os2⟩ := s2
      wp_walk
      rw [hc]
      exact ⟨plainId_quiet plain_contains_loop _, codeAny_builtin entry_contains_loop (by
        rw [Around.under_plainId plain_contains_loop _]
        exact hrec)⟩
theorem list_containsG (l : Addr) (x : Value) (N : Nat) (e : Nat → Bool) (I : Shared → Prop) (rd : Reads1 prog w A R l x N e I) (fin : ∀ s, I s → R (.ok (.ret (.bool (anyFrom e 0 N)))) s) {s : Shared} (h : I s) :
    wpAny (model prog w) A.in1 (Builtin.«list.__contains__» ⟨[.ref l, x], []⟩) (GQ.FinOf prog w A R) (fun e s' => R (.error e) s') s := by
  obtain ⟨items, n, hl1, _, _⟩ := rd s h
  have hrec := contains_loopG (A := A) (R := R) l x N e I rd N 0 (by omega) fin s h
  obtain ⟨hp, g, d, tk, os⟩ := s
  wp_walk using AutoSeq1.wpAny_loadPart' hl1
  exact ⟨plainId_quiet plain_contains_loop _, codeAny_builtin entry_contains_loop (by
    rw [Around.under_plainId plain_contains_loop _]
    exact hrec)⟩
end
end Z
namespace Z
open PySem PySem.Spec PyProof.Rows L2
section
variable {X : Cx} {k : Nat} {f : Addr} {fd : FuncData} {ps : List Str} {sp : Sp} {pins : List (Addr × Obj)} {σ : L2.St} {H : Hp} {s : Shared} {Q : VK} {us : List Value} {vs : List V}
/-- a def that is called somewhere below the running body -/
theorem run_below {A : Around} (sb : Sub X k A) (F : FnOk X.prog X.w X.K X.mg X.base CX0 k f fd ps sp) (hb : Binds X.K fd ps []) (I : Inv X pins σ H s) (r : Vals vs us) (h : sp vs H Q E0) :
    wpAny (model X.prog X.w) A (call (.ref f) us) (EP X pins σ Q) X.xe s := by
  have e0 : Env0 X.prog X.w X.K X.mg X.base A X.stack s H := by
    have e := I.env0
    exact ⟨by rw [sb.fr]; exact e.frames, e.mod, e.bs, e.bsz, e.funs, e.frf, e.hok, e.bare⟩
  have hl := F.len _ _ _ _ h
  have hl2 : us.length = ps.length := by rw [← r.length]; exact hl
  refine wpAny_call (codeAny_mono (F.run A X.stack s H ⟨us, []⟩ us vs Q E0 sb.room e0 (by simpa using hb s us I.kIn (by simpa using hl2)) r h) fun r s' hq => ?_)
  cases r with
  | error e => exact hq.elim
  | ok fl =>
    cases fl with
    | ret u => exact I.after hq
    | next => exact False.elim hq
    | brk => exact False.elim hq
    | cont => exact False.elim hq
/-- == within a built-in, of two values, tells b and leaves all as it was -/
def EqB (X : Cx) (k : Nat) (y x : V) (H : Hp) (b : Bool) : Prop :=
  ∀ (A : Around) (pins : List (Addr × Obj)) (σ : L2.St) (s : Shared) (u v : Value), Sub X k A → Inv X pins σ H s → RelV y u → RelV x v → wpAny (model X.prog X.w) A (eqBool u v) (fun r s' => r = b ∧ Inv X pins σ H s') X.xe s
theorem EqB.same {a : Addr} : EqB X k (.ref a) (.ref a) H true := by
  intro A pins σ s u v sb I ru rv
  cases (show u = Value.ref a from ru)
  cases (show v = Value.ref a from rv)
  exact SeqAt.EqAt.same (A := A) (s := s) (.ref a) X.prog X.w X.xe _ ⟨rfl, I⟩
theorem EqB.flat {x y : V} (fx : flatV x = true) (fy : flatV y = true) : EqB X k x y H (eqV x y) := by
  intro A pins σ s u v sb I ru rv
  exact eqAt_V (A := A) (s := s) ru rv fx fy X.prog X.w X.xe _ ⟨rfl, I⟩
/-- an instance whose own == says b of x, the very object excepted -/
theorem EqB.own {C a dx : Addr} {fs : List (Str × V)} {x : V} {t : Value} {b : Bool} (M : Meth X.K C "__eq__" f) (F : FnOk X.prog X.w X.K X.mg X.base CX0 k f fd ps sp) (hb : Binds X.K fd ps [])
    (ha : H a = some (.ins C dx fs)) (ty : TyX X.K H x t) (nf : PySem.W.notFirst X.K C t = true) (ne : x ≠ .ref a) (h : sp [.ref a, x] H (fun v H' => v = .bl b ∧ H' = H) E0) : EqB X k (.ref a) x H b := by
  intro A pins σ s u v sb I ru rv
  cases (show u = Value.ref a from ru)
  have hne : ¬ (Value.ref a == v) = true := by
    intro q
    have e : Value.ref a = v := eq_of_beq q
    subst e
    cases x with
    | ref c => exact ne (by cases (show Value.ref a = Value.ref c from rv); rfl)
    | int i => obtain ⟨_, e⟩ := (show ∃ t, Value.ref a = Value.int i t from rv); cases e
    | str i => obtain ⟨_, e⟩ := (show ∃ t, Value.ref a = Value.str i t from rv); cases e
    | byt i => obtain ⟨_, e⟩ := (show ∃ t, Value.ref a = Value.bytes i t from rv); cases e
    | flt i => obtain ⟨_, e⟩ := (show ∃ t, Value.ref a = Value.float i t from rv); cases e
    | non => cases (show Value.ref a = Value.none from rv)
    | bl i => cases (show Value.ref a = Value.bool i from rv)
    | ty n => cases (show Value.ref a = Value.type n from rv)
  obtain ⟨mA, O, _⟩ := ins_get I.hok ha
  obtain ⟨od, J, _⟩ := O.look
  obtain ⟨P, Z, p, _⟩ := kit_of I rv ty
  obtain ⟨m, hF⟩ := I.fr
  have rc : wpAny (model X.prog X.w) A (richCompare .Eq (.ref a) v) (fun r s' => ∃ z, r = .bool z ∧ z = b ∧ Inv X pins σ H s') X.xe s := by
    refine PySem.W.cmp_K (op := .Eq) (tb := t) sb.room.units0 hF I.ok.mod.kin J (Z.ty _ _ I.kIn p) nf M.at_ M.fn ?_
    refine wpAny_mono (run_below (us := [.ref a, v]) (vs := [.ref a, x]) sb F hb I (.cons rfl (.cons rv .nil)) h) (fun w s' z => ?_) fun _ _ x => x
    obtain ⟨z', H', I', rz, e1, e2⟩ := z
    subst e1 e2
    cases (show w = Value.bool b from rz)
    exact ⟨b, rfl, rfl, I'⟩
  unfold eqBool
  refine wpAny_holding ?_
  refine wpAny_ite_split (fun hab => absurd hab hne) (fun _ => ?_)
  refine wpAny_bind (wpAny_mono rc (fun r s' hv => ?_) fun _ _ x => x)
  obtain ⟨z, rfl, hz, hI⟩ := hv
  exact wpAny_truthy_bool ⟨hz, hI⟩
/-- an int beside an instance whose own == says b of it -/
theorem EqB.int {C a dx : Addr} {fs : List (Str × V)} {i : Int} {b : Bool} (M : Meth X.K C "__eq__" f) (F : FnOk X.prog X.w X.K X.mg X.base CX0 k f fd ps sp) (hb : Binds X.K fd ps [])
    (ha : H a = some (.ins C dx fs)) (sub : PySem.W.subIn X.K (.ref C) (.type "int") = some false) (h : sp [.ref a, .int i] H (fun v H' => v = .bl b ∧ H' = H) E0) : EqB X k (.int i) (.ref a) H b := by
  intro A pins σ s u v sb I ru rv
  obtain ⟨t, rfl⟩ := (show ∃ t, u = Value.int i t from ru)
  cases (show v = Value.ref a from rv)
  obtain ⟨mA, O, _⟩ := ins_get I.hok ha
  obtain ⟨od, J, _⟩ := O.look
  have rc : wpAny (model X.prog X.w) A (richCompare .Eq (.int i t) (.ref a)) (fun r s' => ∃ z, r = .bool z ∧ z = b ∧ Inv X pins σ H s') X.xe s := by
    refine cmp_int (op := .Eq) sb.room.units0 I.kIn J rfl PySem.F.slot_int_eq PySem.F.entry_int_eq PySem.F.args_int_eq_2 dec_eq sub M.at_ M.fn ?_
    refine wpAny_mono (run_below (us := [.ref a, .int i t]) (vs := [.ref a, .int i]) sb F hb I (.cons rfl (.cons ⟨t, rfl⟩ .nil)) h) (fun w s' z => ?_) fun _ _ x => x
    obtain ⟨z', H', I', rz, e1, e2⟩ := z
    subst e1 e2
    cases (show w = Value.bool b from rz)
    exact ⟨b, rfl, rfl, I'⟩
  unfold eqBool
  refine wpAny_holding ?_
  refine wpAny_ite_split (fun hab => absurd (eq_of_beq hab) nofun) (fun _ => ?_)
  refine wpAny_bind (wpAny_mono rc (fun r s' hv => ?_) fun _ _ x => x)
  obtain ⟨z, rfl, hz, hI⟩ := hv
  exact wpAny_truthy_bool ⟨hz, hI⟩
theorem any_from (f : V → Bool) : ∀ (xs ys : List V), anyFrom (fun i => f ((ys ++ xs).getD i .non)) ys.length xs.length = xs.any f
  | [], _ => rfl
  | x :: xs, ys => by
    have ih := any_from f xs (ys ++ [x])
    rw [List.append_assoc] at ih
    have h0 : (ys ++ x :: xs).getD ys.length .non = x := by simp [List.getD_eq_getElem?_getD]
    show (f ((ys ++ x :: xs).getD ys.length .non) || anyFrom _ (ys.length + 1) xs.length) = (x :: xs).any f
    rw [h0, List.any_cons, ← ih]
    simp
/-- x in a list, by what == says of each item -/
theorem in_ok {p : Addr} {xs : List V} {x : V} {v : Value} (e : V → Bool) (hr : Room (k + 1) X.A) (I : Inv X pins σ H s) (hp : H p = some (.lst xs)) (rx : RelV x v) (he : ∀ z ∈ xs, EqB X k z x H (e z)) {Q : Value → Shared → Prop}
    (q : ∀ s', Inv X pins σ H s' → Q (.bool (xs.any e)) s') : wpAny (model X.prog X.w) X.A (call (.builtin "list.__contains__") [.ref p, v]) Q X.xe s := by
  obtain ⟨hz, its, n, r, hl⟩ := (show ObjOk X.prog X.w H s.heap p (.lst xs) from I.hok p _ hp)
  refine GQ.call_here PySem.F.slot_list_contains ⟨_, hl, rfl⟩ PySem.F.entry_list_contains (PySem.F.args_list_contains_2 _ _) ?_
  refine list_containsG p v xs.length (fun i => e (xs.getD i .non)) (fun s' => Inv X pins σ H s') (fun s' I' => ?_) (fun s' I' => ?_) I
  · obtain ⟨hz', its', n', r', hl'⟩ := (show ObjOk X.prog X.w H s'.heap p (.lst xs) from I'.hok p _ hp)
    refine ⟨its'.toArray, n', hl', by rw [List.size_toArray, ← r'.length], fun i hi => ?_⟩
    have h1 : i < its'.length := by simpa using hi
    have h2 : i < xs.length := by rw [r'.length]; exact h1
    obtain ⟨u, hu, ru⟩ := r'.get (List.getElem?_eq_getElem h2)
    rw [List.getElem?_eq_getElem h1] at hu
    have e1 : its'.toArray[i] = u := by simpa using Option.some.inj hu
    have e2 : xs.getD i .non = xs[i] := by simp [List.getD_eq_getElem?_getD, h2]
    rw [e1]
    show wpAny _ _ _ (fun r s'' => r = e (xs.getD i .non) ∧ Inv X pins σ H s'') _ _
    rw [e2]
    exact he _ (List.getElem_mem h2) X.A.in1 pins σ s' u v ⟨hr.in1, rfl⟩ I' ru rx
  · have z := any_from e xs []
    rw [List.nil_append, List.length_nil] at z
    show Q (.bool (anyFrom _ 0 xs.length)) s'
    rw [z]
    exact q s' I'
/-- the same of every place of the program -/
def EqG (P : Program) (w : World) (K : PySem.W.Frag) (mg : Str → Option Value) (base : Heap) (k : Nat) (y x : V) (H : Hp) (b : Bool) : Prop := ∀ X : Cx, X.prog = P → X.w = w → X.K = K → X.mg = mg → X.base = base → EqB X k y x H b
section
variable {P : Program} {w : World} {K : PySem.W.Frag} {mg : Str → Option Value} {base : Heap}
theorem EqG.same {a : Addr} : EqG P w K mg base k (.ref a) (.ref a) H true := fun _ _ _ _ _ _ => EqB.same
theorem EqG.flat {x y : V} (fx : flatV x = true) (fy : flatV y = true) : EqG P w K mg base k x y H (eqV x y) := fun _ _ _ _ _ _ => EqB.flat fx fy
theorem EqG.own {C a dx : Addr} {fs : List (Str × V)} {x : V} {t : Value} {b : Bool} (M : Meth K C "__eq__" f) (F : FnOk P w K mg base CX0 k f fd ps sp) (hb : Binds K fd ps [])
    (ha : H a = some (.ins C dx fs)) (ty : TyX K H x t) (nf : PySem.W.notFirst K C t = true) (ne : x ≠ .ref a) (h : sp [.ref a, x] H (fun v H' => v = .bl b ∧ H' = H) E0) : EqG P w K mg base k (.ref a) x H b := by
  intro X e1 e2 e3 e4 e5
  subst e1 e2 e3 e4 e5
  exact EqB.own M F hb ha ty nf ne h
theorem EqG.int {C a dx : Addr} {fs : List (Str × V)} {i : Int} {b : Bool} (M : Meth K C "__eq__" f) (F : FnOk P w K mg base CX0 k f fd ps sp) (hb : Binds K fd ps [])
    (ha : H a = some (.ins C dx fs)) (sub : PySem.W.subIn K (.ref C) (.type "int") = some false) (h : sp [.ref a, .int i] H (fun v H' => v = .bl b ∧ H' = H) E0) : EqG P w K mg base k (.int i) (.ref a) H b := by
  intro X e1 e2 e3 e4 e5
  subst e1 e2 e3 e4 e5
  exact EqB.int M F hb ha sub h
end
/-- x in p, x not in p: all that == says of the items is told -/
def rInO (P : Program) (w : World) (K : PySem.W.Frag) (mg : Str → Option Value) (base : Heap) (k : Nat) (neg : Bool) : R2 := fun x y H Q => ∃ (p : Addr) (xs : List V) (e : V → Bool), y = .ref p ∧ H p = some (.lst xs) ∧ (∀ z ∈ xs, EqG P w K mg base k z x H (e z)) ∧ Q (.bl (if neg = true then !xs.any e else xs.any e)) H
section
variable {P : Program} {w : World} {K : PySem.W.Frag} {mg : Str → Option Value} {base : Heap}
theorem o_inO (e1 : X.prog = P) (e2 : X.w = w) (e3 : X.K = K) (e4 : X.mg = mg) (e5 : X.base = base) (hr : Room (k + 1) X.A) : OpR X (compareOp .In) (rInO P w K mg base k false) := by
  intro pins s σ H x y v u Q I rx ry h
  obtain ⟨p, xs, e, rfl, hp, he, q⟩ := h
  cases (show u = Value.ref p from ry)
  obtain ⟨hz, its, n, r, hl⟩ := (show ObjOk X.prog X.w H s.heap p (.lst xs) from I.hok p _ hp)
  show wpAny _ X.A (do return Value.bool (← contains (.ref p) v)) _ _ s
  refine wpAny_bind (wpAny_contains_slot ⟨_, hl, rfl⟩ PySem.F.slot_list_contains (in_ok e hr I hp rx (fun z hz => he z hz X e1 e2 e3 e4 e5) fun s' I' => ?_))
  exact wpAny_truthy_bool (wpAny_pure ⟨.bl _, H, I', rfl, q⟩)
theorem o_notInO (e1 : X.prog = P) (e2 : X.w = w) (e3 : X.K = K) (e4 : X.mg = mg) (e5 : X.base = base) (hr : Room (k + 1) X.A) : OpR X (compareOp .NotIn) (rInO P w K mg base k true) := by
  intro pins s σ H x y v u Q I rx ry h
  obtain ⟨p, xs, e, rfl, hp, he, q⟩ := h
  cases (show u = Value.ref p from ry)
  obtain ⟨hz, its, n, r, hl⟩ := (show ObjOk X.prog X.w H s.heap p (.lst xs) from I.hok p _ hp)
  show wpAny _ X.A (do return Value.bool (!(← contains (.ref p) v))) _ _ s
  refine wpAny_bind (wpAny_contains_slot ⟨_, hl, rfl⟩ PySem.F.slot_list_contains (in_ok e hr I hp rx (fun z hz => he z hz X e1 e2 e3 e4 e5) fun s' I' => ?_))
  exact wpAny_truthy_bool (wpAny_pure ⟨.bl _, H, I', rfl, q⟩)
end
end
end Z
namespace Z
open PySem PySem.Spec PyProof.Rows L2
section
variable {prog : Program} {w : World} {A : Around} {E : Value → Shared → Prop} {s : Shared} {K : PySem.W.Frag} {x y C f : Addr} {ox oy : Obj} {od od' : Option Obj} {nm : String}
theorem bin1_same {Q : Value → Shared → Prop} (X : K.In s.heap) (I : PySem.W.InstAt s.heap x ox C od) (J : PySem.W.InstAt s.heap y oy C od') (hc : PySem.W.selfFirst K C = true)
    (hs : PySem.W.findIn K (.ref C) (PySem.dunder nm) = some (some (.ref f))) (hf : PySem.W.isFn K (.ref f) = true)
    (h : wpAny (model prog w) A (call (.ref f) [.ref x, .ref y]) (PySem.W.CmpBack Q) E s) : wpAny (model prog w) A (binaryOp1 nm (.ref x) (.ref y)) (fun r s' => ∃ v, r = some v ∧ Q v s') E s := by
  obtain ⟨cd, rest, hcd, hm⟩ := PySem.W.ksp_first hc
  have one := PySem.W.ksp_try X I hs hf h
  obtain ⟨hh, g, d, tt, os⟩ := s
  have L1 : PySem.W.Looks (model prog w) hh (typeOf (.ref x)) (.ref C) := I.type
  have L2 : PySem.W.Looks (model prog w) hh (typeOf (.ref y)) (.ref C) := J.type
  have L3 : PySem.W.Looks (model prog w) hh (fillsNumberSlot (.ref C) nm) true := PySem.W.fills_K X hcd hm hs
  have heq : (Value.ref C == Value.ref C) = true := beq_self_eq_true _
  unfold binaryOp1
  refine wpAny_bind (L1.at (wpAny_bind (L2.at (wpAny_bind (L3.at ?_)))))
  simp only [heq, if_true]
  ksp_lk
  refine wpAny_mono one (fun r s' hr' => ?_) fun _ _ e => e
  obtain ⟨v, rfl, hq⟩ := hr'
  ksp_lk
  exact ⟨v, rfl, hq⟩
theorem bin1_own {b : Value} {T : String} {fo ro rc : Option Value} {Q : Value → Shared → Prop} (X : K.In s.heap) (I : PySem.W.InstAt s.heap x ox C od) (hb : typeOf b = pure (.type T)) (hc : PySem.W.selfFirst K C = true)
    (hs : PySem.W.findIn K (.ref C) (PySem.dunder nm) = some (some (.ref f))) (hf : PySem.W.isFn K (.ref f) = true) (hr : PySem.W.findIn K (.ref C) (PySem.dunderR nm) = some rc) (hp : rc = none ∨ ∃ g : Addr, rc = some (.ref g))
    (h1 : PySem.W.findIn K (.type T) (PySem.dunder nm) = some fo) (h2 : PySem.W.findIn K (.type T) (PySem.dunderR nm) = some ro) (hsub : PySem.W.subIn K (.type T) (.ref C) = some false)
    (h : wpAny (model prog w) A (call (.ref f) [.ref x, b]) (PySem.W.CmpBack Q) E s) : wpAny (model prog w) A (binaryOp1 nm (.ref x) b) (fun r s' => ∃ v, r = some v ∧ Q v s') E s := by
  obtain ⟨cd, rest, hcd, hm⟩ := PySem.W.ksp_first hc
  have one := PySem.W.ksp_try X I hs hf h
  obtain ⟨hh, g, d, tt, os⟩ := s
  have L1 : PySem.W.Looks (model prog w) hh (typeOf (.ref x)) (.ref C) := I.type
  have L2 : PySem.W.Looks (model prog w) hh (typeOf b) (.type T) := PySem.W.Looks.of_pure hb
  have L3 : PySem.W.Looks (model prog w) hh (fillsNumberSlot (.ref C) nm) true := PySem.W.fills_K X hcd hm hs
  have L4 : PySem.W.Looks (model prog w) hh (fillsNumberSlot (.type T) nm) ((fo.isSome && !isSeqSlot fo) || (ro.isSome && !isSeqSlot ro)) := PySem.W.ksp_fillsT X h1 h2
  have L5 : PySem.W.Looks (model prog w) hh (isSubtype (.type T) (.ref C)) false := PySem.W.looks_subIn X hsub
  have L6 : PySem.W.Looks (model prog w) hh (numberSlotInPython (.ref C) nm) true := PySem.W.ksp_inPy X hs hr hp
  have L7 : PySem.W.Looks (model prog w) hh (numberSlotInPython (.type T) nm) false := PySem.W.Looks.of_pure rfl
  have L8 : PySem.W.Looks (model prog w) hh (typeLookup (.type T) (PySem.dunderR nm)) ro := PySem.W.looks_findIn X h2
  generalize ((fo.isSome && !isSeqSlot fo) || (ro.isSome && !isSeqSlot ro)) = right at L4
  have hne : (Value.ref C == Value.type T) = false := Bool.eq_false_iff.mpr fun q => by cases beq_iff_eq.mp q
  unfold binaryOp1
  refine wpAny_bind (L1.at (wpAny_bind (L2.at (wpAny_bind (L3.at ?_)))))
  simp only [hne, Bool.false_eq_true, if_false]
  cases right with
  | false =>
    ksp_lk
    refine wpAny_mono one (fun r s' hr' => ?_) fun _ _ e => e
    obtain ⟨v, rfl, hq⟩ := hr'
    ksp_lk
    exact ⟨v, rfl, hq⟩
  | true =>
    ksp_lk
    refine wpAny_mono one (fun r s' hr' => ?_) fun _ _ e => e
    obtain ⟨v, rfl, hq⟩ := hr'
    ksp_lk
    exact ⟨v, rfl, hq⟩
theorem bin1_int {i : Int} {t : Tok} {id : String} {B : Builtin} {Q : Value → Shared → Prop} (X : K.In s.heap) (I : PySem.W.InstAt s.heap x ox C od) (hd : ox.data = .plain) (hc : PySem.W.selfFirst K C = true)
    (slot : Slot "int" (PySem.dunder nm) id) (entry : entryFor table id = some B) (args : ∀ a b, argsOk id ⟨[a, b], []⟩) (D : Declines B) (fills : fillsNumberSlot (.type "int") nm = pure true)
    (hl : PySem.W.findIn K (.ref C) (PySem.dunder nm) = some (some (.ref y))) (hs : PySem.W.findIn K (.ref C) (PySem.dunderR nm) = some (some (.ref f))) (hf : PySem.W.isFn K (.ref f) = true) (sub : PySem.W.subIn K (.ref C) (.type "int") = some false)
    (h : wpAny (model prog w) A (call (.ref f) [.ref x, .int i t]) (PySem.W.CmpBack Q) E s) : wpAny (model prog w) A (binaryOp1 nm (.int i t) (.ref x)) (fun r s' => ∃ v, r = some v ∧ Q v s') E s := by
  obtain ⟨cd, rest, hcd, hm⟩ := PySem.W.ksp_first hc
  have one := PySem.W.ksp_try X I hs hf h
  have dec : ∀ {Q : Option Value → Shared → Prop}, Q none s → wpAny (model prog w) A (tryMethod (.int i t) (PySem.dunder nm) (.ref x)) Q E s := fun q =>
    wpAny_tryMethod_declines (typeIs_int s i t) slot (dec_call (T := "int") slot entry args D I.at_ hd ⟨rfl, q⟩)
  obtain ⟨hh, g, d, tt, os⟩ := s
  have L1 : PySem.W.Looks (model prog w) hh (typeOf (.int i t)) (.type "int") := PySem.W.Looks.of_pure rfl
  have L2 : PySem.W.Looks (model prog w) hh (typeOf (.ref x)) (.ref C) := I.type
  have L3 : PySem.W.Looks (model prog w) hh (fillsNumberSlot (.type "int") nm) true := PySem.W.Looks.of_pure fills
  have L4 : PySem.W.Looks (model prog w) hh (fillsNumberSlot (.ref C) nm) true := PySem.W.fills_K X hcd hm hl
  have L5 : PySem.W.Looks (model prog w) hh (isSubtype (.ref C) (.type "int")) false := PySem.W.looks_subIn X sub
  have L7 : PySem.W.Looks (model prog w) hh (numberSlotInPython (.type "int") nm) false := PySem.W.Looks.of_pure rfl
  have hne : (Value.type "int" == Value.ref C) = false := Bool.eq_false_iff.mpr fun q => by cases beq_iff_eq.mp q
  unfold binaryOp1
  refine wpAny_bind (L1.at (wpAny_bind (L2.at (wpAny_bind (L3.at ?_)))))
  simp only [hne, Bool.false_eq_true, if_false]
  ksp_lk
  refine dec ?_
  ksp_lk
  refine wpAny_mono one (fun r s' hr' => ?_) fun _ _ e => e
  obtain ⟨v, rfl, hq⟩ := hr'
  ksp_lk
  exact ⟨v, rfl, hq⟩
theorem bin_of1 {op : Operator} {a b : Value} {Q : Value → Shared → Prop} (h : wpAny (model prog w) A (binaryOp1 op.info.2 a b) (fun r s' => ∃ v, r = some v ∧ Q v s') E s) : wpAny (model prog w) A (binaryOp op a b) Q E s := by
  rcases hi : op.info with ⟨sym, nm'⟩
  rw [hi] at h
  simp only [binaryOp, hi]
  refine wpAny_holding (wpAny_bind (wpAny_mono h (fun r s' hr => ?_) fun _ _ e => e))
  obtain ⟨v, rfl, hq⟩ := hr
  exact wpAny_pure hq
/-- op= where the left type has no in-place def -/
theorem inp_of1 {op : Operator} {a b ta : Value} {Q : Value → Shared → Prop} (L1 : PySem.W.Looks (model prog w) s.heap (typeOf a) ta) (L2 : PySem.W.Looks (model prog w) s.heap (fillsInplaceSlot ta op.info.2 (op == .Add)) false)
    (h : wpAny (model prog w) A (binaryOp1 op.info.2 a b) (fun r s' => ∃ v, r = some v ∧ Q v s') E s) : wpAny (model prog w) A (inplaceOp op a b) Q E s := by
  obtain ⟨hh, g, d, tt, os⟩ := s
  unfold inplaceOp
  refine wpAny_holding (wpAny_bind (L1.at (wpAny_bind (L2.at ?_))))
  simp only [Bool.false_eq_true, if_false]
  refine wpAny_bind (wpAny_mono h (fun r s' hr => ?_) fun _ _ e => e)
  obtain ⟨v, rfl, hq⟩ := hr
  exact wpAny_pure hq
theorem dec_add : Declines Builtin.«int.__add__» := fun prog w A E s x o a t Q hx hd h => by
  obtain ⟨oc, od, data, sl⟩ := o
  simp only at hd
  subst hd
  obtain ⟨hp, g, d, tk, os⟩ := s
  wp_walk using AutoSeq1.wpAny_loadPart' hx
  exact h
theorem dec_sub : Declines Builtin.«int.__sub__» := fun prog w A E s x o a t Q hx hd h => by
  obtain ⟨oc, od, data, sl⟩ := o
  simp only at hd
  subst hd
  obtain ⟨hp, g, d, tk, os⟩ := s
  wp_walk using AutoSeq1.wpAny_loadPart' hx
  exact h
theorem dec_mul : Declines Builtin.«int.__mul__» := fun prog w A E s x o a t Q hx hd h => by
  obtain ⟨oc, od, data, sl⟩ := o
  simp only at hd
  subst hd
  obtain ⟨hp, g, d, tk, os⟩ := s
  wp_walk using AutoSeq1.wpAny_loadPart' hx
  exact h
theorem dec_floordiv : Declines Builtin.«int.__floordiv__» := fun prog w A E s x o a t Q hx hd h => by
  obtain ⟨oc, od, data, sl⟩ := o
  simp only at hd
  subst hd
  obtain ⟨hp, g, d, tk, os⟩ := s
  wp_walk using AutoSeq1.wpAny_loadPart' hx
  exact h
theorem dec_mod : Declines Builtin.«int.__mod__» := fun prog w A E s x o a t Q hx hd h => by
  obtain ⟨oc, od, data, sl⟩ := o
  simp only at hd
  subst hd
  obtain ⟨hp, g, d, tk, os⟩ := s
  wp_walk using AutoSeq1.wpAny_loadPart' hx
  exact h
end
end Z
namespace Z
open PySem PySem.Spec PyProof.Rows L2
section
variable {K : PySem.W.Frag} {C f : Addr} {nm : String}
theorem inpl_own {M : Model} {h : Heap} {add : Bool} {cd : ClassData} (X : K.In h) (hc : PySem.W.clsIn K C = some cd) (hm : cd.mro = [.ref C, .type "object"]) (h1 : PySem.W.findIn K (.ref C) (PySem.dunderI nm) = some none) (h2 : PySem.W.findIn K (.type "object") (PySem.dunderI nm) = some none) :
    PySem.W.Looks M h (fillsInplaceSlot (.ref C) nm add) false := by
  intro A Q E s k q
  have Lm : PySem.W.Looks M h (mroOf (.ref C)) cd.mro := (PySem.W.looks_clsIn X hc).andThen (f := fun cd => pure cd.mro) .now
  have Lm' := Lm.keeps k
  obtain ⟨hh, g, d, tt, os⟩ := s
  have X' : K.In hh := X.keeps k
  have L1 : PySem.W.Looks M hh (typeLookup (.ref C) (PySem.dunderI nm)) none := PySem.W.looks_findIn X' h1
  have L2 : PySem.W.Looks M hh (typeLookup (.type "object") (PySem.dunderI nm)) none := PySem.W.looks_findIn X' h2
  unfold fillsInplaceSlot
  refine wpAny_bind (Lm'.at ?_)
  rw [hm, List.anyM_cons]
  refine wpAny_bind ?_
  refine wpAny_bind (L1.at ?_)
  refine wpAny_pure ?_
  simp only [Bool.false_eq_true, if_false]
  rw [List.anyM_cons]
  refine wpAny_bind ?_
  refine wpAny_bind (L2.at ?_)
  refine wpAny_pure ?_
  simp only [Bool.false_eq_true, if_false]
  exact wpAny_pure q
end
section
variable {X : Cx} {C f g : Addr} {fd : FuncData} {k : Nat} {ps : List Str} {sp : Sp} {op : Operator}
/-- an int, or another instance of the class -/
def NumOr (C : Addr) (H : Hp) (y : V) : Prop := (∃ i, y = .int i) ∨ ∃ b dy gs, y = .ref b ∧ H b = some (.ins C dy gs)
def rBinL (C : Addr) (sp : Sp) : R2 := fun x y H Q => ∃ a dx fs, x = .ref a ∧ H a = some (.ins C dx fs) ∧ NumOr C H y ∧ sp ([x, y] ++ []) H Q E0
def rBinR (C : Addr) (sp : Sp) : R2 := fun x y H Q => ∃ i b dx fs, x = .int i ∧ y = .ref b ∧ H b = some (.ins C dx fs) ∧ sp ([y, x] ++ []) H Q E0
theorem bin1_L {pins : List (Addr × Obj)} {s : Shared} {σ : L2.St} {H : Hp} {x y : V} {v u : Value} {Q : VK} (B : BinF X.K C op.info.2 f g) (F : FnOk X.prog X.w X.K X.mg X.base CX0 k f fd ps sp) (hr : Room k X.A) (hb : Binds X.K fd ps [])
    (I : Inv X pins σ H s) (rx : RelV x v) (ry : RelV y u) (h : rBinL C sp x y H Q) : wpAny (model X.prog X.w) X.A (binaryOp1 op.info.2 v u) (fun r s' => ∃ v, r = some v ∧ EP X pins σ Q v s') X.xe s := by
  obtain ⟨a, dx, fs, rfl, ha, hy, q⟩ := h
  cases (show v = Value.ref a from rx)
  obtain ⟨mA, O, _⟩ := ins_get I.hok ha
  obtain ⟨od, J, _⟩ := O.look
  have call : wpAny (model X.prog X.w) X.A (PySem.call (.ref f) [.ref a, u]) (PySem.W.CmpBack (EP X pins σ Q)) X.xe s := by
    refine wpAny_mono (run_fn (us := [.ref a, u]) (vs := [.ref a, y]) F hr hb .nil pass0 I (.cons rfl (.cons ry .nil)) q) (fun w s' z => ?_) fun _ _ x => x
    obtain ⟨z', H', I', rz, qz⟩ := z
    exact SlX.cmpback rz ⟨z', H', I', rz, qz⟩
  rcases hy with ⟨i, rfl⟩ | ⟨b, dy, gs, rfl, hB⟩
  · obtain ⟨t, rfl⟩ := (show ∃ t, u = Value.int i t from ry)
    obtain ⟨fo, hfo⟩ := B.fo
    obtain ⟨ro, hro⟩ := B.ro
    exact bin1_own I.kIn J rfl B.sf B.at_ B.fn B.rat (.inr ⟨g, rfl⟩) hfo hro B.isub call
  · cases (show u = Value.ref b from ry)
    obtain ⟨mB, O', _⟩ := ins_get I.hok hB
    obtain ⟨od', J', _⟩ := O'.look
    exact bin1_same I.kIn J J' B.sf B.at_ B.fn call
theorem o_binL (B : BinF X.K C op.info.2 f g) (F : FnOk X.prog X.w X.K X.mg X.base CX0 k f fd ps sp) (hr : Room k X.A) (hb : Binds X.K fd ps []) : OpR X (binaryOp op) (rBinL C sp) := by
  intro pins s σ H x y v u Q I rx ry h
  exact bin_of1 (bin1_L B F hr hb I rx ry h)
theorem o_inpL (B : BinF X.K C op.info.2 f g) (F : FnOk X.prog X.w X.K X.mg X.base CX0 k f fd ps sp) (hr : Room k X.A) (hb : Binds X.K fd ps []) : OpR X (inplaceOp op) (rBinL C sp) := by
  intro pins s σ H x y v u Q I rx ry h
  obtain ⟨a, dx, fs, ex, ha, _⟩ := id h
  subst ex
  cases (show v = Value.ref a from rx)
  obtain ⟨mA, O, _⟩ := ins_get I.hok ha
  obtain ⟨od, J, _⟩ := O.look
  obtain ⟨cd, hc, hm⟩ := B.cls
  exact inp_of1 J.type (inpl_own I.kIn hc hm B.ni B.noi) (bin1_L B F hr hb I rx ry h)
theorem bin1_R {id : String} {Bi : Builtin} {pins : List (Addr × Obj)} {s : Shared} {σ : L2.St} {H : Hp} {x y : V} {v u : Value} {Q : VK} (B : BinF X.K C op.info.2 g f) (slot : Slot "int" (PySem.dunder op.info.2) id) (entry : entryFor table id = some Bi) (args : ∀ a b, argsOk id ⟨[a, b], []⟩) (D : Declines Bi)
    (fills : fillsNumberSlot (.type "int") op.info.2 = pure true) (F : FnOk X.prog X.w X.K X.mg X.base CX0 k f fd ps sp) (hr : Room k X.A) (hb : Binds X.K fd ps [])
    (I : Inv X pins σ H s) (rx : RelV x v) (ry : RelV y u) (h : rBinR C sp x y H Q) : wpAny (model X.prog X.w) X.A (binaryOp1 op.info.2 v u) (fun r s' => ∃ v, r = some v ∧ EP X pins σ Q v s') X.xe s := by
  obtain ⟨i, b, dx, fs, rfl, rfl, hB, q⟩ := h
  obtain ⟨t, rfl⟩ := (show ∃ t, v = Value.int i t from rx)
  cases (show u = Value.ref b from ry)
  obtain ⟨mA, O, _⟩ := ins_get I.hok hB
  obtain ⟨od, J, _⟩ := O.look
  refine bin1_int I.kIn J rfl B.sf slot entry args D fills B.at_ B.rat B.rfn B.sub ?_
  refine wpAny_mono (run_fn (us := [.ref b, .int i t]) (vs := [.ref b, .int i]) F hr hb .nil pass0 I (.cons rfl (.cons ⟨t, rfl⟩ .nil)) q) (fun w s' z => ?_) fun _ _ x => x
  obtain ⟨z', H', I', rz, qz⟩ := z
  exact SlX.cmpback rz ⟨z', H', I', rz, qz⟩
theorem o_binR {id : String} {Bi : Builtin} (B : BinF X.K C op.info.2 g f) (slot : Slot "int" (PySem.dunder op.info.2) id) (entry : entryFor table id = some Bi) (args : ∀ a b, argsOk id ⟨[a, b], []⟩) (D : Declines Bi)
    (fills : fillsNumberSlot (.type "int") op.info.2 = pure true) (F : FnOk X.prog X.w X.K X.mg X.base CX0 k f fd ps sp) (hr : Room k X.A) (hb : Binds X.K fd ps []) : OpR X (binaryOp op) (rBinR C sp) := by
  intro pins s σ H x y v u Q I rx ry h
  exact bin_of1 (bin1_R B slot entry args D fills F hr hb I rx ry h)
theorem o_inpR {id : String} {Bi : Builtin} (B : BinF X.K C op.info.2 g f) (slot : Slot "int" (PySem.dunder op.info.2) id) (entry : entryFor table id = some Bi) (args : ∀ a b, argsOk id ⟨[a, b], []⟩) (D : Declines Bi)
    (fills : fillsNumberSlot (.type "int") op.info.2 = pure true) (hno : typeLookup (.type "int") (dunderI op.info.2) = pure none) (F : FnOk X.prog X.w X.K X.mg X.base CX0 k f fd ps sp) (hr : Room k X.A) (hb : Binds X.K fd ps []) : OpR X (inplaceOp op) (rBinR C sp) := by
  intro pins s σ H x y v u Q I rx ry h
  obtain ⟨i, b, dx, fs, ex, _⟩ := _root_.id h
  subst ex
  obtain ⟨t, e⟩ := (show ∃ t, v = Value.int i t from rx)
  subst e
  have noi : fillsInplaceSlot (.type "int") op.info.2 (op == .Add) = pure false := by
    unfold fillsInplaceSlot
    show (typeLookup (.type "int") (dunderI op.info.2) >>= fun fi => pure (fi.isSome && !isSeqSlot fi)) = pure false
    rw [hno]; rfl
  exact inp_of1 (ta := .type "int") (PySem.W.Looks.of_pure rfl) (PySem.W.Looks.of_pure noi) (bin1_R B slot entry args D fills F hr hb I rx ry h)
end
section
variable {X : Cx} {k : Nat} {C f : Addr} {fd : FuncData} {ps : List Str} {sp : Sp}
def rUO (C : Addr) (sp : Sp) : V → Hp → VK → Prop := fun x H Q => ∃ a dx fs, x = .ref a ∧ H a = some (.ins C dx fs) ∧ sp ([.ref a] ++ []) H Q E0
def rAbsO (C : Addr) (sp : Sp) : List V → Hp → VK → Prop := fun xs H Q => ∃ a dx fs, xs = [.ref a] ∧ H a = some (.ins C dx fs) ∧ sp ([.ref a] ++ []) H Q E0
theorem un_negO (M : Meth X.K C "__neg__" f) (F : FnOk X.prog X.w X.K X.mg X.base CX0 k f fd ps sp) (hr : Room k X.A) (hb : Binds X.K fd ps []) : UnR X (unaryOp .USub) (rUO C sp) := by
  intro pins s σ H x v Q I rx h
  obtain ⟨a, dx, fs, rfl, ha, q⟩ := h
  cases (show v = Value.ref a from rx)
  obtain ⟨mA, O, _⟩ := ins_get I.hok ha
  obtain ⟨od, J, _⟩ := O.look
  unfold unaryOp
  refine wpAny_holding ?_
  exact wpAny_bind (PySem.W.special_fn I.kIn J M.at_ (beq_iff_eq.mp M.fn) (wpAny_mono (run_fn (us := [.ref a]) (vs := [.ref a]) F hr hb .nil pass0 I (.cons rfl .nil) q) (fun w s' z => wpAny_pure z) fun _ _ x => x))
theorem un_posO (M : Meth X.K C "__pos__" f) (F : FnOk X.prog X.w X.K X.mg X.base CX0 k f fd ps sp) (hr : Room k X.A) (hb : Binds X.K fd ps []) : UnR X (unaryOp .UAdd) (rUO C sp) := by
  intro pins s σ H x v Q I rx h
  obtain ⟨a, dx, fs, rfl, ha, q⟩ := h
  cases (show v = Value.ref a from rx)
  obtain ⟨mA, O, _⟩ := ins_get I.hok ha
  obtain ⟨od, J, _⟩ := O.look
  unfold unaryOp
  refine wpAny_holding ?_
  exact wpAny_bind (PySem.W.special_fn I.kIn J M.at_ (beq_iff_eq.mp M.fn) (wpAny_mono (run_fn (us := [.ref a]) (vs := [.ref a]) F hr hb .nil pass0 I (.cons rfl .nil) q) (fun w s' z => wpAny_pure z) fun _ _ x => x))
theorem c_absO (M : Meth X.K C "__abs__" f) (F : FnOk X.prog X.w X.K X.mg X.base CX0 k f fd ps sp) (hr : Room (k + 1) X.A) (hb : Binds X.K fd ps []) : CallR X (.builtin "abs") (rAbsO C sp) := by
  intro pins s σ H xs us Q I r h
  obtain ⟨a, dx, fs, rfl, ha, q⟩ := h
  obtain ⟨u, rfl, ru⟩ := vals1 r
  cases (show u = Value.ref a from ru)
  obtain ⟨mA, O, _⟩ := ins_get I.hok ha
  obtain ⟨od, J, _⟩ := O.look
  refine PySem.Calls.call_function_entry kind_abs plain_abs entry_abs (args_abs _) ?_
  unfold Builtin.«abs»
  refine wpAny_bind (m := oneArg "abs" _) (wpAny_pure ?_)
  refine wpAny_bind (m := callSpecial? (.ref a) (Str.ofString "__abs__")) (PySem.W.special_fn I.kIn J M.at_ (beq_iff_eq.mp M.fn) (wpAny_mono (run_below (us := [.ref a]) (vs := [.ref a]) (A := X.A.in1) ⟨hr.in1, rfl⟩ F hb I (.cons rfl .nil) q) (fun w s' z => ?_) fun _ _ x => x))
  exact wpAny_pure ⟨_, rfl, z⟩
end
section
variable {H : Hp} {Q : VK} {a C dx : Addr} {fs : List (Str × V)} {sp : Sp}
theorem r_UO (e : H a = some (.ins C dx fs)) (h : sp ([.ref a] ++ []) H Q E0) : rUO C sp (.ref a) H Q := ⟨a, dx, fs, rfl, e, h⟩
theorem r_absO (e : H a = some (.ins C dx fs)) (h : sp ([.ref a] ++ []) H Q E0) : rAbsO C sp [.ref a] H Q := ⟨a, dx, fs, rfl, e, h⟩
end
section
variable {H : Hp} {Q : VK} {x y : V} {a b C dx : Addr} {fs : List (Str × V)} {sp : Sp} {i : Int}
theorem r_binL (e : H a = some (.ins C dx fs)) (n : NumOr C H y) (h : sp ([.ref a, y] ++ []) H Q E0) : rBinL C sp (.ref a) y H Q := ⟨a, dx, fs, rfl, e, n, h⟩
theorem r_binR (e : H b = some (.ins C dx fs)) (h : sp ([.ref b, .int i] ++ []) H Q E0) : rBinR C sp (.int i) (.ref b) H Q := ⟨i, b, dx, fs, rfl, rfl, e, h⟩
theorem nm_int : NumOr C H (.int i) := .inl ⟨i, rfl⟩
theorem nm_ref (e : H b = some (.ins C dx fs)) : NumOr C H (.ref b) := .inr ⟨b, dx, fs, rfl, e⟩
end
section
variable {X : Cx} {k : Nat} {H : Hp} {Q : VK} {x : V} {p : Addr} {xs : List V} {neg : Bool}
theorem r_inO {P : Program} {w : World} {K : PySem.W.Frag} {mg : Str → Option Value} {base : Heap} (e : V → Bool) (hp : H p = some (.lst xs)) (he : ∀ z ∈ xs, EqG P w K mg base k z x H (e z)) (q : Q (.bl (if neg = true then !xs.any e else xs.any e)) H) : rInO P w K mg base k neg x (.ref p) H Q := ⟨p, xs, e, rfl, hp, he, q⟩
end
end Z
local macro_rules | `(tactic| walk_at "num") => `(tactic| first | exact Z.nm_int | exact Z.nm_ref (by walk_at "hp") | assumption)
local macro_rules | `(tactic| walk_at "call") => `(tactic| first
  | ((with_reducible refine' Z.r_binL ?e ?n ?_); (case e => walk_at "hp"); (case n => walk_at "num"))
  | ((with_reducible refine' Z.r_binR ?e ?_); (case e => walk_at "hp"))
  | ((with_reducible refine' Z.r_UO ?e ?_); (case e => walk_at "hp"))
  | ((with_reducible refine' Z.r_absO ?e ?_); (case e => walk_at "hp")))

theorem rep_non {C : Addr} {H : Hp} : Rep C H .non .non := rfl
theorem rep_num {C : Addr} {H : Hp} {i : Int} : Rep C H (.int i) (.num i) := rfl
theorem rep_mark {C a dx : Addr} {H : Hp} {n : Str} (h : H a = some (.ins C dx [("name", .str n)])) : Rep C H (.ref a) (.mark n) := ⟨a, dx, rfl, h⟩
local macro_rules | `(tactic| walk_at "rep") => `(tactic| first | exact rep_non | exact rep_num | exact rep_mark (by walk_at "hp") | assumption)
namespace Z
open PySem PySem.Spec PyProof.Rows L2 PySem.Builtin PySem.Builtin.Str
section
variable {X : Cx} {k : Nat} {C f : Addr} {fd : FuncData} {ps : List Str} {sp : Sp}
def txB (Q : VK) : VK := fun v H => ∃ y, v = .str y ∧ Q (.str y) H
def rTxO (C : Addr) (sp : Sp) : List V → Hp → VK → Prop := fun xs H Q => ∃ a dx fs, xs = [.ref a] ∧ H a = some (.ins C dx fs) ∧ sp ([.ref a] ++ []) H (txB Q) E0
theorem tx_back {pins : List (Addr × Obj)} {σ : L2.St} {Q : VK} {w : Value} {s' : Shared} (z : EP X pins σ (txB Q) w s') : PySem.W.StrBack (EP X pins σ Q) w s' := by
  obtain ⟨z', H', I', rz, y, e, qz⟩ := z
  subst e
  obtain ⟨t, rfl⟩ := rz
  exact ⟨.str y, H', I', ⟨t, rfl⟩, qz⟩
theorem c_strO (M : Meth X.K C "__str__" f) (F : FnOk X.prog X.w X.K X.mg X.base CX0 k f fd ps sp) (hr : Room (k + 2) X.A) (hb : Binds X.K fd ps []) : CallR X (.type "str") (rTxO C sp) := by
  intro pins s σ H xs us Q I r h
  obtain ⟨a, dx, fs, rfl, ha, q⟩ := h
  obtain ⟨u, rfl, ru⟩ := vals1 r
  cases (show u = Value.ref a from ru)
  obtain ⟨mA, O, _⟩ := ins_get I.hok ha
  obtain ⟨od, J, _⟩ := O.look
  exact PySem.W.kso_call (hr.in1.in1).units0 I.kIn J M.at_ M.fn (wpAny_mono (run_below (us := [.ref a]) (vs := [.ref a]) (A := X.A.in1.in1) ⟨hr.in1.in1, rfl⟩ F hb I (.cons rfl .nil) q) (fun w s' z => tx_back z) fun _ _ x => x)
theorem c_reprO (M : Meth X.K C "__repr__" f) (F : FnOk X.prog X.w X.K X.mg X.base CX0 k f fd ps sp) (hr : Room (k + 2) X.A) (hb : Binds X.K fd ps []) : CallR X (.builtin "repr") (rTxO C sp) := by
  intro pins s σ H xs us Q I r h
  obtain ⟨a, dx, fs, rfl, ha, q⟩ := h
  obtain ⟨u, rfl, ru⟩ := vals1 r
  cases (show u = Value.ref a from ru)
  obtain ⟨mA, O, _⟩ := ins_get I.hok ha
  obtain ⟨od, J, _⟩ := O.look
  obtain ⟨m, hF⟩ := I.fr
  exact PySem.W.repr_K (hr.in1).units0 hF I.ok.mod.kin J M.at_ M.fn (wpAny_mono (run_below (us := [.ref a]) (vs := [.ref a]) (A := X.A.in1) ⟨hr.in1.mono (by omega), rfl⟩ F hb I (.cons rfl .nil) q) (fun w s' z => tx_back z) fun _ _ x => x)
def tFmtO (C : Addr) (sp : Sp) (te : TE) : TE := fun σ H Q => te σ H fun x H1 => rTxO C sp [x] H1 Q
theorem pe_fmtO {e : Expr} {te : TE} {pos : Pos} (TX : TxF X.K C) (M : Meth X.K C "__str__" f) (F : FnOk X.prog X.w X.K X.mg X.base CX0 k f fd ps sp) (hr : Room (k + 2) X.A) (hb : Binds X.K fd ps []) (he : PE X e te) : PE X (.FormattedValue e (-1) none pos) (tFmtO C sp te) := by
  refine ⟨fun pins s σ H Q I h => ?_⟩
  refine wpAny_FormattedValue_plain (thn (he.run pins s σ H _ I h) fun v s1 hv => ?_)
  obtain ⟨x, H1, I1, r1, a, dx, fs, ex, ha, q⟩ := hv
  cases ex
  cases (show v = Value.ref a from r1)
  have I2 := I1.tok (s1.toks + 1)
  obtain ⟨mA, O, _⟩ := ins_get I1.hok ha
  obtain ⟨od, J, _⟩ := O.look
  exact PySem.W.kfo_fieldS (hr.in1).units0 I1.kIn J TX.fm TX.mo M.at_ M.fn (wpAny_mono (run_below (us := [.ref a]) (vs := [.ref a]) (A := X.A.in1) ⟨hr.in1.mono (by omega), rfl⟩ F hb I2 (.cons rfl .nil) q) (fun w s' z => tx_back z) fun _ _ x => x)
end
section
variable {H : Hp} {Q : VK} {σ : L2.St} {te : TE} {ts : List TE} {a C dx : Addr} {fs : List (Str × V)} {sp : Sp} {acc y : Str} {v : V}
theorem r_txO (e : H a = some (.ins C dx fs)) (h : sp ([.ref a] ++ []) H (txB Q) E0) : rTxO C sp [.ref a] H Q := ⟨a, dx, fs, rfl, e, h⟩
theorem r_txB (h : Q (.str y) H) : txB Q (.str y) H := ⟨y, rfl, h⟩
theorem r_fmtO (h : te σ H fun x H1 => rTxO C sp [x] H1 Q) : tFmtO C sp te σ H Q := h
def fmP (Q : VK) : VK := fun x H1 => (∃ y : Str, x = .str y ∧ y.length ≤ sizeLine ∧ Q (.str y) H1) ∨ ∃ i : Int, x = .int i ∧ i.natAbs.log2 < 1920 ∧ Q (.str (toString i)) H1
theorem r_fmt (h : te σ H (fmP Q)) : tFmt te σ H Q := h
theorem r_fmP (l : y.length ≤ sizeLine) (h : Q (.str y) H) : fmP Q (.str y) H := .inl ⟨y, rfl, l, h⟩
def fmR (Q : VK) : VK := fun x H1 => (∃ y : Str, x = .str y ∧ (reprText y).length ≤ sizeLine ∧ Q (.str (reprText y)) H1) ∨ ∃ i : Int, x = .int i ∧ i.natAbs.log2 < 1920 ∧ Q (.str (toString i)) H1
theorem r_fmtR (h : te σ H (fmR Q)) : tFmtR te σ H Q := h
theorem r_fmR (l : (reprText y).length ≤ sizeLine) (h : Q (.str (reprText y)) H) : fmR Q (.str y) H := .inl ⟨y, rfl, l, h⟩
def jsP (acc : Str) (N : Str → Hp → Prop) : VK := fun x H1 => ∃ y : Str, x = .str y ∧ (acc ++ y).length ≤ sizeLine ∧ N (acc ++ y) H1
theorem r_jsC {N : Str → Hp → Prop} (h : te σ H (jsP acc fun z H1 => tJs ts z σ H1 N)) : tJs (te :: ts) acc σ H N := h
theorem r_jsN {N : Str → Hp → Prop} (h : N acc H) : tJs [] acc σ H N := h
theorem r_jsP {N : Str → Hp → Prop} (l : (acc ++ y).length ≤ sizeLine) (h : N (acc ++ y) H) : jsP acc N (.str y) H := ⟨y, rfl, l, h⟩
end
theorem repr_letter : ∀ k : Fin 26, reprChar 39 (97 + k.val) = [97 + k.val] := by decide +kernel
theorem repr_fold : ∀ (l : List Nat) (acc : Array Nat), (∀ c ∈ l, 97 ≤ c ∧ c ≤ 122) → l.foldl (fun out c => out ++ (reprChar 39 c).toArray) acc = acc ++ l.toArray
  | [], acc, _ => by simp
  | c :: l, acc, h => by
    have hc := h c List.mem_cons_self
    have e : reprChar 39 c = [c] := by
      have z := repr_letter ⟨c - 97, by omega⟩
      rwa [show 97 + (c - 97) = c by omega] at z
    rw [List.foldl_cons, repr_fold l _ (fun x hx => h x (List.mem_cons_of_mem _ hx)), e]
    simp
end Z
open PySem.Builtin PySem.Builtin.Str in
theorem word_repr {n : Str} (h : Word n) : reprText n = ("'" : Str) ++ n ++ ("'" : Str) := by
  have hq : reprQuote n = 39 := by
    unfold reprQuote
    rw [if_neg]
    intro e
    rw [Bool.and_eq_true] at e
    have m := e.1
    rw [Array.contains_iff_mem] at m
    have := h.2.2 39 (by simpa using m)
    omega
  have e1 : reprText n = ⟨(#[39] ++ n.cps).push 39⟩ := by
    unfold reprText
    rw [hq, ← Array.foldl_toList, Z.repr_fold _ _ h.2.2]
  have e2 : (("'" : Str) ++ n ++ ("'" : Str)) = ⟨(#[39] ++ n.cps) ++ #[39]⟩ := rfl
  rw [e1, e2, Array.push_eq_append]
local macro_rules | `(tactic| walk_at "call") => `(tactic| first
  | ((with_reducible refine' Z.r_txO ?e ?_); (case e => walk_at "hp"))
  | with_reducible refine Z.r_txB ?_
  | with_reducible refine Z.r_fmtO ?_
  | with_reducible refine Z.r_fmt ?_
  | with_reducible refine Z.r_fmtR ?_
  | with_reducible refine Z.r_jsC ?_
  | with_reducible refine Z.r_jsN ?_
  | ((with_reducible refine' Z.r_fmP ?l ?_); (case l => walk_at "tlen"))
  | ((with_reducible refine' Z.r_fmR ?l ?_); (case l => walk_at "tlen"))
  | ((with_reducible refine' Z.r_jsP ?l ?_); (case l => walk_at "tlen")))
local macro_rules | `(tactic| walk_at "tlen") => `(tactic| first | assumption | exact Z.szle (Nat.le_of_ble_eq_true rfl))
/-! != of instances whose class has an own == alone -/
namespace Z
open PySem PySem.Spec PyProof.Rows L2
section
variable {prog : Program} {w : World} {A : Around} {E : Value → Shared → Prop} {s : Shared} {K : PySem.W.Frag} {x C L f : Addr} {h₀ : Heap} {m : Str → Option Value} {ox : Obj} {od : Option Obj} {b tb : Value}
theorem ifBound_B {M : Model} {name : Str} {id B : String} {args : List Value} {Q : Option Value → Shared → Prop} (X : K.In s.heap) (I : PySem.W.InstAt s.heap x ox C od) (hs : PySem.W.findIn K (.ref C) name = some (some (.builtin id))) (S : Slot B name id)
    (h : wpAny M A (call (.builtin id) (.ref x :: args)) (fun v => Q (some v)) E s) : wpAny M A (callSpecialIfBound? (.ref x) name args) Q E s := by
  simp only [callSpecialIfBound?, bindSpecialIfBound?]
  refine wpAny_holding (wpAny_bind (wpAny_bind (wpAny_bind (I.type.here ((PySem.W.looks_findIn X hs).here ?_)))))
  simp only [S.bind]
  refine wpAny_bind (wpAny_askSetting (wpAny_ite ?_))
  have fin : wpAny M A (call (.builtin id) ([.ref x] ++ args) >>= fun v => pure (some v)) Q E s := wpAny_bind (wpAny_mono h (fun v s' h' => wpAny_pure h') fun _ _ h' => h')
  split
  · exact wpAny_bind (wpAny_pure (wpAny_pure fin))
  · exact wpAny_tryCatch (wpAny_bind (wpAny_pure (wpAny_pure fin)))
theorem ne_entry {Q : Fin → Shared → Prop} (hu : A.units < cLine) (X : K.In s.heap) (I : PySem.W.InstAt s.heap x ox C od) (hs : PySem.W.findIn K (.ref C) "__eq__" = some (some (.ref f))) (hf : PySem.W.isFn K (.ref f) = true)
    (h : wpAny (model prog w) A (call (.ref f) [.ref x, b]) (fun v s' => ∃ c, v = .bool c ∧ Q (.done (.ret (.bool (!c)))) s') E s) :
    wpAny (model prog w) A (Builtin.«object.__ne__» ⟨[.ref x, b], []⟩) Q E s := by
  unfold Builtin.«object.__ne__»
  repeat (first
    | with_reducible refine wpAny_cRoomFor hu ?_
    | (refine wpAny_bind (m := callSpecialIfBound? (.ref x) (Str.ofString "__eq__") [b])
        (PySem.W.ifBound_K X I hs hf (wpAny_mono h (fun r s' hr => by
          obtain ⟨b, rfl, hq⟩ := hr
          repeat (first | exact hq | exact wpAny_pure hq | exact wpAny_truthy_bool hq | (refine wpAny_bind (m := truthy (.bool _)) (wpAny_truthy_bool ?_)) | wp_step)) fun _ _ e => e)))
    | wp_step)
theorem cmp_neD {Q : Value → Shared → Prop} (hu : A.units < cLine) (hu1 : A.in1.units < cLine) (X : K.In s.heap) (I : PySem.W.InstAt s.heap x ox C od) (hb : PySem.W.Looks (model prog w) s.heap (typeOf b) tb) (hn : PySem.W.notFirst K C tb = true)
    (D : NeD K C) (hs : PySem.W.findIn K (.ref C) "__eq__" = some (some (.ref f))) (hf : PySem.W.isFn K (.ref f) = true)
    (h : wpAny (model prog w) A.in1 (call (.ref f) [.ref x, b]) (fun v s' => ∃ c, v = .bool c ∧ Q (.bool (!c)) s') E s) : wpAny (model prog w) A (richCompare .NotEq (.ref x) b) Q E s := by
  have S := PySem.F.cmp_object.ne
  have sub : PySem.W.Looks (model prog w) s.heap (isInstance (.ref x) (.type "object")) true := I.type.andThen (PySem.W.looks_mroIn X D.mo)
  have one : wpAny (model prog w) A (tryCompare (.ref x) "__ne__" b) (fun r s' => ∃ v, r = some v ∧ Q v s') E s := by
    unfold tryCompare
    refine wpAny_bind (ifBound_B X I D.ne S (wpAny_call (codeAny_call_builtin S.plain PySem.F.cmpEntry_ne (@PySem.W.check_slot (model prog w) _ _ s "object.__ne__" "object" "__ne__" (.ref x) [b] [] _ PySem.F.cmpKind_ne PySem.F.cmpSplit_ne sub (PySem.F.cmpArgs_ne _ _)
      (ne_entry (A := A.in1) hu1 X I hs hf (wpAny_mono h (fun v s' hv => ?_) fun _ _ e => e))))))
    obtain ⟨c, rfl, hq⟩ := hv
    first | exact ⟨c, rfl, wpAny_pure ⟨_, rfl, hq⟩⟩ | exact ⟨c, rfl, wpAny_pure (wpAny_pure ⟨_, rfl, hq⟩)⟩ | exact ⟨c, rfl, _, rfl, hq⟩
  unfold richCompare
  simp only [oneThing_ref]
  refine wpAny_holding (wpAny_bind (wpAny_cRoomFor hu ?_))
  refine wpAny_bind (I.type.here (wpAny_bind (hb.here ?_)))
  split
  · rename_i q
    have e : PySem.W.subIn K tb (.ref C) = some false := by
      rcases Bool.or_eq_true_iff.mp hn with e | e
      · rw [beq_iff_eq.mp e] at q; simp at q
      · exact beq_iff_eq.mp e
    refine wpAny_bind ((PySem.W.looks_subIn X e).here ?_)
    simp only [Bool.false_eq_true, if_false]
    refine wpAny_bind (wpAny_mono one (fun r s' z => ?_) fun _ _ e => e)
    obtain ⟨v, rfl, hq⟩ := z
    exact wpAny_pure hq
  · refine wpAny_bind (wpAny_pure ?_)
    simp only [Bool.false_eq_true, if_false]
    refine wpAny_bind (wpAny_mono one (fun r s' z => ?_) fun _ _ e => e)
    obtain ⟨v, rfl, hq⟩ := z
    exact wpAny_pure hq
end
section
variable {X : Cx} {C f : Addr} {fd : FuncData} {k : Nat} {ps : List Str} {sp : Sp}
/-- x != y, x an instance of a class with an own == and no own != -/
def neB (Q : VK) : VK := fun v H' => ∃ c, v = .bl c ∧ Q (.bl (!c)) H'
def rNeX (K : PySem.W.Frag) (C : Addr) (sp : Sp) : R2 := fun x y H Q => ∃ a dx fs t, x = .ref a ∧ H a = some (.ins C dx fs) ∧ TyX K H y t ∧ PySem.W.notFirst K C t = true ∧ sp ([x, y] ++ []) H (neB Q) E0
theorem o_neX (D : NeD X.K C) (M : Meth X.K C "__eq__" f) (F : FnOk X.prog X.w X.K X.mg X.base CX0 k f fd ps sp) (hr : Room (k + 1) X.A) (hb : Binds X.K fd ps []) : OpR X (compareOp .NotEq) (rNeX X.K C sp) := by
  intro pins s σ H x y v u Q I rx ry h
  obtain ⟨a, dx, fs, t, rfl, ha, ty, hn, q⟩ := h
  cases (show v = Value.ref a from rx)
  obtain ⟨mA, O, _⟩ := ins_get I.hok ha
  obtain ⟨od, J, _⟩ := O.look
  obtain ⟨P, Z, p, _⟩ := kit_of I ry ty
  show wpAny _ X.A (richCompare .NotEq (.ref a) u) _ _ s
  refine cmp_neD (tb := t) (hr.mono (by omega) : Room k X.A).units0 hr.in1.units0 I.kIn J (Z.ty _ _ I.kIn p) hn D M.at_ M.fn ?_
  refine wpAny_mono (run_below (us := [.ref a, u]) (vs := [.ref a, y]) (A := X.A.in1) ⟨hr.in1, rfl⟩ F hb I (.cons rfl (.cons ry .nil)) q) (fun w s' z => ?_) fun _ _ x => x
  obtain ⟨z', H', I', rz, c, e, qz⟩ := z
  subst e
  cases (show w = Value.bool c from rz)
  exact ⟨c, rfl, .bl (!c), H', I', rfl, qz⟩
end
section
variable {K : PySem.W.Frag} {H : Hp} {Q : VK} {y : V} {a C dx : Addr} {fs : List (Str × V)} {t : Value} {sp : Sp} {c : Bool}
theorem r_neX (e : H a = some (.ins C dx fs)) (ty : TyX K H y t) (nf : PySem.W.notFirst K C t = true) (h : sp ([.ref a, y] ++ []) H (neB Q) E0) : rNeX K C sp (.ref a) y H Q := ⟨a, dx, fs, t, rfl, e, ty, nf, h⟩
theorem r_neXB (h : Q (.bl (!c)) H) : neB Q (.bl c) H := ⟨c, rfl, h⟩
end
def optV : Option Int → V
  | none => .non
  | some i => .int i
theorem r_eqO {o p : Option Int} {H : Hp} {Q : VK} (h : Q (.bl (decide (o = p))) H) : rEq (optV o) (optV p) H Q := by
  have e : decide (optV o = optV p) = decide (o = p) := by
    cases o <;> cases p <;> simp [optV]
  refine ⟨by cases o <;> cases p <;> rfl, ?_⟩
  rw [e]
  exact h
theorem r_neO {o p : Option Int} {H : Hp} {Q : VK} (h : Q (.bl (!decide (o = p))) H) : rNe (optV o) (optV p) H Q := by
  have e : decide (optV o = optV p) = decide (o = p) := by
    cases o <;> cases p <;> simp [optV]
  refine ⟨by cases o <;> cases p <;> rfl, ?_⟩
  rw [e]
  exact h
def optS : Option Int → Str
  | none => "None"
  | some i => toString i
def optOk (o : Option Int) : Prop := ∀ i, o = some i → 0 ≤ i ∧ i ≤ 100000
theorem log_small {n : Nat} (h : n ≤ 100000) : n.log2 < 1920 := by
  by_cases e : n = 0
  · subst e; decide
  · rw [Nat.log2_lt e]
    exact Nat.lt_of_le_of_lt h (Nat.lt_of_lt_of_le (by decide : 100000 < 2 ^ 17) (Nat.pow_le_pow_right (by decide) (by decide)))
theorem optOk.log {i : Int} (h : optOk (some i)) : i.natAbs.log2 < 1920 := log_small (by have := h i rfl; omega)
theorem optOk.len {o : Option Int} (h : optOk o) : (optS o).length ≤ 100 := by
  cases o with
  | none => decide +kernel
  | some i =>
    have h1 := h i rfl
    have e := int_text_length_le10 (a := i) (k := 6) (by decide) (by omega)
    show (Str.ofString (toString i)).length ≤ 100
    rw [PySem.ofString_length]
    omega
theorem r_neP {K : PySem.W.Frag} {x y : V} {H : Hp} {Q : VK} {d e : PyData} (hd : Dp K H x d) (he : Dp K H y e) (sd : SeqAt.shaped d = true) (se : SeqAt.shaped e = true) (h : Q (.bl (!PyData.eqv d e)) H) : L2.rNeD K x y H Q := ⟨d, e, hd, he, sd, se, h⟩
/-- str of nothing or an int -/
def rStrO : List V → Hp → VK → Prop := fun xs H Q => ∃ o : Option Int, xs = [optV o] ∧ (∀ i, o = some i → i.natAbs.log2 < 1920) ∧ Q (.str (optS o)) H
theorem c_strOpt {X : Cx} : CallR X (.type "str") rStrO := by
  intro pins s σ H xs us Q I r h
  obtain ⟨o, rfl, hz, q⟩ := h
  cases o with
  | none =>
    obtain ⟨u, rfl, ru⟩ := vals1 r
    cases (show u = Value.none from ru)
    exact PySem.P.str_of_none ⟨.str _, H, I.tok _, ⟨_, rfl⟩, q⟩
  | some i =>
    obtain ⟨u, rfl, t, rfl⟩ := vals1 r
    exact PySem.P.str_of_int (hz i rfl) ⟨.str _, H, I.tok _, ⟨_, rfl⟩, q⟩
theorem r_strOpt {o : Option Int} {H : Hp} {Q : VK} (h : ∀ i, o = some i → i.natAbs.log2 < 1920) (q : Q (.str (optS o)) H) : rStrO [optV o] H Q := ⟨o, rfl, h, q⟩
/-- {x!r}: nothing or an int -/
def foP (Q : VK) : VK := fun x H1 => ∃ o : Option Int, x = optV o ∧ (∀ i, o = some i → i.natAbs.log2 < 1920) ∧ Q (.str (optS o)) H1
def tFmtRO (te : TE) : TE := fun σ H Q => te σ H (foP Q)
theorem pe_fmtRO {X : Cx} {e : Expr} {te : TE} {pos : Pos} (he : PE X e te) : PE X (.FormattedValue e 114 none pos) (tFmtRO te) := by
  refine ⟨fun pins s σ H Q I h => ?_⟩
  refine wpAny_FormattedValue_repr (thn (he.run pins s σ H _ I h) fun v s1 hv => ?_)
  obtain ⟨x, H1, I1, r1, o, rfl, hz, q⟩ := hv
  cases o with
  | none =>
    cases (show v = Value.none from r1)
    exact pyReprObj_none (wpAny_formatField_str ⟨.str "None", H1, I1.tok _, ⟨_, rfl⟩, q⟩ ⟨.str "None", H1, I1.tok _, ⟨_, rfl⟩, q⟩ (by decide))
  | some i =>
    obtain ⟨t, rfl⟩ := r1
    exact pyReprObj_int (hz i rfl) (wpAny_formatField_str ⟨.str (toString i), H1, I1.tok _, ⟨_, rfl⟩, q⟩ ⟨.str (toString i), H1, I1.tok _, ⟨_, rfl⟩, q⟩ (int_text_fits (hz i rfl)))
theorem r_fmtRO {σ : L2.St} {H : Hp} {Q : VK} {te : TE} (h : te σ H (foP Q)) : tFmtRO te σ H Q := h
theorem r_foP {o : Option Int} {H : Hp} {Q : VK} (h : ∀ i, o = some i → i.natAbs.log2 < 1920) (q : Q (.str (optS o)) H) : foP Q (optV o) H := ⟨o, rfl, h, q⟩
end Z
local macro_rules | `(tactic| walk_at "call") => `(tactic| first
  | ((with_reducible refine' Z.r_neX ?e ?ty ?nf ?_); (case e => walk_at "hp"); (case ty => walk_at "ty"); (case nf => walk_at "nf"))
  | with_reducible refine Z.r_neXB ?_
  | ((with_reducible refine' Z.r_lenT ?e ?_); (case e => exact SqT.of (by walk_at "hp")))
  | with_reducible refine Z.r_fmtRO ?_)

namespace Z
open PySem PySem.Spec PyProof.Rows L2
section
variable {K : PySem.W.Frag} {σ : L2.St} {H : Hp} {Q : VK} {D : Ends} {ta tb : TE} {A : TA} {v x y : V}
theorem r_dnewK (h : ∀ p H1, H p = none → Same H H1 → H1 p = some (.dK []) → Q (.ref p) H1) : tDNewK σ H Q := fun p np => h p _ np (same_upd np) upd_same
/-- a text that is, or is not, a key -/
def dnR (y x : V) (H : Hp) (Q : VK) : Prop := ∃ a o, x = .ref a ∧ DGet H a y o ∧ Q (.bl (!o.isSome)) H
theorem r_dnotin (h : ta σ H fun y H1 => tb σ H1 fun x H2 => dnR y x H2 Q) : tDNotIn ta tb σ H Q := h
theorem r_dnS {a : Addr} {g : Str} {kvs : List (Key × V)} (e : H a = some (.dK kvs)) (k : Q (.bl (!(valV kvs (.inr g)).isSome)) H) : dnR (.str g) (.ref a) H Q := ⟨a, _, rfl, DGet.k (k := .inr g) e, k⟩
def rTupOf (K : PySem.W.Frag) : List V → Hp → VK → Prop := fun xs H Q => ∃ p ys, xs = [.ref p] ∧ ((SqL K H p ys ∧ ∀ l, H l = none → Q (.ref l) (L2.upd H l (.tup ys))) ∨ (SqT K H p ys ∧ Q (.ref p) H))
theorem c_tupOf {X : Cx} : CallR X (.type "tuple") (rTupOf X.K) := call_tuple_of
theorem r_tupL {p : Addr} {ys : List V} (e : H p = some (.lst ys)) (k : ∀ q H1, H q = none → Same H H1 → H1 q = some (.tup ys) → Q (.ref q) H1) : rTupOf K [.ref p] H Q :=
  ⟨p, ys, rfl, .inl ⟨SqL.of e, fun l nl => k l _ nl (same_upd nl) upd_same⟩⟩
theorem c_isiT {X : Cx} {K : PySem.W.Frag} (e : X.K = K) : CallR X (.builtin "isinstance") (rIsiT K) := e ▸ call_isiT
theorem r_isiLT {tp : Addr} {t : Value} {b : Bool} (e : H tp = some (.tup [.ty "list", .ty "tuple"])) (ty : TyX K H x t) (k : PySem.W.kitAny K t [.type "list", .type "tuple"] = some b) (h : Q (.bl b) H) : rIsiT K [x, .ref tp] H Q :=
  ⟨x, tp, _, t, _, b, rfl, e, .cons (.ty _) (.cons (.ty _) .nil), ty, k, h⟩
/-- for i, x in enumerate(a list) -/
theorem r_forE {g : TG} {tb : TS} (h : A σ H fun vs H1 => ∃ a xs, vs = [.ref a] ∧ SqL K H1 a xs ∧ ∃ W : Nat → Nat → L2.St → Hp → Prop, (∃ m, W 0 m σ H1) ∧ ∀ i m σ H, W i m σ H →
      (((Ite K a).stop i H ∧ D.nx σ H) ∨ ((Ite K a).go i H ∧ ∃ N : L2.St → Hp → Prop, (∀ σ' H', N σ' H' → ∃ m', m' < m ∧ W (i + 1) m' σ' H') ∧ ∀ x H', (Ite K a).yld i H x H' → g x σ H' fun σ2 H2 => tb { D with nx := N, ct := N, bk := D.nx } σ2 H2))) :
    tFor (iEnum K A) g tb D σ H := h
theorem r_enum_by {g : TG} {tb : TS} {a : Addr} {xs : List V} (hs : SqL K H a xs) (Pv : Nat → L2.St → Hp → Prop) (h0 : Pv 0 σ H) (hl : ∀ i σ' H', Pv i σ' H' → SqL K H' a xs)
    (ht : ∀ (i : Nat) x σ' H', xs[i]? = some x → Pv i σ' H' → ∀ T H2, H' T = none → Same H' H2 → H2 T = some (.tup [.int (i : Nat), x]) → g (.ref T) σ' H2 fun σ2 H3 => tb { D with nx := Pv (i + 1), ct := Pv (i + 1), bk := D.nx } σ2 H3) (hd : ∀ σ' H', Pv xs.length σ' H' → D.nx σ' H') :
    ∃ a' xs', [V.ref a] = [.ref a'] ∧ SqL K H a' xs' ∧ ∃ W : Nat → Nat → L2.St → Hp → Prop, (∃ m, W 0 m σ H) ∧ ∀ i m σ H, W i m σ H →
      (((Ite K a').stop i H ∧ D.nx σ H) ∨ ((Ite K a').go i H ∧ ∃ N : L2.St → Hp → Prop, (∀ σ' H', N σ' H' → ∃ m', m' < m ∧ W (i + 1) m' σ' H') ∧ ∀ x H', (Ite K a').yld i H x H' → g x σ H' fun σ2 H2 => tb { D with nx := N, ct := N, bk := D.nx } σ2 H2)) := by
  refine ⟨a, xs, rfl, hs, fun i m σ H => m = xs.length - i ∧ i ≤ xs.length ∧ Pv i σ H, ⟨xs.length, by simp, Nat.zero_le _, h0⟩, ?_⟩
  rintro i m σ H ⟨rfl, hi, p⟩
  have q := hl i σ H p
  by_cases hlt : i < xs.length
  · refine .inr ⟨⟨xs, xs[i], q, by simp [hlt]⟩, Pv (i + 1), fun σ' H' p' => ⟨xs.length - (i + 1), by omega, rfl, hlt, p'⟩, fun x H' y => ?_⟩
    obtain ⟨T, z, e1, nT, e2, hz⟩ := y
    subst e1 e2
    exact ht i z σ H (hz xs q) p T _ nT (same_upd nT) upd_same
  · have e : i = xs.length := by omega
    subst e
    exact .inl ⟨⟨xs, q, Nat.le_refl _⟩, hd σ H p⟩
end
theorem kit_list {K : PySem.W.Frag} (h1 : PySem.W.kitOne K (.type "list") (.type "list") = some true) : PySem.W.kitAny K (.type "list") [.type "list", .type "tuple"] = some true := by
  simp only [PySem.W.kitAny, h1]
theorem kit_tuple {K : PySem.W.Frag} (h1 : PySem.W.kitOne K (.type "tuple") (.type "list") = some false) (h2 : PySem.W.kitOne K (.type "tuple") (.type "tuple") = some true) : PySem.W.kitAny K (.type "tuple") [.type "list", .type "tuple"] = some true := by
  simp only [PySem.W.kitAny, h1, h2]
end Z
local macro_rules | `(tactic| walk_at "call") => `(tactic| first
  | with_reducible refine Z.r_dnewK ?_
  | with_reducible refine Z.r_dnotin ?_
  | with_reducible refine Z.r_forE ?_
  | ((with_reducible refine' Z.r_dnS ?e ?_); (case e => walk_at "hp"))
  | ((with_reducible refine' Z.r_tupL ?e ?_); (case e => walk_at "hp"))
  | ((with_reducible refine' Z.r_isiLT ?e ?ty ?k ?_); (case e => walk_at "hp"); (case ty => walk_at "ty"); (case k => first | exact Z.kit_list (by walk_at "ki") | exact Z.kit_tuple (by walk_at "ki") (by walk_at "ki"))))
/-- entries with what they are -/
abbrev Ens := List (V × Tag)
def EnsOk (C : Addr) (H : Hp) (es : Ens) : Prop := ∀ e ∈ es, Rep C H e.1 e.2 ∧ e.2 ≠ .non
theorem EnsOk.same {C : Addr} {H H' : Hp} {es : Ens} (s : Same H H') (h : EnsOk C H es) : EnsOk C H' es := fun e m => ⟨(h e m).1.same s, (h e m).2⟩
theorem EnsOk.but {C b : Addr} {H H' : Hp} {es : Ens} {xs : List V} (s : Z.But b H H') (hb : H b = some (.lst xs)) (h : EnsOk C H es) : EnsOk C H' es := fun e m => ⟨(h e m).1.but s hb, (h e m).2⟩
/-- the first of them that is this -/
def fst? (es : Ens) (t : Tag) : Option V := (es.find? fun e => decide (e.2 = t)).map (·.1)
def fstV (es : Ens) (t : Tag) : V := (fst? es t).getD .non
theorem fst_num {C : Addr} {H : Hp} {es : Ens} {i : Int} (h : EnsOk C H es) (m : ∃ x, (x, Tag.num i) ∈ es) : fstV es (.num i) = .int i := by
  unfold fstV fst?
  cases q : es.find? fun e => decide (e.2 = .num i) with
  | none =>
    obtain ⟨x, m⟩ := m
    have := List.find?_eq_none.mp q _ m
    simp at this
  | some e =>
    have h1 : e.2 = .num i := by simpa using List.find?_some q
    have h2 := (h e (List.mem_of_find?_eq_some q)).1
    rw [h1] at h2
    exact h2
theorem fst_take {es : Ens} {k : Nat} {t : Tag} {x : V} (h : fst? (es.take k) t = some x) : fst? es t = some x := by
  unfold fst? at h ⊢
  rw [← List.take_append_drop k es, List.find?_append]
  obtain ⟨e, he, hx⟩ := Option.map_eq_some_iff.mp h
  rw [he]
  simp [hx]
theorem fst_snoc {es : Ens} {e : V × Tag} {t : Tag} : fst? (es ++ [e]) t = (fst? es t).or (if e.2 = t then some e.1 else none) := by
  unfold fst?
  rw [List.find?_append]
  cases es.find? fun e => decide (e.2 = t) with
  | some z => simp
  | none =>
    by_cases h : e.2 = t
    · simp [List.find?_cons, h]
    · simp [List.find?_cons, h]
/-- what the dict of first ones tells -/
def Firsts (kvs : List (Key × V)) (es : Ens) : Prop := ∀ n : Str, valV kvs (.inr n) = fst? es (.mark n)
/-! enumerate of a tuple, walked -/
namespace Z
open PySem PySem.Spec PyProof.Rows L2
/-- the iterator and the enumerate object, one behind the other -/
def enIt (l : Addr) : Obj := { cls := .type "tuple_iterator", data := .fields #[.ref l, .int 0 0] }
def enOb (n : Nat) : Obj := { cls := .type "enumerate", data := .fields #[.none, .bool false, .ref n, rawInt 0, .none, .none] }
theorem enumT_meets (l : Addr) (ot : Obj) (its : Array Value) (n : Nat) (hc : ot.cls = .type "tuple") (hd : ot.data = .seq its n) :
    Meets (Builtin.«enumerate.__new__» ⟨[.type "enumerate", .ref l], []⟩) (fun _ R s => s.heap.get? l = some ot ∧ R (.ok (.ret (.ref (s.heap.push (enIt l)).objs.size))) { s with heap := (s.heap.push (enIt l)).push (enOb s.heap.objs.size) }) :=
  .of_wp fun prog w A R s h => by
    obtain ⟨otc, otd, otx, ots⟩ := ot
    simp only at hc hd
    subst hc hd
    obtain ⟨hp, g, d, tk, os⟩ := s
    obtain ⟨hl, h⟩ := h
    have sb := sub_enumerate
    have tp : Heap.IsTuple (Shared.heap ⟨hp, g, d, tk, os⟩) l its := ⟨_, hl, rfl, n, rfl⟩
    wp_walk using AutoSeq1.wpAny_loadPart' hl
    refine wpAny_stack_any fun _ => wpAny_pure ?_
    split
    · rename_i c _ _ _ _ _
      cases (c == Value.type "enumerate") <;> (wp_walk using AutoSeq1.wpAny_loadPart' hl, wpAny_pyIter_tuple tp; exact ⟨_, rfl, h⟩)
    · wp_walk using AutoSeq1.wpAny_loadPart' hl, wpAny_pyIter_tuple tp
      exact ⟨_, rfl, h⟩
section
variable {prog : Program} {w : World} {A : Around} {E : Value → Shared → Prop} {s : Shared}
theorem enumT_call {l : Addr} {its : Array Value} {Q : Value → Shared → Prop} (tp : IsTup s.heap l its)
    (h : ∀ h', IsEnum h' (s.heap.objs.size + 1) s.heap.objs.size 0 .none → h'.IsTupleIter s.heap.objs.size l 0 → (∀ b o, s.heap.get? b = some o → h'.get? b = some o) → Q (.ref (s.heap.objs.size + 1)) { s with heap := h' }) :
    wpAny (model prog w) A (call (.type "enumerate") [.ref l]) Q E s := by
  obtain ⟨ot, hl, hc, n, hd⟩ := tp
  refine callType_new PySem.F.called_enumerate (by decide) (PySem.F.typeCall_enumerate_1 _) (PySem.F.newCall_enumerate_1 _) (fun obj => PySem.F.args_object_init_2 obj _) PySem.F.entry_enumerate_new (enumT_meets l ot its n hc hd) ⟨hl, ?_⟩
  have sz : (s.heap.push (enIt l)).objs.size = s.heap.objs.size + 1 := Heap.size_push ..
  have he : IsEnum ((s.heap.push (enIt l)).push (enOb s.heap.objs.size)) (s.heap.objs.size + 1) s.heap.objs.size 0 .none := by
    have z := Heap.get?_push_size (s.heap.push (enIt l)) (o := enOb s.heap.objs.size) rfl
    rw [sz] at z
    exact z
  show _ ∧ _
  rw [sz]
  exact ⟨⟨_, he, rfl⟩, h _ he ⟨_, Heap.get?_push_of_some _ (Heap.get?_push_size _ rfl), rfl, rfl⟩ fun b o x => Heap.get?_push_of_some _ (Heap.get?_push_of_some _ x)⟩
end
/-- the tuple at a, its items in new pairs with their places -/
def ItT (K : PySem.W.Frag) (a : Addr) : It :=
  ⟨fun i H => ∃ (xs : List V) (x : V), SqT K H a xs ∧ xs[i]? = some x,
   fun i H v H' => ∃ T x, v = .ref T ∧ H T = none ∧ H' = L2.upd H T (.tup [.int (i : Nat), x]) ∧ ∀ xs, SqT K H a xs → xs[i]? = some x,
   fun i H => ∃ xs : List V, SqT K H a xs ∧ xs.length = i⟩
theorem turnT {P : Program} {w : World} {K : PySem.W.Frag} {elts : List Expr} {kk : Nat} {tpos : Pos} (a e it : Addr) :
    Turn P w K (.Tuple elts kk tpos) (ItT K a) [e, it] e (fun i h => (∃ old, IsEnum h e it ((i : Nat) : Int) old) ∧ h.IsTupleIter it a i ∧ e ≠ it) where
  mem := by simp
  obj := fun i h st b hb => by
    obtain ⟨⟨old, he⟩, ⟨o, ho, _, hd⟩, _⟩ := st
    rcases (by simpa using hb : b = e ∨ b = it) with rfl | rfl
    · exact ⟨_, he, fun v q => nomatch q⟩
    · exact ⟨o, ho, fun v q => by rw [hd] at q; cases q⟩
  keep := fun i h h' st k => by
    obtain ⟨⟨old, he⟩, hi, hne⟩ := st
    exact ⟨⟨old, k e (by simp) _ he⟩, hi.at fun o q => k it (by simp) o q, hne⟩
  item := by
    intro X hP hw hK hc i pins s σ H E I hf st hg
    subst hP hw hK
    obtain ⟨⟨old, he⟩, hit, hne⟩ := st
    obtain ⟨xs, x, hq, hx⟩ := hg
    obtain ⟨ts, rv, p, hz⟩ := I.tuple hq
    obtain ⟨u, hu, ru⟩ := rv.get hx
    have hel : e < s.heap.objs.size := Heap.lt_size he
    have hil : it < s.heap.objs.size := by obtain ⟨_, q, _⟩ := hit; exact Heap.lt_size q
    have nit : a ≠ it := by
      rintro rfl
      obtain ⟨o1, q1, c1, _⟩ := hit
      obtain ⟨o2, q2, c2, _⟩ := p
      rw [q1] at q2
      cases q2
      rw [c1] at c2
      simp at c2
    have hi : i < ts.toArray.size := by
      have := (List.getElem?_eq_some_iff.mp hu).1
      simpa using this
    have ex : e ∉ [it, a] := by
      intro m
      rcases (by simpa using m : e = it ∨ e = a) with z | rfl
      · exact hne z
      · obtain ⟨o2, q2, c2, _⟩ := p
        rw [he] at q2
        cases q2
        simp at c2
    refine wpAny_pyNext_enum_itemD (Draws.tuple (A := X.A.in1) (show X.A.in1.handled = none from I.ok.hd hc) it a nit ts.toArray) he ⟨hit, p⟩ hi hne ex fun y h' tk hy ho st' hT hsz hk => ?_
    have eu : y = u := by
      have z : ts.toArray[i]? = some u := by simpa using hu
      exact Option.some.inj (hy.symm.trans z)
    subst eu
    refine ⟨_, rfl, wpAny_letOwnedTupleGo_enum (s := { s with heap := h', toks := tk + 1 }) ho fun h'' he' sb => ?_⟩
    have ke : ∀ b o, b ≠ e → b ≠ it → s.heap.get? b = some o → h''.get? b = some o := fun b o n1 n2 q => (sb.2 b n1).trans (hk b o n1 n2 q)
    have hT2 : h''.get? s.heap.objs.size = some { cls := .type "tuple", data := .seq #[.int i tk, y] } := (sb.2 _ (Nat.ne_of_gt hel)).trans hT
    have new : ObjOk X.prog X.w (L2.upd H s.heap.objs.size (.tup [.int (i : Nat), x])) h'' s.heap.objs.size (.tup [.int (i : Nat), x]) :=
      ⟨by show 2 ≤ sizeLine; decide, [.int i tk, y], .cons ⟨_, rfl⟩ (.cons ru .nil), ⟨_, hT2, rfl, _, rfl⟩⟩
    have I1 : Inv X pins σ (L2.upd H s.heap.objs.size (.tup [.int (i : Nat), x])) { s with heap := h'', toks := tk + 1 } :=
      I.turnedNew (ch := [e, it]) (fun b ob hb q => ke b ob (fun z => hb (by simp [z])) (fun z => hb (by simp [z])) q) hf (Nat.le_refl _) new
    have fin : ((i + 1 : Nat) : Int) = (i : Int) + 1 := by omega
    refine ⟨.ref s.heap.objs.size, _, I1, rfl, ⟨_, x, rfl, I.hok.fresh (Nat.le_refl _), rfl, fun ys hy2 => ?_⟩, ⟨⟨y, by rw [fin]; exact he'⟩, st'.1.at fun o q => (sb.2 it (Ne.symm hne)).trans q, hne⟩, fun b hb => ?_⟩
    · rw [I.tuple_inj hy2 hq]
      exact hx
    · have lt : b < s.heap.objs.size := by
        rcases (by simpa using hb : b = e ∨ b = it) with rfl | rfl
        · exact hel
        · exact hil
      rw [upd_ne (Nat.ne_of_lt lt)]
      exact (hf b hb).1
  done := by
    intro X hP hw hK hc i pins s σ H E I hf st hg
    subst hP hw hK
    obtain ⟨⟨old, he⟩, hit, hne⟩ := st
    obtain ⟨xs, hq, hx⟩ := hg
    obtain ⟨ts, rv, p, hz⟩ := I.tuple hq
    obtain ⟨f0, f1, f2, f3, f4, f5⟩ := hf it (by simp)
    have nit : a ≠ it := by
      rintro rfl
      obtain ⟨o1, q1, c1, _⟩ := hit
      obtain ⟨o2, q2, c2, _⟩ := p
      rw [q1] at q2
      cases q2
      rw [c1] at c2
      simp at c2
    have sz : i = ts.toArray.size := by
      have := rv.length
      simp
      omega
    subst sz
    exact wpAny_pyNext_enum_endD (Draws.tuple (A := X.A.in1) (show X.A.in1.handled = none from I.ok.hd hc) it a nit ts.toArray) he ⟨hit, p⟩ fun h' eb => ⟨rfl, I.turned (t' := s.toks) (fun b o hb q => eb b o hb q) f0 f1 f3 f4 f5⟩
  self := fun A i s Q E st h => let ⟨⟨_, he⟩, _⟩ := st; wpAny_pyIter_enum he h
theorem new_pair {b n : Nat} (h : b = n + 1 ∨ b = n) : n ≤ b := by omega
def iEnT (K : PySem.W.Frag) (ta : TA) : TI := fun σ H R => ta σ H fun vs H1 => ∃ a xs, vs = [.ref a] ∧ SqT K H1 a xs ∧ R (ItT K a) H1
theorem pi_enT {X : Cx} {e : Expr} {ta : TA} {p pos tpos : Pos} {elts : List Expr} {kk : Nat} (hg : Gl X "enumerate") (hm : X.mg "enumerate" = none) (ha : PA X [e] ta) (hs : starEach [e] X.env = [(false, eval e X.env)] := by rfl) :
    PI X (.Tuple elts kk tpos) (.Call (.Name "enumerate" p) [e] [] pos) (iEnT X.K ta) := by
  refine ⟨fun pins s σ H R I h => ?_⟩
  refine Call_ (ld_blt I hg hm boot_enumerate (PyProof.Rows.callWith_type1 (thn (ha.run pos pins s σ H _ I h) fun us s1 ⟨vs, H1, I1, r1, a, xs, ex, hq, q⟩ => ?_) hs rfl))
  subst ex
  obtain rfl := Vals.ref1 r1
  obtain ⟨ts, rv, tp, hz⟩ := I1.tuple hq
  refine enumT_call tp fun h' he hit hk => wpAny_pyIter_enum he ?_
  refine ⟨s1.heap.objs.size + 1, [s1.heap.objs.size + 1, s1.heap.objs.size], _, _, H1, rfl, I1.kept (t' := s1.toks) hk, turnT a (s1.heap.objs.size + 1) s1.heap.objs.size, ⟨⟨.none, he⟩, hit, Nat.succ_ne_self _⟩, fun b hb => ?_, q⟩
  have le := new_pair (by simpa using hb)
  exact I1.fpOk le (I1.hok.fresh le)
section
variable {K : PySem.W.Frag} {σ : L2.St} {H : Hp} {Q : VK} {D : Ends} {A : TA} {te : TE} {tt : TT}
/-- for i, x in enumerate(a tuple) -/
theorem r_forET {g : TG} {tb : TS} (h : A σ H fun vs H1 => ∃ a xs, vs = [.ref a] ∧ SqT K H1 a xs ∧ ∃ W : Nat → Nat → L2.St → Hp → Prop, (∃ m, W 0 m σ H1) ∧ ∀ i m σ H, W i m σ H →
      (((ItT K a).stop i H ∧ D.nx σ H) ∨ ((ItT K a).go i H ∧ ∃ N : L2.St → Hp → Prop, (∀ σ' H', N σ' H' → ∃ m', m' < m ∧ W (i + 1) m' σ' H') ∧ ∀ x H', (ItT K a).yld i H x H' → g x σ H' fun σ2 H2 => tb { D with nx := N, ct := N, bk := D.nx } σ2 H2))) :
    tFor (iEnT K A) g tb D σ H := h
theorem r_enumT_by {g : TG} {tb : TS} {a : Addr} {xs : List V} (hs : SqT K H a xs) (Pv : Nat → L2.St → Hp → Prop) (h0 : Pv 0 σ H) (hl : ∀ i σ' H', Pv i σ' H' → SqT K H' a xs)
    (ht : ∀ (i : Nat) x σ' H', xs[i]? = some x → Pv i σ' H' → ∀ T H2, H' T = none → Same H' H2 → H2 T = some (.tup [.int (i : Nat), x]) → g (.ref T) σ' H2 fun σ2 H3 => tb { D with nx := Pv (i + 1), ct := Pv (i + 1), bk := D.nx } σ2 H3) (hd : ∀ σ' H', Pv xs.length σ' H' → D.nx σ' H') :
    ∃ a' xs', [V.ref a] = [.ref a'] ∧ SqT K H a' xs' ∧ ∃ W : Nat → Nat → L2.St → Hp → Prop, (∃ m, W 0 m σ H) ∧ ∀ i m σ H, W i m σ H →
      (((ItT K a').stop i H ∧ D.nx σ H) ∨ ((ItT K a').go i H ∧ ∃ N : L2.St → Hp → Prop, (∀ σ' H', N σ' H' → ∃ m', m' < m ∧ W (i + 1) m' σ' H') ∧ ∀ x H', (ItT K a').yld i H x H' → g x σ H' fun σ2 H2 => tb { D with nx := N, ct := N, bk := D.nx } σ2 H2)) := by
  refine ⟨a, xs, rfl, hs, fun i m σ H => m = xs.length - i ∧ i ≤ xs.length ∧ Pv i σ H, ⟨xs.length, by simp, Nat.zero_le _, h0⟩, ?_⟩
  rintro i m σ H ⟨rfl, hi, p⟩
  have q := hl i σ H p
  by_cases hlt : i < xs.length
  · refine .inr ⟨⟨xs, xs[i], q, by simp [hlt]⟩, Pv (i + 1), fun σ' H' p' => ⟨xs.length - (i + 1), by omega, rfl, hlt, p'⟩, fun x H' y => ?_⟩
    obtain ⟨T, z, e1, nT, e2, hz⟩ := y
    subst e1 e2
    exact ht i z σ H (hz xs q) p T _ nT (same_upd nT) upd_same
  · have e : i = xs.length := by omega
    subst e
    exact .inl ⟨⟨xs, q, rfl⟩, hd σ H p⟩
/-- [e for i, x in enumerate(a tuple) if t] -/
def lcET (K : PySem.W.Frag) (a : Addr) (g : TG) (tt : TT) (te : TE) (vs : List Nat) (σ : L2.St) (H : Hp) (Q : VK) : Prop := ∀ D, H D = none → ∃ W : Nat → Nat → Hp → Prop, (∃ m, W 0 m (L2.upd H D (.lst []))) ∧ ∀ i m H, W i m H →
  ((ItT K a).stop i H ∧ Q (.ref D) H) ∨ ((ItT K a).go i H ∧ ∃ Nx : Hp → Prop, (∀ H', Nx H' → ∃ m', m' < m ∧ W (i + 1) m' H') ∧ ∀ x H', (ItT K a).yld i H x H' → g x (wipe σ vs) H' fun σ2 H2 => wipe σ2 vs = wipe σ vs ∧ tt σ2 H2 fun b H3 =>
    if b = true then te σ2 H3 fun y H4 => ∃ acc, H4 D = some (.lst acc) ∧ acc.length < sizeLine ∧ Nx (L2.upd H4 D (.lst (acc ++ [y]))) else Nx H3)
theorem r_lcETup {vs : List Nat} {g : TG} (h : A σ H fun ws H1 => ∃ a xs, ws = [.ref a] ∧ SqT K H1 a xs ∧ lcET K a g tt te vs σ H1 Q) : tLc (iEnT K A) g tt te vs σ H Q := h
theorem r_lcET {vs : List Nat} {g : TG} {a : Addr} {xs : List V} (hx : SqT K H a xs) (Pv : Addr → Nat → Hp → Prop)
    (hs : ∀ Dl H1, H Dl = none → Same H H1 → H1 Dl = some (.lst []) → Pv Dl 0 H1) (hl : ∀ Dl i H', H Dl = none → Pv Dl i H' → SqT K H' a xs)
    (ht : ∀ Dl (i : Nat) x H', H Dl = none → xs[i]? = some x → Pv Dl i H' → ∀ T H2, H' T = none → Same H' H2 → H2 T = some (.tup [.int (i : Nat), x]) → g (.ref T) (wipe σ vs) H2 fun σ2 H3 => wipe σ2 vs = wipe σ vs ∧
      tt σ2 H3 fun b H4 => if b = true then te σ2 H4 (apR Dl (Pv Dl (i + 1))) else Pv Dl (i + 1) H4)
    (hd : ∀ Dl H', H Dl = none → Pv Dl xs.length H' → Q (.ref Dl) H') : ∃ a' xs', [V.ref a] = [.ref a'] ∧ SqT K H a' xs' ∧ lcET K a' g tt te vs σ H Q := by
  refine ⟨a, xs, rfl, hx, fun Dl nD => ⟨fun i m H' => m = xs.length - i ∧ i ≤ xs.length ∧ Pv Dl i H', ⟨xs.length, by simp, Nat.zero_le _, hs Dl _ nD (same_upd nD) upd_same⟩, ?_⟩⟩
  rintro i m H' ⟨rfl, hi, p⟩
  have q := hl Dl i H' nD p
  by_cases hlt : i < xs.length
  · refine .inr ⟨⟨xs, xs[i], q, by simp [hlt]⟩, Pv Dl (i + 1), fun H2 p' => ⟨xs.length - (i + 1), by omega, rfl, hlt, p'⟩, fun x H2 y => ?_⟩
    obtain ⟨T, z, e1, nT, e2, hz⟩ := y
    subst e1 e2
    exact ht Dl i z H' nD (hz xs q) p T _ nT (same_upd nT) upd_same
  · have e : i = xs.length := by omega
    subst e
    exact .inl ⟨⟨xs, q, rfl⟩, hd Dl H' nD p⟩
/-- [e for x in a tuple if t] -/
def lcT (K : PySem.W.Frag) (a : Addr) (k : Nat) (tt : TT) (te : TE) (vs : List Nat) (σ : L2.St) (H : Hp) (Q : VK) : Prop := (∃ xs, SqT K H a xs) ∧ ∀ D, H D = none → ∃ W : Nat → Nat → Hp → Prop, (∃ m, W 0 m (L2.upd H D (.lst []))) ∧ ∀ i m H, W i m H →
  ((Itt K a).stop i H ∧ Q (.ref D) H) ∨ ((Itt K a).go i H ∧ ∃ Nx : Hp → Prop, (∀ H', Nx H' → ∃ m', m' < m ∧ W (i + 1) m' H') ∧ ∀ x H', (Itt K a).yld i H x H' → gName k x (wipe σ vs) H' fun σ2 H2 => wipe σ2 vs = wipe σ vs ∧ tt σ2 H2 fun b H3 =>
    if b = true then te σ2 H3 fun y H4 => ∃ acc, H4 D = some (.lst acc) ∧ acc.length < sizeLine ∧ Nx (L2.upd H4 D (.lst (acc ++ [y]))) else Nx H3)
theorem r_lcTup {k : Nat} {vs : List Nat} {tl : TE} (h : tl σ H fun x H1 => ∃ a, x = .ref a ∧ lcT K a k tt te vs σ H1 Q) : tLc (iTup K tl) (gName k) tt te vs σ H Q := h
theorem r_lcT {a : Addr} {xs : List V} {k : Nat} {vs : List Nat} (hx : SqT K H a xs) (hw : ∀ x, wipe ((wipe σ vs).set k (some x)) vs = wipe σ vs) (Pv : Addr → Nat → Hp → Prop)
    (hs : ∀ Dl H1, H Dl = none → Same H H1 → H1 Dl = some (.lst []) → Pv Dl 0 H1) (hl : ∀ Dl i H', H Dl = none → Pv Dl i H' → SqT K H' a xs)
    (ht : ∀ Dl (i : Nat) x H', H Dl = none → xs[i]? = some x → Pv Dl i H' → tt ((wipe σ vs).set k (some x)) H' fun b H3 => if b = true then te ((wipe σ vs).set k (some x)) H3 (apR Dl (Pv Dl (i + 1))) else Pv Dl (i + 1) H3)
    (hd : ∀ Dl H', H Dl = none → Pv Dl xs.length H' → Q (.ref Dl) H') : ∃ a', V.ref a = .ref a' ∧ lcT K a' k tt te vs σ H Q := by
  refine ⟨a, rfl, ⟨xs, hx⟩, fun Dl hD => ?_⟩
  exact lc_tup (xs := xs) (tt := tt) (Pv Dl) (hs Dl _ hD (same_upd hD) upd_same) (fun i H' _ p => hl Dl i H' hD p) (fun i x H' hi p => ⟨hw _, ht Dl i x H' hD hi p⟩) (fun H' p => hd Dl H' hD p)
/-- for x in a tuple -/
theorem r_forT0 {tl : TE} {g : TG} {tb : TS} (h : tl σ H fun x H1 => ∃ a, x = .ref a ∧ (∃ xs, SqT K H1 a xs) ∧ ∃ W : Nat → Nat → L2.St → Hp → Prop, (∃ m, W 0 m σ H1) ∧ ∀ i m σ H, W i m σ H →
      (((Itt K a).stop i H ∧ D.nx σ H) ∨ ((Itt K a).go i H ∧ ∃ N : L2.St → Hp → Prop, (∀ σ' H', N σ' H' → ∃ m', m' < m ∧ W (i + 1) m' σ' H') ∧ ∀ x H', (Itt K a).yld i H x H' → g x σ H' fun σ2 H2 => tb { D with nx := N, ct := N, bk := D.nx } σ2 H2))) :
    tFor (iTup K tl) g tb D σ H := h
theorem r_tup_by {g : TG} {tb : TS} {a : Addr} {xs : List V} (hs : SqT K H a xs) (Pv : Nat → L2.St → Hp → Prop) (h0 : Pv 0 σ H) (hl : ∀ i σ' H', Pv i σ' H' → SqT K H' a xs)
    (ht : ∀ i x σ' H', xs[i]? = some x → Pv i σ' H' → g x σ' H' fun σ2 H2 => tb { D with nx := Pv (i + 1), ct := Pv (i + 1), bk := D.nx } σ2 H2) (hd : ∀ σ' H', Pv xs.length σ' H' → D.nx σ' H') :
    ∃ a', V.ref a = .ref a' ∧ (∃ xs, SqT K H a' xs) ∧ ∃ W : Nat → Nat → L2.St → Hp → Prop, (∃ m, W 0 m σ H) ∧ ∀ i m σ H, W i m σ H →
      (((Itt K a').stop i H ∧ D.nx σ H) ∨ ((Itt K a').go i H ∧ ∃ N : L2.St → Hp → Prop, (∀ σ' H', N σ' H' → ∃ m', m' < m ∧ W (i + 1) m' σ' H') ∧ ∀ x H', (Itt K a').yld i H x H' → g x σ H' fun σ2 H2 => tb { D with nx := N, ct := N, bk := D.nx } σ2 H2)) :=
  ⟨a, rfl, ⟨xs, hs⟩, for_tup (xs := xs) Pv h0 (fun i σ' H' _ p => hl i σ' H' p) ht hd⟩
end
end Z
local macro_rules | `(tactic| walk_at "call") => `(tactic| first
  | with_reducible refine Z.r_forET ?_
  | with_reducible refine Z.r_lcETup ?_
  | with_reducible refine Z.r_lcTup ?_
  | with_reducible refine Z.r_forT0 ?_)

/-! instances of an own class: len, [..], for .. in where __iter__ gives a tuple's iterator -/
namespace Z
open PySem PySem.Spec PyProof.Rows L2
open ItX (dropH dropH_upd inv_drop inv_fp)
/-- the iterator at it of the tuple at t -/
def ItTup (t it : Addr) (i : Nat) : HO := .ext fun h => h.IsTupleIter it t i
theorem itTup_ok {P : Program} {w : World} {H : Hp} {h : Heap} {t it : Addr} {i : Nat} (e : h.IsTupleIter it t i) : ObjOk P w H h it (ItTup t it i) :=
  ⟨e, let ⟨o, ho, _⟩ := e; ⟨o, ho⟩, fun h1 h2 e1 k => e1.at fun o q => k o q⟩
theorem itTup_get {P : Program} {w : World} {H : Hp} {h : Heap} {t it : Addr} {i : Nat} (ok : HOk P w H h) (e : H it = some (ItTup t it i)) : h.IsTupleIter it t i := (show ObjOk P w H h it (ItTup t it i) from ok it _ e).1
/-- iter(a tuple): young, as the caller's start was of n objects -/
def rIterT (K : PySem.W.Frag) (n : Nat) : List V → Hp → VK → Prop := fun xs H Q => ∃ (t : Addr) (zs : List V), xs = [.ref t] ∧ SqT K H t zs ∧ ∀ it, H it = none → n ≤ it → Q (.ref it) (L2.upd H it (ItTup t it 0))
section
variable {X : Cx} {k : Nat} {C f : Addr} {fd : FuncData} {ps : List Str} {sp : Sp}
theorem c_iterT : CallR X (.builtin "iter") (rIterT X.K X.s_0.heap.objs.size) := by
  intro pins s σ H xs us Q I r h
  obtain ⟨t, zs, rfl, hq, q⟩ := h
  obtain rfl := Vals.ref1 r
  obtain ⟨its, rv, tp, hz⟩ := I.tuple hq
  refine Calls.call_function_entry (by decide +kernel) (by decide +kernel) PySem.W.kdk_entry_iter (PySem.W.kdk_args_iter _) ?_
  unfold Builtin.«iter»
  refine wpAny_bind (m := someArgs "iter" 1 2 _) (wpAny_of_eq (a := [Value.ref t]) (by kernel_rfl!) (?_ : wpAny _ _ (pyIter (.ref t) >>= _) _ _ s))
  refine wpAny_bind (wpAny_pyIter_tuple (show s.heap.IsTuple t its.toArray from tp) (wpAny_pure ⟨_, rfl, ?_⟩))
  have fr := I.hok.fresh (Nat.le_refl s.heap.objs.size)
  exact ⟨.ref s.heap.objs.size, _, I.laid (t' := s.toks) (fun b u e => Heap.get?_push_of_some _ e) (Nat.le_refl _) (itTup_ok ⟨_, Heap.get?_push_size _ rfl, rfl, rfl⟩), rfl, q _ fr I.sz⟩
/-- len of an instance -/
def inB (Q : VK) : VK := fun v H' => ∃ n : Nat, v = .int n ∧ n ≤ 1000000 ∧ Q (.int n) H'
def rLenO (C : Addr) (sp : Sp) : List V → Hp → VK → Prop := fun xs H Q => ∃ a dx fs, xs = [.ref a] ∧ H a = some (.ins C dx fs) ∧ sp ([.ref a] ++ []) H (inB Q) E0
theorem c_lenO (M : Meth X.K C "__len__" f) (F : FnOk X.prog X.w X.K X.mg X.base CX0 k f fd ps sp) (hr : Room (k + 1) X.A) (hb : Binds X.K fd ps []) : CallR X (.builtin "len") (rLenO C sp) := by
  intro pins s σ H xs us Q I r h
  obtain ⟨a, dx, fs, rfl, ha, q⟩ := h
  obtain ⟨u, rfl, ru⟩ := vals1 r
  cases (show u = Value.ref a from ru)
  obtain ⟨mA, O, _⟩ := ins_get I.hok ha
  obtain ⟨od, J, _⟩ := O.look
  obtain ⟨m, hF⟩ := I.fr
  refine PySem.W.len_K hF I.ok.mod.kin J M.at_ M.fn (wpAny_mono (run_below (us := [.ref a]) (vs := [.ref a]) (A := X.A.in1) ⟨hr.in1, rfl⟩ F hb I (.cons rfl .nil) q) (fun w s' z => ?_) fun _ _ x => x)
  obtain ⟨z', H', I', rz, n, e, hn, qz⟩ := z
  subst e
  obtain ⟨t, rfl⟩ := (show ∃ t, w = Value.int (n : Int) t from rz)
  have p63 : (1000000 : Int) < 2 ^ 63 := by decide
  exact ⟨⟨by omega, by omega⟩, .int n, H', I'.tok _, ⟨_, rfl⟩, qz⟩
end
section
variable {P : Program} {w : World} {K : PySem.W.Frag} {mg : Str → Option Value} {base : Heap}
/-- a def called in one state, its body's reading told of that state alone -/
theorem fn_at {x qual : Str} {st : Stmt} {f : Addr} {fd : FuncData} {N ps : List Str} {k : Nat} {A : Around} {outer : List Env} {s : Shared} {H : Hp} {args : Args} {us : List Value} {vs : List V} {Q : VK} {E : XK}
    (F : Fun K x qual st f fd) (S : FnScope N ps (defScope st)) (hr : Room (k + 1) A) (e0 : Env0 P w K mg base A outer s H) (hb : BindsTo s fd args (ps.zip us)) (r : Vals vs us) (hl : vs.length = ps.length)
    (hbody : ∀ cdv, Room k (A.deeper (envOfC qual (defScope st) s.heap.objs.size f cdv)) → ∃ t, PSs (cxOf CX0 P w K mg base N qual (defScope st) f cdv A outer s H E) (defBody st) t ∧ t { nx := fun _ H' => Q .non H', rt := Q } (start N vs) H) :
    codeAny (model P w) A (.call (.ref f) args) (CR CX0 outer P w H s Q E) s := by
  obtain ⟨oc, od, kV, doc, pm, an, cdv, ct, osl, rfl, lk, hcd⟩ := F.ex
  have bk : ∀ b o, base.get? b = some o → s.heap.get? b = some o := fun b o e => (e0.bs b o e).1
  have KX : K.In s.heap := e0.mod.kin.keeps bk
  have kinds : ∀ y ∈ ps.zip us, (defScope st).names.lookup y.1 = some .local ∨ ((defScope st).names.lookup y.1 = some .cell ∧ ((cellsFrom (s.heap.objs.size + 1) (defScope st).names []).lookup y.1).isSome = true) := by
    rintro ⟨n, v⟩ hy
    exact (S.par n (List.of_mem_zip hy).1).imp id fun q => ⟨q, PySem.W.cellsFrom_some _ _ _ (.inl q)⟩
  refine codeAny_call_function hr.depth (KX _ _ lk) rfl S.co S.gen rfl (PySem.W.codeRec_of KX hcd) (hb _ _ _ _ (wpAny_newFunctionEnv_cells S.kind kinds fun env he s1 y => ?_))
  subst he
  refine ⟨(e0.mod.nolimit.keeps bk).keeps y.toInCall.keep, codeAny_func ?_⟩
  obtain ⟨t, ht, hq⟩ := hbody cdv (hr.deeper _)
  have I := inv_start (CX := CX0) (P := P) (w := w) (K := K) (mg := mg) (base := base) (E := E) S hr.hd e0 hl r y
  refine wpAny_mono (ht.run [] s1 (start N vs) H _ I hq) (fun fl s' hs => ?_) fun _ _ z => z
  cases fl with
  | ret u =>
    obtain ⟨v, _, H', J, rv, q⟩ := hs
    exact ⟨v, H', J.os, J.bare, J.base, J.hok, rv, q⟩
  | next =>
    obtain ⟨_, H', J, q⟩ := hs
    exact ⟨V.non, H', J.os, J.bare, J.base, J.hok, rfl, q⟩
  | brk => exact False.elim hs.choose_spec.choose_spec.2
  | cont => exact False.elim hs.choose_spec.choose_spec.2
end
end Z
namespace Z
open PySem PySem.Spec PyProof.Rows L2
open ItX (dropH dropH_upd inv_drop inv_fp)
/-- the def at f gives, of an instance of C whose field fl holds a tuple, a young iterator of it -/
def IterOk (P : Program) (w : World) (K : PySem.W.Frag) (mg : Str → Option Value) (base : Heap) (k : Nat) (f C : Addr) (fl : Str) : Prop :=
  ∀ (A : Around) (outer : List Env) (s : Shared) (H : Hp) (a : Addr) (Q : VK), Room k A → Env0 P w K mg base A outer s H →
    (∃ dx fs t zs, H a = some (.ins C dx fs) ∧ fs.lookup fl = some (.ref t) ∧ SqT K H t zs ∧ ∀ it, H it = none → s.heap.objs.size ≤ it → Q (.ref it) (L2.upd H it (ItTup t it 0))) →
    codeAny (model P w) A (.call (.ref f) ⟨[.ref a], []⟩) (CR CX0 outer P w H s Q E0) s
def iOwn (K : PySem.W.Frag) (C : Addr) (fl : Str) (te : TE) : TI := fun σ H R => te σ H fun x H1 => ∃ a dx fs t zs, x = .ref a ∧ H1 a = some (.ins C dx fs) ∧ fs.lookup fl = some (.ref t) ∧ SqT K H1 t zs ∧ R (Itt K t) H1
section
variable {prog : Program} {w : World} {A : Around} {E : Value → Shared → Prop} {s : Shared} {K : PySem.W.Frag} {x C f : Addr} {ox : Obj} {od : Option Obj}
theorem iter_own {Q : Value → Shared → Prop} (X : K.In s.heap) (I : PySem.W.InstAt s.heap x ox C od) (hs : PySem.W.findIn K (.ref C) "__iter__" = some (some (.ref f))) (hf : PySem.W.isFn K (.ref f) = true)
    (h : wpAny (model prog w) A (call (.ref f) [.ref x]) (fun v s' => (∃ t it i, v = .ref it ∧ s'.heap.IsTupleIter it t i) ∧ Q v s') E s) : wpAny (model prog w) A (pyIter (.ref x)) Q E s := by
  have look : ∀ {R : Option Value → Shared → Prop}, R (some (.ref f)) s → wpAny (model prog w) A (specialOf (.ref x) (Str.ofString "__iter__")) R E s := fun q => wpAny_bind (I.type.here ((PySem.W.looks_findIn X hs).here q))
  have go : wpAny (model prog w) A (call (.ref f) [.ref x] >>= fun v => pure (some v)) (fun r s' => ∃ v, r = some v ∧ (∃ t it i, v = .ref it ∧ s'.heap.IsTupleIter it t i) ∧ Q v s') E s :=
    wpAny_bind (wpAny_mono h (fun v s' z => wpAny_pure ⟨v, rfl, z⟩) fun _ _ z => z)
  unfold pyIter
  refine wpAny_bind (look ?_)
  dsimp only
  refine wpAny_bind (wpAny_mono (Q := fun r s' => ∃ v, r = some v ∧ (∃ t it i, v = .ref it ∧ s'.heap.IsTupleIter it t i) ∧ Q v s') ?_ (fun r s' z => ?_) fun _ _ z => z)
  · simp only [callSpecialIfBoundUnlessNone?, bindSpecialIfBound?]
    refine wpAny_holding (wpAny_bind (wpAny_bind (look ?_)))
    refine wpAny_bind (wpAny_askSetting (wpAny_ite ?_))
    split
    · exact wpAny_bind ((PySem.W.bind_fn X _ (beq_iff_eq.mp hf)).here (wpAny_pure (by exact go)))
    · exact wpAny_tryCatch (wpAny_bind ((PySem.W.bind_fn X _ (beq_iff_eq.mp hf)).here (wpAny_pure (by exact go))))
  · obtain ⟨v, rfl, ⟨t, it, i, rfl, hi⟩, q⟩ := z
    exact wpAny_bind (wpAny_specialOf hi.typeIs PySem.F.slot_tuple_iterator_next.lookup (wpAny_pure q))
end
section
variable {X : Cx} {k : Nat} {C f : Addr} {fl : Str} {te : TE} {tg e : Expr}
theorem pi_own (M : Meth X.K C "__iter__" f) (F : IterOk X.prog X.w X.K X.mg X.base k f C fl) (hr : Room k X.A) (he : PE X e te) : PI X tg e (iOwn X.K C fl te) := by
  refine ⟨fun pins s σ H R I h => ?_⟩
  refine thn (he.run pins s σ H _ I h) fun v s1 hv => ?_
  obtain ⟨y, H1, I1, r1, a, dx, fs, t, zs, rfl, ha, hl, ht, q⟩ := hv
  cases (show v = Value.ref a from r1)
  obtain ⟨mA, O, _⟩ := ins_get I1.hok ha
  obtain ⟨od, J, _⟩ := O.look
  refine iter_own I1.kIn J M.at_ M.fn (wpAny_call (codeAny_mono (F X.A X.stack s1 H1 a (fun v H' => ∃ it, v = .ref it ∧ H1 it = none ∧ s1.heap.objs.size ≤ it ∧ H' = L2.upd H1 it (ItTup t it 0)) hr I1.env0
    ⟨dx, fs, t, zs, ha, hl, ht, fun it n1 n2 => ⟨it, rfl, n1, n2, rfl⟩⟩) fun r s' hq => ?_))
  cases r with
  | error e => exact hq.elim
  | ok fl =>
    cases fl with
    | next => exact False.elim hq
    | brk => exact False.elim hq
    | cont => exact False.elim hq
    | ret u =>
      obtain ⟨v, H', I2, rv, it, rfl, n1, n2, rfl⟩ := I1.after hq
      cases (show u = Value.ref it from rv)
      have hi : L2.upd H1 it (ItTup t it 0) it = some (ItTup t it 0) := upd_same
      have st := itTup_get I2.hok hi
      refine ⟨⟨t, it, 0, rfl, st⟩, it, [it], _, _, dropH (L2.upd H1 it (ItTup t it 0)) it, rfl, inv_drop I2 hi, turn_tuple t it, st, fun b hb => ?_, ?_⟩
      · have e : b = it := by simpa using hb
        rw [e]
        exact inv_fp I2 hi (Nat.le_trans I1.sz n2)
      · rw [dropH_upd n1]
        exact q
end
section
variable {K : PySem.W.Frag} {σ : L2.St} {H : Hp} {Q : VK} {D : Ends} {te : TE} {tt : TT} {a C dx t : Addr} {fs : List (Str × V)} {fl : Str} {zs : List V}
def owR (K : PySem.W.Frag) (C : Addr) (fl : Str) (R : It → Hp → Prop) : VK := fun x H1 => ∃ a dx fs t zs, x = .ref a ∧ H1 a = some (.ins C dx fs) ∧ fs.lookup fl = some (.ref t) ∧ SqT K H1 t zs ∧ R (Itt K t) H1
def forOR (g : TG) (tb : TS) (D : Ends) (σ : L2.St) : It → Hp → Prop := fun J H1 => ∃ W : Nat → Nat → L2.St → Hp → Prop, (∃ m, W 0 m σ H1) ∧ ∀ i m σ H, W i m σ H →
  ((J.stop i H ∧ D.nx σ H) ∨ (J.go i H ∧ ∃ N : L2.St → Hp → Prop, (∀ σ' H', N σ' H' → ∃ m', m' < m ∧ W (i + 1) m' σ' H') ∧ ∀ x H', J.yld i H x H' → g x σ H' fun σ2 H2 => tb { D with nx := N, ct := N, bk := D.nx } σ2 H2))
theorem r_forO {g : TG} {tb : TS} (h : te σ H (owR K C fl (forOR g tb D σ))) : tFor (iOwn K C fl te) g tb D σ H := h
theorem r_forO_by {g : TG} {tb : TS} (ha : H a = some (.ins C dx fs)) (hf : fs.lookup fl = some (.ref t)) (hs : SqT K H t zs) (Pv : Nat → L2.St → Hp → Prop) (h0 : Pv 0 σ H) (hl : ∀ i σ' H', Pv i σ' H' → SqT K H' t zs)
    (ht : ∀ i x σ' H', zs[i]? = some x → Pv i σ' H' → g x σ' H' fun σ2 H2 => tb { D with nx := Pv (i + 1), ct := Pv (i + 1), bk := D.nx } σ2 H2) (hd : ∀ σ' H', Pv zs.length σ' H' → D.nx σ' H') : owR K C fl (forOR g tb D σ) (.ref a) H :=
  ⟨a, dx, fs, t, zs, rfl, ha, hf, hs, for_tup (xs := zs) Pv h0 (fun i σ' H' _ p => hl i σ' H' p) ht hd⟩
def lcOR (k : Nat) (tt : TT) (te' : TE) (vs : List Nat) (σ : L2.St) (Q : VK) : It → Hp → Prop := fun J H1 => ∀ D, H1 D = none → ∃ W : Nat → Nat → Hp → Prop, (∃ m, W 0 m (L2.upd H1 D (.lst []))) ∧ ∀ i m H, W i m H →
  (J.stop i H ∧ Q (.ref D) H) ∨ (J.go i H ∧ ∃ Nx : Hp → Prop, (∀ H', Nx H' → ∃ m', m' < m ∧ W (i + 1) m' H') ∧ ∀ x H', J.yld i H x H' → gName k x (wipe σ vs) H' fun σ2 H2 => wipe σ2 vs = wipe σ vs ∧ tt σ2 H2 fun b H3 =>
    if b = true then te' σ2 H3 fun y H4 => ∃ acc, H4 D = some (.lst acc) ∧ acc.length < sizeLine ∧ Nx (L2.upd H4 D (.lst (acc ++ [y]))) else Nx H3)
theorem r_lcO0 {k : Nat} {vs : List Nat} {te' : TE} (h : te σ H (owR K C fl (lcOR k tt te' vs σ Q))) : tLc (iOwn K C fl te) (gName k) tt te' vs σ H Q := h
theorem r_lcO {k : Nat} {vs : List Nat} {te' : TE} (ha : H a = some (.ins C dx fs)) (hf : fs.lookup fl = some (.ref t)) (hx : SqT K H t zs) (hw : ∀ x, wipe ((wipe σ vs).set k (some x)) vs = wipe σ vs) (Pv : Addr → Nat → Hp → Prop)
    (hs : ∀ Dl H1, H Dl = none → Same H H1 → H1 Dl = some (.lst []) → Pv Dl 0 H1) (hl : ∀ Dl i H', H Dl = none → Pv Dl i H' → SqT K H' t zs)
    (ht : ∀ Dl (i : Nat) x H', H Dl = none → zs[i]? = some x → Pv Dl i H' → tt ((wipe σ vs).set k (some x)) H' fun b H3 => if b = true then te' ((wipe σ vs).set k (some x)) H3 (apR Dl (Pv Dl (i + 1))) else Pv Dl (i + 1) H3)
    (hd : ∀ Dl H', H Dl = none → Pv Dl zs.length H' → Q (.ref Dl) H') : owR K C fl (lcOR k tt te' vs σ Q) (.ref a) H :=
  ⟨a, dx, fs, t, zs, rfl, ha, hf, hx, fun Dl hD => lc_tup (xs := zs) (tt := tt) (Pv Dl) (hs Dl _ hD (same_upd hD) upd_same) (fun i H' _ p => hl Dl i H' hD p) (fun i x H' hi p => ⟨hw _, ht Dl i x H' hD hi p⟩) fun H' p => hd Dl H' hD p⟩
theorem r_iterT {n : Nat} (hs : SqT K H t zs) (h : ∀ it, H it = none → n ≤ it → Q (.ref it) (L2.upd H it (ItTup t it 0))) : rIterT K n [.ref t] H Q := ⟨t, zs, rfl, hs, h⟩
theorem r_lenO {sp : Sp} (e : H a = some (.ins C dx fs)) (h : sp ([.ref a] ++ []) H (inB Q) E0) : rLenO C sp [.ref a] H Q := ⟨a, dx, fs, rfl, e, h⟩
theorem r_inB {n : Nat} (l : n ≤ 1000000) (h : Q (.int n) H) : inB Q (.int n) H := ⟨n, rfl, l, h⟩
end
end Z
local macro_rules | `(tactic| walk_at "call") => `(tactic| first
  | with_reducible refine Z.r_forO ?_
  | with_reducible refine Z.r_lcO0 ?_
  | ((with_reducible refine' Z.r_lenO ?e ?_); (case e => walk_at "hp")))
namespace Z
open PySem PySem.Spec PyProof.Rows L2
theorem fn_in {K : PySem.W.Frag} {x qual : Str} {st : Stmt} {f : Addr} {fd : FuncData} (F : Fun K x qual st f fd) : PySem.W.fnIn K f = true := by
  obtain ⟨oc, od, kV, doc, pm, an, cdv, ct, osl, rfl, lk, hcd⟩ := F.ex
  unfold PySem.W.fnIn
  rw [lk]
section
variable {X : Cx} {k : Nat} {C f : Addr} {fd : FuncData} {ps : List Str} {sp : Sp} {a b : Expr} {ta tb : TE} {pos : Pos}
/-- o[i], o an instance whose __getitem__ keeps sp -/
def rIxO (C : Addr) (sp : Sp) : R2 := fun x y H Q => ∃ a dx fs, x = .ref a ∧ H a = some (.ins C dx fs) ∧ sp ([x, y] ++ []) H Q E0
theorem pe_ixO (M : Meth X.K C "__getitem__" f) (hfn : PySem.W.fnIn X.K f = true) (F : FnOk X.prog X.w X.K X.mg X.base CX0 k f fd ps sp) (hr : Room (k + 1) X.A) (hb : Binds X.K fd ps []) (ha : PE X a ta) (hb' : PE X b tb)
    (hs : ∀ x i, subscripted b true (.ref x) i = runValue (.builtin "lifetime.subscript" ⟨[.ref x, i], []⟩) := by intro _ _; with_unfolding_all rfl) : PE X (.Subscript a b pos) (tOp (rIxO C sp) ta tb) := by
  refine ⟨fun pins s σ H Q I h => ?_⟩
  refine Subscript_ (binT ha hb' I h fun v u s2 x y H2 I2 rx ry q => ?_)
  obtain ⟨c, dx, fs, rfl, hc, q⟩ := q
  cases (show v = Value.ref c from rx)
  obtain ⟨mA, O, _⟩ := ins_get I2.hok hc
  obtain ⟨od, J, _⟩ := O.look
  obtain ⟨m, hF⟩ := I2.fr
  refine PySem.W.sub_K hF I2.ok.mod.kin J M.at_ hfn M.fn ?_ (hs c u)
  exact run_below (us := [.ref c, u]) (vs := [.ref c, y]) (A := X.A.in1) ⟨hr.in1, rfl⟩ F hb I2 (.cons rfl (.cons ry .nil)) q
end
section
variable {H : Hp} {Q : VK} {y : V} {a C dx : Addr} {fs : List (Str × V)} {sp : Sp}
theorem r_ixO (e : H a = some (.ins C dx fs)) (h : sp ([.ref a, y] ++ []) H Q E0) : rIxO C sp (.ref a) y H Q := ⟨a, dx, fs, rfl, e, h⟩
end
end Z
namespace Z
open PySem PySem.Spec PyProof.Rows L2
section
variable {X : Cx} {CX : CXT} {k i : Nat} {C f p g : Addr} {fd : FuncData} {ps : List Str} {ds : List Value} {dvs : List V} {sp : Sp} {E : XK} {x m : Str} {e o : Expr} {es : List Expr} {t : TA} {ta : TE} {q pos apos : Pos} {mc : Value} {pl : Sem Bool}
/-- v(e, ..), v a local that holds the class at C -/
def tMakeV (i : Nat) (C : Addr) (sp : Sp) (dvs : List V) (E : XK) (t : TA) : TE := fun σ H Q => σ[i]? = some (some (.ref C)) ∧ tMake C sp dvs E t σ H Q
theorem pe_makeV (M : Mk X.K C f) (F : FnOk X.prog X.w X.K X.mg X.base CX k f fd ps sp) (hr : Room (k + 1) X.A) (hb : Binds X.K fd ps ds) (hd : Vals dvs ds) (hx : Passes CX X E) (hN : X.N[i]? = some x) (hv : Vis X.env.scope x) (ha : PA X (e :: es) t)
    (hdb : (x == ("__debug__" : Str)) = false := by decide) (hcd : (x == ("__classdict__" : Str)) = false := by decide) (he : starEach (e :: es) X.env = (false, eval e X.env) :: starEach es X.env := by rfl) (hpl : (backTo pos (starEach es X.env)).any (·.1) = false := by rfl) :
    PE X (.Call (.Name x q) (e :: es) [] pos) (tMakeV i C sp dvs E t) := by
  refine ⟨fun pins s σ H Q I ⟨hs, h⟩ => ?_⟩
  refine wpAny_Call_Name_kw (thn ((pe_var (pos := q) (i := i) hN hv hdb hcd).run pins s σ H (fun v H1 => v = .ref C ∧ H1 = H) I ⟨.ref C, hs, rfl, rfl⟩) fun u s1 ⟨v, H1, I1, r1, ev, eH⟩ => ?_)
  subst ev eH
  cases r1
  exact PySem.W.callWith_K (h₀ := X.base) I1.ok.mod.kin M.kp (thn (ha.run pos pins s1 σ _ _ I1 h) fun us s2 ⟨vs, H2, I2, r, q⟩ => ⟨I2.kIn, run_make M F hr hb hd hx I2 r q⟩) he hpl
/-- C.m(), m a classmethod -/
def tCMeth0 (C : Addr) (sp : Sp) (E : XK) (ta : TE) : TE := fun σ H Q => ta σ H fun x H1 => x = .ref C ∧ sp [.ref C] H1 Q E
theorem pe_cmeth0 (he : PE X o ta) (r : ClX.CRead X.K C mc) (c : ClX.CMet X.K C mc m p g) (F : FnR X.prog X.w X.K X.mg X.base CX k g sp) (hr : Room k X.A) (hx : Passes CX X E)
    (ht : eval (.Call (.Attribute o m apos) [] [] pos) X.env = (do
      let ov ← eval o X.env
      standAt apos.atName
      let (f, first) ← holding [ov] (getMethod ov m pl)
      callWith pos f first (backTo pos (starEach [] X.env)) (backToKw pos (keywordEach [] X.env))) := by rfl) :
    PE X (.Call (.Attribute o m apos) [] [] pos) (tCMeth0 C sp E ta) := by
  refine ⟨fun pins s σ H Q I h => ?_⟩
  refine PySem.W.methodCall_KW (pl := pl) (thn (he.run pins s σ H _ I h) fun u s1 ⟨x, H1, I1, rx, ex, q⟩ => ?_) ht
  subst ex
  obtain rfl : u = Value.ref C := rx
  refine ClX.getmethcm_ok I1 r c fun s2 I2 => ?_
  exact PySem.W.callWith_M0 ⟨ClX.pin_at I2, I2.kIn⟩ c.fi (ClX.run_cm (us := []) (vs := []) F hr hx I2 .nil q)
end
section
variable {K : PySem.W.Frag} {σ : L2.St} {H : Hp} {Q : VK} {i : Nat} {C : Addr} {sp : Sp} {dvs : List V} {E : XK} {t : TA} {ta : TE}
theorem r_makeV (e : σ[i]? = some (some (.ref C))) (h : tMake C sp dvs E t σ H Q) : tMakeV i C sp dvs E t σ H Q := ⟨e, h⟩
theorem r_cmeth (h : ta σ H fun x H1 => x = .ref C ∧ t σ H1 fun vs H2 => sp (.ref C :: vs) H2 Q E) : ClX.tCMeth C sp E ta t σ H Q := h
theorem r_cmeth0 (h : ta σ H fun x H1 => x = .ref C ∧ sp [.ref C] H1 Q E) : tCMeth0 C sp E ta σ H Q := h
theorem r_eqAnd {P : Prop} {x : V} (h : P) : x = x ∧ P := ⟨rfl, h⟩
/-- sep.join(a list of texts) -/
def jnR (K : PySem.W.Frag) (x : V) (xs : List V) (H : Hp) (Q : VK) : Prop := ∃ a p, ∃ ys : List Str, x = .str a ∧ xs = [.ref p] ∧ (SqL K H p (ys.map V.str) ∨ SqT K H p (ys.map V.str)) ∧ (ys.map (·.length)).sum + ys.length * a.length ≤ 16777216 ∧ Q (.str (Txt.join a ys)) H
end
end Z
local macro_rules | `(tactic| walk_at "call") => `(tactic| first
  | ((with_reducible refine' Z.r_makeV ?e ?_); (case e => exact rfl))
  | with_reducible refine Z.r_cmeth ?_
  | with_reducible refine Z.r_cmeth0 ?_
  | with_reducible refine Z.r_eqAnd ?_)

local macro_rules | `(tactic| walk_at "call") => `(tactic| first
  | with_reducible refine Z.r_xst ?_
  | with_reducible refine Z.r_xv ?_
  | with_reducible refine Z.r_exv ?_)
/-- the promise of an __init__ that stores its one argument -/
def sp_ex (C : Addr) (fl : Str) : Sp := fun vs H Q _ => ∃ a y, vs = [.ref a, y] ∧ H a = some (exo a C none) ∧ ∀ dx H1, H dx = none → Z.But a H H1 → H1 a = some (exo a C (some dx)) → H1 dx = some (exd dx [(fl, y)]) → Q .non H1
theorem k_ex {C : Addr} {fl : Str} {y : V} {H : Hp} {Q : VK} (h : ∀ a d H1, H a = none → H d = none → Same H H1 → H1 a = some (exo a C (some d)) → H1 d = some (exd d [(fl, y)]) → Q (.ref a) H1) : Z.exI C (sp_ex C fl) [y] H Q := by
  refine ⟨Nat.le_of_ble_eq_true rfl, fun a na => ⟨a, y, rfl, upd_same, fun dx H1 n b h1 h2 => ⟨rfl, ?_⟩⟩⟩
  have ne : dx ≠ a := fun e => by
    rw [e, upd_same] at n; cases n
  rw [upd_ne ne] at n
  exact h a dx H1 na n (Z.But.back (Z.same_upd na) na b) h1 h2
theorem k_exR {C : Addr} {fl : Str} {y : V} {H : Hp} {M : XK} (h : ∀ d H', H d = none → Same H H' → H' d = some (.xd [(fl, y)]) → M (.ref C) (some d) H') : ([y] : List V).length ≤ 1000 ∧ ∀ a, H a = none → sp_ex C fl (.ref a :: [y]) (L2.upd H a (exo a C none))
    (fun v H2 => v = .non ∧ ∃ (d : Addr) (fs : List (Str × V)), H2 a = some (exo a C (some d)) ∧ H2 d = some (exd d fs) ∧ H d = none ∧ M (.ref C) (some d) (L2.upd (L2.del H2 a) d (.xd fs))) E0 := by
  refine ⟨Nat.le_of_ble_eq_true rfl, fun a na => ⟨a, y, rfl, upd_same, fun dx H1 n b h1 h2 => ⟨rfl, dx, _, h1, h2, ?_⟩⟩⟩
  have ne : dx ≠ a := fun e => by
    rw [e, upd_same] at n; cases n
  rw [upd_ne ne] at n
  refine ⟨n, h dx _ n (fun c o q => ?_) upd_same⟩
  rw [upd_ne (ne_of_none q n), L2.del_ne (ne_of_none q na)]
  exact b c o (ne_of_none q na) (by rw [upd_ne (ne_of_none q na)]; exact q)

namespace Z
open PySem PySem.Spec PyProof.Rows L2
/-! such exceptions raised, caught, looked at -/
theorem passAt0 {X : Cx} {E : L2.St → XK} (σ : L2.St) : PassesAt CX0 X σ (E σ) := fun _ _ _ _ _ _ h => h.elim
/-- C(e, ..) behind raise -/
def tMkX (C : Addr) (sp : Sp) (t : TA) : L2.St → Hp → XK → Prop := fun σ H Q => t σ H fun vs H1 => vs.length ≤ 1000 ∧ ∀ a, H1 a = none → sp (.ref a :: vs) (L2.upd H1 a (exo a C none))
  (fun v H2 => v = .non ∧ ∃ (d : Addr) (fs : List (Str × V)), H2 a = some (exo a C (some d)) ∧ H2 d = some (exd d fs) ∧ H1 d = none ∧ Q (.ref C) (some d) (L2.upd (L2.del H2 a) d (.xd fs))) E0
section
variable {X : Cx} {e : Expr} {es : List Expr} {ta : TA} {x : Str} {p pos : Pos} {k : Nat} {C f : Addr} {fd : FuncData} {ps : List Str} {sp : Sp}
theorem pmk_exf (T : ExF X.K C f) (F : FnOk X.prog X.w X.K X.mg X.base CX0 k f fd ps sp) (hr : Room (k + 1) X.A) (hg : Gl X x) (hm : X.mg x = some (.ref C)) (hb : Binds X.K fd ps []) (ha : PA X (e :: es) ta)
    (hdb : (x == ("__debug__" : Str)) = false := by decide) (he : starEach (e :: es) X.env = (false, eval e X.env) :: starEach es X.env := by rfl) (hpl : (backTo pos (starEach es X.env)).any (·.1) = false := by rfl) :
    PMk X (.Call (.Name x p) (e :: es) [] pos) (tMkX C sp ta) := by
  intro pins s σ H Q I h
  refine wpAny_Call_Name_kw (ld_glob I hg hm ?_ hdb)
  refine PySem.W.callWith_K (h₀ := X.base) I.ok.mod.kin T.kp (thn (ha.run pos pins s σ H _ I h) fun us s1 z => ?_) he hpl
  obtain ⟨vs, H1, I1, r1, hz, q1⟩ := z
  refine ⟨I1.kIn, ?_⟩
  obtain ⟨B, newId, initId, bmB, FB, hin⟩ := T.mk_
  obtain ⟨nm, N, qn, bs, bm, hdct, sn, sub, ab, col, dd, k0, k1, k2, k3, k5, hC, hT⟩ := PySem.W.excInit_of I1.kIn hin
  show wpAny _ _ (call (.ref C) us) _ _ _
  obtain ⟨hp, g, dr, tk, os⟩ := s1
  have up : hp.objs.size ≤ hp.objs.size + 1 := Nat.le_succ _
  have hq := q1 (hp.objs.size + 1) (I1.hok.fresh up)
  have keep : ∀ b o, hp.get? b = some o → ((hp.push (PySem.W.kdv_tup us)).push (PySem.HandSPX.excO C hp.objs.size)).get? b = some o := fun b o z => Heap.get?_push_of_some _ (Heap.get?_push_of_some _ z)
  have there : ((hp.push (PySem.W.kdv_tup us)).push (PySem.HandSPX.excO C hp.objs.size)).get? (hp.objs.size + 1) = some (PySem.HandSPX.excO C hp.objs.size) := by heap_get
  have I2 : Inv X pins σ (L2.upd H1 (hp.objs.size + 1) (exo (hp.objs.size + 1) C none)) ⟨(hp.push (PySem.W.kdv_tup us)).push (PySem.HandSPX.excO C hp.objs.size), g, dr, tk, os⟩ := I1.laid (t' := tk) keep up (exo_ok there)
  have r2 : Vals (V.ref (hp.objs.size + 1) :: vs) (Value.ref (hp.objs.size + 1) :: us) := .cons rfl r1
  have lus : us.length ≤ sizeLine := by
    rw [← Paired.length r1, sizeLine_eq]; omega
  have lps : (Value.ref (hp.objs.size + 1) :: us ++ []).length = ps.length := by
    have z := r2.length
    rw [F.len _ _ _ _ hq] at z
    rw [List.append_nil]; exact z.symm
  refine wpAny_call (PySem.HandSPX.call_own FB hT hC (PySem.W.looks_findIn I1.kIn T.ini) (fun self => PySem.W.bind_fn I1.kIn self (beq_iff_eq.mp T.fn)) lus
    (codeAny_mono (F.run _ X.stack _ _ ⟨Value.ref (hp.objs.size + 1) :: us, []⟩ (Value.ref (hp.objs.size + 1) :: us) _ _ E0 (hr.make C us []) (I2.env0.make C us []) (by
      have z := hb _ (Value.ref (hp.objs.size + 1) :: us) I2.kIn lps
      rw [List.append_nil] at z
      exact z) r2 hq) fun r s' z => ?_))
  cases r with
  | error x => exact z.elim
  | ok fl =>
    cases fl with
    | next => exact False.elim z
    | brk => exact False.elim z
    | cont => exact False.elim z
    | ret u =>
      obtain ⟨v, H2, os2, bare2, un2, hok2, rv, ev, d, fs, ea, ed, hd1, q2⟩ := z
      subst ev
      obtain ⟨h2, g2, d2, t2, os'⟩ := s'
      exact ⟨rv, L2.mk_end (raises_own T.sb T.ty) I1 up keep un2 hok2 os2 bare2 ea ed hd1 q2⟩
end
section
variable {X : Cx} {CX' : CXT} {pins : List (Addr × Obj)} {σ : L2.St} {H : Hp} {s : Shared} {k : Nat} {f : Addr} {fd : FuncData} {ps : List Str} {sp : Sp} {Q : VK} {us : List Value} {vs : List V} {E : XK}
/-- a def asked from within a built-in, which may let exceptions out -/
theorem run_belowX {A : Around} (sb : Sub X k A) (F : FnOk X.prog X.w X.K X.mg X.base CX' k f fd ps sp) (hb : Binds X.K fd ps []) (hx : PassesAt CX' X σ E) (I : Inv X pins σ H s) (r : Vals vs us) (h : sp vs H Q E) :
    wpAny (model X.prog X.w) A (call (.ref f) us) (EP X pins σ Q) X.xe s := by
  have e0 : Env0 X.prog X.w X.K X.mg X.base A X.stack s H := by
    have e := I.env0
    exact ⟨by rw [sb.fr]; exact e.frames, e.mod, e.bs, e.bsz, e.funs, e.frf, e.hok, e.bare⟩
  have hl : us.length = ps.length := by rw [← r.length]; exact F.len _ _ _ _ h
  refine wpAny_call (codeAny_mono (F.run A X.stack s H ⟨us, []⟩ us vs Q E sb.room e0 (by simpa using hb s us I.kIn (by simpa using hl)) r h) fun r s' z => ?_)
  cases r with
  | error e => exact hx pins H s e s' I z
  | ok fl =>
    cases fl with
    | ret u => exact I.after z
    | next => exact False.elim z
    | brk => exact False.elim z
    | cont => exact False.elim z
end
section
variable {X : Cx} {CX' : CXT} {k : Nat} {C f : Addr} {fd : FuncData} {ps : List Str} {sp : Sp} {a b : Expr} {ta tb : TE} {pos : Pos} {E : L2.St → XK}
/-- o[i] by an own __getitem__ that may raise -/
def tIxX (C : Addr) (sp : Sp) (E : L2.St → XK) (ta tb : TE) : TE := fun σ H Q => ta σ H fun x H1 => tb σ H1 fun y H2 => ∃ a dx fs, x = .ref a ∧ H2 a = some (.ins C dx fs) ∧ sp ([x, y] ++ []) H2 Q (E σ)
theorem pe_ixX (M : Meth X.K C "__getitem__" f) (hfn : PySem.W.fnIn X.K f = true) (F : FnOk X.prog X.w X.K X.mg X.base CX' k f fd ps sp) (hr : Room (k + 1) X.A) (hb : Binds X.K fd ps []) (hx : ∀ σ, PassesAt CX' X σ (E σ)) (ha : PE X a ta) (hb' : PE X b tb)
    (hs : ∀ x i, subscripted b true (.ref x) i = runValue (.builtin "lifetime.subscript" ⟨[.ref x, i], []⟩) := by intro _ _; with_unfolding_all rfl) : PE X (.Subscript a b pos) (tIxX C sp E ta tb) := by
  refine ⟨fun pins s σ H Q I h => ?_⟩
  refine Subscript_ (binT ha hb' I h fun v u s2 x y H2 I2 rx ry q => ?_)
  obtain ⟨c, dx, fs, rfl, hc, q⟩ := q
  cases (show v = Value.ref c from rx)
  obtain ⟨mA, O, _⟩ := ins_get I2.hok hc
  obtain ⟨od, J, _⟩ := O.look
  obtain ⟨m, hF⟩ := I2.fr
  refine PySem.W.sub_K hF I2.ok.mod.kin J M.at_ hfn M.fn ?_ (hs c u)
  exact run_belowX (us := [.ref c, u]) (vs := [.ref c, y]) (A := X.A.in1) ⟨hr.in1, rfl⟩ F hb (hx σ) I2 (.cons rfl (.cons ry .nil)) q
def tAddX (C : Addr) (sp : Sp) (E : L2.St → XK) (ta tb : TE) : TE := fun σ H Q => ta σ H fun x H1 => tb σ H1 fun y H2 => ∃ a dx fs b dy gs, x = .ref a ∧ H2 a = some (.ins C dx fs) ∧ y = .ref b ∧ H2 b = some (.ins C dy gs) ∧
  sp ([x, y] ++ []) H2 (fun v H' => (∃ p, v = .ref p) ∧ Q v H') (E σ)
theorem pe_addX (B : AddF X.K C f) (F : FnOk X.prog X.w X.K X.mg X.base CX' k f fd ps sp) (hr : Room k X.A) (hb : Binds X.K fd ps []) (hx : ∀ σ, PassesAt CX' X σ (E σ)) (ha : PE X a ta) (hb' : PE X b tb) : PE X (.BinOp a .Add b pos) (tAddX C sp E ta tb) := by
  refine ⟨fun pins s σ H Q I h => ?_⟩
  refine wpAny_BinOp (binT ha hb' I h fun v u s2 x y H2 I2 rx ry q => ?_)
  obtain ⟨c, dx, fs, d, dy, gs, rfl, hc, rfl, hd, q⟩ := q
  cases (show v = Value.ref c from rx)
  cases (show u = Value.ref d from ry)
  obtain ⟨mA, O, _⟩ := ins_get I2.hok hc
  obtain ⟨od, J, _⟩ := O.look
  obtain ⟨mB, O', _⟩ := ins_get I2.hok hd
  obtain ⟨od', J', _⟩ := O'.look
  refine bin_of1 (op := .Add) (bin1_same I2.kIn J J' B.sf B.at_ B.fn (wpAny_mono (run_belowX (us := [.ref c, .ref d]) (vs := [.ref c, .ref d]) (A := X.A) ⟨hr, rfl⟩ F hb (hx σ) I2 (.cons rfl (.cons rfl .nil)) q) (fun w s' z => ?_) fun _ _ x => x))
  obtain ⟨z', H', I', rz, ⟨p, rfl⟩, qz⟩ := z
  exact SlX.cmpback rz ⟨_, H', I', rz, qz⟩
end
/-- isinstance(e, c), e caught, an exception with its dict -/
def rIsC (K : PySem.W.Frag) (a : Addr) (cls : Value) (d : Option Addr) : List V → Hp → VK → Prop := fun xs H Q => ∃ (C f dd : Addr) (fs : List (Str × V)) (c : V) (u : Value) (b : Bool), xs = [.ref a, c] ∧ cls = .ref C ∧ d = some dd ∧ ExF K C f ∧ H dd = some (.xd fs) ∧ ClsV c u ∧ PySem.W.kitOne K cls u = some b ∧ Q (.bl b) H
def rIsCT (K : PySem.W.Frag) (a : Addr) (cls : Value) (d : Option Addr) : List V → Hp → VK → Prop := fun xs H Q => ∃ (C f dd tp : Addr) (fs : List (Str × V)) (cs : List V) (us : List Value) (b : Bool), xs = [.ref a, .ref tp] ∧ cls = .ref C ∧ d = some dd ∧ ExF K C f ∧ H dd = some (.xd fs) ∧ H tp = some (.tup cs) ∧ Paired ClsV cs us ∧
  PySem.W.kitAny K cls us = some b ∧ Q (.bl b) H
section
variable {X : Cx} {K : PySem.W.Frag} {a : Addr} {oe : Obj} {cls : Value} {d : Option Addr} {pn : List (Addr × Obj)}
theorem caught_at {C : Addr} {dd : Addr} {fs : List (Str × V)} {pins : List (Addr × Obj)} {σ : L2.St} {H : Hp} {s : Shared} (hz : Zc cls d oe) (hf : ∃ vs, oe.data = .fields vs) (I : Inv (X.suite a ((a, oe) :: pn)) pins σ H s) (ec : cls = .ref C) (ed : d = some dd) (hd : H dd = some (.xd fs)) :
    ∃ od, PySem.W.InstAt s.heap a oe C (some od) := by
  subst ec ed
  obtain ⟨ha, _⟩ := I.pin (a, oe) (List.mem_append_left _ List.mem_cons_self)
  obtain ⟨vs, hv⟩ := hf
  have hx : ObjOk X.prog X.w H s.heap dd (.xd fs) := I.hok dd _ hd
  obtain ⟨mA, hns, hr⟩ := hx
  obtain ⟨od, ho, hl⟩ := lookIn_ns hns
  exact ⟨od, ha, hz.1, by unfold PySem.W.notCls; rw [hv] <;> rfl, by rw [hz.2]; exact ho⟩
theorem kitx {C f : Addr} (T : ExF K C f) {x : Addr} {ox : Obj} {od : Option Obj} : PySem.W.KitX K (.ref x) (.ref C) (fun h => PySem.W.InstAt h x ox C od) :=
  PySem.W.kitx_exc (by obtain ⟨cd, z, _⟩ := PySem.W.any_some T.hd; rw [z]; rfl) T.ga T.gt T.sb T.ca T.cn T.ct T.cm
theorem c_isC (eK : X.K = K) (hz : Zc cls d oe) (hf : ∃ vs, oe.data = .fields vs) : CallR (X.suite a ((a, oe) :: pn)) (.builtin "isinstance") (rIsC K a cls d) := by
  subst eK
  intro pins s σ H xs us Q I r h
  obtain ⟨C, f, dd, fs, c, u, b, rfl, rfl, ed, T, hd, k, ek, q⟩ := h
  obtain ⟨u1, u2, rfl, r1, r2⟩ := vals2 r
  cases (show u1 = Value.ref a from r1)
  have e2 := k.eq r2
  subst e2
  obtain ⟨od, J⟩ := caught_at hz hf I rfl ed hd
  exact PySem.W.kia_one (kitx T) I.kIn J ek (fun z => nomatch z) fun tk => ⟨.bl b, H, I.kept (t' := tk) fun _ _ z => z, rfl, q⟩
end
section
variable {K : PySem.W.Frag} {σ : L2.St} {H : Hp} {Q : VK} {ta tb te : TE} {t : TA} {sp : Sp} {C : Addr} {E : L2.St → XK} {x y : V} {a d : Addr} {dx : Addr} {fs : List (Str × V)}
theorem exm_self {f : Addr} (T : ExF K C f) : PySem.W.exmOne K (.ref C) (.ref C) = some true := PySem.W.exm_ref T.sb T.hd T.ty T.ss
theorem r_mkX {M : XK} (h : t σ H fun vs H1 => vs.length ≤ 1000 ∧ ∀ a, H1 a = none → sp (.ref a :: vs) (L2.upd H1 a (exo a C none))
  (fun v H2 => v = .non ∧ ∃ (d : Addr) (fs : List (Str × V)), H2 a = some (exo a C (some d)) ∧ H2 d = some (exd d fs) ∧ H1 d = none ∧ M (.ref C) (some d) (L2.upd (L2.del H2 a) d (.xd fs))) E0) : tMkX C sp t σ H M := h
theorem r_ixX (h : ta σ H fun x H1 => tb σ H1 fun y H2 => ∃ a dx fs, x = .ref a ∧ H2 a = some (.ins C dx fs) ∧ sp ([x, y] ++ []) H2 Q (E σ)) : tIxX C sp E ta tb σ H Q := h
theorem r_addX (h : ta σ H fun x H1 => tb σ H1 fun y H2 => ∃ a dx fs b dy gs, x = .ref a ∧ H2 a = some (.ins C dx fs) ∧ y = .ref b ∧ H2 b = some (.ins C dy gs) ∧ sp ([x, y] ++ []) H2 (fun v H' => (∃ p, v = .ref p) ∧ Q v H') (E σ)) : tAddX C sp E ta tb σ H Q := h
end
end Z

namespace Z
open PySem PySem.Spec PyProof.Rows L2
section
variable {X : Cx} {K : PySem.W.Frag} {a : Addr} {oe : Obj} {cls : Value} {d : Option Addr} {pn : List (Addr × Obj)}
theorem c_isCT (eK : X.K = K) (hz : Zc cls d oe) (hf : ∃ vs, oe.data = .fields vs) : CallR (X.suite a ((a, oe) :: pn)) (.builtin "isinstance") (rIsCT K a cls d) := by
  subst eK
  intro pins s σ H xs us Q I r h
  obtain ⟨C, f, dd, tp, fs, cs, ws, b, rfl, rfl, ed, T, hd, hT, k, ek, q⟩ := h
  obtain ⟨u1, u2, rfl, r1, r2⟩ := vals2 r
  cases (show u1 = Value.ref a from r1)
  cases (show u2 = Value.ref tp from r2)
  obtain ⟨_, its, rv, o, h1, h2, n, h3⟩ := (show ObjOk X.prog X.w H s.heap tp (.tup cs) from I.hok tp _ hT)
  have e3 := ClsV.all k rv
  subst e3
  obtain ⟨oc, od', dt, sl⟩ := o
  simp only at h2 h3
  subst h2 h3
  obtain ⟨od, J⟩ := caught_at hz hf I rfl ed hd
  exact PySem.W.kia_tup (kitx T) I.kIn J h1 ek (fun z => nomatch z) fun tk => ⟨.bl b, H, I.tok tk, rfl, q⟩
/-- xs != [] -/
def rNeNil (K : PySem.W.Frag) : R2 := fun x y H Q => rNeD K x y H Q ∨ ∃ p q xs, x = .ref p ∧ H p = some (.lst xs) ∧ xs ≠ [] ∧ y = .ref q ∧ H q = some (.lst []) ∧ Q (.bl true) H
theorem o_neNil (hu : X.A.units < cLine) (h0 : OpR X (compareOp .NotEq) (rNeD X.K)) : OpR X (compareOp .NotEq) (rNeNil X.K) := by
  intro pins s σ H x y v u Q I rx ry h
  rcases h with h | ⟨p, q, xs, rfl, hp, hx, rfl, hq, qq⟩
  · exact h0 pins s σ H x y v u Q I rx ry h
  · cases (show v = Value.ref p from rx)
    cases (show u = Value.ref q from ry)
    obtain ⟨its, r, pl, _⟩ := I.list (SqL.of hp)
    obtain ⟨its2, r2, pl2, _⟩ := I.list (SqL.of hq)
    have l1 := r.length
    have l2 := r2.length
    refine (PySem.SeqAt.RcNeAt.lists_lengths pl.isList pl2.isList ?_ hu) X.prog X.w X.xe _ ⟨.bl true, H, I, rfl, qq⟩
    have : xs.length ≠ 0 := fun e => hx (List.eq_nil_of_length_eq_zero e)
    simp only [List.length_nil] at l2
    rw [List.size_toArray, List.size_toArray, ← l1, ← l2]
    simpa using this
end
def xfcR (a : Addr) (cls : Value) (d : Option Addr) (C : Addr) (f : Str) (Q : VK) : VK := fun x H1 => x = .ref a ∧ cls = .ref C ∧ ∃ (dd : Addr) (fs : List (Str × V)) (v : V), d = some dd ∧ H1 dd = some (.xd fs) ∧ fs.lookup f = some v ∧ Q v H1
section
variable {K : PySem.W.Frag} {σ : L2.St} {H : Hp} {Q : VK} {te : TE} {a C dd f : Addr} {cls : Value} {d : Option Addr} {n : Str} {v : V} {fs : List (Str × V)}
theorem r_xfc (h : te σ H (xfcR a cls d C n Q)) : tXf a cls d C n te σ H Q := h
theorem r_xfV (e : H dd = some (.xd [(n, v)])) (q : Q v H) : xfcR a (.ref C) (some dd) C n Q (.ref a) H := ⟨rfl, rfl, dd, _, v, rfl, e, look1, q⟩
theorem r_isC {c : V} {u : Value} {b : Bool} (k : ClsV c u) (T : ExF K C f) (e : H dd = some (.xd fs)) (ek : PySem.W.kitOne K (.ref C) u = some b) (q : Q (.bl b) H) : rIsC K a (.ref C) (some dd) [.ref a, c] H Q := ⟨C, f, dd, fs, c, u, b, rfl, rfl, rfl, T, e, k, ek, q⟩
theorem r_isCT {tp : Addr} {cs : List V} {us : List Value} {b : Bool} (T : ExF K C f) (e : H dd = some (.xd fs)) (et : H tp = some (.tup cs)) (k : Paired ClsV cs us) (ek : PySem.W.kitAny K (.ref C) us = some b) (q : Q (.bl b) H) : rIsCT K a (.ref C) (some dd) [.ref a, .ref tp] H Q := ⟨C, f, dd, tp, fs, cs, us, b, rfl, rfl, rfl, T, e, et, k, ek, q⟩
theorem kit_none2 {t c1 c2 : Value} (h1 : PySem.W.kitOne K t c1 = some false) (h2 : PySem.W.kitOne K t c2 = some false) : PySem.W.kitAny K t [c1, c2] = some false := by
  simp only [PySem.W.kitAny, h1, h2]
end
end Z
local macro_rules | `(tactic| walk_at "call") => `(tactic| first
  | with_reducible refine Z.r_xfc ?_
  | ((with_reducible refine' Z.r_xfV ?e ?_); (case e => walk_at "hp")))

namespace Z
open PySem PySem.Spec PyProof.Rows L2
section
variable {X : Cx} {C f : Addr} {fd : FuncData} {k : Nat} {ps : List Str} {sp : Sp}
/-- x in o, o an instance -/
def rInI (C : Addr) (sp : Sp) : R2 := fun x y H Q => ∃ a dx fs, y = .ref a ∧ H a = some (.ins C dx fs) ∧ sp ([y, x] ++ []) H (fun v H' => ∃ c, v = .bl c ∧ Q (.bl c) H') E0
theorem o_inI (M : Meth X.K C "__contains__" f) (F : FnOk X.prog X.w X.K X.mg X.base CX0 k f fd ps sp) (hr : Room k X.A) (hb : Binds X.K fd ps []) : OpR X (compareOp .In) (rInI C sp) := by
  intro pins s σ H x y v u Q I rx ry h
  obtain ⟨a, dx, fs, rfl, ha, q⟩ := h
  cases (show u = Value.ref a from ry)
  obtain ⟨mA, O, _⟩ := ins_get I.hok ha
  obtain ⟨od, J, _⟩ := O.look
  obtain ⟨m, hF⟩ := I.fr
  refine PySem.W.in_K hF I.ok.mod.kin J M.at_ M.fn (wpAny_mono (run_fn (us := [.ref a, v]) (vs := [.ref a, x]) F hr hb .nil pass0 I (.cons rfl (.cons rx .nil)) q) (fun w s' z => ?_) fun _ _ x => x)
  obtain ⟨z', H', I', rz, c, rfl, qz⟩ := z
  cases (show w = Value.bool c from rz)
  exact wpAny_truthy_bool ⟨.bl c, H', I', rfl, qz⟩
theorem r_inI {a dx : Addr} {fs : List (Str × V)} {x : V} {H : Hp} {Q : VK} (e : H a = some (.ins C dx fs)) (h : sp ([.ref a, x] ++ []) H (fun v H' => ∃ c, v = .bl c ∧ Q (.bl c) H') E0) : rInI C sp x (.ref a) H Q := ⟨a, dx, fs, rfl, e, h⟩
end
end Z
local macro_rules | `(tactic| walk_at "call") => `(tactic| first
  | with_reducible refine Z.r_mkX ?_
  | with_reducible refine Z.r_ixX ?_
  | with_reducible refine Z.r_addX ?_)
/-! the methods of a series -/
def SerAt (S : Addr) (H : Hp) (a : Addr) (gs : Ens) : Prop := ∃ dx t, H a = some (.ins S dx [("entries", .ref t)]) ∧ H t = some (.tup (gs.map (·.1)))
theorem SerAt.same {S a : Addr} {H H' : Hp} {gs : Ens} (s : Same H H') (h : SerAt S H a gs) : SerAt S H' a gs := by
  obtain ⟨dx, t, h1, h2⟩ := h
  exact ⟨dx, t, s _ _ h1, s _ _ h2⟩
/-- the entries as a series holds them -/
def held (es : Ens) : Ens := es.map fun e => (fstV es e.2, e.2)
theorem held_fst (es : Ens) : (held es).map (·.1) = es.map fun e => fstV es e.2 := by
  unfold held
  rw [List.map_map]; rfl
theorem held_len (es : Ens) : (held es).length = es.length := List.length_map _
theorem fst_rep {C : Addr} {H : Hp} {es : Ens} {e : V × Tag} (h : EnsOk C H es) (m : e ∈ es) : Rep C H (fstV es e.2) e.2 := by
  unfold fstV fst?
  cases q : es.find? fun x => decide (x.2 = e.2) with
  | none =>
    have := List.find?_eq_none.mp q _ m
    simp at this
  | some x =>
    have h1 : x.2 = e.2 := by simpa using List.find?_some q
    have h2 := (h x (List.mem_of_find?_eq_some q)).1
    rw [h1] at h2
    exact h2
theorem held_ok {C : Addr} {H : Hp} {es : Ens} (h : EnsOk C H es) : EnsOk C H (held es) := by
  intro e m
  obtain ⟨x, mx, rfl⟩ := List.mem_map.mp m
  exact ⟨fst_rep h mx, (h x mx).2⟩
def isNumT : Tag → Bool
  | .num _ => true
  | _ => false
def numsOf (gs : Ens) : List V := (gs.filter fun e => isNumT e.2).map (·.1)
def marksFrom (k : Nat) : Ens → List V
  | [] => []
  | e :: r => if isNumT e.2 = true then marksFrom (k + 1) r else .int k :: marksFrom (k + 1) r
theorem marks_snoc (k : Nat) (gs : Ens) (e : V × Tag) : marksFrom k (gs ++ [e]) = marksFrom k gs ++ (if isNumT e.2 = true then [] else [.int ((k + gs.length : Nat) : Int)]) := by
  induction gs generalizing k with
  | nil =>
    show (if isNumT e.2 = true then _ else _) = _
    cases isNumT e.2 <;> rfl
  | cons x r ih =>
    show (if isNumT x.2 = true then marksFrom (k + 1) (r ++ [e]) else .int k :: marksFrom (k + 1) (r ++ [e])) = (if isNumT x.2 = true then marksFrom (k + 1) r else .int k :: marksFrom (k + 1) r) ++ _
    rw [ih]
    have e1 : k + 1 + r.length = k + (x :: r).length := by show k + 1 + r.length = k + (r.length + 1); omega
    rw [e1]
    cases isNumT x.2 <;> rfl
theorem nums_snoc (gs : Ens) (e : V × Tag) : numsOf (gs ++ [e]) = numsOf gs ++ (if isNumT e.2 = true then [e.1] else []) := by
  unfold numsOf
  rw [List.filter_append, List.map_append]
  cases h : isNumT e.2 <;> simp [h]
theorem nums_len (gs : Ens) : (numsOf gs).length ≤ gs.length := by
  unfold numsOf
  rw [List.length_map]
  exact List.length_filter_le _ _
theorem marks_len (k : Nat) (gs : Ens) : (marksFrom k gs).length ≤ gs.length := by
  induction gs generalizing k with
  | nil => exact Nat.le_refl _
  | cons x r ih =>
    have := ih (k + 1)
    show (if isNumT x.2 = true then marksFrom (k + 1) r else .int k :: marksFrom (k + 1) r).length ≤ r.length + 1
    cases isNumT x.2 with
    | true => rw [if_pos rfl]; omega
    | false => rw [if_neg Bool.false_ne_true]; show (marksFrom (k + 1) r).length + 1 ≤ _; omega
theorem take_snoc {gs : Ens} {i : Nat} {e : V × Tag} (h : gs[i]? = some e) : gs.take (i + 1) = gs.take i ++ [e] := by
  rw [List.take_succ, h]; rfl
/-! the text of a series; of(..) -/
def textT : Tag → Str
  | .num i => toString i
  | .mark n => ("?" : Str) ++ n
  | .non => "None"
def tagB : Tag → Prop
  | .num i => i.natAbs < 10 ^ 246
  | .mark n => Word n
  | .non => False
theorem big_log {m : Int} (h : m.natAbs < 10 ^ 246) : m.natAbs.log2 < 1920 := by
  by_cases e : m.natAbs = 0
  · rw [e]; decide
  · rw [Nat.log2_lt e]
    exact Nat.lt_of_lt_of_le h (by decide +kernel)
theorem textT_len {t : Tag} (h : tagB t) : (textT t).length ≤ 250 := by
  cases t with
  | num i =>
    have e := int_text_length_le10 (a := i) (k := 246) (by decide) h
    show (Str.ofString (toString i)).length ≤ 250
    rw [PySem.ofString_length]
    omega
  | mark n =>
    show (("?" : Str) ++ n).length ≤ 250
    rw [Str.length_append]
    have h1 : ("?" : Str).length = 1 := rfl
    have h2 := h.2.1
    omega
  | non => exact h.elim
namespace Z
open PySem PySem.Spec PyProof.Rows L2
theorem sum_le {m : Nat} : ∀ (ys : List Str), (∀ y ∈ ys, y.length ≤ m) → (ys.map (·.length)).sum ≤ ys.length * m
  | [], _ => Nat.zero_le _
  | y :: ys, h => by
    have h1 := sum_le ys fun z hz => h z (List.mem_cons_of_mem _ hz)
    have h2 := h y List.mem_cons_self
    show y.length + (ys.map (·.length)).sum ≤ (ys.length + 1) * m
    rw [Nat.succ_mul]
    omega
section
variable {X : Cx} {C : Addr} {sp : Sp} {σ : L2.St} {H : Hp} {Q : VK} {to te : TE} {K : PySem.W.Frag}
/-- str of an int, or of an instance -/
def rStrM (C : Addr) (sp : Sp) : List V → Hp → VK → Prop := fun xs H Q => rStrI xs H Q ∨ rTxO C sp xs H Q
theorem c_strM (h : CallR X (.type "str") (rTxO C sp)) : CallR X (.type "str") (rStrM C sp) := fun pins s σ H xs us Q I r q => q.elim (fun q => c_strI pins s σ H xs us Q I r q) fun q => h pins s σ H xs us Q I r q
/-- list(a list or a tuple), a new one -/
def rListOf (K : PySem.W.Frag) : List V → Hp → VK → Prop := fun xs H Q => ∃ p ys, xs = [.ref p] ∧ (SqL K H p ys ∨ SqT K H p ys) ∧ ∀ l, H l = none → Q (.ref l) (L2.upd H l (.lst ys))
theorem c_listOf : CallR X (.type "list") (rListOf X.K) := call_list_of
theorem r_listL {p : Addr} {ys : List V} (e : H p = some (.lst ys)) (k : ∀ q H1, H q = none → Same H H1 → H1 q = some (.lst ys) → Q (.ref q) H1) : rListOf K [.ref p] H Q := ⟨p, ys, rfl, .inl (SqL.of e), fun l nl => k l _ nl (same_upd nl) upd_same⟩
theorem r_revL {l : Addr} {xs : List V} (e : H l = some (.lst xs)) (k : ∀ H1, But l H H1 → H1 l = some (.lst xs.reverse) → Q .non H1) : rReverse (.ref l) [] H Q := ⟨l, xs, rfl, rfl, e, k _ But.upd upd_same⟩
theorem r_m1 {r : V → List V → Hp → VK → Prop} (h : to σ H fun x H1 => (∃ a, x = .str a) ∧ te σ H1 fun y H2 => r x [y] H2 Q) : tM1 r to te σ H Q := h
theorem r_tYes {N : Bool → Hp → Prop} (h : N true H) : tYes σ H N := h
theorem r_strAnd {z : Str} {P : Prop} (h : P) : (∃ a, V.str z = .str a) ∧ P := ⟨⟨z, rfl⟩, h⟩
theorem r_join {a : Str} {p : Addr} {ys : List Str} (e : H p = some (.lst (ys.map V.str))) (l : (ys.map (·.length)).sum + ys.length * a.length ≤ 16777216) (h : Q (.str (Txt.join a ys)) H) : jnR K (.str a) [.ref p] H Q := ⟨a, p, ys, rfl, rfl, .inl (SqL.of e), l, h⟩
end
end Z
local macro_rules | `(tactic| walk_at "call") => `(tactic| first
  | with_reducible refine Z.r_m1 ?_
  | with_reducible refine Z.r_tYes ?_
  | with_reducible refine Z.r_strAnd ?_)
/-- the texts of entries, put together -/
def textOf (gs : Ens) : Str := Txt.join (" " : Str) (gs.map fun e => textT e.2)
def TagsB (gs : Ens) : Prop := ∀ e ∈ gs, tagB e.2
theorem texts_sum {gs : Ens} (h : TagsB gs) (n : gs.length ≤ 250) : ((gs.map fun e => textT e.2).map (·.length)).sum + (gs.map fun e => textT e.2).length * (" " : Str).length ≤ 70000 := by
  have e := Z.sum_le (m := 250) (gs.map fun e => textT e.2) (fun y hy => by
    obtain ⟨x, hx, rfl⟩ := List.mem_map.mp hy
    exact textT_len (h x hx))
  rw [List.length_map] at e ⊢
  have l1 : (" " : Str).length = 1 := rfl
  rw [l1]
  have := Nat.mul_le_mul_right 250 n
  omega
theorem textOf_len {gs : Ens} (h : TagsB gs) (n : gs.length ≤ 250) : (textOf gs).length ≤ 70000 := by
  unfold textOf
  rw [show Txt.join (" " : Str) (gs.map fun e => textT e.2) = Str.join (" " : Str) (gs.map fun e => textT e.2) from StrLaws.glued_eq_join _ _]
  exact Nat.le_trans (StrLaws.join_length_le _ _) (texts_sum h n)
def numsI (gs : Ens) : List Int := gs.filterMap fun e => match e.2 with
  | .num i => some i
  | _ => none
def marksI (k : Nat) : Ens → List Int
  | [] => []
  | e :: r => if isNumT e.2 = true then marksI (k + 1) r else (k : Int) :: marksI (k + 1) r
theorem marks_int (k : Nat) (gs : Ens) : marksFrom k gs = (marksI k gs).map V.int := by
  induction gs generalizing k with
  | nil => rfl
  | cons e r ih =>
    show (if isNumT e.2 = true then marksFrom (k + 1) r else .int k :: marksFrom (k + 1) r) = (if isNumT e.2 = true then marksI (k + 1) r else (k : Int) :: marksI (k + 1) r).map V.int
    rw [ih]
    cases isNumT e.2 <;> rfl
theorem nums_int {C : Addr} {H : Hp} : ∀ {gs : Ens}, EnsOk C H gs → numsOf gs = (numsI gs).map V.int
  | [], _ => rfl
  | ⟨x, t⟩ :: r, h => by
    have ih := nums_int (C := C) (H := H) (gs := r) fun e m => h e (List.mem_cons_of_mem _ m)
    have h1 := h ⟨x, t⟩ List.mem_cons_self
    unfold numsOf numsI at ih ⊢
    cases t with
    | num i =>
      have e : x = .int i := h1.1
      subst e
      show V.int i :: _ = V.int i :: _
      rw [ih]
    | mark n => exact ih
    | non => exact absurd rfl h1.2
theorem nums_held (gs es : Ens) : numsI (gs.map fun e => (fstV es e.2, e.2)) = numsI gs := by
  induction gs with
  | nil => rfl
  | cons e r ih =>
    obtain ⟨x, t⟩ := e
    unfold numsI at ih ⊢
    cases t with
    | num i => show i :: _ = i :: _; rw [ih]
    | mark n => exact ih
    | non => exact ih
theorem marks_held (gs es : Ens) (k : Nat) : marksI k (gs.map fun e => (fstV es e.2, e.2)) = marksI k gs := by
  induction gs generalizing k with
  | nil => rfl
  | cons e r ih =>
    show (if isNumT e.2 = true then marksI (k + 1) _ else (k : Int) :: marksI (k + 1) _) = (if isNumT e.2 = true then marksI (k + 1) r else (k : Int) :: marksI (k + 1) r)
    rw [ih]
theorem text_held (es : Ens) : textOf (held es) = textOf es := by
  unfold textOf held
  rw [List.map_map]
  rfl
theorem tags_held {es : Ens} (h : TagsB es) : TagsB (held es) := by
  intro e m
  obtain ⟨x, mx, rfl⟩ := List.mem_map.mp m
  exact h x mx
theorem numsI_len (gs : Ens) : (numsI gs).length ≤ gs.length := List.length_filterMap_le _ _
theorem marksI_len (k : Nat) (gs : Ens) : (marksI k gs).length ≤ gs.length := by
  have h := marks_len k gs
  rw [marks_int, List.length_map] at h
  exact h
namespace Z
open PySem PySem.Spec PyProof.Rows L2
theorem dp_ints {K : PySem.W.Frag} {H : Hp} (is : List Int) : DpAll K H (is.map V.int) (is.map PyData.int) := by
  induction is with
  | nil => exact .nil
  | cons b r ih => exact .cons (.int b) ih
theorem ints_can (is : List Int) : PyData.canLayAll0 (is.map PyData.int) = true := by
  induction is with
  | nil => rfl
  | cons b r ih => show (true && PyData.canLayAll0 (r.map PyData.int)) = true; rw [ih]; rfl
theorem ints_depth (is : List Int) : PyData.depthAll (is.map PyData.int) = 0 := by
  induction is with
  | nil => rfl
  | cons b r ih => show max 0 (PyData.depthAll (r.map PyData.int)) = 0; rw [ih]; rfl
theorem ints_shaped (is : List Int) : SeqAt.shaped (.list (is.map PyData.int)) = true := by
  show (PyData.canLayAll0 (is.map PyData.int) && decide (PyData.depthAll (is.map PyData.int) + 1 ≤ 64)) = true
  rw [ints_can, ints_depth]
  rfl
theorem ints_all (is : List Int) : PyData.eqvAll (is.map PyData.int) (is.map PyData.int) = true := by
  induction is with
  | nil => rfl
  | cons b r ih => show ((b == b) && PyData.eqvAll (r.map PyData.int) (r.map PyData.int)) = true; rw [ih, beq_self_eq_true]; rfl
theorem ints_eqv (is : List Int) : PyData.eqv (.list (is.map PyData.int)) (.list (is.map PyData.int)) = true := ints_all is
section
variable {K : PySem.W.Frag} {σ : L2.St} {H : Hp} {Q : VK} {A : TA} {te ta : TE} {tt : TT} {C : Addr} {m : Str} {sp : Sp} {E : XK}
theorem r_allBs {a : Addr} {bs : List Bool} (hs : SqL K H a (bs.map V.bl)) (h : Q (.bl (bs.all id)) H) : rAll K [.ref a] H Q := ⟨a, bs, rfl, hs, h⟩
/-- [e for i in range(j) if t] -/
def lcRF (j : Int) (k : Nat) (tt : TT) (te : TE) (vs : List Nat) (σ : L2.St) (H : Hp) (Q : VK) : Prop := -(2 ^ 62) ≤ j ∧ j < 2 ^ 62 ∧ ∀ D, H D = none → ∃ W : Nat → Nat → Hp → Prop, (∃ m, W 0 m (L2.upd H D (.lst []))) ∧ ∀ i m H, W i m H →
  ((Itr 0 j.toNat).stop i H ∧ Q (.ref D) H) ∨ ((Itr 0 j.toNat).go i H ∧ ∃ Nx : Hp → Prop, (∀ H', Nx H' → ∃ m', m' < m ∧ W (i + 1) m' H') ∧ ∀ x H', (Itr 0 j.toNat).yld i H x H' → gName k x (wipe σ vs) H' fun σ2 H2 => wipe σ2 vs = wipe σ vs ∧ tt σ2 H2 fun b H3 =>
    if b = true then te σ2 H3 fun y H4 => ∃ acc, H4 D = some (.lst acc) ∧ acc.length < sizeLine ∧ Nx (L2.upd H4 D (.lst (acc ++ [y]))) else Nx H3)
theorem r_lcRFng {k : Nat} {vs : List Nat} (h : A σ H fun ws H1 => ∃ j : Int, ws = [.int j] ∧ lcRF j k tt te vs σ H1 Q) : tLc (iRng1 A) (gName k) tt te vs σ H Q := h
theorem r_lcRF {J : Int} {k : Nat} {vs : List Nat} (h0 : 0 ≤ J) (h1 : J ≤ 100000) (hw : ∀ x, wipe ((wipe σ vs).set k (some x)) vs = wipe σ vs) (Pv : Addr → Nat → Hp → Prop)
    (hs : ∀ Dl H1, H Dl = none → Same H H1 → H1 Dl = some (.lst []) → Pv Dl 0 H1)
    (ht : ∀ Dl (i : Nat) H', H Dl = none → (i : Int) < J → Pv Dl i H' → tt ((wipe σ vs).set k (some (.int (i : Int)))) H' fun b H3 => if b = true then te ((wipe σ vs).set k (some (.int (i : Int)))) H3 (apR Dl (Pv Dl (i + 1))) else Pv Dl (i + 1) H3)
    (hd : ∀ Dl H', H Dl = none → Pv Dl J.toNat H' → Q (.ref Dl) H') : ∃ j' : Int, [V.int J] = [V.int j'] ∧ lcRF j' k tt te vs σ H Q := by
  refine ⟨J, rfl, by omega, by omega, fun Dl hD => ?_⟩
  refine lc_range (lo := 0) (n := J.toNat) (tt := tt) (Pv Dl) (hs Dl _ hD (same_upd hD) upd_same) (fun i H' hi p => ?_) (fun H' p => hd Dl H' hD p)
  have e : (0 : Int) + (i : Int) = (i : Int) := Int.zero_add _
  show wipe ((wipe σ vs).set k (some (.int ((0 : Int) + (i : Int))))) vs = wipe σ vs ∧ tt ((wipe σ vs).set k (some (.int ((0 : Int) + (i : Int))))) H' _
  rw [e]
  exact ⟨hw _, ht Dl i H' hD (by omega) p⟩
/-- o.m() -/
def mtR (C : Addr) (m : Str) (sp : Sp) (E : XK) (Q : VK) : VK := fun x H1 => ∃ a dx fs, x = .ref a ∧ H1 a = some (.ins C dx fs) ∧ fs.lookup m = none ∧ tNil σ H1 fun vs H2 => sp (x :: (vs ++ [])) H2 Q E
theorem r_meth0 (h : ta σ H (mtR (σ := σ) C m sp E Q)) : tMeth C m sp [] E ta tNil σ H Q := h
theorem r_mt0 {a dx : Addr} {fs : List (Str × V)} (e : H a = some (.ins C dx fs)) (l : fs.lookup m = none) (h : sp (.ref a :: ([] ++ [])) H Q E) : mtR (σ := σ) C m sp E Q (.ref a) H := ⟨a, dx, fs, rfl, e, l, h⟩
end
end Z
local macro_rules | `(tactic| walk_at "call") => `(tactic| first
  | with_reducible refine Z.r_lcRFng ?_
  | with_reducible refine Z.r_meth0 ?_)
/-! == of two series -/
namespace Z
open PySem PySem.Spec PyProof.Rows L2
section
variable {K : PySem.W.Frag} {σ : L2.St} {H : Hp} {Q : VK} {A : TA} {te : TE} {tt : TT}
/-- [e for x, y in zip(two tuples)] -/
def lcZT (g : TG) (tt : TT) (te : TE) (vs : List Nat) (σ : L2.St) (Q : VK) : It → Hp → Prop := fun J H1 => ∀ D, H1 D = none → ∃ W : Nat → Nat → Hp → Prop, (∃ m, W 0 m (L2.upd H1 D (.lst []))) ∧ ∀ i m H, W i m H →
  (J.stop i H ∧ Q (.ref D) H) ∨ (J.go i H ∧ ∃ Nx : Hp → Prop, (∀ H', Nx H' → ∃ m', m' < m ∧ W (i + 1) m' H') ∧ ∀ x H', J.yld i H x H' → g x (wipe σ vs) H' fun σ2 H2 => wipe σ2 vs = wipe σ vs ∧ tt σ2 H2 fun b H3 =>
    if b = true then te σ2 H3 fun y H4 => ∃ acc, H4 D = some (.lst acc) ∧ acc.length < sizeLine ∧ Nx (L2.upd H4 D (.lst (acc ++ [y]))) else Nx H3)
def zpR (K : PySem.W.Frag) (R : It → Hp → Prop) (vs : List V) (H1 : Hp) : Prop := ∃ a b xs ys, vs = [.ref a, .ref b] ∧ ((SqL K H1 a xs ∧ SqL K H1 b ys ∧ R (Itz K a b) H1) ∨ (SqT K H1 a xs ∧ SqT K H1 b ys ∧ R (RZ.ItzT K a b) H1))
theorem r_lcZip {vs : List Nat} {g : TG} (h : A σ H (zpR K (lcZT g tt te vs σ Q))) : tLc (RZ.iZipA K A) g tt te vs σ H Q := h
theorem r_lcZT {vs : List Nat} {g : TG} {a b : Addr} {xs ys : List V} (hx : SqT K H a xs) (hy : SqT K H b ys) (hl : xs.length = ys.length) (Pv : Addr → Nat → Hp → Prop)
    (hs : ∀ Dl H1, H Dl = none → Same H H1 → H1 Dl = some (.lst []) → Pv Dl 0 H1) (hq : ∀ Dl i H', H Dl = none → Pv Dl i H' → SqT K H' a xs ∧ SqT K H' b ys)
    (ht : ∀ Dl (i : Nat) x y H', H Dl = none → xs[i]? = some x → ys[i]? = some y → Pv Dl i H' → ∀ T H2, H' T = none → Same H' H2 → H2 T = some (.tup [x, y]) → g (.ref T) (wipe σ vs) H2 fun σ2 H3 => wipe σ2 vs = wipe σ vs ∧
      tt σ2 H3 fun b H4 => if b = true then te σ2 H4 (apR Dl (Pv Dl (i + 1))) else Pv Dl (i + 1) H4)
    (hd : ∀ Dl H', H Dl = none → Pv Dl xs.length H' → Q (.ref Dl) H') : zpR K (lcZT g tt te vs σ Q) [.ref a, .ref b] H := by
  refine ⟨a, b, xs, ys, rfl, .inr ⟨hx, hy, fun Dl nD => ⟨fun i m H' => m = xs.length - i ∧ i ≤ xs.length ∧ Pv Dl i H', ⟨xs.length, by simp, Nat.zero_le _, hs Dl _ nD (same_upd nD) upd_same⟩, ?_⟩⟩⟩
  rintro i m H' ⟨rfl, hi, p⟩
  obtain ⟨q1, q2⟩ := hq Dl i H' nD p
  by_cases hlt : i < xs.length
  · have hlt2 : i < ys.length := by omega
    refine .inr ⟨⟨xs, ys, xs[i], ys[i], q1, q2, by simp [hlt], by simp [hlt2]⟩, Pv Dl (i + 1), fun H2 p' => ⟨xs.length - (i + 1), by omega, rfl, hlt, p'⟩, fun x H2 y => ?_⟩
    obtain ⟨T, u, v, e1, nT, e2, hu, hv⟩ := y
    subst e1 e2
    exact ht Dl i u v H' nD (hu xs q1) (hv ys q2) p T _ nT (same_upd nT) upd_same
  · have e : i = xs.length := by omega
    subst e
    exact .inl ⟨⟨xs, ys, q1, q2, .inl (Nat.le_refl _)⟩, hd Dl H' nD p⟩
end
end Z
local macro_rules | `(tactic| walk_at "call") => `(tactic| with_reducible refine Z.r_lcZip ?_)
def tagsOf (gs : Ens) : List Tag := gs.map (·.2)
/-- place by place: the same -/
def sameB : Ens → Ens → List Bool
  | x :: gs, y :: es => decide (x.2 = y.2) :: sameB gs es
  | _, _ => []
theorem sameB_all : ∀ {gs es : Ens}, gs.length = es.length → (sameB gs es).all id = decide (tagsOf gs = tagsOf es)
  | [], [], _ => rfl
  | x :: gs, y :: es, h => by
    have ih := sameB_all (gs := gs) (es := es) (Nat.succ.inj h)
    show (decide (x.2 = y.2) && (sameB gs es).all id) = decide (x.2 :: tagsOf gs = y.2 :: tagsOf es)
    rw [ih]
    by_cases h1 : x.2 = y.2 <;> by_cases h2 : tagsOf gs = tagsOf es <;> simp [h1, h2]
theorem sameB_len : ∀ {gs es : Ens}, gs.length = es.length → (sameB gs es).length = gs.length
  | [], [], _ => rfl
  | x :: gs, y :: es, h => congrArg (· + 1) (sameB_len (gs := gs) (es := es) (Nat.succ.inj h))
theorem sameB_at : ∀ {gs es : Ens} {i : Nat} {x y : V × Tag}, gs[i]? = some x → es[i]? = some y → (sameB gs es)[i]? = some (decide (x.2 = y.2))
  | a :: gs, b :: es, 0, x, y, h1, h2 => by
    cases h1
    cases h2
    rfl
  | a :: gs, b :: es, i + 1, x, y, h1, h2 => sameB_at (gs := gs) (es := es) (i := i) h1 h2
  | [], _, i, x, y, h1, _ => by cases i <;> cases h1
  | a :: gs, [], i, x, y, _, h2 => by cases i <;> cases h2
theorem sameB_get {gs es : Ens} {i : Nat} {x y : V × Tag} (h1 : gs[i]? = some x) (h2 : es[i]? = some y) : (sameB gs es).take (i + 1) = (sameB gs es).take i ++ [decide (x.2 = y.2)] := by
  rw [List.take_succ, sameB_at h1 h2]
  rfl
theorem tags_len {gs es : Ens} (h : tagsOf gs = tagsOf es) : gs.length = es.length := by
  have z := congrArg List.length h
  unfold tagsOf at z
  rwa [List.length_map, List.length_map] at z
/-- what is no series; what is no entry -/
inductive OddE (C D : Addr) (H : Hp) : V → Prop
  | non : OddE C D H .non
  | int (i : Int) : OddE C D H (.int i)
  | str (z : Str) : OddE C D H (.str z)
  | lst {p : Addr} {xs : List V} (h : H p = some (.lst xs)) : OddE C D H (.ref p)
  | tup {p : Addr} {xs : List V} (h : H p = some (.tup xs)) : OddE C D H (.ref p)
  | mark {a dx : Addr} {fs : List (Str × V)} (h : H a = some (.ins C dx fs)) : OddE C D H (.ref a)
  | told {a dx : Addr} {fs : List (Str × V)} (h : H a = some (.ins D dx fs)) : OddE C D H (.ref a)
theorem OddE.same {C D : Addr} {H H' : Hp} {x : V} (s : Same H H') (h : OddE C D H x) : OddE C D H' x := by
  cases h with
  | non => exact .non
  | int i => exact .int i
  | str z => exact .str z
  | lst h => exact .lst (s _ _ h)
  | tup h => exact .tup (s _ _ h)
  | mark h => exact .mark (s _ _ h)
  | told h => exact .told (s _ _ h)
inductive OddI (S D : Addr) (H : Hp) : V → Prop
  | non : OddI S D H .non
  | bl (b : Bool) : OddI S D H (.bl b)
  | str (z : Str) : OddI S D H (.str z)
  | lst {p : Addr} {xs : List V} (h : H p = some (.lst xs)) : OddI S D H (.ref p)
  | ser {a dx : Addr} {fs : List (Str × V)} (h : H a = some (.ins S dx fs)) : OddI S D H (.ref a)
  | told {a dx : Addr} {fs : List (Str × V)} (h : H a = some (.ins D dx fs)) : OddI S D H (.ref a)
theorem OddI.same {S D : Addr} {H H' : Hp} {x : V} (s : Same H H') (h : OddI S D H x) : OddI S D H' x := by
  cases h with
  | non => exact .non
  | bl b => exact .bl b
  | str z => exact .str z
  | lst h => exact .lst (s _ _ h)
  | ser h => exact .ser (s _ _ h)
  | told h => exact .told (s _ _ h)
theorem oddE_kit {K : PySem.W.Frag} {mg : Str → Option Value} (T : Top K mg) {H : Hp} {y : V} (h : OddE T.C_Unnumbered T.C_Told H y) : ∃ t, TyX K H y t ∧ PySem.W.kitOne K t (.ref T.C_Series) = some false := by
  cases h <;> exact ⟨_, by walk_at "ty", by walk_at "ki"⟩
theorem oddI_kit {K : PySem.W.Frag} {mg : Str → Option Value} (T : Top K mg) {H : Hp} {y : V} (h : OddI T.C_Series T.C_Told H y) :
    ∃ t bi bb, TyX K H y t ∧ PySem.W.kitOne K t (.type "int") = some bi ∧ PySem.W.kitOne K t (.type "bool") = some bb ∧ (bi && !bb) = false ∧ PySem.W.kitOne K t (.ref T.C_Unnumbered) = some false := by
  cases h <;> exact ⟨_, _, _, by walk_at "ty", by walk_at "ki", by walk_at "ki", rfl, by walk_at "ki"⟩
namespace Z
open PySem PySem.Spec PyProof.Rows L2
section
variable {K : PySem.W.Frag} {σ : L2.St} {H : Hp} {Q : VK} {td ty tx : TE}
theorem r_dsetd (h : td σ H fun x H1 => ∃ a, x = .ref a ∧ IsD H1 a ∧ ty σ H1 fun y H2 => tx σ H2 fun z H3 => ∃ (kvs : List (Key × V)) (k : Key), H3 a = some (.dK kvs) ∧ y = kV k ∧ kvs.length < sizeLine ∧ (∀ v, valV kvs k = some v → Q v H3) ∧ (valV kvs k = none → Q z (L2.upd H3 a (.dK (putK kvs k z))))) : tDSetd td ty tx σ H Q := h
theorem r_listT {p : Addr} {ys : List V} (e : H p = some (.tup ys)) (k : ∀ q H1, H q = none → Same H H1 → H1 q = some (.lst ys) → Q (.ref q) H1) : rListOf K [.ref p] H Q := ⟨p, ys, rfl, .inr (SqT.of e), fun l nl => k l _ nl (same_upd nl) upd_same⟩
end
end Z
theorem Rep.butD {C b : Addr} {H H' : Hp} {x : V} {t : Tag} {kvs : List (Key × V)} (e : Z.But b H H') (hb : H b = some (.dK kvs)) (h : Rep C H x t) : Rep C H' x t := by
  cases t with
  | non => exact h
  | num i => exact h
  | mark n =>
    obtain ⟨a, dx, h1, h2⟩ := h
    exact ⟨a, dx, h1, e _ _ (ne_of h2 hb (by intro z; cases z)) h2⟩
theorem EnsOk.butD {C b : Addr} {H H' : Hp} {es : Ens} {kvs : List (Key × V)} (s : Z.But b H H') (hb : H b = some (.dK kvs)) (h : EnsOk C H es) : EnsOk C H' es := fun e m => ⟨(h e m).1.butD s hb, (h e m).2⟩
theorem SerAt.butD {S a b : Addr} {H H' : Hp} {gs : Ens} {kvs : List (Key × V)} (s : Z.But b H H') (hb : H b = some (.dK kvs)) (h : SerAt S H a gs) : SerAt S H' a gs := by
  obtain ⟨dx, t, h1, h2⟩ := h
  exact ⟨dx, t, s _ _ (ne_of h1 hb (by intro z; cases z)) h1, s _ _ (ne_of h2 hb (by intro z; cases z)) h2⟩
theorem fst_held (gs : Ens) (t : Tag) : fst? (held gs) t = fst? gs t := by
  unfold fst? held
  rw [List.find?_map]
  have e : ((fun e : V × Tag => decide (e.2 = t)) ∘ fun e : V × Tag => (fstV gs e.2, e.2)) = fun e => decide (e.2 = t) := rfl
  rw [e, Option.map_map]
  cases q : gs.find? fun e => decide (e.2 = t) with
  | none => rfl
  | some x =>
    have h1 : x.2 = t := by simpa using List.find?_some q
    show some (fstV gs x.2) = some x.1
    rw [h1]
    unfold fstV fst?
    rw [q]; rfl
theorem fst_app (gs es : Ens) (t : Tag) : fst? (gs ++ es) t = (fst? gs t).or (fst? es t) := by
  unfold fst?
  rw [List.find?_append]
  cases gs.find? fun e => decide (e.2 = t) <;> simp
theorem fst_both (gs es : Ens) (t : Tag) : fstV (held gs ++ held es) t = fstV (gs ++ es) t := by
  unfold fstV
  rw [fst_app, fst_app, fst_held, fst_held]
theorem tags_both (gs es : Ens) : tagsOf (held (held gs ++ held es)) = tagsOf (gs ++ es) := by
  unfold tagsOf held
  rw [List.map_map, List.map_append, List.map_append, List.map_map, List.map_map]
  rfl
theorem tags_one (gs : Ens) : tagsOf (held gs) = tagsOf gs := by
  unfold tagsOf held
  rw [List.map_map]; rfl
section
variable {P : Program} {w : World} {K : PySem.W.Frag} {mg : Str → Option Value} {base : Heap}
theorem sc_law_draw : FnScope ["_law_bag_here", "_law_many", "_law_first", "_law_second", "_law_digit"] ["_law_bag_here", "_law_many"] (defScope s_law_draw) := ⟨rfl, rfl, rfl, by decide +kernel, rfl, by decide +kernel, by decide +kernel⟩
def sp_law_draw : Sp := fun vs H Q _ => ∃ (b : Addr) (m : Int) (n : Nat), vs = [.ref b, .int m] ∧ Bag H b n ∧ 0 < m ∧ m < 1073741824 ∧ n < 1073741824 ∧
  ∀ r H', 0 ≤ r → r < m → Z.But b H H' → Bag H' b (n + 1) → Q (.int r) H'
theorem ok_law_draw (T : Top K mg) : FnOk P w K mg base CX0 1 T.f_law_draw T.fd_law_draw ["_law_bag_here", "_law_many"] sp_law_draw := by
  refine T.F_law_draw.ok sc_law_draw (fun vs H Q E h => ?_) (fun cdv A outer s H vs Q E hr h => ?_)
  · obtain ⟨b, m, n, rfl, _⟩ := h
    rfl
  · obtain ⟨b, m, n, rfl, ⟨g, sd, k, hb, hg, hs0, hs1, hk0, hk1⟩, hm0, hm1, hn, q⟩ := h
    refine ⟨_, pss_cons (ps_if (pt_cmpR op_gt (pe_ix (Z.ix_seqG (K := K) rfl) (pv 0) (pe_int) (fun _ _ => rfl)) (pe_int) (nomark _)) (pss_cons (ps_set (i := 4) sc_law_draw.nd rfl (.inl rfl) (pe_op op_mod (pe_callTy Z.c_int1 (by rfl) T.z_int (by decide +kernel) (pa_cons (pe_ix (Z.ix_seqG (K := K) rfl) (pv 0) (pe_int) (fun _ _ => rfl)) (pa_nil))) (pv 1))) (pss_cons (ps_asg (pe_op op_fdiv (pe_ix (Z.ix_seqG (K := K) rfl) (pv 0) (pe_int) (fun _ _ => rfl)) (pv 1)) (pg_sub (pv 0) (pe_int) set_list)) (pss_one (ps_ret (pv 4))))) (pss_nil)) (pss_cons (ps_asg (pe_op op_add (pe_ix (Z.ix_seqG (K := K) rfl) (pv 0) (pe_int) (fun _ _ => rfl)) (pe_int)) (pg_sub (pv 0) (pe_int) set_list)) (pss_cons (ps_set (i := 2) sc_law_draw.nd rfl (.inl rfl) (pe_op op_mod (pe_callTy Z.c_int1 (by rfl) T.z_int (by decide +kernel) (pa_cons (pe_op op_add (pe_op op_pow (pe_op op_add (pe_ix (Z.ix_seqG (K := K) rfl) (pv 0) (pe_int) (fun _ _ => rfl)) (pe_op op_mul (pe_int) (pe_ix (Z.ix_seqG (K := K) rfl) (pv 0) (pe_int) (fun _ _ => rfl)))) (pe_int)) (pe_op op_mul (pe_ix (Z.ix_seqG (K := K) rfl) (pv 0) (pe_int) (fun _ _ => rfl)) (pe_int))) (pa_nil))) (pe_int))) (pss_cons (ps_set (i := 3) sc_law_draw.nd rfl (.inl rfl) (pe_op op_mod (pe_callTy Z.c_int1 (by rfl) T.z_int (by decide +kernel) (pa_cons (pe_op op_add (pe_op op_mul (pv 2) (pv 2)) (pe_op op_mul (pe_int) (pe_ix (Z.ix_seqG (K := K) rfl) (pv 0) (pe_int) (fun _ _ => rfl)))) (pa_nil))) (pe_int))) (pss_one (ps_ret (pe_op op_mod (pe_callTy Z.c_int1 (by rfl) T.z_int (by decide +kernel) (pa_cons (pe_op op_fdiv (pv 3) (pe_int)) (pa_nil))) (pv 1))))))), ?_⟩
    refine Z.r_start (σ' := [some (.ref b), some (.int m), none, none, none]) rfl ?_
    walk_at "go"
    refine Z.ways (fun c => ?_) (fun c => ?_)
    · walk_at "go"
      intro H1 b1 h1
      walk_at "go"
      refine q _ _ ?_ ?_ b1 ⟨_, _, _, h1, ?_, hs0, hs1, hk0, ?_⟩
      · exact Int.emod_nonneg _ (by omega)
      · exact Int.emod_lt_of_pos _ hm0
      · exact Int.ediv_nonneg hg (by omega)
      · omega
    · walk_at "go"
      intro H1 b1 h1
      walk_at "go"
      refine q _ _ (Int.emod_nonneg _ (by omega)) (Int.emod_lt_of_pos _ hm0) b1 ⟨_, _, _, h1, hg, hs0, hs1, by omega, by omega⟩
theorem sc_law_bag : FnScope ["_law_script", "_law_at", "_law_cell", "_law_great"] ["_law_script", "_law_at"] (defScope s_law_bag) := ⟨rfl, rfl, rfl, by decide +kernel, rfl, by decide +kernel, by decide +kernel⟩
def sp_law_bag (K : PySem.W.Frag) : Sp := fun vs H Q _ => ∃ (a : Addr) (ns : List Int) (at_ : Nat), vs = [.ref a, .int at_] ∧ SqL K H a (ns.map V.int) ∧ at_ ≤ 100 ∧
  ∀ p H', Same H H' → H p = none → Bag H' p 0 → Q (.ref p) H'
theorem ok_law_bag (T : Top K mg) : FnOk P w K mg base CX0 1 T.f_law_bag T.fd_law_bag ["_law_script", "_law_at"] (sp_law_bag K) := by
  refine T.F_law_bag.ok sc_law_bag (fun vs H Q E h => ?_) (fun cdv A outer s H vs Q E hr h => ?_)
  · obtain ⟨a, ns, at_, rfl, _⟩ := h
    rfl
  · obtain ⟨a, ns, at_, rfl, hS, hat, q⟩ := h
    refine ⟨_, pss_cons (ps_set (i := 2) sc_law_bag.nd rfl (.inl rfl) (pe_ifExp (pt_cmpR op_lt (pv 1) (pe_callB Z.c_len (by rfl) T.z_len (by decide +kernel) (pa_cons (pv 0) (pa_nil))) (nomark _)) (pe_ix (Z.ix_seqG (K := K) rfl) (pv 0) (pv 1) (fun _ _ => rfl)) (pe_int))) (pss_cons (ps_set (i := 3) sc_law_bag.nd rfl (.inl rfl) (pe_ifExp (pt_cmpR op_ge (pe_callB Z.c_abs (by rfl) T.z_abs (by decide +kernel) (pa_cons (pv 2) (pa_nil))) (pe_op op_pow (pe_int) (pe_int)) (nomark _)) (pe_callB Z.c_abs (by rfl) T.z_abs (by decide +kernel) (pa_cons (pv 2) (pa_nil))) (pe_int))) (pss_one (ps_ret (pe_lst (pa_cons (pv 3) (pa_cons (pe_op op_add (pe_op op_add (pe_op op_mul (pe_op op_mod (pe_callTy Z.c_int1 (by rfl) T.z_int (by decide +kernel) (pa_cons (pv 2) (pa_nil))) (pe_int)) (pe_int)) (pe_op op_mul (pe_int) (pv 1))) (pe_int)) (pa_cons (pe_int) (pa_nil)))))))), ?_⟩
    refine Z.r_start (σ' := [some (.ref a), some (.int at_), none, none]) rfl ?_
    walk_at "go"
    refine Z.join (fun v H' => (∃ c : Int, v = .int c) ∧ H' = H) (fun c M k => ?_) (fun c M k => ?_) (fun v H' hv => ?_)
    · obtain ⟨z, hz⟩ := Z.get_int (ns := ns) (i := at_) (by rw [List.length_map] at c; omega)
      refine' Z.r_op ?_
      walk_at "go"
      exact k _ _ ⟨⟨z, rfl⟩, rfl⟩
    · exact k _ _ ⟨⟨0, rfl⟩, rfl⟩
    · obtain ⟨⟨z, rfl⟩, rfl⟩ := hv
      walk_at "go"
      refine Z.join (fun v H'' => (∃ c : Int, v = .int c ∧ 0 ≤ c) ∧ H'' = H') (fun c M k => ?_) (fun c M k => ?_) (fun v H'' hv => ?_)
      · walk_at "go"
        refine k _ _ ⟨⟨_, rfl, ?_⟩, rfl⟩
        split <;> omega
      · exact k _ _ ⟨⟨0, rfl, Int.le_refl 0⟩, rfl⟩
      · obtain ⟨⟨y, rfl, hy⟩, rfl⟩ := hv
        walk_at "go"
        intro p H1 np s1 hp
        exact q _ _ s1 np ⟨_, _, _, hp, hy, by omega, by omega, Int.le_refl 0, Int.le_refl _⟩
theorem k_law_bag {K : PySem.W.Frag} {a : Addr} {ns : List Int} {at_ : Nat} {H : Hp} {Q : VK} {E : XK} (hS : SqL K H a (ns.map V.int)) (h : at_ ≤ 100) (q : ∀ p H', Same H H' → H p = none → Bag H' p 0 → Q (.ref p) H') :
    sp_law_bag K ([.ref a, .int at_] ++ []) H Q E := ⟨a, ns, at_, rfl, hS, h, q⟩
theorem sc_law_number : FnScope ["_law_bag_here", "_law_road", "_law_number_here", "_law_turn"] ["_law_bag_here"] (defScope s_law_number) := ⟨rfl, rfl, rfl, by decide +kernel, rfl, by decide +kernel, by decide +kernel⟩
def sp_law_number : Sp := fun vs H Q _ => ∃ (b : Addr) (n : Nat), vs = [.ref b] ∧ Bag H b n ∧ n < 1073741000 ∧ ∀ (i : Int) (H' : Hp), i.natAbs < 10 ^ 246 → Z.But b H H' → Bag H' b (n + 60) → Q (.int i) H'
theorem ok_law_number (T : Top K mg) : FnOk P w K mg base CX0 2 T.f_law_number T.fd_law_number ["_law_bag_here"] sp_law_number := by
  refine T.F_law_number.ok sc_law_number (fun vs H Q E h => ?_) (fun cdv A outer s H vs Q E hr h => ?_)
  · obtain ⟨b, n, rfl, _⟩ := h
    rfl
  · obtain ⟨b, n, rfl, hb, hn, q⟩ := h
    refine ⟨_, pss_cons (ps_set (i := 1) sc_law_number.nd rfl (.inl rfl) (pe_call (ok_law_draw T) (hr.mono (by decide)) (by rfl) T.mg_law_draw T.F_law_draw.kp T.B_law_draw .nil pass0 (pa_cons (pv 0) (pa_cons (pe_int) (pa_nil))))) (pss_cons (ps_if (pt_cmpR op_eq (pv 1) (pe_int) (nomark _)) (pss_one (ps_ret (pe_int))) (pss_nil)) (pss_cons (ps_if (pt_cmpR op_lt (pv 1) (pe_int) (nomark _)) (pss_one (ps_ret (pe_op op_sub (pe_call (ok_law_draw T) (hr.mono (by decide)) (by rfl) T.mg_law_draw T.F_law_draw.kp T.B_law_draw .nil pass0 (pa_cons (pv 0) (pa_cons (pe_int) (pa_nil)))) (pe_int)))) (pss_nil)) (pss_cons (ps_if (pt_cmpR op_eq (pv 1) (pe_int) (nomark _)) (pss_one (ps_ret (pe_op op_sub (pe_call (ok_law_draw T) (hr.mono (by decide)) (by rfl) T.mg_law_draw T.F_law_draw.kp T.B_law_draw .nil pass0 (pa_cons (pv 0) (pa_cons (pe_int) (pa_nil)))) (pe_int)))) (pss_nil)) (pss_cons (ps_set (i := 2) sc_law_number.nd rfl (.inl rfl) (pe_op op_add (pe_int) (pe_call (ok_law_draw T) (hr.mono (by decide)) (by rfl) T.mg_law_draw T.F_law_draw.kp T.B_law_draw .nil pass0 (pa_cons (pv 0) (pa_cons (pe_int) (pa_nil)))))) (pss_cons (ps_for PassesOwn.never rfl (pi_range1 (by rfl) T.z_range (pa_cons (pe_call (ok_law_draw T) (hr.mono (by decide)) (by rfl) T.mg_law_draw T.F_law_draw.kp T.B_law_draw .nil pass0 (pa_cons (pv 0) (pa_cons (pe_int) (pa_nil)))) (pa_nil))) (pg_name (i := 3) sc_law_number.nd rfl (.inl rfl)) (pss_one (ps_set (i := 2) sc_law_number.nd rfl (.inl rfl) (pe_op op_add (pe_op op_mul (pv 2) (pe_int)) (pe_call (ok_law_draw T) (hr.mono (by decide)) (by rfl) T.mg_law_draw T.F_law_draw.kp T.B_law_draw .nil pass0 (pa_cons (pv 0) (pa_cons (pe_int) (pa_nil)))))))) (pss_one (ps_ret (pe_ifExp (pt_cmpR op_eq (pe_call (ok_law_draw T) (hr.mono (by decide)) (by rfl) T.mg_law_draw T.F_law_draw.kp T.B_law_draw .nil pass0 (pa_cons (pv 0) (pa_cons (pe_int) (pa_nil)))) (pe_int) (nomark _)) (pv 2) (pe_op op_sub (pe_int) (pv 2)))))))))), ?_⟩
    refine Z.r_start (σ' := [some (.ref b), none, none, none]) rfl ?_
    walk_at "go"
    walk_at "draw"
    intro r H1 r0 r1 t1 g1
    walk_at "go"
    refine Z.ways (fun c => ?_) (fun c => ?_)
    · walk_at "go"
      exact q 0 H1 (by decide) t1 (g1.mono (by omega))
    walk_at "go"
    refine Z.ways (fun c2 => ?_) (fun c2 => ?_)
    · walk_at "go"
      walk_at "draw"
      intro r2 H2 r20 r21 t2 g2
      walk_at "go"
      exact q _ _ (Nat.lt_of_lt_of_le (show (r2 - 4).natAbs < 10000 by omega) (by decide)) (t1.trans t2) (g2.mono (by omega))
    walk_at "go"
    refine Z.ways (fun c3 => ?_) (fun c3 => ?_)
    · walk_at "go"
      walk_at "draw"
      intro r2 H2 r20 r21 t2 g2
      walk_at "go"
      exact q _ _ (Nat.lt_of_lt_of_le (show (r2 - 2000).natAbs < 10000 by omega) (by decide)) (t1.trans t2) (g2.mono (by omega))
    walk_at "go"
    walk_at "draw"
    intro x H2 x0 x1 t2 g2
    walk_at "go"
    walk_at "draw"
    intro j H3 j0 j1 t3 g3
    walk_at "go"
    refine Z.r_rng j0 (by omega) (fun i σ' H' => ∃ (x : Int) (v : Option V), σ' = [some (.ref b), some (.int r), some (.int x), v] ∧ 0 < x ∧ x < 2 * 10 ^ (6 * (i + 1)) ∧ Z.But b H H' ∧ Bag H' b (n + 3 + i)) ?_ ?_ ?_
    · exact ⟨_, _, rfl, by omega, by omega, (t1.trans t2).trans t3, g3⟩
    · rintro i σ' H' hi ⟨x, v, rfl, hx0, hx1, t, gb⟩
      walk_at "go"
      walk_at "draw"
      intro d H4 d0 d1 t4 g4
      walk_at "go"
      refine ⟨_, _, rfl, by omega, ?_, t.trans t4, g4⟩
      have e : (10 : Int) ^ (6 * (i + 1 + 1)) = 10 ^ (6 * (i + 1)) * 1000000 := by
        rw [show 6 * (i + 1 + 1) = 6 * (i + 1) + 6 by omega, Int.pow_add]
        rfl
      rw [e]
      omega
    · rintro σ' H' ⟨x, v, rfl, hx0, hx1, t, gb⟩
      have hb2 : x < 10 ^ 246 := by
        have h2 : (10 : Int) ^ (6 * (j.toNat + 1)) ≤ 10 ^ 240 := by
          exact Z.pow10_le (by omega)
        have e : (10 : Int) ^ 246 = 10 ^ 240 * 1000000 := by decide
        omega
      have hb3 : x.natAbs < 10 ^ 246 := by
        have : ((x.natAbs : Nat) : Int) < ((10 ^ 246 : Nat) : Int) := by
          rw [Int.natAbs_of_nonneg (by omega)]
          exact hb2
        omega
      walk_at "go"
      walk_at "draw"
      intro d H4 d0 d1 t4 g4
      walk_at "go"
      refine Z.ways (fun c => ?_) (fun c => ?_)
      · walk_at "go"
        exact q _ _ hb3 (t.trans t4) (g4.mono (by omega))
      · walk_at "go"
        refine q _ _ ?_ (t.trans t4) (g4.mono (by omega))
        rw [Int.zero_sub, Int.natAbs_neg]
        exact hb3
theorem k_law_number {b : Addr} {n : Nat} {H : Hp} {Q : VK} {E : XK} (bg : Bag H b n) (hn : n < 1073741000) (q : ∀ (i : Int) (H' : Hp), i.natAbs < 10 ^ 246 → Z.But b H H' → Bag H' b (n + 60) → Q (.int i) H') :
    sp_law_number ([.ref b] ++ []) H Q E := ⟨b, n, rfl, bg, hn, q⟩
theorem sc_law_word : FnScope ["_law_bag_here", "_law_word_here", "_law_turn"] ["_law_bag_here"] (defScope s_law_word) := ⟨rfl, rfl, rfl, by decide +kernel, rfl, by decide +kernel, by decide +kernel⟩
def sp_law_word : Sp := fun vs H Q _ => ∃ (b : Addr) (n : Nat), vs = [.ref b] ∧ Bag H b n ∧ n < 1073741000 ∧ ∀ (x : Str) (H' : Hp), Word x → Z.But b H H' → Bag H' b (n + 60) → Q (.str x) H'
theorem ok_law_word (T : Top K mg) : FnOk P w K mg base CX0 2 T.f_law_word T.fd_law_word ["_law_bag_here"] sp_law_word := by
  refine T.F_law_word.ok sc_law_word (fun vs H Q E h => ?_) (fun cdv A outer s H vs Q E hr h => ?_)
  · obtain ⟨b, n, rfl, _⟩ := h
    rfl
  · obtain ⟨b, n, rfl, hb, hn, q⟩ := h
    refine ⟨_, pss_cons (ps_if (pt_cmpR op_eq (pe_call (ok_law_draw T) (hr.mono (by decide)) (by rfl) T.mg_law_draw T.F_law_draw.kp T.B_law_draw .nil pass0 (pa_cons (pv 0) (pa_cons (pe_int) (pa_nil)))) (pe_int) (nomark _)) (pss_one (ps_ret (pe_ix (Z.ix_seqG (K := K) rfl) (pe_lst (pa_cons (pe_str) (pa_cons (pe_str) (pa_cons (pe_str) (pa_cons (pe_str) (pa_nil)))))) (pe_call (ok_law_draw T) (hr.mono (by decide)) (by rfl) T.mg_law_draw T.F_law_draw.kp T.B_law_draw .nil pass0 (pa_cons (pv 0) (pa_cons (pe_int) (pa_nil)))) (fun _ _ => rfl)))) (pss_nil)) (pss_cons (ps_set (i := 1) sc_law_word.nd rfl (.inl rfl) (pe_str)) (pss_cons (ps_for PassesOwn.never rfl (pi_range1 (by rfl) T.z_range (pa_cons (pe_op op_add (pe_int) (pe_call (ok_law_draw T) (hr.mono (by decide)) (by rfl) T.mg_law_draw T.F_law_draw.kp T.B_law_draw .nil pass0 (pa_cons (pv 0) (pa_cons (pe_int) (pa_nil))))) (pa_nil))) (pg_name (i := 2) sc_law_word.nd rfl (.inl rfl)) (pss_one (ps_set (i := 1) sc_law_word.nd rfl (.inl rfl) (pe_op Z.o_addS (pv 1) (pe_ix (Z.ix_seqG (K := K) rfl) (pe_str) (pe_call (ok_law_draw T) (hr.mono (by decide)) (by rfl) T.mg_law_draw T.F_law_draw.kp T.B_law_draw .nil pass0 (pa_cons (pv 0) (pa_cons (pe_int) (pa_nil)))) (fun _ _ => rfl)))))) (pss_one (ps_ret (pv 1))))), ?_⟩
    refine Z.r_start (σ' := [some (.ref b), none, none]) rfl ?_
    walk_at "go"
    walk_at "draw"
    intro r H1 r0 r1 t1 g1
    walk_at "go"
    refine Z.ways (fun c => ?_) (fun c => ?_)
    · walk_at "go"
      intro p H2 np s1 hp
      have nb : p ≠ b := fun e => by
        obtain ⟨_, _, _, hb1, _⟩ := g1
        rw [e, hb1] at np; cases np
      walk_at "go"
      walk_at "draw"
      intro r2 H3 r20 r21 t2 g2
      have fin : ∀ x, Word x → Q (.str x) H3 := fun x hx => q x H3 hx ((t1.trans (Z.But.same s1)).trans t2) (g2.mono (by omega))
      rcases (show r2 = 0 ∨ r2 = 1 ∨ r2 = 2 ∨ r2 = 3 by omega) with rfl | rfl | rfl | rfl
      all_goals
        walk_at "go"
        exact fin _ ⟨by decide +kernel, by decide +kernel, by decide +kernel⟩
    walk_at "go"
    walk_at "draw"
    intro j H2 j0 j1 t2 g2
    walk_at "go"
    refine Z.r_rng (by omega) (by omega) (fun i σ' H' => ∃ (x : Str) (v : Option V), σ' = [some (.ref b), some (.str x), v] ∧ Wd i x ∧ Z.But b H H' ∧ Bag H' b (n + 2 + i)) ?_ ?_ ?_
    · exact ⟨_, _, rfl, ⟨rfl, by decide +kernel⟩, t1.trans t2, g2⟩
    · rintro i σ' H' hi ⟨x, v, rfl, hx, t, gb⟩
      walk_at "go"
      walk_at "draw"
      intro d H3 d0 d1 t3 g3
      obtain ⟨k, rfl⟩ := Int.eq_ofNat_of_zero_le d0
      obtain ⟨c, hc, c0, c1⟩ := Z.letters (n := k) (by omega)
      refine Z.r_ixS (by decide +kernel) (atI_nat hc) ?_
      refine Z.r_addS (Z.szle ?_) ?_
      · have := hx.1
        show x.length + 1 ≤ 1000
        omega
      walk_at "go"
      exact ⟨_, _, rfl, hx.add c0 c1, t.trans t3, g3⟩
    · rintro σ' H' ⟨x, v, rfl, hx, t, gb⟩
      walk_at "go"
      exact q x H' ⟨by have := hx.1; omega, by have := hx.1; omega, hx.2⟩ t (gb.mono (by omega))
theorem k_law_word {b : Addr} {n : Nat} {H : Hp} {Q : VK} {E : XK} (bg : Bag H b n) (hn : n < 1073741000) (q : ∀ (x : Str) (H' : Hp), Word x → Z.But b H H' → Bag H' b (n + 60) → Q (.str x) H') :
    sp_law_word ([.ref b] ++ []) H Q E := ⟨b, n, rfl, bg, hn, q⟩

theorem sc_is_number : FnScope ["thing"] ["thing"] (defScope s_is_number) := ⟨rfl, rfl, rfl, by decide +kernel, rfl, by decide +kernel, by decide +kernel⟩
def sp_is_number (K : PySem.W.Frag) : Sp := fun vs H Q _ => ∃ (x : V) (t : Value) (bi bb : Bool), vs = [x] ∧ TyX K H x t ∧ PySem.W.kitOne K t (.type "int") = some bi ∧ PySem.W.kitOne K t (.type "bool") = some bb ∧ Q (.bl (bi && !bb)) H
theorem ok_is_number (T : Top K mg) : FnOk P w K mg base CX0 1 T.f_is_number T.fd_is_number ["thing"] (sp_is_number K) := by
  refine T.F_is_number.ok sc_is_number (fun vs H Q E h => ?_) (fun cdv A outer s H vs Q E hr h => ?_)
  · obtain ⟨x, t, bi, bb, rfl, _⟩ := h
    rfl
  · obtain ⟨x, t, bi, bb, rfl, ty, ki, kb, q⟩ := h
    refine ⟨_, pss_one (ps_ret (pe_and (pe_callB (Z.c_isi (K := K) rfl) (by rfl) T.z_isinstance (by decide +kernel) (pa_cons (pv 0) (pa_cons (pe_bltn (v := .ty "int") (by rfl) T.z_int (by decide +kernel) rfl) (pa_nil)))) (pe_one (pe_not (pe_callB (Z.c_isi (K := K) rfl) (by rfl) T.z_isinstance (by decide +kernel) (pa_cons (pv 0) (pa_cons (pe_bltn (v := .ty "bool") (by rfl) T.z_bool (by decide +kernel) rfl) (pa_nil)))))))), ?_⟩
    refine Z.r_start (σ' := [some (x)]) rfl ?_
    walk_at "go"
    cases bi with
    | true => walk_at "go"; exact q
    | false => walk_at "go"; exact q
theorem k_is_number {x : V} {t : Value} {bi bb : Bool} {H : Hp} {Q : VK} {E : XK} (ty : TyX K H x t) (ki : PySem.W.kitOne K t (.type "int") = some bi) (kb : PySem.W.kitOne K t (.type "bool") = some bb) (q : Q (.bl (bi && !bb)) H) :
    sp_is_number K ([x] ++ []) H Q E := ⟨x, t, bi, bb, rfl, ty, ki, kb, q⟩
local macro_rules | `(tactic| walk_at "call") => `(tactic| ((with_reducible refine' k_is_number ?ty ?ki ?kb ?_); (case ty => walk_at "ty"); (case ki => walk_at "ki"); (case kb => walk_at "ki")))
theorem sc_Unnumbered___init : FnScope ["self", "name"] ["self", "name"] (defScope s_Unnumbered___init) := ⟨rfl, rfl, rfl, by decide +kernel, rfl, by decide +kernel, by decide +kernel⟩
def sp_Un (C : Addr) : Sp := fun vs H Q _ => ∃ (p dx : Addr) (n : Str), vs = [.ref p, .str n] ∧ H p = some (.ins C dx []) ∧ ∀ H', Z.But p H H' → H' p = some (.ins C dx [("name", .str n)]) → Q .non H'
theorem ok_Unnumbered___init (T : Top K mg) : FnOk P w K mg base CX0 1 T.f_Unnumbered___init T.fd_Unnumbered___init ["self", "name"] (sp_Un T.C_Unnumbered) := by
  refine T.F_Unnumbered___init.ok sc_Unnumbered___init (fun vs H Q E h => ?_) (fun cdv A outer s H vs Q E hr h => ?_)
  · obtain ⟨p, dx, n, rfl, _⟩ := h
    rfl
  · obtain ⟨p, dx, n, rfl, hp, q⟩ := h
    refine ⟨_, pss_one (ps_fld (pv 0) (pv 1) rfl), ?_⟩
    refine Z.r_start (σ' := [some (.ref p), some (.str n)]) rfl ?_
    walk_at "go"
    intro H1 b1 h1
    exact q H1 b1 h1
theorem r_mkUn {C : Addr} {n : Str} {H : Hp} {Q : VK} {E : XK} (h : ∀ x dx H1, H x = none → Same H H1 → H1 x = some (.ins C dx [("name", .str n)]) → Q (.ref x) H1) : Z.mkI C (sp_Un C) [] [.str n] H Q E := by
  intro x dx nx nd ne
  refine ⟨x, dx, n, rfl, upd_same, fun H1 b1 h1 => ⟨rfl, h x dx H1 nx (fun b o e => ?_) h1⟩⟩
  exact b1 _ _ (ne_of_none e nx) (by rw [upd_ne (ne_of_none e nx), upd_ne (ne_of_none e nd)]; exact e)
local macro_rules | `(tactic| walk_at "call") => `(tactic| with_reducible refine r_mkUn ?_)
theorem sc_same : FnScope ["one", "other"] ["one", "other"] (defScope s_same) := ⟨rfl, rfl, rfl, by decide +kernel, rfl, by decide +kernel, by decide +kernel⟩
def sp_same (C : Addr) : Sp := fun vs H Q _ => ∃ (x y : V) (s t : Tag), vs = [x, y] ∧ Rep C H x s ∧ Rep C H y t ∧ Q (.bl (decide (s = t))) H
theorem ok_same (T : Top K mg) : FnOk P w K mg base CX0 2 T.f_same T.fd_same ["one", "other"] (sp_same T.C_Unnumbered) := by
  refine T.F_same.ok sc_same (fun vs H Q E h => ?_) (fun cdv A outer s H vs Q E hr h => ?_)
  · obtain ⟨x, y, s, t, rfl, _⟩ := h
    rfl
  · obtain ⟨x, y, s, t, rfl, hx, hy, q⟩ := h
    refine ⟨_, pss_cons (ps_if (pt_val (pe_call (ok_is_number T) (hr.mono (by decide)) (by rfl) T.mg_is_number T.F_is_number.kp T.B_is_number .nil pass0 (pa_cons (pv 0) (pa_nil)))) (pss_one (ps_ret (pe_and (pe_call (ok_is_number T) (hr.mono (by decide)) (by rfl) T.mg_is_number T.F_is_number.kp T.B_is_number .nil pass0 (pa_cons (pv 1) (pa_nil))) (pe_one (pe_cmpR op_eq (pv 0) (pv 1) (nomark _)))))) (pss_nil)) (pss_cons (ps_if (pt_val (pe_callB (Z.c_isi (K := K) rfl) (by rfl) T.z_isinstance (by decide +kernel) (pa_cons (pv 0) (pa_cons (pe_glob (v := .ref T.C_Unnumbered) (by exact rfl) T.mgC_Unnumbered rfl) (pa_nil))))) (pss_one (ps_ret (pe_and (pe_callB (Z.c_isi (K := K) rfl) (by rfl) T.z_isinstance (by decide +kernel) (pa_cons (pv 1) (pa_cons (pe_glob (v := .ref T.C_Unnumbered) (by exact rfl) T.mgC_Unnumbered rfl) (pa_nil)))) (pe_one (pe_cmpR op_eq (pe_fld (pv 0) rfl) (pe_fld (pv 1) rfl) (nomark _)))))) (pss_nil)) (pss_one (ps_ret (pe_and (pe_cmpR Z.o_isN (pv 0) (pe_non) (nomark _)) (pe_one (pe_cmpR Z.o_isN (pv 1) (pe_non) (nomark _))))))), ?_⟩
    refine Z.r_start (σ' := [some (x), some (y)]) rfl ?_
    cases s with
    | non =>
      cases hx
      cases t with
      | non => cases hy; walk_at "go"; exact q
      | num j => cases hy; walk_at "go"; exact q
      | mark m => obtain ⟨b, dy, rfl, hb⟩ := hy; walk_at "go"; exact q
    | num i =>
      cases hx
      cases t with
      | non => cases hy; walk_at "go"; exact q
      | num j =>
        cases hy; walk_at "go"
        have e : decide (Tag.num i = Tag.num j) = decide (i = j) := by by_cases h : i = j <;> simp [h]
        rw [e] at q
        exact q
      | mark m => obtain ⟨b, dy, rfl, hb⟩ := hy; walk_at "go"; exact q
    | mark n =>
      obtain ⟨a, dx, rfl, ha⟩ := hx
      cases t with
      | non => cases hy; walk_at "go"; exact q
      | num j => cases hy; walk_at "go"; exact q
      | mark m =>
        obtain ⟨b, dy, rfl, hb⟩ := hy
        walk_at "go"
        have e : decide (Tag.mark n = Tag.mark m) = decide (n = m) := by by_cases h : n = m <;> simp [h]
        rw [e] at q
        exact q
theorem k_same {C : Addr} {x y : V} {s t : Tag} {H : Hp} {Q : VK} {E : XK} (hx : Rep C H x s) (hy : Rep C H y t) (q : Q (.bl (decide (s = t))) H) : sp_same C ([x, y] ++ []) H Q E := ⟨x, y, s, t, rfl, hx, hy, q⟩

theorem sc_is_entry : FnScope ["thing"] ["thing"] (defScope s_is_entry) := ⟨rfl, rfl, rfl, by decide +kernel, rfl, by decide +kernel, by decide +kernel⟩
def sp_is_entry (K : PySem.W.Frag) (C : Addr) : Sp := fun vs H Q _ => ∃ (x : V) (t : Value) (bi bb bu : Bool), vs = [x] ∧ TyX K H x t ∧ PySem.W.kitOne K t (.type "int") = some bi ∧ PySem.W.kitOne K t (.type "bool") = some bb ∧ PySem.W.kitOne K t (.ref C) = some bu ∧ Q (.bl ((bi && !bb) || bu)) H
theorem ok_is_entry (T : Top K mg) : FnOk P w K mg base CX0 2 T.f_is_entry T.fd_is_entry ["thing"] (sp_is_entry K T.C_Unnumbered) := by
  refine T.F_is_entry.ok sc_is_entry (fun vs H Q E h => ?_) (fun cdv A outer s H vs Q E hr h => ?_)
  · obtain ⟨x, t, bi, bb, bu, rfl, _⟩ := h
    rfl
  · obtain ⟨x, t, bi, bb, bu, rfl, ty, ki, kb, ku, q⟩ := h
    refine ⟨_, pss_one (ps_ret (pe_or (pe_call (ok_is_number T) (hr.mono (by decide)) (by rfl) T.mg_is_number T.F_is_number.kp T.B_is_number .nil pass0 (pa_cons (pv 0) (pa_nil))) (pe_one (pe_callB (Z.c_isi (K := K) rfl) (by rfl) T.z_isinstance (by decide +kernel) (pa_cons (pv 0) (pa_cons (pe_glob (v := .ref T.C_Unnumbered) (by exact rfl) T.mgC_Unnumbered rfl) (pa_nil))))))), ?_⟩
    refine Z.r_start (σ' := [some (x)]) rfl ?_
    walk_at "go"
    cases bi with
    | true =>
      cases bb with
      | true => walk_at "go"; exact q
      | false => walk_at "go"; exact q
    | false => walk_at "go"; exact q
theorem k_is_entry {K : PySem.W.Frag} {C : Addr} {x : V} {t : Value} {bi bb bu : Bool} {H : Hp} {Q : VK} {E : XK} (ty : TyX K H x t) (ki : PySem.W.kitOne K t (.type "int") = some bi) (kb : PySem.W.kitOne K t (.type "bool") = some bb) (ku : PySem.W.kitOne K t (.ref C) = some bu)
    (q : Q (.bl ((bi && !bb) || bu)) H) : sp_is_entry K C ([x] ++ []) H Q E := ⟨x, t, bi, bb, bu, rfl, ty, ki, kb, ku, q⟩
local macro_rules | `(tactic| walk_at "call") => `(tactic| ((with_reducible refine' k_is_entry ?ty ?ki ?kb ?ku ?_); (case ty => walk_at "ty"); (case ki => walk_at "ki"); (case kb => walk_at "ki"); (case ku => walk_at "ki")))
theorem sc_Unnumbered___eq : FnScope ["self", "other"] ["self", "other"] (defScope s_Unnumbered___eq) := ⟨rfl, rfl, rfl, by decide +kernel, rfl, by decide +kernel, by decide +kernel⟩
def sp_Un_eq (K : PySem.W.Frag) (C : Addr) : Sp := fun vs H Q _ => ∃ (a dx : Addr) (n : Str) (y : V) (s : Tag), vs = [.ref a, y] ∧ H a = some (.ins C dx [("name", .str n)]) ∧ Rep C H y s ∧ Q (.bl false) H
theorem ok_Unnumbered___eq (T : Top K mg) : FnOk P w K mg base CX0 1 T.f_Unnumbered___eq T.fd_Unnumbered___eq ["self", "other"] (sp_Un_eq K T.C_Unnumbered) := by
  refine T.F_Unnumbered___eq.ok sc_Unnumbered___eq (fun vs H Q E h => ?_) (fun cdv A outer s H vs Q E hr h => ?_)
  · obtain ⟨a, dx, n, y, s, rfl, _⟩ := h
    rfl
  · obtain ⟨a, dx, n, y, s, rfl, ha, hy, q⟩ := h
    refine ⟨_, pss_one (ps_ret (pe_bl)), ?_⟩
    refine Z.r_start (σ' := [some (.ref a), some (y)]) rfl ?_
    cases s with
    | non => cases hy; walk_at "go"; exact q
    | num i => cases hy; walk_at "go"; exact q
    | mark m => obtain ⟨b, dy, rfl, hb⟩ := hy; walk_at "go"; exact q
theorem k_Un_eq {K : PySem.W.Frag} {C a dx : Addr} {n : Str} {y : V} {s : Tag} {H : Hp} {Q : VK} {E : XK} (ha : H a = some (.ins C dx [("name", .str n)])) (hy : Rep C H y s) (q : Q (.bl false) H) : sp_Un_eq K C ([.ref a, y] ++ []) H Q E := ⟨a, dx, n, y, s, rfl, ha, hy, q⟩
local macro_rules | `(tactic| walk_at "call") => `(tactic| ((with_reducible refine' k_Un_eq ?ha ?hy ?_); (case ha => walk_at "hp"); (case hy => walk_at "rep")))
theorem sc_Unnumbered___str : FnScope ["self"] ["self"] (defScope s_Unnumbered___str) := ⟨rfl, rfl, rfl, by decide +kernel, rfl, by decide +kernel, by decide +kernel⟩
def sp_Un_str (C : Addr) : Sp := fun vs H Q _ => ∃ (a dx : Addr) (n : Str), vs = [.ref a] ∧ H a = some (.ins C dx [("name", .str n)]) ∧ Word n ∧ Q (.str (("?" : Str) ++ n)) H
theorem ok_Unnumbered___str (T : Top K mg) : FnOk P w K mg base CX0 1 T.f_Unnumbered___str T.fd_Unnumbered___str ["self"] (sp_Un_str T.C_Unnumbered) := by
  refine T.F_Unnumbered___str.ok sc_Unnumbered___str (fun vs H Q E h => ?_) (fun cdv A outer s H vs Q E hr h => ?_)
  · obtain ⟨a, dx, n, rfl, _⟩ := h
    rfl
  · obtain ⟨a, dx, n, rfl, ha, hn, q⟩ := h
    have l8 : n.length ≤ 8 := hn.2.1
    have l1 : n.length ≤ sizeLine := Z.szle (by omega)
    have l2 : (("?" : Str) ++ n).length ≤ sizeLine := Z.szle (by rw [Str.length_append]; have : ("?" : Str).length = 1 := rfl; omega)
    refine ⟨_, pss_one (ps_ret (pe_joined (.cons (pe_str) (.cons (pe_fmt (pe_fld (pv 0) rfl)) (.nil))))), ?_⟩
    refine Z.r_start (σ' := [some (.ref a)]) rfl ?_
    walk_at "go"
    exact q
theorem k_Un_str {C a dx : Addr} {n : Str} {H : Hp} {Q : VK} {E : XK} (ha : H a = some (.ins C dx [("name", .str n)])) (hn : Word n) (q : Q (.str (("?" : Str) ++ n)) H) : sp_Un_str C ([.ref a] ++ []) H Q E := ⟨a, dx, n, rfl, ha, hn, q⟩
theorem sc_with_one_object_a_name : FnScope ["entries", "firsts", "kept", "entry"] ["entries"] (defScope s_with_one_object_a_name) := ⟨rfl, rfl, rfl, by decide +kernel, rfl, by decide +kernel, by decide +kernel⟩
def sp_with1 (C : Addr) : Sp := fun vs H Q _ => ∃ (l : Addr) (es : Ens), vs = [.ref l] ∧ H l = some (.lst (es.map (·.1))) ∧ es.length ≤ 250 ∧ EnsOk C H es ∧ ∀ t H', H t = none → Same H H' → H' t = some (.tup (es.map fun e => fstV es e.2)) → Q (.ref t) H'
theorem ok_with_one_object_a_name (T : Top K mg) : FnOk P w K mg base CX0 2 T.f_with_one_object_a_name T.fd_with_one_object_a_name ["entries"] (sp_with1 T.C_Unnumbered) := by
  refine T.F_with_one_object_a_name.ok sc_with_one_object_a_name (fun vs H Q E h => ?_) (fun cdv A outer s H vs Q E hr h => ?_)
  · obtain ⟨l, es, rfl, _⟩ := h
    rfl
  · obtain ⟨l, es, rfl, hl, hn, hes, q⟩ := h
    refine ⟨_, pss_cons (ps_set (i := 1) sc_with_one_object_a_name.nd rfl (.inl rfl) (pe_dnewK)) (pss_cons (ps_set (i := 2) sc_with_one_object_a_name.nd rfl (.inl rfl) (pe_lst (pa_nil))) (pss_cons (ps_for PassesOwn.never rfl (pi_list (pv 0)) (pg_name (i := 3) sc_with_one_object_a_name.nd rfl (.inl rfl)) (pss_one (ps_if (pt_val (pe_call (ok_is_number T) (hr.mono (by decide)) (by rfl) T.mg_is_number T.F_is_number.kp T.B_is_number .nil pass0 (pa_cons (pv 3) (pa_nil)))) (pss_one (ps_expr (pe_bm PySem.F.plainAttrs_list PySem.F.slot_list_append PySem.F.type_list_append mt_append (pv 2) (pa_cons (pv 3) (pa_nil))))) (pss_cons (ps_if (pt_cmp (pc_dnotin (hu_of hr) (pe_fld (pv 3) rfl) (pv 1))) (pss_one (ps_dput (hu_of hr) (pv 1) (pe_fld (pv 3) rfl) (pv 3) rfl)) (pss_nil)) (pss_one (ps_expr (pe_bm PySem.F.plainAttrs_list PySem.F.slot_list_append PySem.F.type_list_append mt_append (pv 2) (pa_cons (pe_dget (hu_of hr) (pv 1) (pe_fld (pv 3) rfl) (fun _ _ => rfl)) (pa_nil))))))))) (pss_one (ps_ret (pe_callTy Z.c_tupOf (by rfl) T.z_tuple (by decide +kernel) (pa_cons (pv 2) (pa_nil))))))), ?_⟩
    refine Z.r_start (σ' := [some (.ref l), none, none, none]) rfl ?_
    walk_at "go"
    intro d H1 nd s1 hd
    walk_at "go"
    intro kp H2 nk s2 hk
    have ndk : d ≠ kp := ne_of_none hd nk
    have s02 := s1.trans s2
    walk_at "go"
    refine Z.r_lst_by (SqL.of (s02 _ _ hl)) (fun k σ' H' => Same H H' ∧ ∃ kvs v3, σ' = [some (.ref l), some (.ref d), some (.ref kp), v3] ∧ H' d = some (.dK kvs) ∧ kvs.length ≤ k ∧ Firsts kvs (es.take k) ∧ H' kp = some (.lst ((es.take k).map fun e => fstV es e.2))) ?_ ?_ ?_ ?_
    · exact ⟨s02, [], _, rfl, s2 _ _ hd, Nat.le_refl _, (fun n => rfl), hk⟩
    · rintro k σ' H' ⟨s', _⟩
      exact SqL.of (s' _ _ hl)
    · rintro k x σ' H3 hx ⟨s3, kvs, v3, rfl, hd3, hkl, hF, hk3⟩
      rw [List.getElem?_map] at hx
      cases hu : es[k]? with
      | none => rw [hu] at hx; cases hx
      | some e =>
      rw [hu] at hx
      cases hx
      have hm := List.mem_of_getElem? hu
      have lk : k < es.length := (List.getElem?_eq_some_iff.mp hu).1
      have tk : es.take (k + 1) = es.take k ++ [e] := by
        rw [List.take_succ, hu]; rfl
      obtain ⟨hr1, hne⟩ := hes e hm
      have hr3 := hr1.same s3
      obtain ⟨x, t⟩ := e
      have ltk : ((es.take k).map fun e => fstV es e.2).length ≤ 250 := by rw [List.length_map, List.length_take]; omega
      have back : ∀ {H' H'' : Hp} {b : Addr}, Same H H' → H b = none → Z.But b H' H'' → Same H H'' := fun s n b a o h => b a o (ne_of_none h n) (s a o h)
      have nd0 : H d = none := nd
      have nk0 : H kp = none := by
        cases z : H kp with
        | none => rfl
        | some o => rw [s1 _ _ z] at nk; cases nk
      cases t with
      | non => exact absurd rfl hne
      | num i =>
        have hxi : x = .int i := hr1
        subst hxi
        walk_at "go"
        refine Z.r_app hk3 (by omega) fun H4 b4 h4 => ?_
        walk_at "go"
        refine ⟨back s3 nk0 b4, kvs, _, rfl, b4 _ _ ndk hd3, by omega, fun n => ?_, ?_⟩
        · rw [tk, fst_snoc, hF n]
          simp
        · rw [h4, tk, List.map_append]
          have e1 : fstV es (.num i) = .int i := fst_num hes ⟨_, hm⟩
          show some (HO.lst _) = some (HO.lst (_ ++ [fstV es (.num i)]))
          rw [e1]
      | mark n =>
        obtain ⟨a, dx, rfl, ha⟩ := hr3
        walk_at "go"
        cases hv : valV kvs (.inr n) with
        | some y =>
          walk_at "go"
          refine Z.r_dgS hd3 hv ?_
          walk_at "go"
          refine Z.r_app hk3 (by omega) fun H4 b4 h4 => ?_
          walk_at "go"
          have hy : fst? (es.take k) (.mark n) = some y := by rw [← hF n, hv]
          refine ⟨back s3 nk0 b4, kvs, _, rfl, b4 _ _ ndk hd3, by omega, fun m => ?_, ?_⟩
          · rw [tk, fst_snoc, hF m]
            by_cases e : n = m
            · subst e
              rw [hy]; rfl
            · simp [e]
          · rw [h4, tk, List.map_append]
            have e1 : fstV es (.mark n) = y := by unfold fstV; rw [fst_take hy]; rfl
            show some (HO.lst _) = some (HO.lst (_ ++ [fstV es (.mark n)]))
            rw [e1]
        | none =>
          have hy : fst? (es.take k) (.mark n) = none := by rw [← hF n, hv]
          walk_at "go"
          refine Z.r_dpS hd3 (by omega) fun H4 b4 h4 => ?_
          have hk4 := b4 _ _ ndk.symm hk3
          walk_at "go"
          refine Z.r_fldV (b4 _ _ (ne_of ha hd3 (by intro z; cases z)) ha) T.cl_Unnumbered T.no_Unnumbered_name Z.look1 ?_
          refine Z.r_dgS h4 (by rw [valV_put, if_pos rfl]) ?_
          walk_at "go"
          refine Z.r_app hk4 (by omega) fun H5 b5 h5 => ?_
          walk_at "go"
          refine ⟨back (back s3 nd0 b4) nk0 b5, _, _, rfl, b5 _ _ ndk h4, ?_, fun m => ?_, ?_⟩
          · rw [putK_new _ hv, List.length_append]
            exact Nat.succ_le_succ hkl
          · rw [valV_put, tk, fst_snoc, hF m]
            by_cases e : n = m
            · subst e
              rw [hy, if_pos rfl]; simp
            · rw [if_neg (by intro z; exact e (by cases z; rfl))]
              simp [e]
          · rw [h5, tk, List.map_append]
            have e1 : fstV es (.mark n) = .ref a := by
              have z : fst? (es.take (k + 1)) (.mark n) = some (.ref a) := by
                rw [tk, fst_snoc, hy]; simp
              unfold fstV; rw [fst_take z]; rfl
            show some (HO.lst _) = some (HO.lst (_ ++ [fstV es (.mark n)]))
            rw [e1]
    · rintro σ' H3 ⟨s3, kvs, v3, rfl, hd3, hkl, hF, hk3⟩
      rw [List.length_map, List.take_length] at hk3
      walk_at "go"
      intro t H4 nt s4 ht
      refine q t H4 ?_ (s3.trans s4) ht
      cases z : H t with
      | none => rfl
      | some o => rw [s3 _ _ z] at nt; cases nt
theorem k_with1 {C l : Addr} {es : Ens} {H : Hp} {Q : VK} {E : XK} (hl : H l = some (.lst (es.map (·.1)))) (hn : es.length ≤ 250) (hes : EnsOk C H es) (q : ∀ t H', H t = none → Same H H' → H' t = some (.tup (es.map fun e => fstV es e.2)) → Q (.ref t) H') :
    sp_with1 C ([.ref l] ++ []) H Q E := ⟨l, es, rfl, hl, hn, hes, q⟩
theorem sc_Series___init : FnScope ["self", "entries", "at", "entry"] ["self", "entries"] (defScope s_Series___init) := ⟨rfl, rfl, rfl, by decide +kernel, rfl, by decide +kernel, by decide +kernel⟩
def sp_Se (C S : Addr) : Sp := fun vs H Q _ => ∃ (p dx l : Addr) (es : Ens), vs = [.ref p, .ref l] ∧ H p = some (.ins S dx []) ∧ H l = some (.lst (es.map (·.1))) ∧ es.length ≤ 250 ∧ EnsOk C H es ∧
  ∀ t H', H t = none → Z.But p H H' → H' t = some (.tup (es.map fun e => fstV es e.2)) → H' p = some (.ins S dx [("entries", .ref t)]) → Q .non H'
theorem ok_Series___init (T : Top K mg) : FnOk P w K mg base CX0 3 T.f_Series___init T.fd_Series___init ["self", "entries"] (sp_Se T.C_Unnumbered T.C_Series) := by
  refine T.F_Series___init.ok sc_Series___init (fun vs H Q E h => ?_) (fun cdv A outer s H vs Q E hr h => ?_)
  · obtain ⟨p, dx, l, es, rfl, _⟩ := h
    rfl
  · obtain ⟨p, dx, l, es, rfl, hp, hl, hn, hes, q⟩ := h
    refine ⟨_, pss_cons (ps_if ((pw_or (pt_not (pt_val (pe_callB (Z.c_isiT (K := K) rfl) (by rfl) T.z_isinstance (by decide +kernel) (pa_cons (pv 1) (pa_cons (pe_tup (pa_cons (pe_bltn (v := .ty "list") (by rfl) T.z_list (by decide +kernel) rfl) (pa_cons (pe_bltn (v := .ty "tuple") (by rfl) T.z_tuple (by decide +kernel) rfl) (pa_nil)))) (pa_nil)))))) (pw_or1 (pt_cmpR op_gt (pe_callB Z.c_len (by rfl) T.z_len (by decide +kernel) (pa_cons (pv 1) (pa_nil))) (pe_glob (v := .int 250) (by rfl) T.mgK_MOST_ENTRIES ⟨_, rfl⟩) (nomark _)))).pt) (pss_one (ps_never)) (pss_nil)) (pss_cons (ps_for PassesOwn.never rfl (pi_enum (by rfl) T.z_enumerate (pa_cons (pv 1) (pa_nil))) (pg_tup rfl (pgs_cons (pg_name (i := 2) sc_Series___init.nd rfl (.inl rfl)) (pgs_cons (pg_name (i := 3) sc_Series___init.nd rfl (.inl rfl)) (pgs_nil)))) (pss_one (ps_if (pt_not (pt_val (pe_call (ok_is_entry T) (hr.mono (by decide)) (by rfl) T.mg_is_entry T.F_is_entry.kp T.B_is_entry .nil pass0 (pa_cons (pv 3) (pa_nil))))) (pss_one (ps_never)) (pss_nil)))) (pss_one (ps_fld (pv 0) (pe_call (ok_with_one_object_a_name T) (hr.mono (by decide)) (by rfl) T.mg_with_one_object_a_name T.F_with_one_object_a_name.kp T.B_with_one_object_a_name .nil pass0 (pa_cons (pv 1) (pa_nil))) rfl))), ?_⟩
    refine Z.r_start (σ' := [some (.ref p), some (.ref l), none, none]) rfl ?_
    walk_at "go"
    intro tp H1 ntp s1 htp
    have hl1 := s1 _ _ hl
    walk_at "go"
    rw [List.length_map]
    refine Z.no (decide_eq_false (by omega)) ?_
    walk_at "go"
    refine Z.r_enum_by (SqL.of hl1) (fun k σ' H' => Same H1 H' ∧ ∃ v2 v3, σ' = [some (.ref p), some (.ref l), v2, v3]) ?_ ?_ ?_ ?_
    · exact ⟨Same.refl _, _, _, rfl⟩
    · rintro k σ' H' ⟨s', _⟩
      exact SqL.of (s' _ _ hl1)
    · rintro k x σ' H2 hx ⟨s2, v2, v3, rfl⟩ TT H3 nTT s3 hTT
      rw [List.getElem?_map] at hx
      cases hu : es[k]? with
      | none => rw [hu] at hx; cases hx
      | some e =>
      rw [hu] at hx
      cases hx
      have hm := List.mem_of_getElem? hu
      obtain ⟨hr1, hne⟩ := hes e hm
      have hr3 := ((hr1.same s1).same s2).same s3
      obtain ⟨x, t⟩ := e
      have s23 := s2.trans s3
      walk_at "go"
      cases t with
      | non => exact absurd rfl hne
      | num i =>
        have hxi : x = .int i := hr1
        subst hxi
        walk_at "go"
        exact ⟨s23, _, _, rfl⟩
      | mark n =>
        obtain ⟨a, dx, rfl, ha⟩ := hr3
        walk_at "go"
        exact ⟨s23, _, _, rfl⟩
    · rintro σ' H2 ⟨s2, v2, v3, rfl⟩
      have s02 := s1.trans s2
      walk_at "go"
      refine k_with1 (s02 _ _ hl) hn (hes.same s02) ?_
      intro t H3 nt s3 ht
      have hp3 := s3 _ _ (s02 _ _ hp)
      walk_at "go"
      intro H4 b4 h4
      have nt0 : H t = none := by
        cases z : H t with
        | none => rfl
        | some o => rw [s02 _ _ z] at nt; cases nt
      refine q t H4 nt0 ((Z.But.same (s02.trans s3)).trans b4) ?_ h4
      exact b4 _ _ (ne_of_none (s02 _ _ hp) nt).symm ht
theorem r_mkSe {C S l : Addr} {es : Ens} {H : Hp} {Q : VK} {E : XK} (hl : H l = some (.lst (es.map (·.1)))) (hn : es.length ≤ 250) (hes : EnsOk C H es)
    (h : ∀ x dx t H1, H x = none → H t = none → Same H H1 → H1 t = some (.tup (es.map fun e => fstV es e.2)) → H1 x = some (.ins S dx [("entries", .ref t)]) → Q (.ref x) H1) : Z.mkI S (sp_Se C S) [] [.ref l] H Q E := by
  intro x dx nx nd ne
  have sm : Same H (L2.upd (L2.upd H dx (.own x)) x (.ins S dx [])) := fun b o e => by
    rw [upd_ne (ne_of_none e nx), upd_ne (ne_of_none e nd)]; exact e
  refine ⟨x, dx, l, es, rfl, upd_same, sm _ _ hl, hn, hes.same sm, fun t H1 nt b1 ht h1 => ⟨rfl, h x dx t H1 nx ?_ (fun b o e => b1 _ _ (ne_of_none e nx) (sm _ _ e)) ht h1⟩⟩
  cases z : H t with
  | none => rfl
  | some o => rw [sm _ _ z] at nt; cases nt

theorem sc_BadSeries___init : FnScope ["self", "at"] ["self", "at"] (defScope s_BadSeries___init) := ⟨rfl, rfl, rfl, by decide +kernel, rfl, by decide +kernel, by decide +kernel⟩
theorem ok_BadSeries___init (T : Top K mg) : FnOk P w K mg base CX0 1 T.f_BadSeries___init T.fd_BadSeries___init ["self", "at"] (sp_ex T.C_BadSeries "at") := by
  refine T.F_BadSeries___init.ok sc_BadSeries___init (fun vs H Q E h => ?_) (fun cdv A outer s H vs Q E hr h => ?_)
  · obtain ⟨a, y, rfl, _⟩ := h
    rfl
  · obtain ⟨a, y, rfl, ha, q⟩ := h
    refine ⟨_, pss_one (Z.ps_xst (pv 0) (pv 1) rfl), ?_⟩
    refine Z.r_start (σ' := [some (.ref a), some (y)]) rfl ?_
    walk_at "go"
    refine Z.r_xstV T.ex_BadSeries T.no_BadSeries_at ha fun dx H1 n b h1 h2 => ?_
    walk_at "go"
    exact q dx H1 n b h1 h2
theorem sc_NoKey___init : FnScope ["self", "key"] ["self", "key"] (defScope s_NoKey___init) := ⟨rfl, rfl, rfl, by decide +kernel, rfl, by decide +kernel, by decide +kernel⟩
theorem ok_NoKey___init (T : Top K mg) : FnOk P w K mg base CX0 1 T.f_NoKey___init T.fd_NoKey___init ["self", "key"] (sp_ex T.C_NoKey "key") := by
  refine T.F_NoKey___init.ok sc_NoKey___init (fun vs H Q E h => ?_) (fun cdv A outer s H vs Q E hr h => ?_)
  · obtain ⟨a, y, rfl, _⟩ := h
    rfl
  · obtain ⟨a, y, rfl, ha, q⟩ := h
    refine ⟨_, pss_one (Z.ps_xst (pv 0) (pv 1) rfl), ?_⟩
    refine Z.r_start (σ' := [some (.ref a), some (y)]) rfl ?_
    walk_at "go"
    refine Z.r_xstV T.ex_NoKey T.no_NoKey_key ha fun dx H1 n b h1 h2 => ?_
    walk_at "go"
    exact q dx H1 n b h1 h2

def sp_with1T (C : Addr) : Sp := fun vs H Q _ => ∃ (l : Addr) (es : Ens), vs = [.ref l] ∧ H l = some (.tup (es.map (·.1))) ∧ es.length ≤ 250 ∧ EnsOk C H es ∧ ∀ t H', H t = none → Same H H' → H' t = some (.tup (es.map fun e => fstV es e.2)) → Q (.ref t) H'
theorem ok_with_one_object_a_name_t (T : Top K mg) : FnOk P w K mg base CX0 2 T.f_with_one_object_a_name T.fd_with_one_object_a_name ["entries"] (sp_with1T T.C_Unnumbered) := by
  refine T.F_with_one_object_a_name.ok sc_with_one_object_a_name (fun vs H Q E h => ?_) (fun cdv A outer s H vs Q E hr h => ?_)
  · obtain ⟨l, es, rfl, _⟩ := h
    rfl
  · obtain ⟨l, es, rfl, hl, hn, hes, q⟩ := h
    refine ⟨_, pss_cons (ps_set (i := 1) sc_with_one_object_a_name.nd rfl (.inl rfl) (pe_dnewK)) (pss_cons (ps_set (i := 2) sc_with_one_object_a_name.nd rfl (.inl rfl) (pe_lst (pa_nil))) (pss_cons (ps_for PassesOwn.never rfl (pi_tup (pv 0)) (pg_name (i := 3) sc_with_one_object_a_name.nd rfl (.inl rfl)) (pss_one (ps_if (pt_val (pe_call (ok_is_number T) (hr.mono (by decide)) (by rfl) T.mg_is_number T.F_is_number.kp T.B_is_number .nil pass0 (pa_cons (pv 3) (pa_nil)))) (pss_one (ps_expr (pe_bm PySem.F.plainAttrs_list PySem.F.slot_list_append PySem.F.type_list_append mt_append (pv 2) (pa_cons (pv 3) (pa_nil))))) (pss_cons (ps_if (pt_cmp (pc_dnotin (hu_of hr) (pe_fld (pv 3) rfl) (pv 1))) (pss_one (ps_dput (hu_of hr) (pv 1) (pe_fld (pv 3) rfl) (pv 3) rfl)) (pss_nil)) (pss_one (ps_expr (pe_bm PySem.F.plainAttrs_list PySem.F.slot_list_append PySem.F.type_list_append mt_append (pv 2) (pa_cons (pe_dget (hu_of hr) (pv 1) (pe_fld (pv 3) rfl) (fun _ _ => rfl)) (pa_nil))))))))) (pss_one (ps_ret (pe_callTy Z.c_tupOf (by rfl) T.z_tuple (by decide +kernel) (pa_cons (pv 2) (pa_nil))))))), ?_⟩
    refine Z.r_start (σ' := [some (.ref l), none, none, none]) rfl ?_
    walk_at "go"
    intro d H1 nd s1 hd
    walk_at "go"
    intro kp H2 nk s2 hk
    have ndk : d ≠ kp := ne_of_none hd nk
    have s02 := s1.trans s2
    walk_at "go"
    refine Z.r_tup_by (SqT.of (s02 _ _ hl)) (fun k σ' H' => Same H H' ∧ ∃ kvs v3, σ' = [some (.ref l), some (.ref d), some (.ref kp), v3] ∧ H' d = some (.dK kvs) ∧ kvs.length ≤ k ∧ Firsts kvs (es.take k) ∧ H' kp = some (.lst ((es.take k).map fun e => fstV es e.2))) ?_ ?_ ?_ ?_
    · exact ⟨s02, [], _, rfl, s2 _ _ hd, Nat.le_refl _, (fun n => rfl), hk⟩
    · rintro k σ' H' ⟨s', _⟩
      exact SqT.of (s' _ _ hl)
    · rintro k x σ' H3 hx ⟨s3, kvs, v3, rfl, hd3, hkl, hF, hk3⟩
      rw [List.getElem?_map] at hx
      cases hu : es[k]? with
      | none => rw [hu] at hx; cases hx
      | some e =>
      rw [hu] at hx
      cases hx
      have hm := List.mem_of_getElem? hu
      have lk : k < es.length := (List.getElem?_eq_some_iff.mp hu).1
      have tk : es.take (k + 1) = es.take k ++ [e] := by
        rw [List.take_succ, hu]; rfl
      obtain ⟨hr1, hne⟩ := hes e hm
      have hr3 := hr1.same s3
      obtain ⟨x, t⟩ := e
      have ltk : ((es.take k).map fun e => fstV es e.2).length ≤ 250 := by rw [List.length_map, List.length_take]; omega
      have back : ∀ {H' H'' : Hp} {b : Addr}, Same H H' → H b = none → Z.But b H' H'' → Same H H'' := fun s n b a o h => b a o (ne_of_none h n) (s a o h)
      have nd0 : H d = none := nd
      have nk0 : H kp = none := by
        cases z : H kp with
        | none => rfl
        | some o => rw [s1 _ _ z] at nk; cases nk
      cases t with
      | non => exact absurd rfl hne
      | num i =>
        have hxi : x = .int i := hr1
        subst hxi
        walk_at "go"
        refine Z.r_app hk3 (by omega) fun H4 b4 h4 => ?_
        walk_at "go"
        refine ⟨back s3 nk0 b4, kvs, _, rfl, b4 _ _ ndk hd3, by omega, fun n => ?_, ?_⟩
        · rw [tk, fst_snoc, hF n]
          simp
        · rw [h4, tk, List.map_append]
          have e1 : fstV es (.num i) = .int i := fst_num hes ⟨_, hm⟩
          show some (HO.lst _) = some (HO.lst (_ ++ [fstV es (.num i)]))
          rw [e1]
      | mark n =>
        obtain ⟨a, dx, rfl, ha⟩ := hr3
        walk_at "go"
        cases hv : valV kvs (.inr n) with
        | some y =>
          walk_at "go"
          refine Z.r_dgS hd3 hv ?_
          walk_at "go"
          refine Z.r_app hk3 (by omega) fun H4 b4 h4 => ?_
          walk_at "go"
          have hy : fst? (es.take k) (.mark n) = some y := by rw [← hF n, hv]
          refine ⟨back s3 nk0 b4, kvs, _, rfl, b4 _ _ ndk hd3, by omega, fun m => ?_, ?_⟩
          · rw [tk, fst_snoc, hF m]
            by_cases e : n = m
            · subst e
              rw [hy]; rfl
            · simp [e]
          · rw [h4, tk, List.map_append]
            have e1 : fstV es (.mark n) = y := by unfold fstV; rw [fst_take hy]; rfl
            show some (HO.lst _) = some (HO.lst (_ ++ [fstV es (.mark n)]))
            rw [e1]
        | none =>
          have hy : fst? (es.take k) (.mark n) = none := by rw [← hF n, hv]
          walk_at "go"
          refine Z.r_dpS hd3 (by omega) fun H4 b4 h4 => ?_
          have hk4 := b4 _ _ ndk.symm hk3
          walk_at "go"
          refine Z.r_fldV (b4 _ _ (ne_of ha hd3 (by intro z; cases z)) ha) T.cl_Unnumbered T.no_Unnumbered_name Z.look1 ?_
          refine Z.r_dgS h4 (by rw [valV_put, if_pos rfl]) ?_
          walk_at "go"
          refine Z.r_app hk4 (by omega) fun H5 b5 h5 => ?_
          walk_at "go"
          refine ⟨back (back s3 nd0 b4) nk0 b5, _, _, rfl, b5 _ _ ndk h4, ?_, fun m => ?_, ?_⟩
          · rw [putK_new _ hv, List.length_append]
            exact Nat.succ_le_succ hkl
          · rw [valV_put, tk, fst_snoc, hF m]
            by_cases e : n = m
            · subst e
              rw [hy, if_pos rfl]; simp
            · rw [if_neg (by intro z; exact e (by cases z; rfl))]
              simp [e]
          · rw [h5, tk, List.map_append]
            have e1 : fstV es (.mark n) = .ref a := by
              have z : fst? (es.take (k + 1)) (.mark n) = some (.ref a) := by
                rw [tk, fst_snoc, hy]; simp
              unfold fstV; rw [fst_take z]; rfl
            show some (HO.lst _) = some (HO.lst (_ ++ [fstV es (.mark n)]))
            rw [e1]
    · rintro σ' H3 ⟨s3, kvs, v3, rfl, hd3, hkl, hF, hk3⟩
      rw [List.length_map, List.take_length] at hk3
      walk_at "go"
      intro t H4 nt s4 ht
      refine q t H4 ?_ (s3.trans s4) ht
      cases z : H t with
      | none => rfl
      | some o => rw [s3 _ _ z] at nt; cases nt
theorem k_with1T {C l : Addr} {es : Ens} {H : Hp} {Q : VK} {E : XK} (hl : H l = some (.tup (es.map (·.1)))) (hn : es.length ≤ 250) (hes : EnsOk C H es) (q : ∀ t H', H t = none → Same H H' → H' t = some (.tup (es.map fun e => fstV es e.2)) → Q (.ref t) H') :
    sp_with1T C ([.ref l] ++ []) H Q E := ⟨l, es, rfl, hl, hn, hes, q⟩
def sp_SeT (C S : Addr) : Sp := fun vs H Q _ => ∃ (p dx l : Addr) (es : Ens), vs = [.ref p, .ref l] ∧ H p = some (.ins S dx []) ∧ H l = some (.tup (es.map (·.1))) ∧ es.length ≤ 250 ∧ EnsOk C H es ∧
  ∀ t H', H t = none → Z.But p H H' → H' t = some (.tup (es.map fun e => fstV es e.2)) → H' p = some (.ins S dx [("entries", .ref t)]) → Q .non H'
theorem ok_Series___init___t (T : Top K mg) : FnOk P w K mg base CX0 3 T.f_Series___init T.fd_Series___init ["self", "entries"] (sp_SeT T.C_Unnumbered T.C_Series) := by
  refine T.F_Series___init.ok sc_Series___init (fun vs H Q E h => ?_) (fun cdv A outer s H vs Q E hr h => ?_)
  · obtain ⟨p, dx, l, es, rfl, _⟩ := h
    rfl
  · obtain ⟨p, dx, l, es, rfl, hp, hl, hn, hes, q⟩ := h
    refine ⟨_, pss_cons (ps_if ((pw_or (pt_not (pt_val (pe_callB (Z.c_isiT (K := K) rfl) (by rfl) T.z_isinstance (by decide +kernel) (pa_cons (pv 1) (pa_cons (pe_tup (pa_cons (pe_bltn (v := .ty "list") (by rfl) T.z_list (by decide +kernel) rfl) (pa_cons (pe_bltn (v := .ty "tuple") (by rfl) T.z_tuple (by decide +kernel) rfl) (pa_nil)))) (pa_nil)))))) (pw_or1 (pt_cmpR op_gt (pe_callB Z.c_len (by rfl) T.z_len (by decide +kernel) (pa_cons (pv 1) (pa_nil))) (pe_glob (v := .int 250) (by rfl) T.mgK_MOST_ENTRIES ⟨_, rfl⟩) (nomark _)))).pt) (pss_one (ps_never)) (pss_nil)) (pss_cons (ps_for PassesOwn.never rfl (Z.pi_enT (by rfl) T.z_enumerate (pa_cons (pv 1) (pa_nil))) (pg_tup rfl (pgs_cons (pg_name (i := 2) sc_Series___init.nd rfl (.inl rfl)) (pgs_cons (pg_name (i := 3) sc_Series___init.nd rfl (.inl rfl)) (pgs_nil)))) (pss_one (ps_if (pt_not (pt_val (pe_call (ok_is_entry T) (hr.mono (by decide)) (by rfl) T.mg_is_entry T.F_is_entry.kp T.B_is_entry .nil pass0 (pa_cons (pv 3) (pa_nil))))) (pss_one (ps_never)) (pss_nil)))) (pss_one (ps_fld (pv 0) (pe_call (ok_with_one_object_a_name_t T) (hr.mono (by decide)) (by rfl) T.mg_with_one_object_a_name T.F_with_one_object_a_name.kp T.B_with_one_object_a_name .nil pass0 (pa_cons (pv 1) (pa_nil))) rfl))), ?_⟩
    refine Z.r_start (σ' := [some (.ref p), some (.ref l), none, none]) rfl ?_
    walk_at "go"
    intro tp H1 ntp s1 htp
    have hl1 := s1 _ _ hl
    walk_at "go"
    rw [List.length_map]
    refine Z.no (decide_eq_false (by omega)) ?_
    walk_at "go"
    refine Z.r_enumT_by (SqT.of hl1) (fun k σ' H' => Same H1 H' ∧ ∃ v2 v3, σ' = [some (.ref p), some (.ref l), v2, v3]) ?_ ?_ ?_ ?_
    · exact ⟨Same.refl _, _, _, rfl⟩
    · rintro k σ' H' ⟨s', _⟩
      exact SqT.of (s' _ _ hl1)
    · rintro k x σ' H2 hx ⟨s2, v2, v3, rfl⟩ TT H3 nTT s3 hTT
      rw [List.getElem?_map] at hx
      cases hu : es[k]? with
      | none => rw [hu] at hx; cases hx
      | some e =>
      rw [hu] at hx
      cases hx
      have hm := List.mem_of_getElem? hu
      obtain ⟨hr1, hne⟩ := hes e hm
      have hr3 := ((hr1.same s1).same s2).same s3
      obtain ⟨x, t⟩ := e
      have s23 := s2.trans s3
      walk_at "go"
      cases t with
      | non => exact absurd rfl hne
      | num i =>
        have hxi : x = .int i := hr1
        subst hxi
        walk_at "go"
        exact ⟨s23, _, _, rfl⟩
      | mark n =>
        obtain ⟨a, dx, rfl, ha⟩ := hr3
        walk_at "go"
        exact ⟨s23, _, _, rfl⟩
    · rintro σ' H2 ⟨s2, v2, v3, rfl⟩
      have s02 := s1.trans s2
      walk_at "go"
      refine k_with1T (s02 _ _ hl) hn (hes.same s02) ?_
      intro t H3 nt s3 ht
      have hp3 := s3 _ _ (s02 _ _ hp)
      walk_at "go"
      intro H4 b4 h4
      have nt0 : H t = none := by
        cases z : H t with
        | none => rfl
        | some o => rw [s02 _ _ z] at nt; cases nt
      refine q t H4 nt0 ((Z.But.same (s02.trans s3)).trans b4) ?_ h4
      exact b4 _ _ (ne_of_none (s02 _ _ hp) nt).symm ht
theorem r_mkSeT {C S l : Addr} {es : Ens} {H : Hp} {Q : VK} {E : XK} (hl : H l = some (.tup (es.map (·.1)))) (hn : es.length ≤ 250) (hes : EnsOk C H es)
    (h : ∀ x dx t H1, H x = none → H t = none → Same H H1 → H1 t = some (.tup (es.map fun e => fstV es e.2)) → H1 x = some (.ins S dx [("entries", .ref t)]) → Q (.ref x) H1) : Z.mkI S (sp_SeT C S) [] [.ref l] H Q E := by
  intro x dx nx nd ne
  have sm : Same H (L2.upd (L2.upd H dx (.own x)) x (.ins S dx [])) := fun b o e => by
    rw [upd_ne (ne_of_none e nx), upd_ne (ne_of_none e nd)]; exact e
  refine ⟨x, dx, l, es, rfl, upd_same, sm _ _ hl, hn, hes.same sm, fun t H1 nt b1 ht h1 => ⟨rfl, h x dx t H1 nx ?_ (fun b o e => b1 _ _ (ne_of_none e nx) (sm _ _ e)) ht h1⟩⟩
  cases z : H t with
  | none => rfl
  | some o => rw [sm _ _ z] at nt; cases nt

theorem sc_Series___len : FnScope ["self"] ["self"] (defScope s_Series___len) := ⟨rfl, rfl, rfl, by decide +kernel, rfl, by decide +kernel, by decide +kernel⟩
def sp_Se_len (S : Addr) : Sp := fun vs H Q _ => ∃ (a : Addr) (gs : Ens), vs = [.ref a] ∧ SerAt S H a gs ∧ Q (.int gs.length) H
theorem ok_Series___len (T : Top K mg) : FnOk P w K mg base CX0 1 T.f_Series___len T.fd_Series___len ["self"] (sp_Se_len T.C_Series) := by
  refine T.F_Series___len.ok sc_Series___len (fun vs H Q E h => ?_) (fun cdv A outer s H vs Q E hr h => ?_)
  · obtain ⟨a, gs, rfl, _⟩ := h
    rfl
  · obtain ⟨a, gs, rfl, ⟨dx, t, ha, ht⟩, q⟩ := h
    refine ⟨_, pss_one (ps_ret (pe_callB Z.c_len (by rfl) T.z_len (by decide +kernel) (pa_cons (pe_fld (pv 0) rfl) (pa_nil)))), ?_⟩
    refine Z.r_start (σ' := [some (.ref a)]) rfl ?_
    walk_at "go"
    rw [List.length_map]
    exact q
theorem k_Se_len {S a : Addr} {gs : Ens} {H : Hp} {Q : VK} {E : XK} (h : SerAt S H a gs) (q : Q (.int gs.length) H) : sp_Se_len S ([.ref a] ++ []) H Q E := ⟨a, gs, rfl, h, q⟩
theorem sc_Series___getitem : FnScope ["self", "at"] ["self", "at"] (defScope s_Series___getitem) := ⟨rfl, rfl, rfl, by decide +kernel, rfl, by decide +kernel, by decide +kernel⟩
def sp_Se_get (S : Addr) : Sp := fun vs H Q _ => ∃ (a : Addr) (i : Nat) (gs : Ens) (e : V × Tag), vs = [.ref a, .int i] ∧ SerAt S H a gs ∧ gs[i]? = some e ∧ Q e.1 H
theorem ok_Series___getitem (T : Top K mg) : FnOk P w K mg base CX0 1 T.f_Series___getitem T.fd_Series___getitem ["self", "at"] (sp_Se_get T.C_Series) := by
  refine T.F_Series___getitem.ok sc_Series___getitem (fun vs H Q E h => ?_) (fun cdv A outer s H vs Q E hr h => ?_)
  · obtain ⟨a, i, gs, e, rfl, _⟩ := h
    rfl
  · obtain ⟨a, i, gs, e, rfl, ⟨dx, t, ha, ht⟩, he, q⟩ := h
    have li := (List.getElem?_eq_some_iff.mp he).1
    refine ⟨_, pss_cons (ps_if ((pw_or (pt_cmpR op_lt (pv 1) (pe_int) (nomark _)) (pw_or1 (pt_cmpR op_ge (pv 1) (pe_callB Z.c_len (by rfl) T.z_len (by decide +kernel) (pa_cons (pe_fld (pv 0) rfl) (pa_nil))) (nomark _)))).pt) (pss_one (ps_never)) (pss_nil)) (pss_one (ps_ret (pe_ix (Z.ix_seqG (K := K) rfl) (pe_fld (pv 0) rfl) (pv 1) (fun _ _ => rfl)))), ?_⟩
    refine Z.r_start (σ' := [some (.ref a), some (.int (i : Int))]) rfl ?_
    walk_at "go"
    rw [List.length_map]
    refine Z.no (decide_eq_false (by omega)) ?_
    walk_at "go"
    refine Z.r_ixT (SqT.of ht) (atI_nat (v := e.1) (by rw [List.getElem?_map, he]; rfl)) ?_
    exact q
theorem k_Se_get {S a : Addr} {i : Nat} {gs : Ens} {e : V × Tag} {H : Hp} {Q : VK} {E : XK} (h : SerAt S H a gs) (he : gs[i]? = some e) (q : Q e.1 H) : sp_Se_get S ([.ref a, .int (i : Int)] ++ []) H Q E := ⟨a, i, gs, e, rfl, h, he, q⟩
theorem sc_Series___str : FnScope ["self", "entry"] ["self"] (defScope s_Series___str) := ⟨rfl, rfl, rfl, by decide +kernel, rfl, by decide +kernel, by decide +kernel⟩
def sp_Se_str (C S : Addr) : Sp := fun vs H Q _ => ∃ (a : Addr) (gs : Ens), vs = [.ref a] ∧ SerAt S H a gs ∧ gs.length ≤ 250 ∧ EnsOk C H gs ∧ TagsB gs ∧ ∀ H', Same H H' → Q (.str (textOf gs)) H'
theorem ok_Series___str (T : Top K mg) : FnOk P w K mg base CX0 4 T.f_Series___str T.fd_Series___str ["self"] (sp_Se_str T.C_Unnumbered T.C_Series) := by
  refine T.F_Series___str.ok sc_Series___str (fun vs H Q E h => ?_) (fun cdv A outer s H vs Q E hr h => ?_)
  · obtain ⟨a, gs, rfl, _⟩ := h
    rfl
  · obtain ⟨a, gs, rfl, ⟨dx, t, ha, ht⟩, hn, hg, hb, q⟩ := h
    refine ⟨_, pss_one (ps_ret (pe_join (pe_str) (pe_lc (own := [("entry", 1)]) (g := gName 1) (tt := tYes) rfl sc_Series___str.nd (pi_tup (pe_fld (pv 0) rfl)) (blkOk_by (own := [("entry", 1)]) (N := ["self", "entry"]) (sc := defScope s_Series___str) (by decide +kernel)) (fun _ _ _ _ _ => pg_name (i := 1) sc_Series___str.nd rfl (.inl rfl)) (fun _ _ _ _ _ => pts_nil) (fun _ _ _ _ _ => pe_callTy (Z.c_strM (Z.c_strO (k := 1) T.me_Unnumbered___str (ok_Unnumbered___str T) (hr.mono (by decide)) T.B_Unnumbered___str)) (by rfl) T.z_str (by decide +kernel) (pa_cons (pv 1) (pa_nil)))))), ?_⟩
    refine Z.r_start (σ' := [some (.ref a), none]) rfl ?_
    walk_at "go"
    refine Z.r_lcT (SqT.of ht) (fun _ => rfl) (fun D i H' => Same H H' ∧ H' D = some (.lst (((gs.take i).map fun e => textT e.2).map V.str))) ?_ ?_ ?_ ?_
    · intro D H1 nD s1 h1
      exact ⟨s1, h1⟩
    · rintro D i H1 nD ⟨s1, _⟩
      exact SqT.of (s1 _ _ ht)
    · rintro D i x H1 nD hx ⟨s1, hD⟩
      rw [List.getElem?_map] at hx
      cases hu : gs[i]? with
      | none => rw [hu] at hx; cases hx
      | some e =>
      rw [hu] at hx
      cases hx
      have hm := List.mem_of_getElem? hu
      obtain ⟨hr1, hne⟩ := hg e hm
      have hr2 := hr1.same s1
      have hb1 := hb e hm
      have ln : (((gs.take i).map fun e => textT e.2).map V.str).length ≤ 100000 := by rw [List.length_map, List.length_map, List.length_take]; omega
      have back : ∀ {H'' : Hp}, Z.But D H1 H'' → Same H H'' := fun b c o h => b c o (ne_of_none h nD) (s1 c o h)
      rw [take_snoc hu, List.map_append, List.map_append]
      obtain ⟨x, tg⟩ := e
      cases tg with
      | non => exact absurd rfl hne
      | num j =>
        have hxj : x = .int j := hr1
        subst hxj
        walk_at "go"
        refine .inl (Z.r_strI (big_log hb1) ?_)
        exact Z.r_ap hD ln fun H2 b2 h2 => ⟨back b2, h2⟩
      | mark n =>
        obtain ⟨b, db, rfl, hb2⟩ := hr2
        walk_at "go"
        refine .inr (Z.r_txO hb2 (k_Un_str hb2 hb1 (Z.r_txB ?_)))
        exact Z.r_ap hD ln fun H2 b2 h2 => ⟨back b2, h2⟩
    · rintro D H1 nD ⟨s1, hD⟩
      rw [List.length_map, List.take_length] at hD
      walk_at "go"
      refine (Z.r_join (K := K) hD (Nat.le_trans (texts_sum hb hn) (by decide)) ?_ : Z.jnR K _ _ _ _)
      exact q H1 s1
theorem k_Se_str {C S a : Addr} {gs : Ens} {H : Hp} {Q : VK} {E : XK} (h : SerAt S H a gs) (hn : gs.length ≤ 250) (hg : EnsOk C H gs) (hb : TagsB gs) (q : ∀ H', Same H H' → Q (.str (textOf gs)) H') : sp_Se_str C S ([.ref a] ++ []) H Q E := ⟨a, gs, rfl, h, hn, hg, hb, q⟩
/-- too many entries -/
def sp_SeTX (B S : Addr) : Sp := fun vs H _ E => ∃ (p dx t : Addr) (xs : List V), vs = [.ref p, .ref t] ∧ H p = some (.ins S dx []) ∧ H t = some (.tup xs) ∧ 250 < xs.length ∧ ∀ d H', H d = none → Same H H' → H' d = some (.xd [("at", .int (-1))]) → E (.ref B) (some d) H'
theorem ok_Series___init___tx (T : Top K mg) : FnOk P w K mg base (L2.CX P w) 3 T.f_Series___init T.fd_Series___init ["self", "entries"] (sp_SeTX T.C_BadSeries T.C_Series) := by
  refine T.F_Series___init.okX sc_Series___init (fun vs H Q E h => ?_) (fun cdv A outer s H vs Q E hr h => ?_)
  · obtain ⟨p, dx, t, xs, rfl, _⟩ := h
    rfl
  · obtain ⟨p, dx, t, xs, rfl, hp, ht, hn, q⟩ := h
    refine ⟨_, pss_cons (ps_if ((pw_or (pt_not (pt_val (pe_callB (Z.c_isiT (K := K) rfl) (by rfl) T.z_isinstance (by decide +kernel) (pa_cons (pv 1) (pa_cons (pe_tup (pa_cons (pe_bltn (v := .ty "list") (by rfl) T.z_list (by decide +kernel) rfl) (pa_cons (pe_bltn (v := .ty "tuple") (by rfl) T.z_tuple (by decide +kernel) rfl) (pa_nil)))) (pa_nil)))))) (pw_or1 (pt_cmpR op_gt (pe_callB Z.c_len (by rfl) T.z_len (by decide +kernel) (pa_cons (pv 1) (pa_nil))) (pe_glob (v := .int 250) (by rfl) T.mgK_MOST_ENTRIES ⟨_, rfl⟩) (nomark _)))).pt) (pss_one (ps_raise rfl (takes_of rfl rfl rfl rfl) (Z.pmk_exf T.ex_BadSeries (ok_BadSeries___init T) (hr.mono (by decide)) (by rfl) T.mgC_BadSeries T.B_BadSeries___init (pa_cons (pe_un un_neg (pe_int)) (pa_nil))))) (pss_nil)) (pss_cons (ps_never) (pss_one (ps_never))), ?_⟩
    refine Z.r_start (σ' := [some (.ref p), some (.ref t), none, none]) rfl ?_
    walk_at "go"
    intro tp H1 ntp s1 htp
    have ht1 := s1 _ _ ht
    walk_at "go"
    refine Z.yes (decide_eq_true (by omega)) ?_
    walk_at "go"
    refine k_exR fun d H' n s' h => ?_
    refine q d H' ?_ (s1.trans s') h
    cases z : H d with
    | none => rfl
    | some o => rw [s1 _ _ z] at n; cases n
theorem r_mkSeTX {B S t : Addr} {xs : List V} {H : Hp} {Q : VK} {E : XK} (ht : H t = some (.tup xs)) (hn : 250 < xs.length)
    (h : ∀ d H', H d = none → Same H H' → H' d = some (.xd [("at", .int (-1))]) → E (.ref B) (some d) H') : Z.mkI S (sp_SeTX B S) [] [.ref t] H Q E := by
  intro x dx nx nd ne
  have sm : Same H (L2.upd (L2.upd H dx (.own x)) x (.ins S dx [])) := fun b o e => by
    rw [upd_ne (ne_of_none e nx), upd_ne (ne_of_none e nd)]; exact e
  refine ⟨x, dx, t, xs, rfl, upd_same, sm _ _ ht, hn, fun d H' n s' e => h d H' ?_ (sm.trans s') e⟩
  cases z : H d with
  | none => rfl
  | some o => rw [sm _ _ z] at n; cases n
def sp_Se_getX (S N : Addr) : Sp := fun vs H _ E => ∃ (a : Addr) (i : Int) (gs : Ens), vs = [.ref a, .int i] ∧ SerAt S H a gs ∧ (i < 0 ∨ (gs.length : Int) ≤ i) ∧ ∀ d H', H d = none → Same H H' → H' d = some (.xd [("key", .int i)]) → E (.ref N) (some d) H'
theorem ok_Series___getitem___x (T : Top K mg) : FnOk P w K mg base (L2.CX P w) 3 T.f_Series___getitem T.fd_Series___getitem ["self", "at"] (sp_Se_getX T.C_Series T.C_NoKey) := by
  refine T.F_Series___getitem.okX sc_Series___getitem (fun vs H Q E h => ?_) (fun cdv A outer s H vs Q E hr h => ?_)
  · obtain ⟨a, i, gs, rfl, _⟩ := h
    rfl
  · obtain ⟨a, i, gs, rfl, ⟨dx, t, ha, ht⟩, hi, q⟩ := h
    refine ⟨_, pss_cons (ps_if ((pw_or (pt_cmpR op_lt (pv 1) (pe_int) (nomark _)) (pw_or1 (pt_cmpR op_ge (pv 1) (pe_callB Z.c_len (by rfl) T.z_len (by decide +kernel) (pa_cons (pe_fld (pv 0) rfl) (pa_nil))) (nomark _)))).pt) (pss_one (ps_raise rfl (takes_of rfl rfl rfl rfl) (Z.pmk_exf T.ex_NoKey (ok_NoKey___init T) (hr.mono (by decide)) (by rfl) T.mgC_NoKey T.B_NoKey___init (pa_cons (pv 1) (pa_nil))))) (pss_nil)) (pss_one (ps_ret (pe_ix (Z.ix_seqG (K := K) rfl) (pe_fld (pv 0) rfl) (pv 1) (fun _ _ => rfl)))), ?_⟩
    refine Z.r_start (σ' := [some (.ref a), some (.int i)]) rfl ?_
    walk_at "go"
    refine Z.ways (fun c => ?_) (fun c => ?_)
    · walk_at "go"
      exact k_exR q
    · walk_at "go"
      rw [List.length_map]
      refine Z.yes (decide_eq_true (by omega)) ?_
      walk_at "go"
      exact k_exR q
theorem k_Se_getX {S N a : Addr} {i : Int} {gs : Ens} {H : Hp} {Q : VK} {E : XK} (h : SerAt S H a gs) (hi : i < 0 ∨ (gs.length : Int) ≤ i) (q : ∀ d H', H d = none → Same H H' → H' d = some (.xd [("key", .int i)]) → E (.ref N) (some d) H') : sp_Se_getX S N ([.ref a, .int i] ++ []) H Q E := ⟨a, i, gs, rfl, h, hi, q⟩
theorem sc_Series___add : FnScope ["self", "other"] ["self", "other"] (defScope s_Series___add) := ⟨rfl, rfl, rfl, by decide +kernel, rfl, by decide +kernel, by decide +kernel⟩
def sp_Se_addX (B S : Addr) : Sp := fun vs H _ E => ∃ (a b : Addr) (gs es : Ens), vs = [.ref a, .ref b] ∧ SerAt S H a gs ∧ SerAt S H b es ∧ 250 < gs.length + es.length ∧ gs.length ≤ 250 ∧ es.length ≤ 250 ∧ ∀ d H', H d = none → Same H H' → H' d = some (.xd [("at", .int (-1))]) → E (.ref B) (some d) H'
theorem ok_Series___add___x (T : Top K mg) : FnOk P w K mg base (L2.CX P w) 5 T.f_Series___add T.fd_Series___add ["self", "other"] (sp_Se_addX T.C_BadSeries T.C_Series) := by
  refine T.F_Series___add.okX sc_Series___add (fun vs H Q E h => ?_) (fun cdv A outer s H vs Q E hr h => ?_)
  · obtain ⟨a, b, gs, es, rfl, _⟩ := h
    rfl
  · obtain ⟨a, b, gs, es, rfl, ⟨dx, t, ha, ht⟩, ⟨dy, u, hb, hu⟩, hn, l1, l2, q⟩ := h
    refine ⟨_, pss_cons (ps_if (pt_not (pt_val (pe_callB (Z.c_isi (K := K) rfl) (by rfl) T.z_isinstance (by decide +kernel) (pa_cons (pv 1) (pa_cons (pe_glob (v := .ref T.C_Series) (by exact rfl) T.mgC_Series rfl) (pa_nil)))))) (pss_one (ps_never)) (pss_nil)) (pss_one (ps_ret (pe_make T.mk_Series (ok_Series___init___tx T) (hr.mono (by decide)) (by rfl) T.mgC_Series T.B_Series___init .nil (passes_call (takes_of rfl rfl rfl rfl) fun _ _ _ _ h => h) (pa_cons (pe_op L2.op_catA (pe_fld (pv 0) rfl) (pe_fld (pv 1) rfl)) (pa_nil))))), ?_⟩
    refine Z.r_start (σ' := [some (.ref a), some (.ref b)]) rfl ?_
    walk_at "go"
    refine ⟨t, u, _, _, rfl, rfl, SqT.of ht, SqT.of hu, by rw [List.length_map, List.length_map]; exact Nat.le_trans (show _ ≤ 500 by omega) (by decide), fun e => ?_, fun _ e => ?_, fun _ _ p np => ?_⟩
    · have e0 : gs = [] := List.map_eq_nil_iff.mp e
      rw [e0] at hn
      exact absurd hn (by simp; omega)
    · have e0 : es = [] := List.map_eq_nil_iff.mp e
      rw [e0] at hn
      exact absurd hn (by simp; omega)
    · have sp := Z.same_upd (o := .tup (gs.map (·.1) ++ es.map (·.1))) np
      walk_at "go"
      refine r_mkSeTX (t := p) upd_same (by rw [List.length_append, List.length_map, List.length_map]; exact hn) fun d H' n s' h => q d H' ?_ (sp.trans s') h
      cases z : H d with
      | none => rfl
      | some o => rw [sp _ _ z] at n; cases n
theorem k_Se_addX {B S a b : Addr} {gs es : Ens} {H : Hp} {Q : VK} {E : XK} (h1 : SerAt S H a gs) (h2 : SerAt S H b es) (hn : 250 < gs.length + es.length) (l1 : gs.length ≤ 250) (l2 : es.length ≤ 250) (q : ∀ d H', H d = none → Same H H' → H' d = some (.xd [("at", .int (-1))]) → E (.ref B) (some d) H') :
    sp_Se_addX B S ([.ref a, .ref b] ++ []) H Q E := ⟨a, b, gs, es, rfl, h1, h2, hn, l1, l2, q⟩

theorem sc_Series___eq : FnScope ["self", "other", "one", "two"] ["self", "other"] (defScope s_Series___eq) := ⟨rfl, rfl, rfl, by decide +kernel, rfl, by decide +kernel, by decide +kernel⟩
def sp_Se_eq (C S : Addr) : Sp := fun vs H Q _ => ∃ (a b : Addr) (gs es : Ens), vs = [.ref a, .ref b] ∧ SerAt S H a gs ∧ SerAt S H b es ∧ EnsOk C H gs ∧ EnsOk C H es ∧ gs.length ≤ 1000 ∧ ∀ H', Same H H' → Q (.bl (decide (tagsOf gs = tagsOf es))) H'
theorem ok_Series___eq (T : Top K mg) : FnOk P w K mg base CX0 3 T.f_Series___eq T.fd_Series___eq ["self", "other"] (sp_Se_eq T.C_Unnumbered T.C_Series) := by
  refine T.F_Series___eq.ok sc_Series___eq (fun vs H Q E h => ?_) (fun cdv A outer s H vs Q E hr h => ?_)
  · obtain ⟨a, b, gs, es, rfl, _⟩ := h
    rfl
  · obtain ⟨a, b, gs, es, rfl, ⟨dx, t, ha, ht⟩, ⟨dy, u, hb, hu⟩, hg, he, hn, q⟩ := h
    refine ⟨_, pss_cons (ps_if ((pw_or (pt_not (pt_val (pe_callB (Z.c_isi (K := K) rfl) (by rfl) T.z_isinstance (by decide +kernel) (pa_cons (pv 1) (pa_cons (pe_glob (v := .ref T.C_Series) (by exact rfl) T.mgC_Series rfl) (pa_nil)))))) (pw_or1 (pt_cmpR op_ne (pe_callB Z.c_len (by rfl) T.z_len (by decide +kernel) (pa_cons (pe_fld (pv 0) rfl) (pa_nil))) (pe_callB Z.c_len (by rfl) T.z_len (by decide +kernel) (pa_cons (pe_fld (pv 1) rfl) (pa_nil))) (nomark _)))).pt) (pss_one (ps_ret (pe_bl))) (pss_nil)) (pss_one (ps_ret (pe_callB (cr_all rfl) (by rfl) T.z_all (by decide +kernel) (pa_cons (pe_lc (own := [("one", 2), ("two", 3)]) (g := gTup K 2 (gCons (gName 2) (gCons (gName 3) (gNil)))) (tt := tYes) rfl sc_Series___eq.nd (RZ.pi_zipA (by rfl) T.z_zip (pa_cons (pe_fld (pv 0) rfl) (pa_cons (pe_fld (pv 1) rfl) (pa_nil)))) (blkOk_by (own := [("one", 2), ("two", 3)]) (N := ["self", "other", "one", "two"]) (sc := defScope s_Series___eq) (by decide +kernel)) (fun _ _ _ _ _ => pg_tup rfl (pgs_cons (pg_name (i := 2) sc_Series___eq.nd rfl (.inl rfl)) (pgs_cons (pg_name (i := 3) sc_Series___eq.nd rfl (.inl rfl)) (pgs_nil)))) (fun _ _ _ _ _ => pts_nil) (fun _ _ _ _ _ => pe_call (ok_same T) (hr.mono (by decide)) (by rfl) T.mg_same T.F_same.kp T.B_same .nil pass0 (pa_cons (pv 2) (pa_cons (pv 3) (pa_nil))))) (pa_nil))))), ?_⟩
    refine Z.r_start (σ' := [some (.ref a), some (.ref b), none, none]) rfl ?_
    walk_at "go"
    rw [List.length_map, List.length_map]
    by_cases hl : gs.length = es.length
    · refine Z.no (by simp [hl]) ?_
      walk_at "go"
      refine Z.r_lcZT (SqT.of ht) (SqT.of hu) (by rw [List.length_map, List.length_map, hl]) (fun D i H' => Same H H' ∧ H' D = some (.lst (((sameB gs es).take i).map V.bl))) ?_ ?_ ?_ ?_
      · intro D H1 nD s1 h1
        exact ⟨s1, h1⟩
      · rintro D i H1 nD ⟨s1, _⟩
        exact ⟨SqT.of (s1 _ _ ht), SqT.of (s1 _ _ hu)⟩
      · rintro D i x y H1 nD hx hy ⟨s1, hD⟩ TT H2 nTT s2 hTT
        rw [List.getElem?_map] at hx hy
        cases hg1 : gs[i]? with
        | none => rw [hg1] at hx; cases hx
        | some e1 =>
        cases he1 : es[i]? with
        | none => rw [he1] at hy; cases hy
        | some e2 =>
        rw [hg1] at hx
        rw [he1] at hy
        cases hx
        cases hy
        have s12 := s1.trans s2
        have r1 := ((hg e1 (List.mem_of_getElem? hg1)).1).same s12
        have r2 := ((he e2 (List.mem_of_getElem? he1)).1).same s12
        have li := (List.getElem?_eq_some_iff.mp hg1).1
        walk_at "go"
        refine ⟨rfl, ?_⟩
        walk_at "go"
        refine k_same r1 r2 ?_
        refine Z.r_ap (s2 _ _ hD) (by rw [List.length_map, List.length_take]; omega) fun H3 b3 h3 => ?_
        refine ⟨fun c o h => b3 _ _ (ne_of_none h nD) (s12 _ _ h), ?_⟩
        rw [h3, sameB_get hg1 he1, List.map_append]
        rfl
      · rintro D H1 nD ⟨s1, hD⟩
        rw [List.length_map, ← sameB_len hl, List.take_length] at hD
        walk_at "go"
        refine Z.r_allBs (SqL.of hD) ?_
        rw [sameB_all hl]
        exact q _ s1
    · have e : decide (tagsOf gs = tagsOf es) = false := decide_eq_false fun h => hl (tags_len h)
      rw [e] at q
      refine Z.yes (by simp; omega) ?_
      walk_at "go"
      exact q _ (Same.refl _)
theorem k_Se_eq {C S a b : Addr} {gs es : Ens} {H : Hp} {Q : VK} {E : XK} (h1 : SerAt S H a gs) (h2 : SerAt S H b es) (hg : EnsOk C H gs) (he : EnsOk C H es) (hn : gs.length ≤ 1000) (q : ∀ H', Same H H' → Q (.bl (decide (tagsOf gs = tagsOf es))) H') :
    sp_Se_eq C S ([.ref a, .ref b] ++ []) H Q E := ⟨a, b, gs, es, rfl, h1, h2, hg, he, hn, q⟩
theorem sc_Series___contains : FnScope ["self", "x", "entry"] ["self", "x"] (defScope s_Series___contains) := ⟨rfl, rfl, rfl, by decide +kernel, rfl, by decide +kernel, by decide +kernel⟩
def sp_Se_in (C S : Addr) : Sp := fun vs H Q _ => ∃ (a : Addr) (x : V) (gs : Ens) (t : Tag), vs = [.ref a, x] ∧ SerAt S H a gs ∧ EnsOk C H gs ∧ Rep C H x t ∧ gs.length ≤ 1000 ∧ ∀ H', Same H H' → Q (.bl (decide (t ∈ tagsOf gs))) H'
theorem any_tags (gs : Ens) (t : Tag) : (gs.map fun e => decide (e.2 = t)).any id = decide (t ∈ tagsOf gs) := by
  induction gs with
  | nil => rfl
  | cons e r ih =>
    show (decide (e.2 = t) || (r.map fun e => decide (e.2 = t)).any id) = decide (t ∈ e.2 :: tagsOf r)
    rw [ih]
    by_cases h1 : e.2 = t
    · simp [h1]
    · have h1' : ¬ t = e.2 := fun h => h1 h.symm
      by_cases h2 : t ∈ tagsOf r <;> simp [h1, h1', h2]
theorem ok_Series___contains (T : Top K mg) : FnOk P w K mg base CX0 3 T.f_Series___contains T.fd_Series___contains ["self", "x"] (sp_Se_in T.C_Unnumbered T.C_Series) := by
  refine T.F_Series___contains.ok sc_Series___contains (fun vs H Q E h => ?_) (fun cdv A outer s H vs Q E hr h => ?_)
  · obtain ⟨a, x, gs, tg, rfl, _⟩ := h
    rfl
  · obtain ⟨a, x, gs, tg, rfl, ⟨dx, t, ha, ht⟩, hg, hx0, hn, q⟩ := h
    refine ⟨_, pss_one (ps_ret (pe_callB (cr_any rfl) (by rfl) T.z_any (by decide +kernel) (pa_cons (pe_lc (own := [("entry", 2)]) (g := gName 2) (tt := tYes) rfl sc_Series___contains.nd (pi_tup (pe_fld (pv 0) rfl)) (blkOk_by (own := [("entry", 2)]) (N := ["self", "x", "entry"]) (sc := defScope s_Series___contains) (by decide +kernel)) (fun _ _ _ _ _ => pg_name (i := 2) sc_Series___contains.nd rfl (.inl rfl)) (fun _ _ _ _ _ => pts_nil) (fun _ _ _ _ _ => pe_call (ok_same T) (hr.mono (by decide)) (by rfl) T.mg_same T.F_same.kp T.B_same .nil pass0 (pa_cons (pv 2) (pa_cons (pv 1) (pa_nil))))) (pa_nil)))), ?_⟩
    refine Z.r_start (σ' := [some (.ref a), some (x), none]) rfl ?_
    walk_at "go"
    refine Z.r_lcT (SqT.of ht) (fun _ => rfl) (fun D i H' => Same H H' ∧ H' D = some (.lst (((gs.take i).map fun e => decide (e.2 = tg)).map V.bl))) ?_ ?_ ?_ ?_
    · intro D H1 nD s1 h1
      exact ⟨s1, h1⟩
    · rintro D i H1 nD ⟨s1, _⟩
      exact SqT.of (s1 _ _ ht)
    · rintro D i y H1 nD hy ⟨s1, hD⟩
      rw [List.getElem?_map] at hy
      cases hu : gs[i]? with
      | none => rw [hu] at hy; cases hy
      | some e =>
      rw [hu] at hy
      cases hy
      have r1 := ((hg e (List.mem_of_getElem? hu)).1).same s1
      walk_at "go"
      refine k_same r1 (hx0.same s1) ?_
      refine Z.r_ap hD (by rw [List.length_map, List.length_map, List.length_take]; omega) fun H3 b3 h3 => ?_
      refine ⟨fun c o h => b3 _ _ (ne_of_none h nD) (s1 _ _ h), ?_⟩
      rw [h3, take_snoc hu, List.map_append, List.map_append]
      rfl
    · rintro D H1 nD ⟨s1, hD⟩
      rw [List.length_map, List.take_length] at hD
      walk_at "go"
      refine Z.r_anyB (SqL.of hD) ?_
      rw [any_tags]
      exact q _ s1
theorem k_Se_in {C S a : Addr} {x : V} {gs : Ens} {t : Tag} {H : Hp} {Q : VK} {E : XK} (h : SerAt S H a gs) (hg : EnsOk C H gs) (hx : Rep C H x t) (hn : gs.length ≤ 1000) (q : ∀ H', Same H H' → Q (.bl (decide (t ∈ tagsOf gs))) H') : sp_Se_in C S ([.ref a, x] ++ []) H Q E := ⟨a, x, gs, t, rfl, h, hg, hx, hn, q⟩
def sp_Se_add (C S : Addr) : Sp := fun vs H Q _ => ∃ (a b : Addr) (gs es : Ens), vs = [.ref a, .ref b] ∧ SerAt S H a gs ∧ SerAt S H b es ∧ EnsOk C H gs ∧ EnsOk C H es ∧ gs.length + es.length ≤ 250 ∧ ∀ x H', H x = none → Same H H' → SerAt S H' x (held (gs ++ es)) → Q (.ref x) H'
theorem ens_app {C : Addr} {H : Hp} {gs es : Ens} (hg : EnsOk C H gs) (he : EnsOk C H es) : EnsOk C H (gs ++ es) := fun e m => (List.mem_append.mp m).elim (hg e) (he e)
theorem ok_Series___add (T : Top K mg) : FnOk P w K mg base CX0 5 T.f_Series___add T.fd_Series___add ["self", "other"] (sp_Se_add T.C_Unnumbered T.C_Series) := by
  refine T.F_Series___add.ok sc_Series___add (fun vs H Q E h => ?_) (fun cdv A outer s H vs Q E hr h => ?_)
  · obtain ⟨a, b, gs, es, rfl, _⟩ := h
    rfl
  · obtain ⟨a, b, gs, es, rfl, ⟨dx, t, ha, ht⟩, ⟨dy, u, hb, hu⟩, hg, he, hn, q⟩ := h
    have ok := ens_app hg he
    have len : (gs ++ es).length ≤ 250 := by rw [List.length_append]; exact hn
    refine ⟨_, pss_cons (ps_if (pt_not (pt_val (pe_callB (Z.c_isi (K := K) rfl) (by rfl) T.z_isinstance (by decide +kernel) (pa_cons (pv 1) (pa_cons (pe_glob (v := .ref T.C_Series) (by exact rfl) T.mgC_Series rfl) (pa_nil)))))) (pss_one (ps_never)) (pss_nil)) (pss_one (ps_ret (pe_make T.mk_Series (ok_Series___init___t T) (hr.mono (by decide)) (by rfl) T.mgC_Series T.B_Series___init .nil pass0 (pa_cons (pe_op L2.op_catA (pe_fld (pv 0) rfl) (pe_fld (pv 1) rfl)) (pa_nil))))), ?_⟩
    refine Z.r_start (σ' := [some (.ref a), some (.ref b)]) rfl ?_
    walk_at "go"
    refine ⟨t, u, _, _, rfl, rfl, SqT.of ht, SqT.of hu, by rw [List.length_map, List.length_map]; exact Nat.le_trans hn (by decide), fun e => ?_, fun _ e => ?_, fun _ _ p np => ?_⟩
    · have e0 : gs = [] := List.map_eq_nil_iff.mp e
      subst e0
      walk_at "go"
      refine r_mkSeT (es := es) hu len he fun x dx t1 H1 nx nt s1 ht1 hx => ?_
      walk_at "go"
      exact q x H1 nx s1 ⟨dx, t1, hx, by rw [ht1, ← held_fst]; rfl⟩
    · have e0 : es = [] := List.map_eq_nil_iff.mp e
      subst e0
      rw [List.append_nil] at len ok q
      walk_at "go"
      refine r_mkSeT (es := gs) ht len hg fun x dx t1 H1 nx nt s1 ht1 hx => ?_
      walk_at "go"
      exact q x H1 nx s1 ⟨dx, t1, hx, by rw [ht1, ← held_fst]⟩
    · have sp := Z.same_upd (o := .tup (gs.map (·.1) ++ es.map (·.1))) np
      have hp : L2.upd H p (.tup (gs.map (·.1) ++ es.map (·.1))) p = some (.tup ((gs ++ es).map (·.1))) := by rw [upd_same, List.map_append]
      walk_at "go"
      refine r_mkSeT (es := gs ++ es) hp len (ok.same sp) fun x dx t1 H1 nx nt s1 ht1 hx => ?_
      walk_at "go"
      refine q x H1 ?_ (sp.trans s1) ⟨dx, t1, hx, by rw [ht1, ← held_fst]⟩
      cases z : H x with
      | none => rfl
      | some o => rw [sp _ _ z] at nx; cases nx
theorem k_Se_add {C S a b : Addr} {gs es : Ens} {H : Hp} {Q : VK} {E : XK} (h1 : SerAt S H a gs) (h2 : SerAt S H b es) (hg : EnsOk C H gs) (he : EnsOk C H es) (hn : gs.length + es.length ≤ 250) (q : ∀ x H', H x = none → Same H H' → SerAt S H' x (held (gs ++ es)) → Q (.ref x) H') :
    sp_Se_add C S ([.ref a, .ref b] ++ []) H Q E := ⟨a, b, gs, es, rfl, h1, h2, hg, he, hn, q⟩

def sp_sameA (K : PySem.W.Frag) (C : Addr) : Sp := fun vs H Q _ => ∃ (x y : V) (s : Tag) (t : Value) (bi bb : Bool), vs = [x, y] ∧ Rep C H x s ∧ s ≠ .non ∧ TyX K H y t ∧ PySem.W.kitOne K t (.type "int") = some bi ∧ PySem.W.kitOne K t (.type "bool") = some bb ∧ (bi && !bb) = false ∧ PySem.W.kitOne K t (.ref C) = some false ∧ Q (.bl false) H
theorem ok_same_a (T : Top K mg) : FnOk P w K mg base CX0 2 T.f_same T.fd_same ["one", "other"] (sp_sameA K T.C_Unnumbered) := by
  refine T.F_same.ok sc_same (fun vs H Q E h => ?_) (fun cdv A outer s H vs Q E hr h => ?_)
  · obtain ⟨x, y, s, t, bi, bb, rfl, _⟩ := h
    rfl
  · obtain ⟨x, y, s, t, bi, bb, rfl, hx, ne, ty, ki, kb, e, kc, q⟩ := h
    refine ⟨_, pss_cons (ps_if (pt_val (pe_call (ok_is_number T) (hr.mono (by decide)) (by rfl) T.mg_is_number T.F_is_number.kp T.B_is_number .nil pass0 (pa_cons (pv 0) (pa_nil)))) (pss_one (ps_ret (pe_and (pe_call (ok_is_number T) (hr.mono (by decide)) (by rfl) T.mg_is_number T.F_is_number.kp T.B_is_number .nil pass0 (pa_cons (pv 1) (pa_nil))) (pe_one (pe_cmpR op_eq (pv 0) (pv 1) (nomark _)))))) (pss_nil)) (pss_cons (ps_if (pt_val (pe_callB (Z.c_isi (K := K) rfl) (by rfl) T.z_isinstance (by decide +kernel) (pa_cons (pv 0) (pa_cons (pe_glob (v := .ref T.C_Unnumbered) (by exact rfl) T.mgC_Unnumbered rfl) (pa_nil))))) (pss_one (ps_ret (pe_and (pe_callB (Z.c_isi (K := K) rfl) (by rfl) T.z_isinstance (by decide +kernel) (pa_cons (pv 1) (pa_cons (pe_glob (v := .ref T.C_Unnumbered) (by exact rfl) T.mgC_Unnumbered rfl) (pa_nil)))) (pe_one (pe_cmpR op_eq (pe_fld (pv 0) rfl) (pe_fld (pv 1) rfl) (nomark _)))))) (pss_nil)) (pss_one (ps_ret (pe_and (pe_cmpR Z.o_isN (pv 0) (pe_non) (nomark _)) (pe_one (pe_cmpR Z.o_isN (pv 1) (pe_non) (nomark _))))))), ?_⟩
    refine Z.r_start (σ' := [some (x), some (y)]) rfl ?_
    cases s with
    | non => exact absurd rfl ne
    | num i =>
      cases hx
      walk_at "go"
      refine Z.no e ?_
      exact q
    | mark n =>
      obtain ⟨a, dx, rfl, ha⟩ := hx
      walk_at "go"
      exact q
theorem k_sameA {K : PySem.W.Frag} {C : Addr} {x y : V} {s : Tag} {t : Value} {bi bb : Bool} {H : Hp} {Q : VK} {E : XK} (hx : Rep C H x s) (ne : s ≠ .non) (ty : TyX K H y t) (ki : PySem.W.kitOne K t (.type "int") = some bi) (kb : PySem.W.kitOne K t (.type "bool") = some bb) (e : (bi && !bb) = false) (kc : PySem.W.kitOne K t (.ref C) = some false) (q : Q (.bl false) H) :
    sp_sameA K C ([x, y] ++ []) H Q E := ⟨x, y, s, t, bi, bb, rfl, hx, ne, ty, ki, kb, e, kc, q⟩
def sp_Se_eqA (K : PySem.W.Frag) (S : Addr) : Sp := fun vs H Q _ => ∃ (x y : V) (t : Value), vs = [x, y] ∧ TyX K H y t ∧ PySem.W.kitOne K t (.ref S) = some false ∧ Q (.bl false) H
theorem ok_Series___eq___a (T : Top K mg) : FnOk P w K mg base CX0 1 T.f_Series___eq T.fd_Series___eq ["self", "other"] (sp_Se_eqA K T.C_Series) := by
  refine T.F_Series___eq.ok sc_Series___eq (fun vs H Q E h => ?_) (fun cdv A outer s H vs Q E hr h => ?_)
  · obtain ⟨x, y, t, rfl, _⟩ := h
    rfl
  · obtain ⟨x, y, t, rfl, ty, kt, q⟩ := h
    refine ⟨_, pss_cons (ps_if ((pw_or (pt_not (pt_val (pe_callB (Z.c_isi (K := K) rfl) (by rfl) T.z_isinstance (by decide +kernel) (pa_cons (pv 1) (pa_cons (pe_glob (v := .ref T.C_Series) (by exact rfl) T.mgC_Series rfl) (pa_nil)))))) (pw_or1 (pt_cmpR op_ne (pe_callB Z.c_len (by rfl) T.z_len (by decide +kernel) (pa_cons (pe_fld (pv 0) rfl) (pa_nil))) (pe_callB Z.c_len (by rfl) T.z_len (by decide +kernel) (pa_cons (pe_fld (pv 1) rfl) (pa_nil))) (nomark _)))).pt) (pss_one (ps_ret (pe_bl))) (pss_nil)) (pss_one (ps_never)), ?_⟩
    refine Z.r_start (σ' := [some (x), some (y), none, none]) rfl ?_
    walk_at "go"
    exact q
theorem k_Se_eqA {K : PySem.W.Frag} {S : Addr} {x y : V} {t : Value} {H : Hp} {Q : VK} {E : XK} (ty : TyX K H y t) (kt : PySem.W.kitOne K t (.ref S) = some false) (q : Q (.bl false) H) : sp_Se_eqA K S ([x, y] ++ []) H Q E := ⟨x, y, t, rfl, ty, kt, q⟩
def sp_Se_inA (K : PySem.W.Frag) (C S : Addr) : Sp := fun vs H Q _ => ∃ (a : Addr) (x : V) (gs : Ens), vs = [.ref a, x] ∧ SerAt S H a gs ∧ EnsOk C H gs ∧ gs.length ≤ 1000 ∧
  (∀ H', Same H H' → ∃ t bi bb, TyX K H' x t ∧ PySem.W.kitOne K t (.type "int") = some bi ∧ PySem.W.kitOne K t (.type "bool") = some bb ∧ (bi && !bb) = false ∧ PySem.W.kitOne K t (.ref C) = some false) ∧ ∀ H', Same H H' → Q (.bl false) H'
theorem no_any (n : Nat) : (List.replicate n false).any id = false := by
  induction n with
  | zero => rfl
  | succ n ih => rw [List.replicate_succ]; exact ih
theorem ok_Series___contains___a (T : Top K mg) : FnOk P w K mg base CX0 3 T.f_Series___contains T.fd_Series___contains ["self", "x"] (sp_Se_inA K T.C_Unnumbered T.C_Series) := by
  refine T.F_Series___contains.ok sc_Series___contains (fun vs H Q E h => ?_) (fun cdv A outer s H vs Q E hr h => ?_)
  · obtain ⟨a, x, gs, rfl, _⟩ := h
    rfl
  · obtain ⟨a, x, gs, rfl, ⟨dx, t, ha, ht⟩, hg, hn, hx, q⟩ := h
    refine ⟨_, pss_one (ps_ret (pe_callB (cr_any rfl) (by rfl) T.z_any (by decide +kernel) (pa_cons (pe_lc (own := [("entry", 2)]) (g := gName 2) (tt := tYes) rfl sc_Series___contains.nd (pi_tup (pe_fld (pv 0) rfl)) (blkOk_by (own := [("entry", 2)]) (N := ["self", "x", "entry"]) (sc := defScope s_Series___contains) (by decide +kernel)) (fun _ _ _ _ _ => pg_name (i := 2) sc_Series___contains.nd rfl (.inl rfl)) (fun _ _ _ _ _ => pts_nil) (fun _ _ _ _ _ => pe_call (ok_same_a T) (hr.mono (by decide)) (by rfl) T.mg_same T.F_same.kp T.B_same .nil pass0 (pa_cons (pv 2) (pa_cons (pv 1) (pa_nil))))) (pa_nil)))), ?_⟩
    refine Z.r_start (σ' := [some (.ref a), some (x), none]) rfl ?_
    walk_at "go"
    refine Z.r_lcT (SqT.of ht) (fun _ => rfl) (fun D i H' => Same H H' ∧ H' D = some (.lst ((List.replicate i false).map V.bl))) ?_ ?_ ?_ ?_
    · intro D H1 nD s1 h1
      exact ⟨s1, h1⟩
    · rintro D i H1 nD ⟨s1, _⟩
      exact SqT.of (s1 _ _ ht)
    · rintro D i y H1 nD hy ⟨s1, hD⟩
      rw [List.getElem?_map] at hy
      cases hu : gs[i]? with
      | none => rw [hu] at hy; cases hy
      | some e =>
      rw [hu] at hy
      cases hy
      have li := (List.getElem?_eq_some_iff.mp hu).1
      obtain ⟨r1, ne⟩ := hg e (List.mem_of_getElem? hu)
      obtain ⟨t, bi, bb, ty, ki, kb, eb, kc⟩ := hx H1 s1
      walk_at "go"
      refine k_sameA (r1.same s1) ne ty ki kb eb kc ?_
      refine Z.r_ap hD (by rw [List.length_map, List.length_replicate]; omega) fun H3 b3 h3 => ?_
      refine ⟨fun c o h => b3 _ _ (ne_of_none h nD) (s1 _ _ h), ?_⟩
      rw [h3, List.replicate_succ', List.map_append]
      rfl
    · rintro D H1 nD ⟨s1, hD⟩
      walk_at "go"
      refine Z.r_anyB (SqL.of hD) ?_
      rw [no_any]
      exact q _ s1
theorem k_Se_inA {K : PySem.W.Frag} {C S a : Addr} {x : V} {gs : Ens} {H : Hp} {Q : VK} {E : XK} (h : SerAt S H a gs) (hg : EnsOk C H gs) (hn : gs.length ≤ 1000)
    (hx : ∀ H', Same H H' → ∃ t bi bb, TyX K H' x t ∧ PySem.W.kitOne K t (.type "int") = some bi ∧ PySem.W.kitOne K t (.type "bool") = some bb ∧ (bi && !bb) = false ∧ PySem.W.kitOne K t (.ref C) = some false) (q : ∀ H', Same H H' → Q (.bl false) H') :
    sp_Se_inA K C S ([.ref a, x] ++ []) H Q E := ⟨a, x, gs, rfl, h, hg, hn, hx, q⟩
theorem sc_Told___init : FnScope ["self", "place"] ["self", "place"] (defScope s_Told___init) := ⟨rfl, rfl, rfl, by decide +kernel, rfl, by decide +kernel, by decide +kernel⟩
def sp_To (D : Addr) : Sp := fun vs H Q _ => ∃ (p dx : Addr) (y : V), vs = [.ref p, y] ∧ H p = some (.ins D dx []) ∧ ∀ H', Z.But p H H' → H' p = some (.ins D dx [("place", y)]) → Q .non H'
theorem ok_Told___init (T : Top K mg) : FnOk P w K mg base CX0 1 T.f_Told___init T.fd_Told___init ["self", "place"] (sp_To T.C_Told) := by
  refine T.F_Told___init.ok sc_Told___init (fun vs H Q E h => ?_) (fun cdv A outer s H vs Q E hr h => ?_)
  · obtain ⟨p, dx, y, rfl, _⟩ := h
    rfl
  · obtain ⟨p, dx, y, rfl, hp, q⟩ := h
    refine ⟨_, pss_one (ps_fld (pv 0) (pv 1) rfl), ?_⟩
    refine Z.r_start (σ' := [some (.ref p), some (y)]) rfl ?_
    walk_at "go"
    intro H1 b1 h1
    exact q H1 b1 h1
theorem r_mkTo {D : Addr} {y : V} {H : Hp} {Q : VK} {E : XK} (h : ∀ x dx H1, H x = none → Same H H1 → H1 x = some (.ins D dx [("place", y)]) → Q (.ref x) H1) : Z.mkI D (sp_To D) [] [y] H Q E := by
  intro x dx nx nd ne
  refine ⟨x, dx, y, rfl, upd_same, fun H1 b1 h1 => ⟨rfl, h x dx H1 nx (fun b o e => ?_) h1⟩⟩
  exact b1 _ _ (ne_of_none e nx) (by rw [upd_ne (ne_of_none e nx), upd_ne (ne_of_none e nd)]; exact e)
local macro_rules | `(tactic| walk_at "call") => `(tactic| with_reducible refine r_mkTo ?_)
theorem sc_law_is_int : FnScope ["_law_thing"] ["_law_thing"] (defScope s_law_is_int) := ⟨rfl, rfl, rfl, by decide +kernel, rfl, by decide +kernel, by decide +kernel⟩
def sp_law_is_int (C : Addr) : Sp := fun vs H Q _ => ∃ (x : V) (t : Tag), vs = [x] ∧ Rep C H x t ∧ Q (.bl (isNumT t)) H
theorem ok_law_is_int (T : Top K mg) : FnOk P w K mg base CX0 1 T.f_law_is_int T.fd_law_is_int ["_law_thing"] (sp_law_is_int T.C_Unnumbered) := by
  refine T.F_law_is_int.ok sc_law_is_int (fun vs H Q E h => ?_) (fun cdv A outer s H vs Q E hr h => ?_)
  · obtain ⟨x, t, rfl, _⟩ := h
    rfl
  · obtain ⟨x, t, rfl, hx, q⟩ := h
    refine ⟨_, pss_one (ps_ret (pe_and (pe_callB (Z.c_isi (K := K) rfl) (by rfl) T.z_isinstance (by decide +kernel) (pa_cons (pv 0) (pa_cons (pe_bltn (v := .ty "int") (by rfl) T.z_int (by decide +kernel) rfl) (pa_nil)))) (pe_one (pe_not (pe_callB (Z.c_isi (K := K) rfl) (by rfl) T.z_isinstance (by decide +kernel) (pa_cons (pv 0) (pa_cons (pe_bltn (v := .ty "bool") (by rfl) T.z_bool (by decide +kernel) rfl) (pa_nil)))))))), ?_⟩
    refine Z.r_start (σ' := [some (x)]) rfl ?_
    cases t with
    | non => cases hx; walk_at "go"; exact q
    | num i => cases hx; walk_at "go"; exact q
    | mark n => obtain ⟨a, dx, rfl, ha⟩ := hx; walk_at "go"; exact q
theorem k_law_is_int {C : Addr} {x : V} {t : Tag} {H : Hp} {Q : VK} {E : XK} (hx : Rep C H x t) (q : Q (.bl (isNumT t)) H) : sp_law_is_int C ([x] ++ []) H Q E := ⟨x, t, rfl, hx, q⟩
theorem sc_law_alike : FnScope ["_law_one", "_law_other"] ["_law_one", "_law_other"] (defScope s_law_alike) := ⟨rfl, rfl, rfl, by decide +kernel, rfl, by decide +kernel, by decide +kernel⟩
def sp_alike (C : Addr) : Sp := fun vs H Q _ => ∃ (x y : V) (s t : Tag), vs = [x, y] ∧ Rep C H x s ∧ Rep C H y t ∧ s ≠ .non ∧ t ≠ .non ∧ Q (.bl (decide (s = t))) H
theorem ok_law_alike (T : Top K mg) : FnOk P w K mg base CX0 2 T.f_law_alike T.fd_law_alike ["_law_one", "_law_other"] (sp_alike T.C_Unnumbered) := by
  refine T.F_law_alike.ok sc_law_alike (fun vs H Q E h => ?_) (fun cdv A outer s H vs Q E hr h => ?_)
  · obtain ⟨x, y, s, t, rfl, _⟩ := h
    rfl
  · obtain ⟨x, y, s, t, rfl, hx, hy, ns, nt, q⟩ := h
    refine ⟨_, pss_cons (ps_if ((pw_and (pt_val (pe_call (ok_law_is_int T) (hr.mono (by decide)) (by rfl) T.mg_law_is_int T.F_law_is_int.kp T.B_law_is_int .nil pass0 (pa_cons (pv 0) (pa_nil)))) (pw_and1 (pt_val (pe_call (ok_law_is_int T) (hr.mono (by decide)) (by rfl) T.mg_law_is_int T.F_law_is_int.kp T.B_law_is_int .nil pass0 (pa_cons (pv 1) (pa_nil)))))).pt) (pss_one (ps_ret (pe_cmpR op_eq (pv 0) (pv 1) (nomark _)))) (pss_nil)) (pss_one (ps_ret (pe_and (pe_callB (Z.c_isi (K := K) rfl) (by rfl) T.z_isinstance (by decide +kernel) (pa_cons (pv 0) (pa_cons (pe_glob (v := .ref T.C_Unnumbered) (by exact rfl) T.mgC_Unnumbered rfl) (pa_nil)))) (pe_and (pe_callB (Z.c_isi (K := K) rfl) (by rfl) T.z_isinstance (by decide +kernel) (pa_cons (pv 1) (pa_cons (pe_glob (v := .ref T.C_Unnumbered) (by exact rfl) T.mgC_Unnumbered rfl) (pa_nil)))) (pe_one (pe_cmpR op_eq (pe_fld (pv 0) rfl) (pe_fld (pv 1) rfl) (nomark _))))))), ?_⟩
    refine Z.r_start (σ' := [some (x), some (y)]) rfl ?_
    cases s with
    | non => exact absurd rfl ns
    | num i =>
      cases hx
      cases t with
      | non => exact absurd rfl nt
      | num j =>
        cases hy
        walk_at "go"
        refine k_law_is_int (t := .num i) rfl ?_
        walk_at "go"
        refine k_law_is_int (t := .num j) rfl ?_
        walk_at "go"
        have e : decide (Tag.num i = Tag.num j) = decide (i = j) := by by_cases h : i = j <;> simp [h]
        rw [e] at q
        exact q
      | mark m =>
        obtain ⟨b, dy, rfl, hb⟩ := hy
        walk_at "go"
        refine k_law_is_int (t := .num i) rfl ?_
        walk_at "go"
        refine k_law_is_int (t := .mark m) ⟨b, dy, rfl, hb⟩ ?_
        walk_at "go"
        exact q
    | mark n =>
      obtain ⟨a, dx, rfl, ha⟩ := hx
      cases t with
      | non => exact absurd rfl nt
      | num j =>
        cases hy
        walk_at "go"
        refine k_law_is_int (t := .mark n) ⟨a, dx, rfl, ha⟩ ?_
        walk_at "go"
        exact q
      | mark m =>
        obtain ⟨b, dy, rfl, hb⟩ := hy
        walk_at "go"
        refine k_law_is_int (t := .mark n) ⟨a, dx, rfl, ha⟩ ?_
        walk_at "go"
        have e : decide (Tag.mark n = Tag.mark m) = decide (n = m) := by by_cases h : n = m <;> simp [h]
        rw [e] at q
        exact q
theorem k_alike {C : Addr} {x y : V} {s t : Tag} {H : Hp} {Q : VK} {E : XK} (hx : Rep C H x s) (hy : Rep C H y t) (ns : s ≠ .non) (nt : t ≠ .non) (q : Q (.bl (decide (s = t))) H) : sp_alike C ([x, y] ++ []) H Q E := ⟨x, y, s, t, rfl, hx, hy, ns, nt, q⟩
theorem sc_law_says : FnScope ["_law_told", "_law_due"] ["_law_told", "_law_due"] (defScope s_law_says) := ⟨rfl, rfl, rfl, by decide +kernel, rfl, by decide +kernel, by decide +kernel⟩
def sp_says : Sp := fun vs H Q _ => ∃ a b : Bool, vs = [.bl a, .bl b] ∧ Q (.bl (decide (a = b))) H
theorem ok_law_says (T : Top K mg) : FnOk P w K mg base CX0 1 T.f_law_says T.fd_law_says ["_law_told", "_law_due"] sp_says := by
  refine T.F_law_says.ok sc_law_says (fun vs H Q E h => ?_) (fun cdv A outer s H vs Q E hr h => ?_)
  · obtain ⟨a, b, rfl, _⟩ := h
    rfl
  · obtain ⟨a, b, rfl, q⟩ := h
    refine ⟨_, pss_one (ps_ret (pe_and (pe_callB (Z.c_isi (K := K) rfl) (by rfl) T.z_isinstance (by decide +kernel) (pa_cons (pv 0) (pa_cons (pe_bltn (v := .ty "bool") (by rfl) T.z_bool (by decide +kernel) rfl) (pa_nil)))) (pe_one (pe_cmpR op_eq (pv 0) (pv 1) (nomark _))))), ?_⟩
    refine Z.r_start (σ' := [some (.bl a), some (.bl b)]) rfl ?_
    walk_at "go"
    exact q
theorem k_says {a b : Bool} {H : Hp} {Q : VK} {E : XK} (q : Q (.bl (decide (a = b))) H) : sp_says ([.bl a, .bl b] ++ []) H Q E := ⟨a, b, rfl, q⟩
theorem sc_law_equal : FnScope ["_law_one", "_law_other", "_law_k"] ["_law_one", "_law_other"] (defScope s_law_equal) := ⟨rfl, rfl, rfl, by decide +kernel, rfl, by decide +kernel, by decide +kernel⟩
def sp_equal (C : Addr) : Sp := fun vs H Q _ => ∃ (p r : Addr) (gs es : Ens), vs = [.ref p, .ref r] ∧ H p = some (.lst (gs.map (·.1))) ∧ H r = some (.lst (es.map (·.1))) ∧ EnsOk C H gs ∧ EnsOk C H es ∧ gs.length ≤ 1000 ∧ ∀ H', Same H H' → Q (.bl (decide (tagsOf gs = tagsOf es))) H'
theorem ok_law_equal (T : Top K mg) : FnOk P w K mg base CX0 3 T.f_law_equal T.fd_law_equal ["_law_one", "_law_other"] (sp_equal T.C_Unnumbered) := by
  refine T.F_law_equal.ok sc_law_equal (fun vs H Q E h => ?_) (fun cdv A outer s H vs Q E hr h => ?_)
  · obtain ⟨p, r, gs, es, rfl, _⟩ := h
    rfl
  · obtain ⟨p, r, gs, es, rfl, hp, hr', hg, he, hn, q⟩ := h
    refine ⟨_, pss_one (ps_ret (pe_and (pe_cmpR op_eq (pe_callB Z.c_len (by rfl) T.z_len (by decide +kernel) (pa_cons (pv 0) (pa_nil))) (pe_callB Z.c_len (by rfl) T.z_len (by decide +kernel) (pa_cons (pv 1) (pa_nil))) (nomark _)) (pe_one (pe_callB (cr_all rfl) (by rfl) T.z_all (by decide +kernel) (pa_cons (pe_lc (own := [("_law_k", 2)]) (g := gName 2) (tt := tYes) rfl sc_law_equal.nd (pi_range1 (by rfl) T.z_range (pa_cons (pe_callB Z.c_len (by rfl) T.z_len (by decide +kernel) (pa_cons (pv 0) (pa_nil))) (pa_nil))) (blkOk_by (own := [("_law_k", 2)]) (N := ["_law_one", "_law_other", "_law_k"]) (sc := defScope s_law_equal) (by decide +kernel)) (fun _ _ _ _ _ => pg_name (i := 2) sc_law_equal.nd rfl (.inl rfl)) (fun _ _ _ _ _ => pts_nil) (fun _ _ _ _ _ => pe_call (ok_law_alike T) (hr.mono (by decide)) (by rfl) T.mg_law_alike T.F_law_alike.kp T.B_law_alike .nil pass0 (pa_cons (pe_ix (Z.ix_seqG (K := K) rfl) (pv 0) (pv 2) (fun _ _ => rfl)) (pa_cons (pe_ix (Z.ix_seqG (K := K) rfl) (pv 1) (pv 2) (fun _ _ => rfl)) (pa_nil))))) (pa_nil)))))), ?_⟩
    refine Z.r_start (σ' := [some (.ref p), some (.ref r), none]) rfl ?_
    walk_at "go"
    rw [List.length_map, List.length_map]
    by_cases hl : gs.length = es.length
    · refine Z.yes (decide_eq_true (by omega)) ?_
      walk_at "go"
      rw [List.length_map]
      refine Z.r_lcR (by omega) (by omega) (fun _ => rfl) (fun D i H' => Same H H' ∧ H' D = some (.lst (((sameB gs es).take i).map V.bl))) ?_ ?_ ?_
      · intro D H1 nD s1 h1
        exact ⟨s1, h1⟩
      · rintro D i H1 nD hi ⟨s1, hD⟩
        have i1 : i < gs.length := by omega
        have i2 : i < es.length := by omega
        have u1 : gs[i]? = some gs[i] := List.getElem?_eq_getElem i1
        have u2 : es[i]? = some es[i] := List.getElem?_eq_getElem i2
        obtain ⟨r1, n1⟩ := hg _ (List.getElem_mem i1)
        obtain ⟨r2, n2⟩ := he _ (List.getElem_mem i2)
        walk_at "go"
        refine Z.r_ixL (v := gs[i].1) (SqL.of (s1 _ _ hp)) (atI_nat (by rw [List.getElem?_map, u1]; rfl)) ?_
        walk_at "go"
        refine Z.r_ixL (v := es[i].1) (SqL.of (s1 _ _ hr')) (atI_nat (by rw [List.getElem?_map, u2]; rfl)) ?_
        walk_at "go"
        refine k_alike (r1.same s1) (r2.same s1) n1 n2 ?_
        refine Z.r_ap hD (by rw [List.length_map, List.length_take]; have := sameB_len hl; omega) fun H3 b3 h3 => ?_
        refine ⟨fun c o h => b3 _ _ (ne_of_none h nD) (s1 _ _ h), ?_⟩
        rw [h3, sameB_get u1 u2, List.map_append]
        rfl
      · rintro D H1 nD ⟨s1, hD⟩
        rw [Int.toNat_natCast, ← sameB_len hl, List.take_length] at hD
        refine Z.r_allBs (SqL.of hD) ?_
        rw [sameB_all hl]
        exact q _ s1
    · have e : decide (tagsOf gs = tagsOf es) = false := decide_eq_false fun h => hl (tags_len h)
      rw [e] at q
      refine Z.no (decide_eq_false (by omega)) ?_
      exact q _ (Same.refl _)
theorem k_equal {C p r : Addr} {gs es : Ens} {H : Hp} {Q : VK} {E : XK} (hp : H p = some (.lst (gs.map (·.1)))) (hr : H r = some (.lst (es.map (·.1)))) (hg : EnsOk C H gs) (he : EnsOk C H es) (hn : gs.length ≤ 1000) (q : ∀ H', Same H H' → Q (.bl (decide (tagsOf gs = tagsOf es))) H') :
    sp_equal C ([.ref p, .ref r] ++ []) H Q E := ⟨p, r, gs, es, rfl, hp, hr, hg, he, hn, q⟩
theorem sc_law_no_key : FnScope ["_law_series", "_law_place", "e", "_law_told"] ["_law_series", "_law_place"] (defScope s_law_no_key) := ⟨rfl, rfl, rfl, by decide +kernel, rfl, by decide +kernel, by decide +kernel⟩
def sp_no_key (S : Addr) : Sp := fun vs H Q _ => ∃ (a : Addr) (i : Int) (gs : Ens), vs = [.ref a, .int i] ∧ SerAt S H a gs ∧ (i < 0 ∨ (gs.length : Int) ≤ i) ∧ ∀ H', Same H H' → Q (.bl true) H'
theorem ok_law_no_key (T : Top K mg) : FnOk P w K mg base CX0 5 T.f_law_no_key T.fd_law_no_key ["_law_series", "_law_place"] (sp_no_key T.C_Series) := by
  refine T.F_law_no_key.ok sc_law_no_key (fun vs H Q E h => ?_) (fun cdv A outer s H vs Q E hr h => ?_)
  · obtain ⟨a, i, gs, rfl, _⟩ := h
    rfl
  · obtain ⟨a, i, gs, rfl, hs, hi, q⟩ := h
    refine ⟨_, pss_cons (ps_try_as (i := 2) rfl rfl sc_law_no_key.nd rfl rfl ⟨rfl, by decide, .inl T.mgC_NoKey⟩ takes0 (fun W pn xe tk _ => pss_one (ps_set (i := 3) sc_law_no_key.nd rfl (.inl rfl) (Z.pe_ixX (k := 3) T.me_Series___getitem (Z.fn_in T.F_Series___getitem) (ok_Series___getitem___x T) (hr.mono (by decide)) T.B_Series___getitem (fun σ => passAt tk σ) (pv 0) (pv 1)))) (fun a oe cls d pn hz hf => pss_one (ps_ret (pe_and (pe_cmpR op_eq (pe_xf ⟨T.ex_NoKey.ga, T.ex_NoKey.gt, T.ex_NoKey.sb, T.ex_NoKey.hd⟩ T.no_NoKey_key hz hf (pv 2)) (pv 1) (nomark _)) (pe_and (pe_callB (Z.c_isC (K := K) rfl hz hf) (by rfl) T.z_isinstance (by decide +kernel) (pa_cons (pv 2) (pa_cons (pe_bltn (v := .ty "LookupError") (by rfl) T.z_LookupError (by decide +kernel) rfl) (pa_nil)))) (pe_one (pe_not (pe_callB (Z.c_isCT (K := K) rfl hz hf) (by rfl) T.z_isinstance (by decide +kernel) (pa_cons (pv 2) (pa_cons (pe_tup (pa_cons (pe_glob (v := .ref T.C_UnnumberedError) (by exact rfl) T.mgC_UnnumberedError rfl) (pa_cons (pe_glob (v := .ref T.C_NoAnswer) (by exact rfl) T.mgC_NoAnswer rfl) (pa_nil)))) (pa_nil))))))))))) (pss_one (ps_ret (pe_bl))), ?_⟩
    refine Z.r_start (σ' := [some (.ref a), some (.int i), none, none]) rfl ?_
    obtain ⟨dx, t, ha, ht⟩ := id hs
    refine Z.r_seq ?_
    dsimp only
    walk_at "go"
    refine ⟨a, dx, _, rfl, ha, k_Se_getX hs hi fun d H' n s' h => ?_⟩
    refine ⟨true, Z.exm_self T.ex_NoKey, fun _ e ne => ?_, fun z => Bool.noConfusion z⟩
    dsimp only
    walk_at "go"
    refine Z.yes (by simp) ?_
    walk_at "go"
    refine Z.r_isC (.ty _) T.ex_NoKey h T.ki_NoKey_LookupError ?_
    walk_at "go"
    intro tp H2 ntp s2 htp
    walk_at "go"
    refine Z.r_isCT T.ex_NoKey (s2 _ _ h) htp (.cons (.own _) (.cons (.own _) .nil)) (Z.kit_none2 T.ki_NoKey_UnnumberedError T.ki_NoKey_NoAnswer) ?_
    walk_at "go"
    exact q _ (s'.trans s2)
theorem k_no_key {S a : Addr} {i : Int} {gs : Ens} {H : Hp} {Q : VK} {E : XK} (h : SerAt S H a gs) (hi : i < 0 ∨ (gs.length : Int) ≤ i) (q : ∀ H', Same H H' → Q (.bl true) H') : sp_no_key S ([.ref a, .int i] ++ []) H Q E := ⟨a, i, gs, rfl, h, hi, q⟩
theorem sc_law_too_long : FnScope ["_law_one", "_law_other", "e", "_law_both"] ["_law_one", "_law_other"] (defScope s_law_too_long) := ⟨rfl, rfl, rfl, by decide +kernel, rfl, by decide +kernel, by decide +kernel⟩
def sp_tooN (C S : Addr) : Sp := fun vs H Q _ => ∃ (a b : Addr) (gs es : Ens), vs = [.ref a, .ref b] ∧ SerAt S H a gs ∧ SerAt S H b es ∧ EnsOk C H gs ∧ EnsOk C H es ∧ gs.length + es.length ≤ 250 ∧ ∀ H', Same H H' → Q .non H'
theorem ok_law_too_long_n (T : Top K mg) : FnOk P w K mg base CX0 6 T.f_law_too_long T.fd_law_too_long ["_law_one", "_law_other"] (sp_tooN T.C_Unnumbered T.C_Series) := by
  refine T.F_law_too_long.ok sc_law_too_long (fun vs H Q E h => ?_) (fun cdv A outer s H vs Q E hr h => ?_)
  · obtain ⟨a, b, gs, es, rfl, _⟩ := h
    rfl
  · obtain ⟨a, b, gs, es, rfl, h1, h2, hg, he, hn, q⟩ := h
    obtain ⟨dx, t, ha, ht⟩ := id h1
    obtain ⟨dy, u, hb, hu⟩ := id h2
    refine ⟨_, pss_cons (ps_try_thru0 (pss_one (ps_set (i := 3) sc_law_too_long.nd rfl (.inl rfl) (Z.pe_addX (k := 5) T.ad_Series (ok_Series___add T) (hr.mono (by decide)) T.B_Series___add (fun σ => Z.passAt0 (E := fun _ => E0) σ) (pv 0) (pv 1))))) (pss_one (ps_ret (pe_non))), ?_⟩
    refine Z.r_start (σ' := [some (.ref a), some (.ref b), none, none]) rfl ?_
    walk_at "go"
    refine ⟨a, dx, _, b, dy, _, rfl, ha, rfl, hb, k_Se_add h1 h2 hg he hn fun x H' nx s' hx => ⟨⟨x, rfl⟩, ?_⟩⟩
    walk_at "go"
    exact q _ s'
theorem k_tooN {C S a b : Addr} {gs es : Ens} {H : Hp} {Q : VK} {E : XK} (h1 : SerAt S H a gs) (h2 : SerAt S H b es) (hg : EnsOk C H gs) (he : EnsOk C H es) (hn : gs.length + es.length ≤ 250) (q : ∀ H', Same H H' → Q .non H') : sp_tooN C S ([.ref a, .ref b] ++ []) H Q E := ⟨a, b, gs, es, rfl, h1, h2, hg, he, hn, q⟩
def sp_tooX (S : Addr) : Sp := fun vs H Q _ => ∃ (a b : Addr) (gs es : Ens), vs = [.ref a, .ref b] ∧ SerAt S H a gs ∧ SerAt S H b es ∧ 250 < gs.length + es.length ∧ gs.length ≤ 250 ∧ es.length ≤ 250 ∧ ∀ H', Same H H' → Q (.int (-1)) H'
theorem ok_law_too_long_x (T : Top K mg) : FnOk P w K mg base CX0 6 T.f_law_too_long T.fd_law_too_long ["_law_one", "_law_other"] (sp_tooX T.C_Series) := by
  refine T.F_law_too_long.ok sc_law_too_long (fun vs H Q E h => ?_) (fun cdv A outer s H vs Q E hr h => ?_)
  · obtain ⟨a, b, gs, es, rfl, _⟩ := h
    rfl
  · obtain ⟨a, b, gs, es, rfl, h1, h2, hn, l1, l2, q⟩ := h
    obtain ⟨dx, t, ha, ht⟩ := id h1
    obtain ⟨dy, u, hb, hu⟩ := id h2
    refine ⟨_, pss_cons (ps_try_as (i := 2) rfl rfl sc_law_too_long.nd rfl rfl ⟨rfl, by decide, .inl T.mgC_BadSeries⟩ takes0 (fun W pn xe tk _ => pss_one (ps_set (i := 3) sc_law_too_long.nd rfl (.inl rfl) (Z.pe_addX (k := 5) T.ad_Series (ok_Series___add___x T) (hr.mono (by decide)) T.B_Series___add (fun σ => passAt tk σ) (pv 0) (pv 1)))) (fun a oe cls d pn hz hf => pss_one (ps_ret (pe_xf ⟨T.ex_BadSeries.ga, T.ex_BadSeries.gt, T.ex_BadSeries.sb, T.ex_BadSeries.hd⟩ T.no_BadSeries_at hz hf (pv 2))))) (pss_one (ps_ret (pe_non))), ?_⟩
    refine Z.r_start (σ' := [some (.ref a), some (.ref b), none, none]) rfl ?_
    refine Z.r_seq ?_
    dsimp only
    walk_at "go"
    refine ⟨a, dx, _, b, dy, _, rfl, ha, rfl, hb, k_Se_addX h1 h2 hn l1 l2 fun d H' n s' h => ?_⟩
    refine ⟨true, Z.exm_self T.ex_BadSeries, fun _ e ne => ?_, fun z => Bool.noConfusion z⟩
    dsimp only
    walk_at "go"
    exact q _ s'
theorem k_tooX {S a b : Addr} {gs es : Ens} {H : Hp} {Q : VK} {E : XK} (h1 : SerAt S H a gs) (h2 : SerAt S H b es) (hn : 250 < gs.length + es.length) (l1 : gs.length ≤ 250) (l2 : es.length ≤ 250) (q : ∀ H', Same H H' → Q (.int (-1)) H') : sp_tooX S ([.ref a, .ref b] ++ []) H Q E := ⟨a, b, gs, es, rfl, h1, h2, hn, l1, l2, q⟩

theorem sc_law_entries : FnScope ["_law_bag_here", "_law_words", "_law_many", "_law_found", "_law_turn"] ["_law_bag_here", "_law_words"] (defScope s_law_entries) := ⟨rfl, rfl, rfl, by decide +kernel, rfl, by decide +kernel, by decide +kernel⟩
def sp_ents (C : Addr) : Sp := fun vs H Q _ => ∃ (b wl : Addr) (ws : List Str) (n : Nat), vs = [.ref b, .ref wl] ∧ Bag H b n ∧ n ≤ 1000000 ∧ H wl = some (.lst (ws.map V.str)) ∧ wl ≠ b ∧ 1 ≤ ws.length ∧ ws.length ≤ 10 ∧ (∀ x ∈ ws, Word x) ∧
  ∀ p es H', H p = none → Z.But b H H' → Bag H' b (n + 9000) → H' p = some (.lst (es.map (·.1))) → p ≠ b → es.length ≤ 125 → EnsOk C H' es → TagsB es → Q (.ref p) H'
theorem ok_law_entries (T : Top K mg) : FnOk P w K mg base CX0 3 T.f_law_entries T.fd_law_entries ["_law_bag_here", "_law_words"] (sp_ents T.C_Unnumbered) := by
  refine T.F_law_entries.ok sc_law_entries (fun vs H Q E h => ?_) (fun cdv A outer s H vs Q E hr h => ?_)
  · obtain ⟨b, wl, ws, n, rfl, _⟩ := h
    rfl
  · obtain ⟨b, wl, ws, n, rfl, hb, hn, hwl, nwb, lw1, lw2, hws, q⟩ := h
    refine ⟨_, pss_cons (ps_set (i := 2) sc_law_entries.nd rfl (.inl rfl) (pe_ifExp (pt_cmpR op_eq (pe_call (ok_law_draw T) (hr.mono (by decide)) (by rfl) T.mg_law_draw T.F_law_draw.kp T.B_law_draw .nil pass0 (pa_cons (pv 0) (pa_cons (pe_int) (pa_nil)))) (pe_int) (nomark _)) (pe_int) (pe_call (ok_law_draw T) (hr.mono (by decide)) (by rfl) T.mg_law_draw T.F_law_draw.kp T.B_law_draw .nil pass0 (pa_cons (pv 0) (pa_cons (pe_int) (pa_nil)))))) (pss_cons (ps_set (i := 3) sc_law_entries.nd rfl (.inl rfl) (pe_lst (pa_nil))) (pss_cons (ps_for PassesOwn.never rfl (pi_range1 (by rfl) T.z_range (pa_cons (pv 2) (pa_nil))) (pg_name (i := 4) sc_law_entries.nd rfl (.inl rfl)) (pss_one (ps_if (pt_cmpR op_eq (pe_call (ok_law_draw T) (hr.mono (by decide)) (by rfl) T.mg_law_draw T.F_law_draw.kp T.B_law_draw .nil pass0 (pa_cons (pv 0) (pa_cons (pe_int) (pa_nil)))) (pe_int) (nomark _)) (pss_one (ps_expr (pe_bm PySem.F.plainAttrs_list PySem.F.slot_list_append PySem.F.type_list_append mt_append (pv 3) (pa_cons (pe_make T.mk_Unnumbered (ok_Unnumbered___init T) (hr.mono (by decide)) (by rfl) T.mgC_Unnumbered T.B_Unnumbered___init .nil pass0 (pa_cons (pe_ix (Z.ix_seqG (K := K) rfl) (pv 1) (pe_call (ok_law_draw T) (hr.mono (by decide)) (by rfl) T.mg_law_draw T.F_law_draw.kp T.B_law_draw .nil pass0 (pa_cons (pv 0) (pa_cons (pe_callB Z.c_len (by rfl) T.z_len (by decide +kernel) (pa_cons (pv 1) (pa_nil))) (pa_nil)))) (fun _ _ => rfl)) (pa_nil))) (pa_nil))))) (pss_one (ps_expr (pe_bm PySem.F.plainAttrs_list PySem.F.slot_list_append PySem.F.type_list_append mt_append (pv 3) (pa_cons (pe_ifExp (pt_cmpR op_eq (pe_call (ok_law_draw T) (hr.mono (by decide)) (by rfl) T.mg_law_draw T.F_law_draw.kp T.B_law_draw .nil pass0 (pa_cons (pv 0) (pa_cons (pe_int) (pa_nil)))) (pe_int) (nomark _)) (pe_call (ok_law_draw T) (hr.mono (by decide)) (by rfl) T.mg_law_draw T.F_law_draw.kp T.B_law_draw .nil pass0 (pa_cons (pv 0) (pa_cons (pe_int) (pa_nil)))) (pe_call (ok_law_number T) (hr.mono (by decide)) (by rfl) T.mg_law_number T.F_law_number.kp T.B_law_number .nil pass0 (pa_cons (pv 0) (pa_nil)))) (pa_nil)))))))) (pss_one (ps_ret (pv 3))))), ?_⟩
    refine Z.r_start (σ' := [some (.ref b), some (.ref wl), none, none, none]) rfl ?_
    refine Z.r_seq (Z.r_asg (Z.via (R := fun v H4 => ∃ j : Int, v = .int j ∧ 0 ≤ j ∧ j ≤ 125 ∧ Z.But b H H4 ∧ Bag H4 b (n + 2)) (fun M k => ?_) ?_))
    · walk_at "go"
      walk_at "draw"
      intro d H4 d0 d1 t4 g4
      walk_at "go"
      refine Z.ways (fun c => ?_) (fun c => ?_)
      · walk_at "go"
        exact k _ _ ⟨125, rfl, by omega, by omega, t4, g4.mono (by omega)⟩
      · walk_at "go"
        walk_at "draw"
        intro j H5 j0 j1 t5 g5
        exact k _ _ ⟨j, rfl, j0, by omega, t4.trans t5, g5.mono (by omega)⟩
    rintro v H4 ⟨j, rfl, j0, j1, t4, g4⟩
    have hwl4 := t4 _ _ nwb hwl
    walk_at "go"
    intro p H5 np s5 hp
    have hwl5 := s5 _ _ hwl4
    have g5 := g4.same s5
    have npb := g4.ne np
    have npw : p ≠ wl := (ne_of_none hwl4 np).symm
    have np0 : H p = none := t4.free npb np
    walk_at "go"
    refine Z.r_rng j0 (by omega) (fun i σ' H' => ∃ (es : Ens) (v : Option V), σ' = [some (.ref b), some (.ref wl), some (.int j), some (.ref p), v] ∧ es.length = i ∧ H' p = some (.lst (es.map (·.1))) ∧ EnsOk T.C_Unnumbered H' es ∧ TagsB es ∧
      H' wl = some (.lst (ws.map V.str)) ∧ Bag H' b (n + 2 + 64 * i) ∧ Z.But b H H') ?_ ?_ ?_
    · exact ⟨[], _, rfl, rfl, hp, (fun e he => by cases he), (fun e he => by cases he), hwl5, g5, t4.trans (Z.But.same s5)⟩
    · rintro i σ' H6 hi ⟨es, v, rfl, hl, hp6, hes, htb, hwl6, g6, t6⟩
      have li : i < 125 := by omega
      walk_at "go"
      walk_at "draw"
      intro r H7 r0 r1 t7 g7
      have hp7 := t7 _ _ npb hp6
      have hwl7 := t7 _ _ nwb hwl6
      obtain ⟨_, _, _, hbl, _⟩ := id g6
      have hes7 := hes.but t7 hbl
      have done : ∀ (x : V) (t : Tag) (H8 : Hp), Rep T.C_Unnumbered H8 x t → t ≠ .non → tagB t → EnsOk T.C_Unnumbered H8 es → H8 p = some (.lst (es.map (·.1))) → H8 wl = some (.lst (ws.map V.str)) → Bag H8 b (n + 2 + 64 * (i + 1)) → Z.But b H H8 →
          ∀ H9, Z.But p H8 H9 → H9 p = some (.lst (es.map (·.1) ++ [x])) → ∃ (es' : Ens) (v : Option V), [some (.ref b), some (.ref wl), some (.int j), some (.ref p), some (.int (i : Int))] = [some (V.ref b), some (.ref wl), some (.int j), some (.ref p), v] ∧ es'.length = i + 1 ∧ H9 p = some (.lst (es'.map (·.1))) ∧ EnsOk T.C_Unnumbered H9 es' ∧ TagsB es' ∧
            H9 wl = some (.lst (ws.map V.str)) ∧ Bag H9 b (n + 2 + 64 * (i + 1)) ∧ Z.But b H H9 := by
        intro x t H8 rx nt tb hes8 hp8 hwl8 g8 t8 H9 b9 h9
        refine ⟨es ++ [(x, t)], _, rfl, by rw [List.length_append, hl]; rfl, by rw [h9, List.map_append]; rfl, fun e he => ?_, fun e he => ?_, b9 _ _ npw.symm hwl8, g8.but b9 npb.symm, ?_⟩
        · rcases List.mem_append.mp he with he | he
          · exact (hes8.but b9 hp8) e he
          · rw [List.mem_singleton.mp he]
            exact ⟨rx.but b9 hp8, nt⟩
        · rcases List.mem_append.mp he with he | he
          · exact htb e he
          · rw [List.mem_singleton.mp he]; exact tb
        · exact fun a o na ha => b9 _ _ (ne_of_none ha np0) (t8 _ _ na ha)
      have tH7 : Z.But b H H7 := t6.trans t7
      walk_at "go"
      refine Z.ways (fun c => ?_) (fun c => ?_)
      · walk_at "go"
        rw [List.length_map]
        walk_at "draw"
        intro d H8 d0 d1 t8 g8
        obtain ⟨k, rfl⟩ := Int.eq_ofNat_of_zero_le d0
        have hk : k < ws.length := by omega
        have hwl8 := t8 _ _ nwb hwl7
        have hp8 := t8 _ _ npb hp7
        obtain ⟨_, _, _, hbl7, _⟩ := id g7
        have hes8 := hes7.but t8 hbl7
        refine Z.r_ixL (v := .str (ws[k]'hk)) (SqL.of hwl8) (atI_nat (by rw [List.getElem?_map, List.getElem?_eq_getElem hk]; rfl)) ?_
        walk_at "go"
        intro x dx H9 nx s9 hx
        walk_at "go"
        refine Z.r_app (s9 _ _ hp8) (by rw [List.length_map]; omega) fun H10 b10 h10 => ?_
        walk_at "go"
        exact done (.ref x) (.mark (ws[k]'hk)) H9 ⟨x, dx, rfl, hx⟩ nofun (hws _ (List.getElem_mem hk)) (hes8.same s9) (s9 _ _ hp8) (s9 _ _ hwl8) ((g8.same s9).mono (by omega)) ((tH7.trans t8).trans (Z.But.same s9)) H10 b10 h10
      · walk_at "go"
        walk_at "draw"
        intro d H8 d0 d1 t8 g8
        have hwl8 := t8 _ _ nwb hwl7
        have hp8 := t8 _ _ npb hp7
        obtain ⟨_, _, _, hbl7, _⟩ := id g7
        have hes8 := hes7.but t8 hbl7
        walk_at "go"
        refine Z.join (fun v H9 => ∃ m : Int, v = .int m ∧ m.natAbs < 10 ^ 246 ∧ Z.But b H8 H9 ∧ Bag H9 b (n + 2 + 64 * (i + 1))) (fun c M k => ?_) (fun c M k => ?_) (fun v H9 hv => ?_)
        · walk_at "go"
          walk_at "draw"
          intro m H9 m0 m1 t9 g9
          exact k _ _ ⟨m, rfl, Nat.lt_of_lt_of_le (show m.natAbs < 10 by omega) (by decide), t9, g9.mono (by omega)⟩
        · walk_at "go"
          refine k_law_number g8 (by omega) ?_
          intro m H9 hm t9 g9
          exact k _ _ ⟨m, rfl, hm, t9, g9.mono (by omega)⟩
        · obtain ⟨m, rfl, hm, t9, g9⟩ := hv
          obtain ⟨_, _, _, hbl8, _⟩ := id g8
          have hp9 := t9 _ _ npb hp8
          walk_at "go"
          refine Z.r_app hp9 (by rw [List.length_map]; omega) fun H10 b10 h10 => ?_
          walk_at "go"
          exact done (.int m) (.num m) H9 rfl nofun hm (hes8.but t9 hbl8) hp9 (t9 _ _ nwb hwl8) g9 ((tH7.trans t8).trans t9) H10 b10 h10
    · rintro σ' H6 ⟨es, v, rfl, hl, hp6, hes, htb, hwl6, g6, t6⟩
      walk_at "go"
      exact q p es H6 np0 t6 (g6.mono (by omega)) hp6 npb (by omega) hes htb
theorem k_ents {C b wl : Addr} {ws : List Str} {n : Nat} {H : Hp} {Q : VK} {E : XK} (hb : Bag H b n) (hn : n ≤ 1000000) (hwl : H wl = some (.lst (ws.map V.str))) (nwb : wl ≠ b) (l1 : 1 ≤ ws.length) (l2 : ws.length ≤ 10) (hws : ∀ x ∈ ws, Word x)
    (q : ∀ p es H', H p = none → Z.But b H H' → Bag H' b (n + 9000) → H' p = some (.lst (es.map (·.1))) → p ≠ b → es.length ≤ 125 → EnsOk C H' es → TagsB es → Q (.ref p) H') : sp_ents C ([.ref b, .ref wl] ++ []) H Q E := ⟨b, wl, ws, n, rfl, hb, hn, hwl, nwb, l1, l2, hws, q⟩
theorem sc_law_changed : FnScope ["_law_bag_here", "_law_entries_here", "_law_words", "_law_new", "_law_road", "_law_at"] ["_law_bag_here", "_law_entries_here", "_law_words"] (defScope s_law_changed) := ⟨rfl, rfl, rfl, by decide +kernel, rfl, by decide +kernel, by decide +kernel⟩
theorem cut_pre (es : Ens) {k : Nat} (h : k ≤ es.length) : cutV (es.map (·.1)) none (some (k : Int)) = (es.take k).map (·.1) := by
  unfold cutV
  rw [HT.sIx_none, HT.sIx_nat, List.length_map, List.drop_zero, Nat.sub_zero, Nat.min_eq_left h, List.map_take]
theorem cut_suf (es : Ens) (k : Nat) : cutV (es.map (·.1)) (some (k : Int)) none = (es.drop (min k es.length)).map (·.1) := by
  unfold cutV
  rw [HT.sIx_none, HT.sIx_nat, List.length_map, List.map_drop, List.take_of_length_le (by rw [List.length_drop, List.length_map]; omega)]
def sp_changed (C : Addr) : Sp := fun vs H Q _ => ∃ (b el wl : Addr) (ws : List Str) (es : Ens) (n : Nat), vs = [.ref b, .ref el, .ref wl] ∧ Bag H b n ∧ n ≤ 1000000 ∧ H wl = some (.lst (ws.map V.str)) ∧ wl ≠ b ∧ 1 ≤ ws.length ∧ ws.length ≤ 10 ∧ (∀ x ∈ ws, Word x) ∧
  H el = some (.lst (es.map (·.1))) ∧ el ≠ b ∧ es.length ≤ 125 ∧ EnsOk C H es ∧ TagsB es ∧
  ∀ p es' H', H p = none → Z.But b H H' → Bag H' b (n + 70) → H' p = some (.lst (es'.map (·.1))) → es'.length ≤ 126 → EnsOk C H' es' → TagsB es' → Q (.ref p) H'
theorem ok_law_changed (T : Top K mg) : FnOk P w K mg base CX0 3 T.f_law_changed T.fd_law_changed ["_law_bag_here", "_law_entries_here", "_law_words"] (sp_changed T.C_Unnumbered) := by
  refine T.F_law_changed.ok sc_law_changed (fun vs H Q E h => ?_) (fun cdv A outer s H vs Q E hr h => ?_)
  · obtain ⟨b, el, wl, ws, es, n, rfl, _⟩ := h
    rfl
  · obtain ⟨b, el, wl, ws, es, n, rfl, hb, hn, hwl, nwb, lw1, lw2, hws, hel, neb, le, hes, htb, q⟩ := h
    refine ⟨_, pss_cons (ps_par (i := 4) (j := 5) rfl sc_law_changed.nd rfl rfl (by decide) rfl rfl (pa_cons (pe_call (ok_law_draw T) (hr.mono (by decide)) (by rfl) T.mg_law_draw T.F_law_draw.kp T.B_law_draw .nil pass0 (pa_cons (pv 0) (pa_cons (pe_int) (pa_nil)))) (pa_cons (pe_call (ok_law_draw T) (hr.mono (by decide)) (by rfl) T.mg_law_draw T.F_law_draw.kp T.B_law_draw .nil pass0 (pa_cons (pv 0) (pa_cons (pe_op op_add (pe_callB Z.c_len (by rfl) T.z_len (by decide +kernel) (pa_cons (pv 1) (pa_nil))) (pe_int)) (pa_nil)))) (pa_nil))) (by rfl)) (pss_cons (ps_set (i := 3) sc_law_changed.nd rfl (.inl rfl) (pe_ix (Z.ix_seqG (K := K) rfl) (pe_lst (pa_cons (pe_make T.mk_Unnumbered (ok_Unnumbered___init T) (hr.mono (by decide)) (by rfl) T.mgC_Unnumbered T.B_Unnumbered___init .nil pass0 (pa_cons (pe_ix (Z.ix_seqG (K := K) rfl) (pv 2) (pe_call (ok_law_draw T) (hr.mono (by decide)) (by rfl) T.mg_law_draw T.F_law_draw.kp T.B_law_draw .nil pass0 (pa_cons (pv 0) (pa_cons (pe_callB Z.c_len (by rfl) T.z_len (by decide +kernel) (pa_cons (pv 2) (pa_nil))) (pa_nil)))) (fun _ _ => rfl)) (pa_nil))) (pa_cons (pe_call (ok_law_number T) (hr.mono (by decide)) (by rfl) T.mg_law_number T.F_law_number.kp T.B_law_number .nil pass0 (pa_cons (pv 0) (pa_nil))) (pa_nil)))) (pe_call (ok_law_draw T) (hr.mono (by decide)) (by rfl) T.mg_law_draw T.F_law_draw.kp T.B_law_draw .nil pass0 (pa_cons (pv 0) (pa_cons (pe_int) (pa_nil)))) (fun _ _ => rfl))) (pss_cons (ps_if (pt_cmpR op_eq (pv 4) (pe_int) (nomark _)) (pss_one (ps_ret (pe_callTy Z.c_listOf (by rfl) T.z_list (by decide +kernel) (pa_cons (pv 1) (pa_nil))))) (pss_nil)) (pss_cons (ps_if (pt_cmpR op_eq (pv 4) (pe_int) (nomark _)) (pss_one (ps_ret (pe_op op_cat (pe_slice sl_list (pv 1) po_none (po_some (pv 5))) (pe_slice sl_list (pv 1) (po_some (pe_op op_add (pv 5) (pe_int))) po_none)))) (pss_nil)) (pss_one (ps_ret (pe_op op_cat (pe_op op_cat (pe_slice sl_list (pv 1) po_none (po_some (pv 5))) (pe_lst (pa_cons (pv 3) (pa_nil)))) (pe_slice sl_list (pv 1) (po_some (pe_op op_add (pv 5) (pe_op op_sub (pv 4) (pe_int)))) po_none))))))), ?_⟩
    refine Z.r_start (σ' := [some (.ref b), some (.ref el), some (.ref wl), none, none, none]) rfl ?_
    walk_at "go"
    walk_at "draw"
    intro r H1 r0 r1 t1 g1
    have hel1 := t1 _ _ neb hel
    walk_at "go"
    rw [List.length_map]
    walk_at "draw"
    intro k H2 k0 k1 t2 g2
    obtain ⟨k, rfl⟩ := Int.eq_ofNat_of_zero_le k0
    have hk : k ≤ es.length := by omega
    have t02 := t1.trans t2
    have hwl2 := t02 _ _ nwb hwl
    walk_at "go"
    rw [List.length_map]
    walk_at "draw"
    intro d H3 d0 d1 t3 g3
    obtain ⟨d, rfl⟩ := Int.eq_ofNat_of_zero_le d0
    have hd : d < ws.length := by omega
    have hwl3 := t3 _ _ nwb hwl2
    refine Z.r_ixL (v := .str (ws[d]'hd)) (SqL.of hwl3) (atI_nat (by rw [List.getElem?_map, List.getElem?_eq_getElem hd]; rfl)) ?_
    walk_at "go"
    intro x dx H4 nx s4 hx
    have g4 := g3.same s4
    walk_at "go"
    refine k_law_number g4 (by omega) ?_
    intro m H5 hm t5 g5
    obtain ⟨_, _, _, hb4, _⟩ := id g4
    have hx5 : H5 x = some (.ins T.C_Unnumbered dx [("name", .str (ws[d]'hd))]) := t5 _ _ (ne_of hx hb4 (by intro z; cases z)) hx
    walk_at "go"
    intro nl H6 nnl s6 hnl
    have g6 := g5.same s6
    have hx6 := s6 _ _ hx5
    have t06 : Z.But b H H6 := (((t02.trans t3).trans (Z.But.same s4)).trans t5).trans (Z.But.same s6)
    have nnlb : nl ≠ b := g5.ne nnl
    walk_at "go"
    walk_at "draw"
    intro c H7 c0 c1 t7 g7
    have hnl7 := t7 _ _ nnlb hnl
    have t07 := t06.trans t7
    obtain ⟨_, _, _, hb6, _⟩ := id g6
    obtain ⟨_, _, _, hb0, _⟩ := id hb
    have hx7 : H7 x = some (.ins T.C_Unnumbered dx [("name", .str (ws[d]'hd))]) := t7 _ _ (ne_of hx6 hb6 (by intro z; cases z)) hx6
    have hel7 := t07 _ _ neb hel
    have hes7 := hes.but t07 hb0
    -- the new one
    refine Z.via (R := fun v H' => H7 = H' ∧ ∃ t, Rep T.C_Unnumbered H7 v t ∧ t ≠ .non ∧ tagB t) (te := fun σ H Q => rIx K (.ref nl) (.int c) H Q) (σ := []) (fun M k => ?_) ?_
    · rcases (show c = 0 ∨ c = 1 by omega) with rfl | rfl
      · exact Z.r_ixL (v := .ref x) (SqL.of hnl7) rfl (k _ _ ⟨rfl, .mark (ws[d]'hd), ⟨x, dx, rfl, hx7⟩, nofun, hws _ (List.getElem_mem hd)⟩)
      · exact Z.r_ixL (v := .int m) (SqL.of hnl7) rfl (k _ _ ⟨rfl, .num m, rfl, nofun, hm⟩)
    rintro y H' ⟨rfl, t, ry, nt, tbt⟩
    have sub : ∀ (es' : Ens), (∀ e ∈ es', e ∈ es) → EnsOk T.C_Unnumbered H7 es' ∧ TagsB es' := fun es' h => ⟨fun e m => hes7 e (h e m), fun e m => htb e (h e m)⟩
    have fr : ∀ {p : Addr} {H8 : Hp}, Same H7 H8 → H8 p = none → H p = none := fun {p H8} s z => by
      have z7 : H7 p = none := by
        cases z' : H7 p with
        | none => rfl
        | some o => rw [s _ _ z'] at z; cases z
      exact t07.free (g7.ne z7) z7
    walk_at "go"
    refine Z.ways (fun c => ?_) (fun c => ?_)
    · walk_at "go"
      refine Z.r_listL hel7 fun p H8 np s8 hp => ?_
      exact q p es H8 (fr (Same.refl _) np) (t07.trans (Z.But.same s8)) ((g7.same s8).mono (by omega)) hp (by omega) (hes7.same s8) htb
    walk_at "go"
    refine Z.ways (fun c2 => ?_) (fun c2 => ?_)
    · walk_at "go"
      refine Z.r_slL hel7 fun p1 H8 np1 s8 hp1 => ?_
      walk_at "go"
      refine Z.r_slL (s8 _ _ hel7) fun p2 H9 np2 s9 hp2 => ?_
      rw [show ((k : Nat) : Int) + 1 = ((k + 1 : Nat) : Int) by omega, cut_suf] at hp2
      rw [cut_pre es hk] at hp1
      refine Z.r_cat (s9 _ _ hp1) hp2 (by rw [List.length_map, List.length_map, List.length_take, List.length_drop]; omega) fun p3 H10 np3 s10 hp3 => ?_
      have e := sub (es.take k ++ es.drop (min (k + 1) es.length)) fun e m => (List.mem_append.mp m).elim List.mem_of_mem_take List.mem_of_mem_drop
      have sa := (s8.trans s9).trans s10
      exact q p3 _ H10 (fr (s8.trans s9) np3) (t07.trans (Z.But.same sa)) ((g7.same sa).mono (by omega)) (by rw [hp3, List.map_append]) (by rw [List.length_append, List.length_take, List.length_drop]; omega) (e.1.same sa) e.2
    · walk_at "go"
      refine Z.r_slL hel7 fun p1 H8 np1 s8 hp1 => ?_
      walk_at "go"
      intro p2 H9 np2 s9 hp2
      rw [cut_pre es hk] at hp1
      refine Z.r_cat (s9 _ _ hp1) hp2 (by rw [List.length_map, List.length_take]; show _ + 1 ≤ _; omega) fun p3 H10 np3 s10 hp3 => ?_
      walk_at "go"
      have sa := (s8.trans s9).trans s10
      refine Z.r_slL (sa _ _ hel7) fun p4 H11 np4 s11 hp4 => ?_
      obtain ⟨j, hj⟩ : ∃ j : Nat, ((k : Nat) : Int) + (r - 2) = (j : Int) := ⟨k + (r - 2).toNat, by omega⟩
      rw [hj, cut_suf] at hp4
      have hjk : k ≤ j := by omega
      refine Z.r_cat (s11 _ _ hp3) hp4 (by rw [List.length_append, List.length_map, List.length_map, List.length_take, List.length_drop]; show _ + 1 + _ ≤ _; omega) fun p5 H12 np5 s12 hp5 => ?_
      have e := sub (es.take k ++ es.drop (min j es.length)) fun e m => (List.mem_append.mp m).elim List.mem_of_mem_take List.mem_of_mem_drop
      have sb := (sa.trans s11).trans s12
      refine q p5 (es.take k ++ [(y, t)] ++ es.drop (min j es.length)) H12 (fr (sa.trans s11) np5) (t07.trans (Z.But.same sb)) ((g7.same sb).mono (by omega)) (by rw [hp5, List.map_append, List.map_append]; rfl) (by rw [List.length_append, List.length_append, List.length_take, List.length_drop]; show _ + 1 + _ ≤ _; omega) (fun z m => ?_) (fun z m => ?_)
      · rcases List.mem_append.mp m with m | m
        · rcases List.mem_append.mp m with m | m
          · exact (e.1.same sb) z (List.mem_append_left _ m)
          · rw [List.mem_singleton.mp m]; exact ⟨ry.same sb, nt⟩
        · exact (e.1.same sb) z (List.mem_append_right _ m)
      · rcases List.mem_append.mp m with m | m
        · rcases List.mem_append.mp m with m | m
          · exact e.2 z (List.mem_append_left _ m)
          · rw [List.mem_singleton.mp m]; exact tbt
        · exact e.2 z (List.mem_append_right _ m)
theorem k_changed {C b el wl : Addr} {ws : List Str} {es : Ens} {n : Nat} {H : Hp} {Q : VK} {E : XK} (hb : Bag H b n) (hn : n ≤ 1000000) (hwl : H wl = some (.lst (ws.map V.str))) (nwb : wl ≠ b) (l1 : 1 ≤ ws.length) (l2 : ws.length ≤ 10) (hws : ∀ x ∈ ws, Word x)
    (hel : H el = some (.lst (es.map (·.1)))) (neb : el ≠ b) (le : es.length ≤ 125) (hes : EnsOk C H es) (htb : TagsB es) (q : ∀ p es' H', H p = none → Z.But b H H' → Bag H' b (n + 70) → H' p = some (.lst (es'.map (·.1))) → es'.length ≤ 126 → EnsOk C H' es' → TagsB es' → Q (.ref p) H') :
    sp_changed C ([.ref b, .ref el, .ref wl] ++ []) H Q E := ⟨b, el, wl, ws, es, n, rfl, hb, hn, hwl, nwb, l1, l2, hws, hel, neb, le, hes, htb, q⟩

theorem sc_law_added : FnScope ["_law_left", "_law_right", "_law_one", "_law_other", "_law_both", "_law_due", "_law_firsts", "_law_at"] ["_law_left", "_law_right", "_law_one", "_law_other"] (defScope s_law_added) := ⟨rfl, rfl, rfl, by decide +kernel, rfl, by decide +kernel, by decide +kernel⟩
def sp_added (C S : Addr) : Sp := fun vs H Q _ => ∃ (l r a b : Addr) (gs es : Ens), vs = [.ref l, .ref r, .ref a, .ref b] ∧ H l = some (.lst (gs.map (·.1))) ∧ H r = some (.lst (es.map (·.1))) ∧ SerAt S H a (held gs) ∧ SerAt S H b (held es) ∧ EnsOk C H gs ∧ EnsOk C H es ∧ gs.length + es.length ≤ 250 ∧ ∀ H', Same H H' → Q (.bl true) H'
theorem ok_law_added (T : Top K mg) : FnOk P w K mg base CX0 6 T.f_law_added T.fd_law_added ["_law_left", "_law_right", "_law_one", "_law_other"] (sp_added T.C_Unnumbered T.C_Series) := by
  refine T.F_law_added.ok sc_law_added (fun vs H Q E h => ?_) (fun cdv A outer s H vs Q E hr h => ?_)
  · obtain ⟨l, r, a, b, gs, es, rfl, _⟩ := h
    rfl
  · obtain ⟨l, r, a, b, gs, es, rfl, hl, hr', h1, h2, hg, he, hn, q⟩ := h
    obtain ⟨dx, t, ha, ht⟩ := id h1
    obtain ⟨dy, u, hb, hu⟩ := id h2
    have okg := held_ok hg
    have oke := held_ok he
    have oka : EnsOk T.C_Unnumbered H (gs ++ es) := ens_app hg he
    have okb := ens_app okg oke
    refine ⟨_, pss_cons (ps_set (i := 4) sc_law_added.nd rfl (.inl rfl) (Z.pe_addX (k := 5) T.ad_Series (ok_Series___add T) (hr.mono (by decide)) T.B_Series___add (fun σ => Z.passAt0 (E := fun _ => E0) σ) (pv 2) (pv 3))) (pss_cons (ps_set (i := 5) sc_law_added.nd rfl (.inl rfl) (pe_op op_cat (pv 0) (pv 1))) (pss_cons (ps_if ((pw_or (pt_not (pt_val (pe_callB (Z.c_isi (K := K) rfl) (by rfl) T.z_isinstance (by decide +kernel) (pa_cons (pv 4) (pa_cons (pe_glob (v := .ref T.C_Series) (by exact rfl) T.mgC_Series rfl) (pa_nil)))))) (pw_or1 (pt_not (pt_val (pe_call (ok_law_equal T) (hr.mono (by decide)) (by rfl) T.mg_law_equal T.F_law_equal.kp T.B_law_equal .nil pass0 (pa_cons (pe_callTy Z.c_listOf (by rfl) T.z_list (by decide +kernel) (pa_cons (pe_fld (pv 4) rfl) (pa_nil))) (pa_cons (pv 5) (pa_nil)))))))).pt) (pss_one (ps_ret (pe_bl))) (pss_nil)) (pss_cons (ps_set (i := 6) sc_law_added.nd rfl (.inl rfl) (pe_dnewK)) (pss_cons (ps_for PassesOwn.never rfl (pi_range1 (by rfl) T.z_range (pa_cons (pe_callB Z.c_len (by rfl) T.z_len (by decide +kernel) (pa_cons (pv 5) (pa_nil))) (pa_nil))) (pg_name (i := 7) sc_law_added.nd rfl (.inl rfl)) (pss_one (ps_if ((pw_and (pt_val (pe_callB (Z.c_isi (K := K) rfl) (by rfl) T.z_isinstance (by decide +kernel) (pa_cons (pe_ix (Z.ix_seqG (K := K) rfl) (pv 5) (pv 7) (fun _ _ => rfl)) (pa_cons (pe_glob (v := .ref T.C_Unnumbered) (by exact rfl) T.mgC_Unnumbered rfl) (pa_nil))))) (pw_and1 (pt_cmpR (Z.o_notInO (P := P) (w := w) (K := K) (mg := mg) (base := base) (k := 1) rfl rfl rfl rfl rfl (hr.mono (by decide))) (pe_ix (Z.ix_seqG (K := K) rfl) (pe_fld (pv 4) rfl) (pv 7) (fun _ _ => rfl)) (pe_lst (pa_cons (pe_dsetd (pv 6) (pe_fld (pe_ix (Z.ix_seqG (K := K) rfl) (pv 5) (pv 7) (fun _ _ => rfl)) rfl) (pe_ix (Z.ix_seqG (K := K) rfl) (pv 5) (pv 7) (fun _ _ => rfl)) ⟨rfl, rfl, rfl, rfl⟩) (pa_nil))) rfl))).pt) (pss_one (ps_ret (pe_bl))) (pss_nil)))) (pss_one (ps_ret (pe_and (pe_call (ok_law_equal T) (hr.mono (by decide)) (by rfl) T.mg_law_equal T.F_law_equal.kp T.B_law_equal .nil pass0 (pa_cons (pe_callTy Z.c_listOf (by rfl) T.z_list (by decide +kernel) (pa_cons (pe_fld (pv 2) rfl) (pa_nil))) (pa_cons (pv 0) (pa_nil)))) (pe_one (pe_call (ok_law_equal T) (hr.mono (by decide)) (by rfl) T.mg_law_equal T.F_law_equal.kp T.B_law_equal .nil pass0 (pa_cons (pe_callTy Z.c_listOf (by rfl) T.z_list (by decide +kernel) (pa_cons (pe_fld (pv 3) rfl) (pa_nil))) (pa_cons (pv 1) (pa_nil)))))))))))), ?_⟩
    refine Z.r_start (σ' := [some (.ref l), some (.ref r), some (.ref a), some (.ref b), none, none, none, none]) rfl ?_
    walk_at "go"
    refine ⟨a, dx, _, b, dy, _, rfl, ha, rfl, hb, k_Se_add h1 h2 okg oke (by rw [held_len, held_len]; exact hn) fun x H1 nx s1 hx => ⟨⟨x, rfl⟩, ?_⟩⟩
    obtain ⟨dz, w', hx1, hw1⟩ := id hx
    walk_at "go"
    refine Z.r_cat (s1 _ _ hl) (s1 _ _ hr') (by rw [List.length_map, List.length_map]; omega) fun p H2 np s2 hp => ?_
    rw [← List.map_append] at hp
    have hx2 := s2 _ _ hx1
    have hw2 := s2 _ _ hw1
    walk_at "go"
    refine Z.r_listT hw2 fun c H3 nc s3 hc => ?_
    have s13 := (s1.trans s2).trans s3
    walk_at "go"
    refine k_equal (gs := held (held gs ++ held es)) (es := gs ++ es) hc (s3 _ _ hp) (held_ok (okb.same s13)) (oka.same s13) (by rw [held_len, List.length_append, held_len, held_len]; omega) fun H4 s4 => ?_
    rw [decide_eq_true (tags_both gs es)]
    walk_at "go"
    intro d H5 nd s5 hd
    have s25 := (s3.trans s4).trans s5
    have s05 := (s1.trans s2).trans s25
    have hp5 := s25 _ _ hp
    have hx5 := s25 _ _ hx2
    have hw5 := s25 _ _ hw2
    have oka5 := oka.same s05
    walk_at "go"
    rw [List.length_map]
    have hall : (gs ++ es).length ≤ 250 := by rw [List.length_append]; exact hn
    have s24 := s3.trans s4
    have dnx : x ≠ d := ne_of_none (s24 _ _ hx2) nd
    have dnw : w' ≠ d := ne_of_none (s24 _ _ hw2) nd
    have dnp : p ≠ d := ne_of_none (s24 _ _ hp) nd
    have nd0 : H d = none := by
      cases z : H d with
      | none => rfl
      | some o => rw [((s1.trans s2).trans s24) _ _ z] at nd; cases nd
    refine Z.r_rng (by omega) (by omega) (fun k σ' H' => Z.But d H5 H' ∧ ∃ kvs v, σ' = [some (.ref l), some (.ref r), some (.ref a), some (.ref b), some (.ref x), some (.ref p), some (.ref d), v] ∧ H' d = some (.dK kvs) ∧ kvs.length ≤ k ∧ Firsts kvs ((gs ++ es).take k)) ?_ ?_ ?_
    · exact ⟨Z.But.refl _, [], _, rfl, hd, Nat.le_refl _, fun n => rfl⟩
    · rintro k σ' H6 hk ⟨b6, kvs, v, rfl, hd6, hkl, hF⟩
      have lk : k < (gs ++ es).length := by omega
      have hu6 : (gs ++ es)[k]? = some (gs ++ es)[k] := List.getElem?_eq_getElem lk
      have hm := List.getElem_mem lk
      have hp6 := b6 _ _ dnp hp5
      have hx6 := b6 _ _ dnx hx5
      have hw6 := b6 _ _ dnw hw5
      have oka6 := oka5.butD b6 hd
      obtain ⟨re, ne⟩ := oka6 _ hm
      have tk := take_snoc hu6
      have hix : ∀ {H' : Hp}, H' p = some (.lst ((gs ++ es).map (·.1))) → SqL K H' p ((gs ++ es).map (·.1)) ∧ atI ((gs ++ es).map (·.1)) (k : Int) = some (gs ++ es)[k].1 := fun h => ⟨SqL.of h, atI_nat (by rw [List.getElem?_map, hu6]; rfl)⟩
      have hrow : (held (held gs ++ held es))[k]? = some (fstV (gs ++ es) (gs ++ es)[k].2, (gs ++ es)[k].2) := by
        have l2 : (held gs ++ held es)[k]? = some (fstV (if k < gs.length then gs else es) (gs ++ es)[k].2, (gs ++ es)[k].2) := by
          unfold held
          by_cases c : k < gs.length
          · rw [List.getElem?_append_left (by rw [List.length_map]; exact c), List.getElem?_map, if_pos c]
            have e1 : (gs ++ es)[k] = gs[k] := List.getElem_append_left c
            rw [List.getElem?_eq_getElem c, e1]; rfl
          · rw [List.getElem?_append_right (by rw [List.length_map]; omega), List.getElem?_map, List.length_map, if_neg c]
            have c2 : k - gs.length < es.length := by rw [List.length_append] at lk; omega
            have e1 : (gs ++ es)[k] = es[k - gs.length] := List.getElem_append_right (by omega)
            rw [List.getElem?_eq_getElem c2, e1]; rfl
        show ((held gs ++ held es).map _)[k]? = _
        rw [List.getElem?_map, l2]
        show some (fstV (held gs ++ held es) (gs ++ es)[k].2, (gs ++ es)[k].2) = _
        rw [fst_both]
      have hrow1 : ((held (held gs ++ held es)).map (·.1))[k]? = some (fstV (gs ++ es) (gs ++ es)[k].2) := by rw [List.getElem?_map, hrow]; rfl
      have rfirst : Rep T.C_Unnumbered H6 (fstV (gs ++ es) (gs ++ es)[k].2) (gs ++ es)[k].2 := fst_rep oka6 hm
      have first_all : ∀ v, fst? ((gs ++ es).take (k + 1)) (gs ++ es)[k].2 = some v → fstV (gs ++ es) (gs ++ es)[k].2 = v := fun v h => by
        unfold fstV; rw [fst_take h]; rfl
      have snoc : ∀ t, fst? ((gs ++ es).take (k + 1)) t = (fst? ((gs ++ es).take k) t).or (if (gs ++ es)[k].2 = t then some (gs ++ es)[k].1 else none) := fun t => by rw [tk, fst_snoc]
      generalize hE : (gs ++ es)[k] = e at *
      obtain ⟨y, t⟩ := e
      walk_at "go"
      refine Z.r_ixL (hix hp6).1 (hix hp6).2 ?_
      walk_at "go"
      cases t with
      | non => exact absurd rfl ne
      | num i =>
        have hy : y = .int i := re
        subst hy
        walk_at "go"
        refine ⟨b6, kvs, _, rfl, hd6, by omega, fun m => ?_⟩
        rw [snoc, hF m]
        simp
      | mark n =>
        obtain ⟨o, do_, rfl, ho⟩ := re
        obtain ⟨o1, d1, hf1, ho1⟩ := rfirst
        dsimp only at hf1 hrow1
        rw [hf1] at hrow1
        walk_at "go"
        refine Z.r_ixT (SqT.of hw6) (atI_nat hrow1) ?_
        walk_at "go"
        refine Z.r_dsetd ?_
        walk_at "go"
        refine ⟨d, rfl, .inl ⟨kvs, .inl hd6⟩, ?_⟩
        walk_at "go"
        refine Z.r_ixL (hix hp6).1 (hix hp6).2 ?_
        walk_at "go"
        refine Z.r_ixL (hix hp6).1 (hix hp6).2 ?_
        have fin : ∀ (vr : V) (H7 : Hp), fstV (gs ++ es) (.mark n) = vr → Z.But d H6 H7 → (∃ kvs', H7 d = some (.dK kvs') ∧ kvs'.length ≤ k + 1 ∧ Firsts kvs' ((gs ++ es).take (k + 1))) → True := fun _ _ _ _ _ => trivial
        refine ⟨kvs, .inr n, hd6, rfl, Nat.lt_of_le_of_lt (show kvs.length ≤ 1000 by omega) (by decide), fun v' hv => ?_, fun hv => ?_⟩
        · have hv2 : fst? ((gs ++ es).take k) (.mark n) = some v' := by rw [← hF n, hv]
          have e1 := first_all v' (by rw [snoc, hv2]; rfl)
          rw [hf1] at e1
          subst e1
          walk_at "go"
          intro q7 H7 nq7 s7 hq7
          refine Z.r_inO (fun _ => true) hq7 (fun z hz => by rw [List.mem_singleton.mp hz]; exact .same) ?_
          walk_at "go"
          refine ⟨b6.trans (Z.But.same s7), kvs, _, rfl, s7 _ _ hd6, by omega, fun m => ?_⟩
          rw [snoc, hF m]
          by_cases c : n = m
          · subst c; rw [hv2]; rfl
          · simp [c]
        · have hv2 : fst? ((gs ++ es).take k) (.mark n) = none := by rw [← hF n, hv]
          have e1 := first_all (.ref o) (by rw [snoc, hv2]; simp)
          rw [hf1] at e1
          cases e1
          have b7 : Z.But d H6 (L2.upd H6 d (.dK (putK kvs (.inr n) (.ref o)))) := Z.But.upd
          have hd7 : L2.upd H6 d (.dK (putK kvs (.inr n) (.ref o))) d = some (.dK (putK kvs (.inr n) (.ref o))) := upd_same
          generalize L2.upd H6 d (.dK (putK kvs (.inr n) (.ref o))) = H7 at b7 hd7
          walk_at "go"
          intro q8 H8 nq8 s8 hq8
          refine Z.r_inO (fun _ => true) hq8 (fun z hz => by rw [List.mem_singleton.mp hz]; exact .same) ?_
          walk_at "go"
          refine ⟨(b6.trans b7).trans (Z.But.same s8), _, _, rfl, s8 _ _ hd7, by rw [putK_new _ hv, List.length_append]; exact Nat.succ_le_succ hkl, fun m => ?_⟩
          rw [valV_put, snoc, hF m]
          by_cases c : n = m
          · subst c; rw [hv2, if_pos rfl]; simp
          · rw [if_neg (by intro z; exact c (by cases z; rfl))]
            simp [c]
    · rintro σ' H6 ⟨b6, kvs, v, rfl, hd6, hkl, hF⟩
      have back : Same H H6 := Z.But.back s05 nd0 b6
      have h16 := h1.same back
      have h26 := h2.same back
      obtain ⟨dx6, t6, ha6, ht6⟩ := id h16
      obtain ⟨dy6, u6, hb6, hu6⟩ := id h26
      walk_at "go"
      refine Z.r_listT ht6 fun c7 H7 nc7 s7 hc7 => ?_
      walk_at "go"
      have b7 := back.trans s7
      refine k_equal (gs := held gs) (es := gs) hc7 (b7 _ _ hl) (held_ok (hg.same b7)) (hg.same b7) (by rw [held_len]; omega) fun H8 s8 => ?_
      rw [decide_eq_true (tags_one gs)]
      have b8 := b7.trans s8
      walk_at "go"
      refine Z.r_listT (b8 _ _ hu) fun c9 H9 nc9 s9 hc9 => ?_
      walk_at "go"
      have b9 := b8.trans s9
      refine k_equal (gs := held es) (es := es) hc9 (b9 _ _ hr') (held_ok (he.same b9)) (he.same b9) (by rw [held_len]; omega) fun H10 s10 => ?_
      rw [decide_eq_true (tags_one es)]
      exact q _ (b9.trans s10)
theorem k_added {C S l r a b : Addr} {gs es : Ens} {H : Hp} {Q : VK} {E : XK} (hl : H l = some (.lst (gs.map (·.1)))) (hr : H r = some (.lst (es.map (·.1)))) (h1 : SerAt S H a (held gs)) (h2 : SerAt S H b (held es)) (hg : EnsOk C H gs) (he : EnsOk C H es) (hn : gs.length + es.length ≤ 250) (q : ∀ H', Same H H' → Q (.bl true) H') :
    sp_added C S ([.ref l, .ref r, .ref a, .ref b] ++ []) H Q E := ⟨l, r, a, b, gs, es, rfl, hl, hr, h1, h2, hg, he, hn, q⟩

theorem sc_law : FnScope ["_law_script", "_law_at", "_law_bag_here", "_law_words", "_law_third", "_law_rows", "_law_made", "_law_j", "_law_thing", "_law_place", "_law_long", "_law_left", "_law_right", "_law_k", "_law_due", "_law_over", "_law_row", "_law_entry"] ["_law_script"] (defScope s_law) := ⟨rfl, rfl, rfl, by decide +kernel, rfl, by decide +kernel, by decide +kernel⟩
theorem any_alike (gs : Ens) (t : Tag) : (gs.map fun e => decide (t = e.2)).any id = decide (t ∈ tagsOf gs) := by
  have e : (gs.map fun e => decide (t = e.2)) = gs.map fun e => decide (e.2 = t) := by
    refine List.map_congr_left fun e _ => ?_
    by_cases h : t = e.2
    · rw [decide_eq_true h, decide_eq_true h.symm]
    · rw [decide_eq_false h, decide_eq_false fun z => h z.symm]
  rw [e, any_tags]
theorem cut_pre9 (es : Ens) (k : Nat) : cutV (es.map (·.1)) none (some (k : Int)) = (es.take (min k es.length)).map (·.1) := by
  unfold cutV
  rw [HT.sIx_none, HT.sIx_nat, List.length_map, List.drop_zero, Nat.sub_zero, List.map_take]
theorem meetF {c : Prop} [Decidable c] {A : (Bool → Hp → Prop) → Prop} {N : Bool → Hp → Prop} {H : Hp} (tail : N false H) (ha : c → ∀ M : Bool → Hp → Prop, M false H → A M) : if decide c = true then A N else N false H := by
  by_cases h : c
  · rw [decide_eq_true h, if_pos rfl]; exact ha h N tail
  · rw [decide_eq_false h, if_neg Bool.false_ne_true]; exact tail
/-- fives -/
def fives (n : Nat) : Ens := List.replicate n (.int 5, .num 5)
theorem fives_len (n : Nat) : (fives n).length = n := List.length_replicate
theorem fives_fst (n : Nat) : (List.replicate n [V.int 5]).flatten = (fives n).map (·.1) := by
  induction n with
  | zero => rfl
  | succ n ih =>
    rw [List.replicate_succ, List.flatten_cons, ih]
    show V.int 5 :: _ = _
    unfold fives
    rw [List.replicate_succ]; rfl
theorem fives_ok (C : Addr) (H : Hp) (n : Nat) : EnsOk C H (fives n) := fun e h => by
  rw [List.eq_of_mem_replicate h]; exact ⟨rfl, nofun⟩
/-- what stands while a cell's turn goes on -/
def F13 (C S l r c rl ml wl x0 x1 x2 : Addr) (gs es cs : Ens) (ws : List Str) (H : Hp) : Prop :=
  H l = some (.lst (gs.map (·.1))) ∧ H r = some (.lst (es.map (·.1))) ∧ H c = some (.lst (cs.map (·.1))) ∧ EnsOk C H gs ∧ EnsOk C H es ∧ EnsOk C H cs ∧ SerAt S H x0 (held gs) ∧ SerAt S H x1 (held es) ∧ SerAt S H x2 (held cs) ∧
    H rl = some (.lst [.ref l, .ref r, .ref c]) ∧ H ml = some (.lst [.ref x0, .ref x1, .ref x2]) ∧ H wl = some (.lst (ws.map V.str))
section
variable {C S l r c rl ml wl x0 x1 x2 : Addr} {gs es cs : Ens} {ws : List Str} {H H' : Hp}
theorem F13.same (s : Same H H') (h : F13 C S l r c rl ml wl x0 x1 x2 gs es cs ws H) : F13 C S l r c rl ml wl x0 x1 x2 gs es cs ws H' := by
  obtain ⟨h1, h2, h3, h4, h5, h6, h7, h8, h9, h10, h11, h12⟩ := h
  exact ⟨s _ _ h1, s _ _ h2, s _ _ h3, h4.same s, h5.same s, h6.same s, h7.same s, h8.same s, h9.same s, s _ _ h10, s _ _ h11, s _ _ h12⟩
theorem SerAt.but {a b : Addr} {ys : List V} (s : Z.But b H H') (hb : H b = some (.lst ys)) (h : SerAt S H a gs) : SerAt S H' a gs := by
  obtain ⟨dx, t, h1, h2⟩ := h
  exact ⟨dx, t, s _ _ (ne_of h1 hb (by intro z; cases z)) h1, s _ _ (ne_of h2 hb (by intro z; cases z)) h2⟩
theorem F13.but {b : Addr} {ys : List V} (n : l ≠ b ∧ r ≠ b ∧ c ≠ b ∧ rl ≠ b ∧ ml ≠ b ∧ wl ≠ b) (s : Z.But b H H') (hb : H b = some (.lst ys)) (h : F13 C S l r c rl ml wl x0 x1 x2 gs es cs ws H) : F13 C S l r c rl ml wl x0 x1 x2 gs es cs ws H' := by
  obtain ⟨h1, h2, h3, h4, h5, h6, h7, h8, h9, h10, h11, h12⟩ := h
  obtain ⟨n1, n2, n3, n4, n5, n6⟩ := n
  exact ⟨s _ _ n1 h1, s _ _ n2 h2, s _ _ n3 h3, h4.but s hb, h5.but s hb, h6.but s hb, h7.but s hb, h8.but s hb, h9.but s hb, s _ _ n4 h10, s _ _ n5 h11, s _ _ n6 h12⟩
end
def sp_law (K : PySem.W.Frag) : Sp := fun vs H Q _ => ∃ (a : Addr) (ns : List Int), vs = [.ref a] ∧ SqL K H a (ns.map V.int) ∧ ns.length ≤ 63 ∧ ∀ H', Q (.bl true) H'
theorem ok_law (T : Top K mg) : FnOk P w K mg base CX0 7 T.f_law T.fd_law ["_law_script"] (sp_law K) := by
  refine T.F_law.ok sc_law (fun vs H Q E h => ?_) (fun cdv A outer s H vs Q E hr h => ?_)
  · obtain ⟨a, ns, rfl, _⟩ := h
    rfl
  · obtain ⟨a, ns, rfl, hS, hlen, q⟩ := h
    refine ⟨_, pss_cons (ps_for PassesOwn.never rfl (pi_range1 (by rfl) T.z_range (pa_cons (pe_callB (Z.c_max2 rfl) (by rfl) T.z_max (by decide +kernel) (pa_cons (pe_int) (pa_cons (pe_callB (Z.c_min2 rfl) (by rfl) T.z_min (by decide +kernel) (pa_cons (pe_int) (pa_cons (pe_callB Z.c_len (by rfl) T.z_len (by decide +kernel) (pa_cons (pv 0) (pa_nil))) (pa_nil)))) (pa_nil)))) (pa_nil))) (pg_name (i := 1) sc_law.nd rfl (.inl rfl)) (pss_cons (ps_set (i := 2) sc_law.nd rfl (.inl rfl) (pe_call (ok_law_bag T) (hr.mono (by decide)) (by rfl) T.mg_law_bag T.F_law_bag.kp T.B_law_bag .nil pass0 (pa_cons (pv 0) (pa_cons (pv 1) (pa_nil))))) (pss_cons (ps_set (i := 3) sc_law.nd rfl (.inl rfl) (pe_lst (pa_cons (pe_call (ok_law_word T) (hr.mono (by decide)) (by rfl) T.mg_law_word T.F_law_word.kp T.B_law_word .nil pass0 (pa_cons (pv 2) (pa_nil))) (pa_cons (pe_call (ok_law_word T) (hr.mono (by decide)) (by rfl) T.mg_law_word T.F_law_word.kp T.B_law_word .nil pass0 (pa_cons (pv 2) (pa_nil))) (pa_cons (pe_str) (pa_nil)))))) (pss_cons (ps_par (i := 11) (j := 12) rfl sc_law.nd rfl rfl (by decide) rfl rfl (pa_cons (pe_call (ok_law_entries T) (hr.mono (by decide)) (by rfl) T.mg_law_entries T.F_law_entries.kp T.B_law_entries .nil pass0 (pa_cons (pv 2) (pa_cons (pv 3) (pa_nil)))) (pa_cons (pe_call (ok_law_entries T) (hr.mono (by decide)) (by rfl) T.mg_law_entries T.F_law_entries.kp T.B_law_entries .nil pass0 (pa_cons (pv 2) (pa_cons (pv 3) (pa_nil)))) (pa_nil))) (by rfl)) (pss_cons (ps_set (i := 4) sc_law.nd rfl (.inl rfl) (pe_call (ok_law_changed T) (hr.mono (by decide)) (by rfl) T.mg_law_changed T.F_law_changed.kp T.B_law_changed .nil pass0 (pa_cons (pv 2) (pa_cons (pv 11) (pa_cons (pv 3) (pa_nil)))))) (pss_cons (ps_set (i := 5) sc_law.nd rfl (.inl rfl) (pe_lst (pa_cons (pv 11) (pa_cons (pv 12) (pa_cons (pv 4) (pa_nil)))))) (pss_cons (ps_setLc (i := 6) (own := [("_law_row", 16)]) (g := gName 16) (tt := tYes) rfl sc_law.nd rfl rfl (sw_true rfl rfl rfl (by decide +kernel)) (pi_list (pv 5)) (blkOk_by (own := [("_law_row", 16)]) (N := ["_law_script", "_law_at", "_law_bag_here", "_law_words", "_law_third", "_law_rows", "_law_made", "_law_j", "_law_thing", "_law_place", "_law_long", "_law_left", "_law_right", "_law_k", "_law_due", "_law_over", "_law_row", "_law_entry"]) (sc := defScope s_law) (by decide +kernel)) (fun _ _ _ _ _ => pg_name (i := 16) sc_law.nd rfl (.inl rfl)) (fun _ _ _ _ _ => pts_nil) (fun _ _ _ _ _ => pe_make T.mk_Series (ok_Series___init T) (hr.mono (by decide)) (by rfl) T.mgC_Series T.B_Series___init .nil pass0 (pa_cons (pv 16) (pa_nil)))) (pss_cons (ps_for PassesOwn.never rfl (pi_range1 (by rfl) T.z_range (pa_cons (pe_int) (pa_nil))) (pg_name (i := 7) sc_law.nd rfl (.inl rfl)) (pss_cons (ps_for PassesOwn.never rfl (pi_range1 (by rfl) T.z_range (pa_cons (pe_int) (pa_nil))) (pg_name (i := 13) sc_law.nd rfl (.inl rfl)) (pss_cons (ps_set (i := 14) sc_law.nd rfl (.inl rfl) (pe_call (ok_law_equal T) (hr.mono (by decide)) (by rfl) T.mg_law_equal T.F_law_equal.kp T.B_law_equal .nil pass0 (pa_cons (pe_ix (Z.ix_seqG (K := K) rfl) (pv 5) (pv 7) (fun _ _ => rfl)) (pa_cons (pe_ix (Z.ix_seqG (K := K) rfl) (pv 5) (pv 13) (fun _ _ => rfl)) (pa_nil))))) (pss_one (ps_if ((pw_or (pt_not (pt_val (pe_call (ok_law_says T) (hr.mono (by decide)) (by rfl) T.mg_law_says T.F_law_says.kp T.B_law_says .nil pass0 (pa_cons (pe_cmpR (Z.o_cmpL (fun _ _ => rfl) T.me_Series___eq (ok_Series___eq T) (hr.mono (by decide)) T.B_Series___eq) (pe_ix (Z.ix_seqG (K := K) rfl) (pv 6) (pv 7) (fun _ _ => rfl)) (pe_ix (Z.ix_seqG (K := K) rfl) (pv 6) (pv 13) (fun _ _ => rfl)) (nomark _)) (pa_cons (pv 14) (pa_nil)))))) (pw_or1 (pt_not (pt_val (pe_call (ok_law_says T) (hr.mono (by decide)) (by rfl) T.mg_law_says T.F_law_says.kp T.B_law_says .nil pass0 (pa_cons (pe_cmpR (Z.o_neX (k := 3) T.ne_Series T.me_Series___eq (ok_Series___eq T) (hr.mono (by decide)) T.B_Series___eq) (pe_ix (Z.ix_seqG (K := K) rfl) (pv 6) (pv 7) (fun _ _ => rfl)) (pe_ix (Z.ix_seqG (K := K) rfl) (pv 6) (pv 13) (fun _ _ => rfl)) (nomark _)) (pa_cons (pe_not (pv 14)) (pa_nil)))))))).pt) (pss_one (ps_ret (pe_bl))) (pss_nil))))) (pss_one (ps_for PassesOwn.never rfl (pi_list (pe_lst (pa_cons (pe_callTy Z.c_listOf (by rfl) T.z_list (by decide +kernel) (pa_cons (pe_ix (Z.ix_seqG (K := K) rfl) (pv 5) (pv 7) (fun _ _ => rfl)) (pa_nil))) (pa_cons (pe_fld (pe_ix (Z.ix_seqG (K := K) rfl) (pv 6) (pv 7) (fun _ _ => rfl)) rfl) (pa_cons (pe_callTy (Z.c_strO (k := 4) T.me_Series___str (ok_Series___str T) (hr.mono (by decide)) T.B_Series___str) (by rfl) T.z_str (by decide +kernel) (pa_cons (pe_ix (Z.ix_seqG (K := K) rfl) (pv 6) (pv 7) (fun _ _ => rfl)) (pa_nil))) (pa_cons (pe_non) (pa_cons (pe_make T.mk_Told (ok_Told___init T) (hr.mono (by decide)) (by rfl) T.mgC_Told T.B_Told___init .nil pass0 (pa_cons (pe_int) (pa_nil))) (pa_cons (pe_make T.mk_Unnumbered (ok_Unnumbered___init T) (hr.mono (by decide)) (by rfl) T.mgC_Unnumbered T.B_Unnumbered___init .nil pass0 (pa_cons (pe_str) (pa_nil))) (pa_cons (pe_int) (pa_nil)))))))))) (pg_name (i := 8) sc_law.nd rfl (.inr rfl)) (pss_one (ps_if ((pw_or (pt_cmpR (Z.o_cmpL (fun _ _ => rfl) T.me_Series___eq (ok_Series___eq___a T) (hr.mono (by decide)) T.B_Series___eq) (pe_ix (Z.ix_seqG (K := K) rfl) (pv 6) (pv 7) (fun _ _ => rfl)) (pv 8) (nomark _)) (pw_or1 (pt_not (pt_cmpR (Z.o_neX (k := 1) T.ne_Series T.me_Series___eq (ok_Series___eq___a T) (hr.mono (by decide)) T.B_Series___eq) (pe_ix (Z.ix_seqG (K := K) rfl) (pv 6) (pv 7) (fun _ _ => rfl)) (pv 8) (nomark _))))).pt) (pss_one (ps_ret (pe_bl))) (pss_nil))))))) (pss_cons (ps_for PassesOwn.never rfl (pi_list (pe_op op_cat (pe_lst (pa_cons (pe_make T.mk_Unnumbered (ok_Unnumbered___init T) (hr.mono (by decide)) (by rfl) T.mgC_Unnumbered T.B_Unnumbered___init .nil pass0 (pa_cons (pe_ix (Z.ix_seqG (K := K) rfl) (pv 3) (pe_int) (fun _ _ => rfl)) (pa_nil))) (pa_cons (pe_make T.mk_Unnumbered (ok_Unnumbered___init T) (hr.mono (by decide)) (by rfl) T.mgC_Unnumbered T.B_Unnumbered___init .nil pass0 (pa_cons (pe_str) (pa_nil))) (pa_cons (pe_int) (pa_cons (pe_int) (pa_cons (pe_call (ok_law_number T) (hr.mono (by decide)) (by rfl) T.mg_law_number T.F_law_number.kp T.B_law_number .nil pass0 (pa_cons (pv 2) (pa_nil))) (pa_nil))))))) (pe_slice sl_list (pv 12) po_none (po_some (pe_int))))) (pg_name (i := 8) sc_law.nd rfl (.inr rfl)) (pss_cons (ps_set (i := 14) sc_law.nd rfl (.inl rfl) (pe_callB (cr_any rfl) (by rfl) T.z_any (by decide +kernel) (pa_cons (pe_lc (own := [("_law_entry", 17)]) (g := gName 17) (tt := tYes) rfl sc_law.nd (pi_list (pv 11)) (blkOk_by (own := [("_law_entry", 17)]) (N := ["_law_script", "_law_at", "_law_bag_here", "_law_words", "_law_third", "_law_rows", "_law_made", "_law_j", "_law_thing", "_law_place", "_law_long", "_law_left", "_law_right", "_law_k", "_law_due", "_law_over", "_law_row", "_law_entry"]) (sc := defScope s_law) (by decide +kernel)) (fun _ _ _ _ _ => pg_name (i := 17) sc_law.nd rfl (.inl rfl)) (fun _ _ _ _ _ => pts_nil) (fun _ _ _ _ _ => pe_call (ok_law_alike T) (hr.mono (by decide)) (by rfl) T.mg_law_alike T.F_law_alike.kp T.B_law_alike .nil pass0 (pa_cons (pv 8) (pa_cons (pv 17) (pa_nil))))) (pa_nil)))) (pss_one (ps_if (pt_not (pt_val (pe_call (ok_law_says T) (hr.mono (by decide)) (by rfl) T.mg_law_says T.F_law_says.kp T.B_law_says .nil pass0 (pa_cons (pe_cmpR (OpR.or (Z.o_inI (k := 3) T.me_Series___contains (ok_Series___contains T) (hr.mono (by decide)) T.B_Series___contains) (Z.o_inI (k := 3) T.me_Series___contains (ok_Series___contains___a T) (hr.mono (by decide)) T.B_Series___contains)) (pv 8) (pe_ix (Z.ix_seqG (K := K) rfl) (pv 6) (pe_int) (fun _ _ => rfl)) rfl) (pa_cons (pv 14) (pa_nil)))))) (pss_one (ps_ret (pe_bl))) (pss_nil))))) (pss_cons (ps_for PassesOwn.never rfl (pi_list (pe_lst (pa_cons (pe_bl) (pa_cons (pe_bl) (pa_cons (pe_non) (pa_cons (pe_str) (pa_cons (pe_ix (Z.ix_seqG (K := K) rfl) (pv 3) (pe_int) (fun _ _ => rfl)) (pa_cons (pe_lst (pa_nil)) (pa_cons (pe_callTy Z.c_listOf (by rfl) T.z_list (by decide +kernel) (pa_cons (pv 11) (pa_nil))) (pa_cons (pe_make T.mk_Told (ok_Told___init T) (hr.mono (by decide)) (by rfl) T.mgC_Told T.B_Told___init .nil pass0 (pa_cons (pe_int) (pa_nil))) (pa_cons (pe_ix (Z.ix_seqG (K := K) rfl) (pv 6) (pe_int) (fun _ _ => rfl)) (pa_nil)))))))))))) (pg_name (i := 8) sc_law.nd rfl (.inr rfl)) (pss_one (ps_if (pt_cmpR (OpR.or (Z.o_inI (k := 3) T.me_Series___contains (ok_Series___contains T) (hr.mono (by decide)) T.B_Series___contains) (Z.o_inI (k := 3) T.me_Series___contains (ok_Series___contains___a T) (hr.mono (by decide)) T.B_Series___contains)) (pv 8) (pe_ix (Z.ix_seqG (K := K) rfl) (pv 6) (pe_int) (fun _ _ => rfl)) rfl) (pss_one (ps_ret (pe_bl))) (pss_nil)))) (pss_cons (ps_if ((pw_or (pt_not (pt_val (pe_call (ok_law_added T) (hr.mono (by decide)) (by rfl) T.mg_law_added T.F_law_added.kp T.B_law_added .nil pass0 (pa_cons (pv 11) (pa_cons (pv 12) (pa_cons (pe_ix (Z.ix_seqG (K := K) rfl) (pv 6) (pe_int) (fun _ _ => rfl)) (pa_cons (pe_ix (Z.ix_seqG (K := K) rfl) (pv 6) (pe_int) (fun _ _ => rfl)) (pa_nil)))))))) (pw_or1 (pt_not (pt_val (pe_call (ok_law_added T) (hr.mono (by decide)) (by rfl) T.mg_law_added T.F_law_added.kp T.B_law_added .nil pass0 (pa_cons (pv 12) (pa_cons (pv 11) (pa_cons (pe_ix (Z.ix_seqG (K := K) rfl) (pv 6) (pe_int) (fun _ _ => rfl)) (pa_cons (pe_ix (Z.ix_seqG (K := K) rfl) (pv 6) (pe_int) (fun _ _ => rfl)) (pa_nil)))))))))).pt) (pss_one (ps_ret (pe_bl))) (pss_nil)) (pss_cons (ps_if ((pw_and (pt_cmpR op_gt (pe_callB Z.c_len (by rfl) T.z_len (by decide +kernel) (pa_cons (pv 11) (pa_nil))) (pe_int) (nomark _)) (pw_and1 (pt_not (pt_val (pe_call (ok_law_alike T) (hr.mono (by decide)) (by rfl) T.mg_law_alike T.F_law_alike.kp T.B_law_alike .nil pass0 (pa_cons (Z.pe_ixO (k := 1) T.me_Series___getitem (Z.fn_in T.F_Series___getitem) (ok_Series___getitem T) (hr.mono (by decide)) T.B_Series___getitem (pe_ix (Z.ix_seqG (K := K) rfl) (pv 6) (pe_int) (fun _ _ => rfl)) (pe_op op_sub (pe_callB Z.c_len (by rfl) T.z_len (by decide +kernel) (pa_cons (pv 11) (pa_nil))) (pe_int))) (pa_cons (pe_ix (Z.ix_seqG (K := K) rfl) (pv 11) (pe_op op_sub (pe_callB Z.c_len (by rfl) T.z_len (by decide +kernel) (pa_cons (pv 11) (pa_nil))) (pe_int)) (fun _ _ => rfl)) (pa_nil)))))))).pt) (pss_one (ps_ret (pe_bl))) (pss_nil)) (pss_cons (ps_for PassesOwn.never rfl (pi_list (pe_lst (pa_cons (pe_callB Z.c_len (by rfl) T.z_len (by decide +kernel) (pa_cons (pv 11) (pa_nil))) (pa_cons (pe_un un_neg (pe_int)) (pa_cons (pe_op op_add (pe_callB Z.c_len (by rfl) T.z_len (by decide +kernel) (pa_cons (pv 11) (pa_nil))) (pe_call (ok_law_draw T) (hr.mono (by decide)) (by rfl) T.mg_law_draw T.F_law_draw.kp T.B_law_draw .nil pass0 (pa_cons (pv 2) (pa_cons (pe_int) (pa_nil))))) (pa_cons (pe_op op_sub (pe_op op_sub (pe_int) (pe_int)) (pe_callB Z.c_len (by rfl) T.z_len (by decide +kernel) (pa_cons (pv 11) (pa_nil)))) (pa_cons (pe_op op_pow (pe_int) (pe_int)) (pa_nil)))))))) (pg_name (i := 9) sc_law.nd rfl (.inl rfl)) (pss_one (ps_if (pt_not (pt_val (pe_call (ok_law_no_key T) (hr.mono (by decide)) (by rfl) T.mg_law_no_key T.F_law_no_key.kp T.B_law_no_key .nil pass0 (pa_cons (pe_ix (Z.ix_seqG (K := K) rfl) (pv 6) (pe_int) (fun _ _ => rfl)) (pa_cons (pv 9) (pa_nil)))))) (pss_one (ps_ret (pe_bl))) (pss_nil)))) (pss_cons (ps_set (i := 10) sc_law.nd rfl (.inl rfl) (pe_make T.mk_Series (ok_Series___init T) (hr.mono (by decide)) (by rfl) T.mgC_Series T.B_Series___init .nil pass0 (pa_cons (pe_op op_rep (pe_lst (pa_cons (pe_int) (pa_nil))) (pe_op op_sub (pe_int) (pe_callB Z.c_len (by rfl) T.z_len (by decide +kernel) (pa_cons (pv 11) (pa_nil))))) (pa_nil)))) (pss_cons (ps_if ((pw_or (pt_cmpR Z.o_notN (pe_call (ok_law_too_long_n T) (hr.mono (by decide)) (by rfl) T.mg_law_too_long T.F_law_too_long.kp T.B_law_too_long .nil pass0 (pa_cons (pe_ix (Z.ix_seqG (K := K) rfl) (pv 6) (pe_int) (fun _ _ => rfl)) (pa_cons (pv 10) (pa_nil)))) (pe_non) (nomark _)) (pw_or1 (pt_cmpR op_ne (pe_callB (Z.c_lenO (k := 1) T.me_Series___len (ok_Series___len T) (hr.mono (by decide)) T.B_Series___len) (by rfl) T.z_len (by decide +kernel) (pa_cons (Z.pe_addX (k := 5) T.ad_Series (ok_Series___add T) (hr.mono (by decide)) T.B_Series___add (fun σ => Z.passAt0 (E := fun _ => E0) σ) (pe_ix (Z.ix_seqG (K := K) rfl) (pv 6) (pe_int) (fun _ _ => rfl)) (pv 10)) (pa_nil))) (pe_int) (nomark _)))).pt) (pss_one (ps_ret (pe_bl))) (pss_nil)) (pss_one (ps_if (pt_cmpR (Z.o_neNil hr.units0 (op_neD hr.units)) (pv 11) (pe_lst (pa_nil)) (nomark _)) (pss_cons (ps_set (i := 15) sc_law.nd rfl (.inl rfl) (pe_make T.mk_Series (ok_Series___init T) (hr.mono (by decide)) (by rfl) T.mgC_Series T.B_Series___init .nil pass0 (pa_cons (pe_op op_rep (pe_lst (pa_cons (pe_int) (pa_nil))) (pe_op op_sub (pe_int) (pe_callB Z.c_len (by rfl) T.z_len (by decide +kernel) (pa_cons (pv 11) (pa_nil))))) (pa_nil)))) (pss_one (ps_if ((pw_or (pt_cmpR op_ne (pe_call (ok_law_too_long_x T) (hr.mono (by decide)) (by rfl) T.mg_law_too_long T.F_law_too_long.kp T.B_law_too_long .nil pass0 (pa_cons (pe_ix (Z.ix_seqG (K := K) rfl) (pv 6) (pe_int) (fun _ _ => rfl)) (pa_cons (pv 15) (pa_nil)))) (pe_un un_neg (pe_int)) (nomark _)) (pw_or1 (pt_cmpR op_ne (pe_call (ok_law_too_long_x T) (hr.mono (by decide)) (by rfl) T.mg_law_too_long T.F_law_too_long.kp T.B_law_too_long .nil pass0 (pa_cons (pv 15) (pa_cons (pe_ix (Z.ix_seqG (K := K) rfl) (pv 6) (pe_int) (fun _ _ => rfl)) (pa_nil)))) (pe_un un_neg (pe_int)) (nomark _)))).pt) (pss_one (ps_ret (pe_bl))) (pss_nil)))) (pss_nil)))))))))))))))))) (pss_one (ps_ret (pe_bl))), ?_⟩
    refine Z.r_start (σ' := [some (.ref a), none, none, none, none, none, none, none, none, none, none, none, none, none, none, none, none, none]) rfl ?_
    walk_at "go"
    refine Z.r_rng (Z.turns _ 3 (by decide) (by decide)).1 (Z.turns _ 3 (by decide) (by decide)).2 (fun i σ' H' => Same H H' ∧ ∃ v1 v2 v3 v4 v5 v6 v7 v8 v9 v10 v11 v12 v13 v14 v15 v16 v17, σ' = [some (.ref a), v1, v2, v3, v4, v5, v6, v7, v8, v9, v10, v11, v12, v13, v14, v15, v16, v17]) ?_ ?_ ?_
    · exact ⟨Same.refl H, _, _, _, _, _, _, _, _, _, _, _, _, _, _, _, _, _, rfl⟩
    · rintro i σ' H0 hi ⟨s0, v1, v2, v3, v4, v5, v6, v7, v8, v9, v10, v11, v12, v13, v14, v15, v16, v17, rfl⟩
      have hi5 := Int.lt_of_lt_of_le hi (Z.turns_le _ 3 (by decide))
      walk_at "go"
      refine k_law_bag (s0.seq hS) (by omega) ?_
      intro b H1 s1 nb g1
      walk_at "go"
      refine k_law_word g1 (by omega) ?_
      intro w1 H2 hw1 t2 g2
      walk_at "go"
      refine k_law_word g2 (by omega) ?_
      intro w2 H3 hw2 t3 g3
      walk_at "go"
      intro wl H4 nwl s4 hwl
      have g4 := g3.same s4
      have nwb := g3.ne nwl
      have hws : ∀ x ∈ [w1, w2, ("a" : Str)], Word x := by
        intro x hx
        rcases List.mem_cons.mp hx with rfl | hx
        · exact hw1
        rcases List.mem_cons.mp hx with rfl | hx
        · exact hw2
        rcases List.mem_cons.mp hx with rfl | hx
        · exact ⟨by decide +kernel, by decide +kernel, by decide +kernel⟩
        · cases hx
      have hwl' : H4 wl = some (.lst (([w1, w2, "a"] : List Str).map V.str)) := hwl
      have t14 : Z.But b H1 H4 := (t2.trans t3).trans (Z.But.same s4)
      walk_at "go"
      refine k_ents g4 (by omega) hwl' nwb (Nat.le_of_ble_eq_true rfl) (Nat.le_of_ble_eq_true rfl) hws fun l gs H5 nl t5 g5 hl nlb lg hg tg => ?_
      have hwl5 := t5 _ _ nwb hwl'
      walk_at "go"
      refine k_ents g5 (by omega) hwl5 nwb (Nat.le_of_ble_eq_true rfl) (Nat.le_of_ble_eq_true rfl) hws fun r es H6 nr t6 g6 hr6 nrb le he te => ?_
      obtain ⟨_, _, _, hb5, _⟩ := id g5
      have hl6 := t6 _ _ nlb hl
      have hg6 := hg.but t6 hb5
      have hwl6 := t6 _ _ nwb hwl5
      walk_at "go"
      refine k_changed g6 (by omega) hwl6 nwb (Nat.le_of_ble_eq_true rfl) (Nat.le_of_ble_eq_true rfl) hws hl6 nlb lg hg6 tg fun c cs H7 nc t7 g7 hc lc hcs tc => ?_
      obtain ⟨_, _, _, hb6, _⟩ := id g6
      have ncb : c ≠ b := fun z => by rw [z, hb6] at nc; cases nc
      have hl7 := t7 _ _ nlb hl6
      have hr7 := t7 _ _ nrb hr6
      have hg7 := hg6.but t7 hb6
      have he7 := he.but t7 hb6
      have hwl7 := t7 _ _ nwb hwl6
      have t17 : Z.But b H1 H7 := ((t14.trans t5).trans t6).trans t7
      walk_at "go"
      intro rl H8 nrl s8 hrl
      have nrlb := g7.ne nrl
      have g8 := g7.same s8
      have hall : ∀ t ∈ ([(l, gs), (r, es), (c, cs)] : List (Addr × Ens)), H8 t.1 = some (.lst (t.2.map (·.1))) ∧ EnsOk T.C_Unnumbered H8 t.2 ∧ t.2.length ≤ 250 := by
        simp only [List.forall_mem_cons]
        exact ⟨⟨s8 _ _ hl7, hg7.same s8, by omega⟩, ⟨s8 _ _ hr7, he7.same s8, by omega⟩, ⟨s8 _ _ hc, hcs.same s8, by omega⟩, nofun⟩
      walk_at "go"
      refine Z.r_lcL (SqL.of hrl) (fun _ => rfl) (fun D j H' => Same H8 H' ∧ ∃ xs : List Addr, xs.length = j ∧ H' D = some (.lst (xs.map V.ref)) ∧ ∀ (m : Nat) (x : Addr) (t : Addr × Ens), xs[m]? = some x → ([(l, gs), (r, es), (c, cs)] : List (Addr × Ens))[m]? = some t → SerAt T.C_Series H' x (held t.2)) ?_ ?_ ?_ ?_
      · intro D H9 nD s9 h9
        exact ⟨s9, [], rfl, h9, fun m x t hm => by simp at hm⟩
      · rintro D j H9 nD ⟨s9, _⟩
        exact SqL.of (s9 _ _ hrl)
      · rintro D j x H9 nD hx ⟨s9, xs, hxl, hD, hser⟩
        have ex : ∃ t, ([(l, gs), (r, es), (c, cs)] : List (Addr × Ens))[j]? = some t ∧ x = .ref t.1 := by
          have e1 : ([V.ref l, .ref r, .ref c] : List V) = ([(l, gs), (r, es), (c, cs)] : List (Addr × Ens)).map fun t => V.ref t.1 := rfl
          rw [e1, List.getElem?_map] at hx
          cases hu : ([(l, gs), (r, es), (c, cs)] : List (Addr × Ens))[j]? with
          | none => rw [hu] at hx; cases hx
          | some t => rw [hu] at hx; exact ⟨t, rfl, (Option.some.inj hx).symm⟩
        obtain ⟨t, ht, rfl⟩ := ex
        obtain ⟨a1, a2, a3⟩ := hall t (List.mem_of_getElem? ht)
        have lj : j < 3 := (List.getElem?_eq_some_iff.mp ht).1
        walk_at "go"
        refine r_mkSe (s9 _ _ a1) a3 (a2.same s9) fun x dx u H10 nx nu s10 hu hx' => ?_
        refine Z.r_ap (s10 _ _ hD) (by rw [List.length_map]; omega) fun H11 b11 h11 => ?_
        have nxD : x ≠ D := (ne_of_none hD nx).symm
        have nuD : u ≠ D := (ne_of_none hD nu).symm
        refine ⟨Z.But.back (s9.trans s10) nD b11, xs ++ [x], by rw [List.length_append, hxl]; rfl, by rw [h11, List.map_append]; rfl, fun m y t' hm ht' => ?_⟩
        by_cases hmj : m < xs.length
        · rw [List.getElem?_append_left hmj] at hm
          exact ((hser m y t' hm ht').same s10).but b11 (s10 _ _ hD)
        · have hm2 : m = j := by
            have := (List.getElem?_eq_some_iff.mp hm).1
            rw [List.length_append] at this
            have : ([x] : List Addr).length = 1 := rfl
            omega
          subst hm2
          rw [List.getElem?_append_right (by omega), hxl, Nat.sub_self] at hm
          have e1 : x = y := Option.some.inj hm
          rw [ht] at ht'
          have e2 := Option.some.inj ht'
          rw [← e1, ← e2]
          exact ⟨dx, u, b11 _ _ nxD hx', b11 _ _ nuD (by rw [hu, held_fst])⟩
      rintro ml H9 nml ⟨s9, xs, hxl, hml, hser⟩
      obtain ⟨x0, x1, x2, rfl⟩ : ∃ x0 x1 x2, xs = [x0, x1, x2] := by
        match xs, hxl with
        | [x0, x1, x2], _ => exact ⟨x0, x1, x2, rfl⟩
      have F9 : F13 T.C_Unnumbered T.C_Series l r c rl ml wl x0 x1 x2 gs es cs [w1, w2, "a"] H9 :=
        ⟨s9 _ _ (s8 _ _ hl7), s9 _ _ (s8 _ _ hr7), s9 _ _ (s8 _ _ hc), (hg7.same s8).same s9, (he7.same s8).same s9, (hcs.same s8).same s9, hser 0 x0 (l, gs) rfl rfl, hser 1 x1 (r, es) rfl rfl, hser 2 x2 (c, cs) rfl rfl, s9 _ _ hrl, hml, s9 _ _ (s8 _ _ hwl7)⟩
      have pick : ∀ j : Nat, j < 3 → ∃ (p : Addr) (G : Ens) (x : Addr), atI [V.ref l, .ref r, .ref c] (j : Int) = some (.ref p) ∧ atI [V.ref x0, .ref x1, .ref x2] (j : Int) = some (.ref x) ∧ G.length ≤ 126 ∧ TagsB G ∧
          ∀ H', F13 T.C_Unnumbered T.C_Series l r c rl ml wl x0 x1 x2 gs es cs [w1, w2, "a"] H' → H' p = some (.lst (G.map (·.1))) ∧ EnsOk T.C_Unnumbered H' G ∧ SerAt T.C_Series H' x (held G) := by
        intro j hj
        rcases (show j = 0 ∨ j = 1 ∨ j = 2 by omega) with rfl | rfl | rfl
        · exact ⟨l, gs, x0, rfl, rfl, by omega, tg, fun H' ⟨h1, h2, h3, h4, h5, h6, h7, h8, h9, _⟩ => ⟨h1, h4, h7⟩⟩
        · exact ⟨r, es, x1, rfl, rfl, by omega, te, fun H' ⟨h1, h2, h3, h4, h5, h6, h7, h8, h9, _⟩ => ⟨h2, h5, h8⟩⟩
        · exact ⟨c, cs, x2, rfl, rfl, by omega, tc, fun H' ⟨h1, h2, h3, h4, h5, h6, h7, h8, h9, _⟩ => ⟨h3, h6, h9⟩⟩
      have g9 := g8.same s9
      have nmlb : ml ≠ b := g8.ne nml
      have ne6 : l ≠ b ∧ r ≠ b ∧ c ≠ b ∧ rl ≠ b ∧ ml ≠ b ∧ wl ≠ b := ⟨nlb, nrb, ncb, nrlb, nmlb, nwb⟩
      have t19 : Z.But b H1 H9 := (t17.trans (Z.But.same s8)).trans (Z.But.same s9)
      clear hser hall hml hrl hwl7 he7 hg7 hr7 hl7 hcs hc hg6 hl6 hwl6 hwl5 he hr6 hg hl hwl' hwl
      walk_at "go"
      refine Z.r_rng (by decide) (by decide) (fun j σ' H' => Same H9 H' ∧ ∃ v7 v8 v9 v10 v13 v14 v15 v16 v17, σ' = [some (.ref a), some (.int i), some (.ref b), some (.ref wl), some (.ref c), some (.ref rl), some (.ref ml), v7, v8, v9, v10, some (.ref l), some (.ref r), v13, v14, v15, v16, v17]) ?_ ?_ ?_
      · exact ⟨Same.refl _, _, _, _, _, _, _, _, _, _, rfl⟩
      · rintro j σ' H10 hj ⟨s10, u7, u8, u9, u10, u13, u14, u15, u16, u17, rfl⟩
        obtain ⟨p, G, x, p1, p2, p3, p4, p5⟩ := pick j (by omega)
        have F10 := F9.same s10
        walk_at "go"
        refine Z.r_rng (by decide) (by decide) (fun k σ' H' => Same H10 H' ∧ ∃ v8 v9 v10 v13 v14 v15 v16 v17, σ' = [some (.ref a), some (.int i), some (.ref b), some (.ref wl), some (.ref c), some (.ref rl), some (.ref ml), some (.int (j : Int)), v8, v9, v10, some (.ref l), some (.ref r), v13, v14, v15, v16, v17]) ?_ ?_ ?_
        · exact ⟨Same.refl _, _, _, _, _, _, _, _, _, rfl⟩
        · rintro k σ' H11 hk ⟨s11, u8, u9, u10, u13, u14, u15, u16, u17, rfl⟩
          obtain ⟨p', G', x', q1, q2, q3, q4, q5⟩ := pick k (by omega)
          have F11 := F10.same s11
          obtain ⟨a1, a2, a3⟩ := p5 _ F11
          obtain ⟨b1, b2, b3⟩ := q5 _ F11
          have hrl := F11.2.2.2.2.2.2.2.2.2.1
          walk_at "go"
          refine k_equal a1 b1 a2 b2 (by omega) fun H12 s12 => ?_
          have F12 := F11.same s12
          obtain ⟨c1, c2, c3⟩ := p5 _ F12
          obtain ⟨d1, d2, d3⟩ := q5 _ F12
          obtain ⟨dj, tj, hxj, _⟩ := id c3
          obtain ⟨dk, tk, hxk, _⟩ := id d3
          have hml := F12.2.2.2.2.2.2.2.2.2.2.1
          walk_at "go"
          refine k_Se_eq c3 d3 (held_ok c2) (held_ok d2) (by rw [held_len]; omega) fun H13 s13 => ?_
          rw [tags_one, tags_one]
          walk_at "go"
          refine k_says ?_
          rw [decide_eq_true rfl]
          walk_at "go"
          have F13' := F12.same s13
          obtain ⟨e1, e2, e3⟩ := p5 _ F13'
          obtain ⟨f1, f2, f3⟩ := q5 _ F13'
          refine k_Se_eq e3 f3 (held_ok e2) (held_ok f2) (by rw [held_len]; omega) fun H14 s14 => ⟨_, rfl, ?_⟩
          rw [tags_one, tags_one]
          walk_at "go"
          refine k_says ?_
          rw [decide_eq_true rfl]
          walk_at "go"
          exact ⟨((s11.trans s12).trans s13).trans s14, _, _, _, _, _, _, _, _, rfl⟩
        · rintro σ' H11 ⟨s11, u8, u9, u10, u13, u14, u15, u16, u17, rfl⟩
          have F11 := F10.same s11
          obtain ⟨a1, a2, a3⟩ := p5 _ F11
          have hrl := F11.2.2.2.2.2.2.2.2.2.1
          have hml := F11.2.2.2.2.2.2.2.2.2.2.1
          obtain ⟨dj, tj, hxj, htj⟩ := id a3
          walk_at "go"
          refine Z.r_listL a1 fun y1 H12 ny1 s12 hy1 => ?_
          have F12 := F11.same s12
          walk_at "go"
          obtain ⟨c1, c2, c3⟩ := p5 _ F12
          refine k_Se_str c3 (by rw [held_len]; omega) (held_ok c2) (tags_held p4) fun H13 s13 => Z.r_txB ?_
          walk_at "go"
          intro td dtd H14 ntd s14 htd
          walk_at "go"
          intro um dum H15 num s15 hum
          walk_at "go"
          intro zl H16 nzl s16 hzl
          have odd : ∀ z ∈ ([.ref y1, .ref tj, .str (textOf (held G)), .non, .ref td, .ref um, .int 0] : List V), OddE T.C_Unnumbered T.C_Told H16 z := by
            simp only [List.forall_mem_cons]
            exact ⟨.lst (s16 _ _ (s15 _ _ (s14 _ _ (s13 _ _ hy1)))), .tup (s16 _ _ (s15 _ _ (s14 _ _ (s13 _ _ (s12 _ _ htj))))), .str _, .non, .told (s16 _ _ (s15 _ _ htd)), .mark (s16 _ _ hum), .int 0, nofun⟩
          have s11z := ((((s12.trans s13).trans s14).trans s15).trans s16)
          have F16 := F11.same s11z
          walk_at "go"
          refine Z.r_lst_by (SqL.of hzl) (fun m σ' H' => Same H16 H' ∧ ∃ v8 v9 v10 v13 v14 v15 v16 v17, σ' = [some (.ref a), some (.int i), some (.ref b), some (.ref wl), some (.ref c), some (.ref rl), some (.ref ml), some (.int (j : Int)), v8, v9, v10, some (.ref l), some (.ref r), v13, v14, v15, v16, v17]) ?_ ?_ ?_ ?_
          · exact ⟨Same.refl _, _, _, _, _, _, _, _, _, rfl⟩
          · rintro m σ' H17 ⟨s17, _⟩
            exact SqL.of (s17 _ _ hzl)
          · rintro m z σ' H17 hz ⟨s17, u8, u9, u10, u13, u14, u15, u16, u17, rfl⟩
            obtain ⟨t, ty, kt⟩ := oddE_kit T ((odd z (List.mem_of_getElem? hz)).same s17)
            have F17 := F16.same s17
            have hml17 := F17.2.2.2.2.2.2.2.2.2.2.1
            obtain ⟨d3x, t3x, hx17, _⟩ := (p5 _ F17).2.2
            walk_at "go"
            refine k_Se_eqA ty kt ?_
            walk_at "go"
            refine k_Se_eqA ty kt ⟨_, rfl, ?_⟩
            walk_at "go"
            exact ⟨s17, _, _, _, _, _, _, _, _, rfl⟩
          · rintro σ' H17 ⟨s17, u8, u9, u10, u13, u14, u15, u16, u17, rfl⟩
            walk_at "go"
            exact ⟨((s10.trans s11).trans s11z).trans s17, _, _, _, _, _, _, _, _, _, rfl⟩
      · rintro σ' H10 ⟨s10, u7, u8, u9, u10, u13, u14, u15, u16, u17, rfl⟩
        have F10 := F9.same s10
        have g10 := g9.same s10
        have hwl10 := F10.2.2.2.2.2.2.2.2.2.2.2
        walk_at "go"
        intro u1 du1 H11 nu1 s11 hu1
        walk_at "go"
        intro u2 du2 H12 nu2 s12 hu2
        have g12 := (g10.same s11).same s12
        obtain ⟨_, _, _, hb12, _⟩ := id g12
        have F12 := (F10.same s11).same s12
        walk_at "go"
        refine k_law_number g12 (by omega) ?_
        intro mm H13 hmm t13 g13
        have F13' := F12.but ne6 t13 hb12
        have hu1' := t13 _ _ (ne_of (s12 _ _ hu1) hb12 (by intro z; cases z)) (s12 _ _ hu1)
        have hu2' := t13 _ _ (ne_of hu2 hb12 (by intro z; cases z)) hu2
        walk_at "go"
        intro zl H14 nzl s14 hzl
        have F14 := F13'.same s14
        walk_at "go"
        refine Z.r_slL F14.2.1 fun sl H15 nsl s15 hsl => ?_
        rw [show (9 : Int) = ((9 : Nat) : Int) from rfl, cut_pre9] at hsl
        refine Z.r_cat (s15 _ _ hzl) hsl (by rw [List.length_map, List.length_take]; show 5 + _ ≤ _; omega) fun z2 H16 nz2 s16 hz2 => ?_
        have F16 := (F14.same s15).same s16
        have s1316 := (s14.trans s15).trans s16
        have g16 := ((g13.same s14).same s15).same s16
        obtain ⟨G', hG'⟩ : ∃ G' : Ens, G' = [(V.ref u1, Tag.mark w1), (.ref u2, .mark "a"), (.int 0, .num 0), (.int 1, .num 1), (.int mm, .num mm)] ++ es.take (min 9 es.length) := ⟨_, rfl⟩
        have hz2' : H16 z2 = some (.lst (G'.map (·.1))) := by rw [hz2, hG', List.map_append]; rfl
        have okG : EnsOk T.C_Unnumbered H16 G' := by
          rw [hG']
          refine ens_app ?_ fun e m => F16.2.2.2.2.1 e (List.mem_of_mem_take m)
          show ∀ e ∈ _, _
          simp only [List.forall_mem_cons]
          exact ⟨⟨⟨u1, du1, rfl, s1316 _ _ hu1'⟩, nofun⟩, ⟨⟨u2, du2, rfl, s1316 _ _ hu2'⟩, nofun⟩, ⟨rfl, nofun⟩, ⟨rfl, nofun⟩, ⟨rfl, nofun⟩, nofun⟩
        have t1016 : Z.But b H9 H16 := ((((Z.But.same s10).trans (Z.But.same s11)).trans (Z.But.same s12)).trans t13).trans (Z.But.same s1316)
        clear hz2 hzl hsl
        walk_at "go"
        refine Z.r_lst_by (SqL.of hz2') (fun m σ' H' => Same H16 H' ∧ ∃ v7 v8 v9 v10 v13 v14 v15 v16 v17, σ' = [some (.ref a), some (.int i), some (.ref b), some (.ref wl), some (.ref c), some (.ref rl), some (.ref ml), v7, v8, v9, v10, some (.ref l), some (.ref r), v13, v14, v15, v16, v17]) ?_ ?_ ?_ ?_
        · exact ⟨Same.refl _, _, _, _, _, _, _, _, _, _, rfl⟩
        · rintro m σ' H17 ⟨s17, _⟩
          exact SqL.of (s17 _ _ hz2')
        · rintro m z σ' H17 hz ⟨s17, y7, y8, y9, y10, y13, y14, y15, y16, y17, rfl⟩
          rw [List.getElem?_map] at hz
          cases hu : G'[m]? with
          | none => rw [hu] at hz; cases hz
          | some e =>
          rw [hu] at hz
          cases hz
          obtain ⟨re, ne⟩ := (okG e (List.mem_of_getElem? hu))
          have re17 := re.same s17
          have F17 := F16.same s17
          walk_at "go"
          refine Z.r_lcL (SqL.of F17.1) (fun _ => rfl) (fun D n H' => Same H17 H' ∧ H' D = some (.lst (((gs.take n).map fun x => decide (e.2 = x.2)).map V.bl))) ?_ ?_ ?_ ?_
          · intro D H18 nD s18 h18
            exact ⟨s18, h18⟩
          · rintro D n H18 nD ⟨s18, _⟩
            exact SqL.of (s18 _ _ F17.1)
          · rintro D n y H18 nD hy ⟨s18, hD⟩
            rw [List.getElem?_map] at hy
            cases hv : gs[n]? with
            | none => rw [hv] at hy; cases hy
            | some f =>
            rw [hv] at hy
            cases hy
            have ln := (List.getElem?_eq_some_iff.mp hv).1
            obtain ⟨rf, nf⟩ := F17.2.2.2.1 f (List.mem_of_getElem? hv)
            walk_at "go"
            refine k_alike (re17.same s18) (rf.same s18) ne nf ?_
            refine Z.r_ap hD (by rw [List.length_map, List.length_map, List.length_take]; omega) fun H19 b19 h19 => ⟨Z.But.back s18 nD b19, ?_⟩
            rw [h19, take_snoc hv, List.map_append, List.map_append]
            rfl
          · rintro D H18 nD ⟨s18, hD⟩
            rw [List.length_map, List.take_length] at hD
            have F18 := F17.same s18
            obtain ⟨d0, t0, hx0, _⟩ := id F18.2.2.2.2.2.2.1
            have hml18 := F18.2.2.2.2.2.2.2.2.2.2.1
            walk_at "go"
            refine Z.r_anyB (SqL.of hD) ?_
            rw [any_alike]
            walk_at "go"
            refine .inl (Z.r_inI hx0 (k_Se_in F18.2.2.2.2.2.2.1 (held_ok F18.2.2.2.1) (re17.same s18) (by rw [held_len]; omega) fun H19 s19 => ⟨_, rfl, ?_⟩))
            rw [tags_one]
            walk_at "go"
            refine k_says ?_
            rw [decide_eq_true rfl]
            walk_at "go"
            exact ⟨(s17.trans s18).trans s19, _, _, _, _, _, _, _, _, _, rfl⟩
        · rintro σ' H17 ⟨s17, y7, y8, y9, y10, y13, y14, y15, y16, y17, rfl⟩
          have F17 := F16.same s17
          have g17 := g16.same s17
          have hwl17 := F17.2.2.2.2.2.2.2.2.2.2.2
          have hml17 := F17.2.2.2.2.2.2.2.2.2.2.1
          walk_at "go"
          intro el H18 nel s18 hel
          walk_at "go"
          refine Z.r_listL (s18 _ _ F17.1) fun ll H19 nll s19 hll => ?_
          walk_at "go"
          intro td dtd H20 ntd s20 htd
          have s1720 := (s18.trans s19).trans s20
          have F20 := F17.same s1720
          have hml20 := F20.2.2.2.2.2.2.2.2.2.2.1
          walk_at "go"
          intro zl H21 nzl s21 hzl
          have F21 := F20.same s21
          obtain ⟨dx1, tx1, hx1, _⟩ := id F21.2.2.2.2.2.2.2.1
          have odd : ∀ z ∈ ([.bl true, .bl false, .non, .str "0", .str w1, .ref el, .ref ll, .ref td, .ref x1] : List V), OddI T.C_Series T.C_Told H21 z := by
            simp only [List.forall_mem_cons]
            exact ⟨.bl _, .bl _, .non, .str _, .str _, .lst (s21 _ _ (s20 _ _ (s19 _ _ hel))), .lst (s21 _ _ (s20 _ _ hll)), .told (s21 _ _ htd), .ser hx1, nofun⟩
          have g21 := (g17.same s1720).same s21
          have t21 : Z.But b H9 H21 := (t1016.trans (Z.But.same (s17.trans s1720))).trans (Z.But.same s21)
          walk_at "go"
          refine Z.r_lst_by (SqL.of hzl) (fun m σ' H' => Same H21 H' ∧ ∃ v7 v8 v9 v10 v13 v14 v15 v16 v17, σ' = [some (.ref a), some (.int i), some (.ref b), some (.ref wl), some (.ref c), some (.ref rl), some (.ref ml), v7, v8, v9, v10, some (.ref l), some (.ref r), v13, v14, v15, v16, v17]) ?_ ?_ ?_ ?_
          · exact ⟨Same.refl _, _, _, _, _, _, _, _, _, _, rfl⟩
          · rintro m σ' H22 ⟨s22, _⟩
            exact SqL.of (s22 _ _ hzl)
          · rintro m z σ' H22 hz ⟨s22, y7, y8, y9, y10, y13, y14, y15, y16, y17, rfl⟩
            have oz := (odd z (List.mem_of_getElem? hz)).same s22
            have F22 := F21.same s22
            obtain ⟨d0, t0, hx0, _⟩ := id F22.2.2.2.2.2.2.1
            have hml22 := F22.2.2.2.2.2.2.2.2.2.2.1
            walk_at "go"
            refine .inr (Z.r_inI hx0 (k_Se_inA F22.2.2.2.2.2.2.1 (held_ok F22.2.2.2.1) (by rw [held_len]; omega) (fun H' s' => oddI_kit T (oz.same s')) fun H23 s23 => ⟨_, rfl, ?_⟩))
            walk_at "go"
            exact ⟨s22.trans s23, _, _, _, _, _, _, _, _, _, rfl⟩
          · rintro σ' H22 ⟨s22, y7, y8, y9, y10, y13, y14, y15, y16, y17, rfl⟩
            have F22 := F21.same s22
            have g22 := g21.same s22
            have hml22 := F22.2.2.2.2.2.2.2.2.2.2.1
            walk_at "go"
            refine k_added F22.1 F22.2.1 F22.2.2.2.2.2.2.1 F22.2.2.2.2.2.2.2.1 F22.2.2.2.1 F22.2.2.2.2.1 (by omega) fun H23 s23 => ?_
            have F23 := F22.same s23
            have hml23 := F23.2.2.2.2.2.2.2.2.2.2.1
            walk_at "go"
            refine k_added F23.2.1 F23.1 F23.2.2.2.2.2.2.2.1 F23.2.2.2.2.2.2.1 F23.2.2.2.2.1 F23.2.2.2.1 (by omega) fun H24 s24 => ?_
            have F24 := F23.same s24
            have hml24 := F24.2.2.2.2.2.2.2.2.2.2.1
            have hl24 := F24.1
            have g24 := (g22.same s23).same s24
            obtain ⟨d0, t0, hx0, _⟩ := id F24.2.2.2.2.2.2.1
            walk_at "go"
            rw [List.length_map]
            refine meetF (A := fun M => tNot _ _ H24 M) ?_ (fun c M k => ?_)
            · walk_at "go"
              rw [List.length_map]
              walk_at "draw"
              intro dd H25 dd0 dd1 t25 g25
              obtain ⟨_, _, _, hb24, _⟩ := id g24
              have F25 := F24.but ne6 t25 hb24
              have hl25 := F25.1
              walk_at "go"
              rw [List.length_map]
              walk_at "go"
              intro zp H26 nzp s26 hzp
              have F26 := F25.same s26
              have t26 : Z.But b H9 H26 := (((t21.trans (Z.But.same ((s22.trans s23).trans s24))).trans t25).trans (Z.But.same s26))
              have odd : ∀ z ∈ ([.int ((gs.length : Nat) : Int), .int (-1), .int (((gs.length : Nat) : Int) + dd), .int (0 - 1 - ((gs.length : Nat) : Int)), .int (10 ^ (30 : Int).toNat)] : List V), ∃ p : Int, z = .int p ∧ (p < 0 ∨ (((held gs).length : Nat) : Int) ≤ p) := by
                rw [held_len]
                have e30 : (10 : Int) ^ (30 : Int).toNat = 1000000000000000000000000000000 := by decide
                rw [e30]
                simp only [List.forall_mem_cons]
                exact ⟨⟨_, rfl, .inr (Int.le_refl _)⟩, ⟨_, rfl, .inl (by decide)⟩, ⟨_, rfl, .inr (by omega)⟩, ⟨_, rfl, .inl (by omega)⟩, ⟨_, rfl, .inr (by omega)⟩, nofun⟩
              walk_at "go"
              refine Z.r_lst_by (SqL.of hzp) (fun m σ' H' => Same H26 H' ∧ ∃ v7 v8 v9 v10 v13 v14 v15 v16 v17, σ' = [some (.ref a), some (.int i), some (.ref b), some (.ref wl), some (.ref c), some (.ref rl), some (.ref ml), v7, v8, v9, v10, some (.ref l), some (.ref r), v13, v14, v15, v16, v17]) ?_ ?_ ?_ ?_
              · exact ⟨Same.refl _, _, _, _, _, _, _, _, _, _, rfl⟩
              · rintro m σ' H27 ⟨s27, _⟩
                exact SqL.of (s27 _ _ hzp)
              · rintro m z σ' H27 hz ⟨s27, y7, y8, y9, y10, y13, y14, y15, y16, y17, rfl⟩
                obtain ⟨p, rfl, hp⟩ := odd z (List.mem_of_getElem? hz)
                have F27 := F26.same s27
                have hml27 := F27.2.2.2.2.2.2.2.2.2.2.1
                walk_at "go"
                refine k_no_key F27.2.2.2.2.2.2.1 hp fun H28 s28 => ?_
                walk_at "go"
                exact ⟨s27.trans s28, _, _, _, _, _, _, _, _, _, rfl⟩
              · rintro σ' H27 ⟨s27, y7, y8, y9, y10, y13, y14, y15, y16, y17, rfl⟩
                have F27 := F26.same s27
                have hl27 := F27.1
                walk_at "go"
                intro l5 H28 nl5 s28 hl5
                walk_at "go"
                rw [List.length_map]
                refine Z.r_rep hl5 (by omega) (by omega) (by show 1 * _ ≤ _; omega) fun lp H29 nlp s29 hlp => ?_
                rw [fives_fst, show ((250 : Int) - ((gs.length : Nat) : Int)).toNat = 250 - gs.length by omega] at hlp
                walk_at "go"
                refine r_mkSe hlp (by rw [fives_len]; omega) (fives_ok _ _ _) fun x5 d5 t5' H30 nx5 nt5 s30 ht5 hx5 => ?_
                have ser5 : SerAt T.C_Series H30 x5 (held (fives (250 - gs.length))) := ⟨d5, t5', hx5, by rw [ht5, held_fst]⟩
                have F30 := ((F27.same s28).same s29).same s30
                have hml30 := F30.2.2.2.2.2.2.2.2.2.2.1
                walk_at "go"
                refine k_tooN F30.2.2.2.2.2.2.1 ser5 (held_ok F30.2.2.2.1) (held_ok (fives_ok _ _ _)) (by rw [held_len, held_len, fives_len]; omega) fun H31 s31 => ?_
                have F31 := F30.same s31
                have hml31 := F31.2.2.2.2.2.2.2.2.2.2.1
                have ser31 := ser5.same s31
                obtain ⟨d0, t0, hx0, _⟩ := id F31.2.2.2.2.2.2.1
                walk_at "go"
                refine ⟨x0, d0, _, x5, d5, _, rfl, hx0, rfl, s31 _ _ hx5, k_Se_add F31.2.2.2.2.2.2.1 ser31 (held_ok F31.2.2.2.1) (held_ok (fives_ok _ _ _)) (by rw [held_len, held_len, fives_len]; omega) fun y H32 ny s32 hy => ⟨⟨y, rfl⟩, ?_⟩⟩
                obtain ⟨dy, ty, hyi, _⟩ := id hy
                walk_at "go"
                refine k_Se_len hy (Z.r_inB (by rw [held_len, List.length_append, held_len, held_len, fives_len]; omega) ?_)
                have e250 : (held (held gs ++ held (fives (250 - gs.length)))).length = 250 := by rw [held_len, List.length_append, held_len, held_len, fives_len]; omega
                rw [e250]
                walk_at "go"
                have F32 := F31.same s32
                have hl32 := F32.1
                intro pn H33 npn s33 hpn
                have F33 := F32.same s33
                have t33 : Z.But b H9 H33 := t26.trans (Z.But.same ((((((s27.trans s28).trans s29).trans s30).trans s31).trans s32).trans s33))
                have fin : ∀ H34, Same H33 H34 → Same H H34 := fun H34 s34 => s0.trans (Z.But.back s1 nb ((t19.trans t33).trans (Z.But.same s34)))
                have hl33 := F33.1
                have hml33 := F33.2.2.2.2.2.2.2.2.2.2.1
                by_cases hgs : gs = []
                · refine .inl (Z.r_neP (d := .list []) (e := .list []) (.lst (SqL.of (xs := []) (by rw [hl33, hgs]; rfl)) .nil) (.lst (SqL.of hpn) .nil) (by decide +kernel) (by decide +kernel) ?_)
                  walk_at "go"
                  exact ⟨fin _ (Same.refl _), _, _, _, _, _, _, _, _, _, _, _, _, _, _, _, _, _, rfl⟩
                · have lg1 : 1 ≤ gs.length := by
                    cases gs with
                    | nil => exact absurd rfl hgs
                    | cons _ _ => simp
                  refine .inr ⟨l, pn, _, rfl, hl33, fun z => hgs (List.map_eq_nil_iff.mp z), rfl, hpn, ?_⟩
                  walk_at "go"
                  intro l6 H34 nl6 s34 hl6
                  walk_at "go"
                  rw [List.length_map]
                  refine Z.r_rep hl6 (by omega) (by omega) (by show 1 * _ ≤ _; omega) fun lp2 H35 nlp2 s35 hlp2 => ?_
                  rw [fives_fst, show ((251 : Int) - ((gs.length : Nat) : Int)).toNat = 251 - gs.length by omega] at hlp2
                  walk_at "go"
                  refine r_mkSe hlp2 (by rw [fives_len]; omega) (fives_ok _ _ _) fun x6 d6 t6' H36 nx6 nt6 s36 ht6 hx6 => ?_
                  have ser6 : SerAt T.C_Series H36 x6 (held (fives (251 - gs.length))) := ⟨d6, t6', hx6, by rw [ht6, held_fst]⟩
                  have F36 := ((F33.same s34).same s35).same s36
                  have hml36 := F36.2.2.2.2.2.2.2.2.2.2.1
                  walk_at "go"
                  refine k_tooX F36.2.2.2.2.2.2.1 ser6 (by rw [held_len, held_len, fives_len]; omega) (by rw [held_len]; omega) (by rw [held_len, fives_len]; omega) fun H37 s37 => ?_
                  have F37 := F36.same s37
                  have hml37 := F37.2.2.2.2.2.2.2.2.2.2.1
                  walk_at "go"
                  refine k_tooX (ser6.same s37) F37.2.2.2.2.2.2.1 (by rw [held_len, held_len, fives_len]; omega) (by rw [held_len, fives_len]; omega) (by rw [held_len]; omega) fun H38 s38 => ?_
                  walk_at "go"
                  exact ⟨fin _ ((((s34.trans s35).trans s36).trans s37).trans s38), _, _, _, _, _, _, _, _, _, _, _, _, _, _, _, _, _, rfl⟩
            · have n0 : gs.length - 1 < gs.length := by omega
              have e1 : ((gs.length : Nat) : Int) - 1 = ((gs.length - 1 : Nat) : Int) := by omega
              have hu : gs[gs.length - 1]? = some gs[gs.length - 1] := List.getElem?_eq_getElem n0
              obtain ⟨rz, nz⟩ := F24.2.2.2.1 _ (List.getElem_mem n0)
              walk_at "go"
              rw [List.length_map, e1]
              refine Z.r_ixO hx0 (k_Se_get (e := (fstV gs (gs[gs.length - 1]).2, (gs[gs.length - 1]).2)) F24.2.2.2.2.2.2.1 (by unfold held; rw [List.getElem?_map, hu]; rfl) ?_)
              walk_at "go"
              rw [List.length_map, e1]
              refine Z.r_ixL (v := (gs[gs.length - 1]).1) (SqL.of hl24) (atI_nat (by rw [List.getElem?_map, hu]; rfl)) ?_
              walk_at "go"
              refine k_alike (fst_rep F24.2.2.2.1 (List.getElem_mem n0)) rz nz nz ?_
              rw [decide_eq_true rfl]
              walk_at "go"
              exact k
    · rintro σ' H' ⟨_, v1, v2, v3, v4, v5, v6, v7, v8, v9, v10, v11, v12, v13, v14, v15, v16, v17, rfl⟩
      walk_at "go"
      exact q _

end
theorem all_mk {l : PySem.W.OpenLaw} {w : World} {K : PySem.W.Frag} {h : Heap} {mg : Str → Option Value} {fa : Addr} (X : K.In h) (G : h.Ns mainGlobals mg) (hfa : mg "law" = some (.ref fa)) {C_BadSeries C_NoAnswer C_NoKey C_Series C_Told C_Unnumbered C_UnnumberedError f_law_draw f_law_bag f_law_number f_law_word f_is_number f_Unnumbered___init f_same f_is_entry f_Unnumbered___eq f_Unnumbered___str f_with_one_object_a_name f_Series___init f_BadSeries___init f_NoKey___init f_Series___len f_Series___getitem f_Series___str f_Series___add f_Series___eq f_Series___contains f_Told___init f_law_is_int f_law_alike f_law_says f_law_equal f_law_no_key f_law_too_long f_law_entries f_law_changed f_law_added f_law : Addr}
    {od_law_draw an_law_draw : Option Addr} {sl_law_draw : Array (Option Value)} {oc_law_draw kV_law_draw dc_law_draw pm_law_draw cd_law_draw ct_law_draw : Value}
    {od_law_bag an_law_bag : Option Addr} {sl_law_bag : Array (Option Value)} {oc_law_bag kV_law_bag dc_law_bag pm_law_bag cd_law_bag ct_law_bag : Value}
    {od_law_number an_law_number : Option Addr} {sl_law_number : Array (Option Value)} {oc_law_number kV_law_number dc_law_number pm_law_number cd_law_number ct_law_number : Value}
    {od_law_word an_law_word : Option Addr} {sl_law_word : Array (Option Value)} {oc_law_word kV_law_word dc_law_word pm_law_word cd_law_word ct_law_word : Value}
    {od_is_number an_is_number : Option Addr} {sl_is_number : Array (Option Value)} {oc_is_number kV_is_number dc_is_number pm_is_number cd_is_number ct_is_number : Value}
    {od_Unnumbered___init an_Unnumbered___init : Option Addr} {sl_Unnumbered___init : Array (Option Value)} {oc_Unnumbered___init kV_Unnumbered___init dc_Unnumbered___init pm_Unnumbered___init cd_Unnumbered___init ct_Unnumbered___init : Value}
    {od_same an_same : Option Addr} {sl_same : Array (Option Value)} {oc_same kV_same dc_same pm_same cd_same ct_same : Value}
    {od_is_entry an_is_entry : Option Addr} {sl_is_entry : Array (Option Value)} {oc_is_entry kV_is_entry dc_is_entry pm_is_entry cd_is_entry ct_is_entry : Value}
    {od_Unnumbered___eq an_Unnumbered___eq : Option Addr} {sl_Unnumbered___eq : Array (Option Value)} {oc_Unnumbered___eq kV_Unnumbered___eq dc_Unnumbered___eq pm_Unnumbered___eq cd_Unnumbered___eq ct_Unnumbered___eq : Value}
    {od_Unnumbered___str an_Unnumbered___str : Option Addr} {sl_Unnumbered___str : Array (Option Value)} {oc_Unnumbered___str kV_Unnumbered___str dc_Unnumbered___str pm_Unnumbered___str cd_Unnumbered___str ct_Unnumbered___str : Value}
    {od_with_one_object_a_name an_with_one_object_a_name : Option Addr} {sl_with_one_object_a_name : Array (Option Value)} {oc_with_one_object_a_name kV_with_one_object_a_name dc_with_one_object_a_name pm_with_one_object_a_name cd_with_one_object_a_name ct_with_one_object_a_name : Value}
    {od_Series___init an_Series___init : Option Addr} {sl_Series___init : Array (Option Value)} {oc_Series___init kV_Series___init dc_Series___init pm_Series___init cd_Series___init ct_Series___init : Value}
    {od_BadSeries___init an_BadSeries___init : Option Addr} {sl_BadSeries___init : Array (Option Value)} {oc_BadSeries___init kV_BadSeries___init dc_BadSeries___init pm_BadSeries___init cd_BadSeries___init ct_BadSeries___init : Value}
    {od_NoKey___init an_NoKey___init : Option Addr} {sl_NoKey___init : Array (Option Value)} {oc_NoKey___init kV_NoKey___init dc_NoKey___init pm_NoKey___init cd_NoKey___init ct_NoKey___init : Value}
    {od_Series___len an_Series___len : Option Addr} {sl_Series___len : Array (Option Value)} {oc_Series___len kV_Series___len dc_Series___len pm_Series___len cd_Series___len ct_Series___len : Value}
    {od_Series___getitem an_Series___getitem : Option Addr} {sl_Series___getitem : Array (Option Value)} {oc_Series___getitem kV_Series___getitem dc_Series___getitem pm_Series___getitem cd_Series___getitem ct_Series___getitem : Value}
    {od_Series___str an_Series___str : Option Addr} {sl_Series___str : Array (Option Value)} {oc_Series___str kV_Series___str dc_Series___str pm_Series___str cd_Series___str ct_Series___str : Value}
    {od_Series___add an_Series___add : Option Addr} {sl_Series___add : Array (Option Value)} {oc_Series___add kV_Series___add dc_Series___add pm_Series___add cd_Series___add ct_Series___add : Value}
    {od_Series___eq an_Series___eq : Option Addr} {sl_Series___eq : Array (Option Value)} {oc_Series___eq kV_Series___eq dc_Series___eq pm_Series___eq cd_Series___eq ct_Series___eq : Value}
    {od_Series___contains an_Series___contains : Option Addr} {sl_Series___contains : Array (Option Value)} {oc_Series___contains kV_Series___contains dc_Series___contains pm_Series___contains cd_Series___contains ct_Series___contains : Value}
    {od_Told___init an_Told___init : Option Addr} {sl_Told___init : Array (Option Value)} {oc_Told___init kV_Told___init dc_Told___init pm_Told___init cd_Told___init ct_Told___init : Value}
    {od_law_is_int an_law_is_int : Option Addr} {sl_law_is_int : Array (Option Value)} {oc_law_is_int kV_law_is_int dc_law_is_int pm_law_is_int cd_law_is_int ct_law_is_int : Value}
    {od_law_alike an_law_alike : Option Addr} {sl_law_alike : Array (Option Value)} {oc_law_alike kV_law_alike dc_law_alike pm_law_alike cd_law_alike ct_law_alike : Value}
    {od_law_says an_law_says : Option Addr} {sl_law_says : Array (Option Value)} {oc_law_says kV_law_says dc_law_says pm_law_says cd_law_says ct_law_says : Value}
    {od_law_equal an_law_equal : Option Addr} {sl_law_equal : Array (Option Value)} {oc_law_equal kV_law_equal dc_law_equal pm_law_equal cd_law_equal ct_law_equal : Value}
    {od_law_no_key an_law_no_key : Option Addr} {sl_law_no_key : Array (Option Value)} {oc_law_no_key kV_law_no_key dc_law_no_key pm_law_no_key cd_law_no_key ct_law_no_key : Value}
    {od_law_too_long an_law_too_long : Option Addr} {sl_law_too_long : Array (Option Value)} {oc_law_too_long kV_law_too_long dc_law_too_long pm_law_too_long cd_law_too_long ct_law_too_long : Value}
    {od_law_entries an_law_entries : Option Addr} {sl_law_entries : Array (Option Value)} {oc_law_entries kV_law_entries dc_law_entries pm_law_entries cd_law_entries ct_law_entries : Value}
    {od_law_changed an_law_changed : Option Addr} {sl_law_changed : Array (Option Value)} {oc_law_changed kV_law_changed dc_law_changed pm_law_changed cd_law_changed ct_law_changed : Value}
    {od_law_added an_law_added : Option Addr} {sl_law_added : Array (Option Value)} {oc_law_added kV_law_added dc_law_added pm_law_added cd_law_added ct_law_added : Value}
    {od_law an_law : Option Addr} {sl_law : Array (Option Value)} {oc_law kV_law dc_law pm_law cd_law ct_law : Value}
    {tk_MOST_ENTRIES : Tok}
    (aC_BadSeries : PySem.W.nsIn K mainGlobals "BadSeries" = some (some (.ref C_BadSeries)))
    (aC_NoAnswer : PySem.W.nsIn K mainGlobals "NoAnswer" = some (some (.ref C_NoAnswer)))
    (aC_NoKey : PySem.W.nsIn K mainGlobals "NoKey" = some (some (.ref C_NoKey)))
    (aC_Series : PySem.W.nsIn K mainGlobals "Series" = some (some (.ref C_Series)))
    (aC_Told : PySem.W.nsIn K mainGlobals "Told" = some (some (.ref C_Told)))
    (aC_Unnumbered : PySem.W.nsIn K mainGlobals "Unnumbered" = some (some (.ref C_Unnumbered)))
    (aC_UnnumberedError : PySem.W.nsIn K mainGlobals "UnnumberedError" = some (some (.ref C_UnnumberedError)))
    (a_law_draw : PySem.W.nsIn K mainGlobals "_law_draw" = some (some (.ref f_law_draw)))
    (l_law_draw : K.lookup f_law_draw = some ⟨oc_law_draw, od_law_draw, .func (PySem.W.fnOf "_law_draw" "_law_draw" (defArgs s_law_draw) (defBody s_law_draw) (defScope s_law_draw) .none kV_law_draw dc_law_draw pm_law_draw an_law_draw cd_law_draw ct_law_draw), sl_law_draw⟩)
    (c_law_draw : PySem.W.codeIn K cd_law_draw "_law_draw" = true)
    (k_law_draw : PySem.W.keepIn K (.ref f_law_draw) = true)
    (a_law_bag : PySem.W.nsIn K mainGlobals "_law_bag" = some (some (.ref f_law_bag)))
    (l_law_bag : K.lookup f_law_bag = some ⟨oc_law_bag, od_law_bag, .func (PySem.W.fnOf "_law_bag" "_law_bag" (defArgs s_law_bag) (defBody s_law_bag) (defScope s_law_bag) .none kV_law_bag dc_law_bag pm_law_bag an_law_bag cd_law_bag ct_law_bag), sl_law_bag⟩)
    (c_law_bag : PySem.W.codeIn K cd_law_bag "_law_bag" = true)
    (k_law_bag : PySem.W.keepIn K (.ref f_law_bag) = true)
    (a_law_number : PySem.W.nsIn K mainGlobals "_law_number" = some (some (.ref f_law_number)))
    (l_law_number : K.lookup f_law_number = some ⟨oc_law_number, od_law_number, .func (PySem.W.fnOf "_law_number" "_law_number" (defArgs s_law_number) (defBody s_law_number) (defScope s_law_number) .none kV_law_number dc_law_number pm_law_number an_law_number cd_law_number ct_law_number), sl_law_number⟩)
    (c_law_number : PySem.W.codeIn K cd_law_number "_law_number" = true)
    (k_law_number : PySem.W.keepIn K (.ref f_law_number) = true)
    (a_law_word : PySem.W.nsIn K mainGlobals "_law_word" = some (some (.ref f_law_word)))
    (l_law_word : K.lookup f_law_word = some ⟨oc_law_word, od_law_word, .func (PySem.W.fnOf "_law_word" "_law_word" (defArgs s_law_word) (defBody s_law_word) (defScope s_law_word) .none kV_law_word dc_law_word pm_law_word an_law_word cd_law_word ct_law_word), sl_law_word⟩)
    (c_law_word : PySem.W.codeIn K cd_law_word "_law_word" = true)
    (k_law_word : PySem.W.keepIn K (.ref f_law_word) = true)
    (a_is_number : PySem.W.nsIn K mainGlobals "is_number" = some (some (.ref f_is_number)))
    (l_is_number : K.lookup f_is_number = some ⟨oc_is_number, od_is_number, .func (PySem.W.fnOf "is_number" "is_number" (defArgs s_is_number) (defBody s_is_number) (defScope s_is_number) .none kV_is_number dc_is_number pm_is_number an_is_number cd_is_number ct_is_number), sl_is_number⟩)
    (c_is_number : PySem.W.codeIn K cd_is_number "is_number" = true)
    (k_is_number : PySem.W.keepIn K (.ref f_is_number) = true)
    (a_Unnumbered___init : PySem.W.findIn K (.ref C_Unnumbered) "__init__" = some (some (.ref f_Unnumbered___init)))
    (i_Unnumbered___init : PySem.W.isFn K (.ref f_Unnumbered___init) = true)
    (l_Unnumbered___init : K.lookup f_Unnumbered___init = some ⟨oc_Unnumbered___init, od_Unnumbered___init, .func (PySem.W.fnOf "__init__" "Unnumbered.__init__" (defArgs s_Unnumbered___init) (defBody s_Unnumbered___init) (defScope s_Unnumbered___init) .none kV_Unnumbered___init dc_Unnumbered___init pm_Unnumbered___init an_Unnumbered___init cd_Unnumbered___init ct_Unnumbered___init), sl_Unnumbered___init⟩)
    (c_Unnumbered___init : PySem.W.codeIn K cd_Unnumbered___init "Unnumbered.__init__" = true)
    (k_Unnumbered___init : PySem.W.keepIn K (.ref f_Unnumbered___init) = true)
    (a_same : PySem.W.nsIn K mainGlobals "same" = some (some (.ref f_same)))
    (l_same : K.lookup f_same = some ⟨oc_same, od_same, .func (PySem.W.fnOf "same" "same" (defArgs s_same) (defBody s_same) (defScope s_same) .none kV_same dc_same pm_same an_same cd_same ct_same), sl_same⟩)
    (c_same : PySem.W.codeIn K cd_same "same" = true)
    (k_same : PySem.W.keepIn K (.ref f_same) = true)
    (a_is_entry : PySem.W.nsIn K mainGlobals "is_entry" = some (some (.ref f_is_entry)))
    (l_is_entry : K.lookup f_is_entry = some ⟨oc_is_entry, od_is_entry, .func (PySem.W.fnOf "is_entry" "is_entry" (defArgs s_is_entry) (defBody s_is_entry) (defScope s_is_entry) .none kV_is_entry dc_is_entry pm_is_entry an_is_entry cd_is_entry ct_is_entry), sl_is_entry⟩)
    (c_is_entry : PySem.W.codeIn K cd_is_entry "is_entry" = true)
    (k_is_entry : PySem.W.keepIn K (.ref f_is_entry) = true)
    (a_Unnumbered___eq : PySem.W.findIn K (.ref C_Unnumbered) "__eq__" = some (some (.ref f_Unnumbered___eq)))
    (i_Unnumbered___eq : PySem.W.isFn K (.ref f_Unnumbered___eq) = true)
    (l_Unnumbered___eq : K.lookup f_Unnumbered___eq = some ⟨oc_Unnumbered___eq, od_Unnumbered___eq, .func (PySem.W.fnOf "__eq__" "Unnumbered.__eq__" (defArgs s_Unnumbered___eq) (defBody s_Unnumbered___eq) (defScope s_Unnumbered___eq) .none kV_Unnumbered___eq dc_Unnumbered___eq pm_Unnumbered___eq an_Unnumbered___eq cd_Unnumbered___eq ct_Unnumbered___eq), sl_Unnumbered___eq⟩)
    (c_Unnumbered___eq : PySem.W.codeIn K cd_Unnumbered___eq "Unnumbered.__eq__" = true)
    (k_Unnumbered___eq : PySem.W.keepIn K (.ref f_Unnumbered___eq) = true)
    (a_Unnumbered___str : PySem.W.findIn K (.ref C_Unnumbered) "__str__" = some (some (.ref f_Unnumbered___str)))
    (i_Unnumbered___str : PySem.W.isFn K (.ref f_Unnumbered___str) = true)
    (l_Unnumbered___str : K.lookup f_Unnumbered___str = some ⟨oc_Unnumbered___str, od_Unnumbered___str, .func (PySem.W.fnOf "__str__" "Unnumbered.__str__" (defArgs s_Unnumbered___str) (defBody s_Unnumbered___str) (defScope s_Unnumbered___str) .none kV_Unnumbered___str dc_Unnumbered___str pm_Unnumbered___str an_Unnumbered___str cd_Unnumbered___str ct_Unnumbered___str), sl_Unnumbered___str⟩)
    (c_Unnumbered___str : PySem.W.codeIn K cd_Unnumbered___str "Unnumbered.__str__" = true)
    (k_Unnumbered___str : PySem.W.keepIn K (.ref f_Unnumbered___str) = true)
    (a_with_one_object_a_name : PySem.W.nsIn K mainGlobals "_with_one_object_a_name" = some (some (.ref f_with_one_object_a_name)))
    (l_with_one_object_a_name : K.lookup f_with_one_object_a_name = some ⟨oc_with_one_object_a_name, od_with_one_object_a_name, .func (PySem.W.fnOf "_with_one_object_a_name" "_with_one_object_a_name" (defArgs s_with_one_object_a_name) (defBody s_with_one_object_a_name) (defScope s_with_one_object_a_name) .none kV_with_one_object_a_name dc_with_one_object_a_name pm_with_one_object_a_name an_with_one_object_a_name cd_with_one_object_a_name ct_with_one_object_a_name), sl_with_one_object_a_name⟩)
    (c_with_one_object_a_name : PySem.W.codeIn K cd_with_one_object_a_name "_with_one_object_a_name" = true)
    (k_with_one_object_a_name : PySem.W.keepIn K (.ref f_with_one_object_a_name) = true)
    (a_Series___init : PySem.W.findIn K (.ref C_Series) "__init__" = some (some (.ref f_Series___init)))
    (i_Series___init : PySem.W.isFn K (.ref f_Series___init) = true)
    (l_Series___init : K.lookup f_Series___init = some ⟨oc_Series___init, od_Series___init, .func (PySem.W.fnOf "__init__" "Series.__init__" (defArgs s_Series___init) (defBody s_Series___init) (defScope s_Series___init) .none kV_Series___init dc_Series___init pm_Series___init an_Series___init cd_Series___init ct_Series___init), sl_Series___init⟩)
    (c_Series___init : PySem.W.codeIn K cd_Series___init "Series.__init__" = true)
    (k_Series___init : PySem.W.keepIn K (.ref f_Series___init) = true)
    (a_BadSeries___init : PySem.W.findIn K (.ref C_BadSeries) "__init__" = some (some (.ref f_BadSeries___init)))
    (i_BadSeries___init : PySem.W.isFn K (.ref f_BadSeries___init) = true)
    (l_BadSeries___init : K.lookup f_BadSeries___init = some ⟨oc_BadSeries___init, od_BadSeries___init, .func (PySem.W.fnOf "__init__" "BadSeries.__init__" (defArgs s_BadSeries___init) (defBody s_BadSeries___init) (defScope s_BadSeries___init) .none kV_BadSeries___init dc_BadSeries___init pm_BadSeries___init an_BadSeries___init cd_BadSeries___init ct_BadSeries___init), sl_BadSeries___init⟩)
    (c_BadSeries___init : PySem.W.codeIn K cd_BadSeries___init "BadSeries.__init__" = true)
    (k_BadSeries___init : PySem.W.keepIn K (.ref f_BadSeries___init) = true)
    (a_NoKey___init : PySem.W.findIn K (.ref C_NoKey) "__init__" = some (some (.ref f_NoKey___init)))
    (i_NoKey___init : PySem.W.isFn K (.ref f_NoKey___init) = true)
    (l_NoKey___init : K.lookup f_NoKey___init = some ⟨oc_NoKey___init, od_NoKey___init, .func (PySem.W.fnOf "__init__" "NoKey.__init__" (defArgs s_NoKey___init) (defBody s_NoKey___init) (defScope s_NoKey___init) .none kV_NoKey___init dc_NoKey___init pm_NoKey___init an_NoKey___init cd_NoKey___init ct_NoKey___init), sl_NoKey___init⟩)
    (c_NoKey___init : PySem.W.codeIn K cd_NoKey___init "NoKey.__init__" = true)
    (k_NoKey___init : PySem.W.keepIn K (.ref f_NoKey___init) = true)
    (a_Series___len : PySem.W.findIn K (.ref C_Series) "__len__" = some (some (.ref f_Series___len)))
    (i_Series___len : PySem.W.isFn K (.ref f_Series___len) = true)
    (l_Series___len : K.lookup f_Series___len = some ⟨oc_Series___len, od_Series___len, .func (PySem.W.fnOf "__len__" "Series.__len__" (defArgs s_Series___len) (defBody s_Series___len) (defScope s_Series___len) .none kV_Series___len dc_Series___len pm_Series___len an_Series___len cd_Series___len ct_Series___len), sl_Series___len⟩)
    (c_Series___len : PySem.W.codeIn K cd_Series___len "Series.__len__" = true)
    (k_Series___len : PySem.W.keepIn K (.ref f_Series___len) = true)
    (a_Series___getitem : PySem.W.findIn K (.ref C_Series) "__getitem__" = some (some (.ref f_Series___getitem)))
    (i_Series___getitem : PySem.W.isFn K (.ref f_Series___getitem) = true)
    (l_Series___getitem : K.lookup f_Series___getitem = some ⟨oc_Series___getitem, od_Series___getitem, .func (PySem.W.fnOf "__getitem__" "Series.__getitem__" (defArgs s_Series___getitem) (defBody s_Series___getitem) (defScope s_Series___getitem) .none kV_Series___getitem dc_Series___getitem pm_Series___getitem an_Series___getitem cd_Series___getitem ct_Series___getitem), sl_Series___getitem⟩)
    (c_Series___getitem : PySem.W.codeIn K cd_Series___getitem "Series.__getitem__" = true)
    (k_Series___getitem : PySem.W.keepIn K (.ref f_Series___getitem) = true)
    (a_Series___str : PySem.W.findIn K (.ref C_Series) "__str__" = some (some (.ref f_Series___str)))
    (i_Series___str : PySem.W.isFn K (.ref f_Series___str) = true)
    (l_Series___str : K.lookup f_Series___str = some ⟨oc_Series___str, od_Series___str, .func (PySem.W.fnOf "__str__" "Series.__str__" (defArgs s_Series___str) (defBody s_Series___str) (defScope s_Series___str) .none kV_Series___str dc_Series___str pm_Series___str an_Series___str cd_Series___str ct_Series___str), sl_Series___str⟩)
    (c_Series___str : PySem.W.codeIn K cd_Series___str "Series.__str__" = true)
    (k_Series___str : PySem.W.keepIn K (.ref f_Series___str) = true)
    (a_Series___add : PySem.W.findIn K (.ref C_Series) "__add__" = some (some (.ref f_Series___add)))
    (i_Series___add : PySem.W.isFn K (.ref f_Series___add) = true)
    (l_Series___add : K.lookup f_Series___add = some ⟨oc_Series___add, od_Series___add, .func (PySem.W.fnOf "__add__" "Series.__add__" (defArgs s_Series___add) (defBody s_Series___add) (defScope s_Series___add) .none kV_Series___add dc_Series___add pm_Series___add an_Series___add cd_Series___add ct_Series___add), sl_Series___add⟩)
    (c_Series___add : PySem.W.codeIn K cd_Series___add "Series.__add__" = true)
    (k_Series___add : PySem.W.keepIn K (.ref f_Series___add) = true)
    (a_Series___eq : PySem.W.findIn K (.ref C_Series) "__eq__" = some (some (.ref f_Series___eq)))
    (i_Series___eq : PySem.W.isFn K (.ref f_Series___eq) = true)
    (l_Series___eq : K.lookup f_Series___eq = some ⟨oc_Series___eq, od_Series___eq, .func (PySem.W.fnOf "__eq__" "Series.__eq__" (defArgs s_Series___eq) (defBody s_Series___eq) (defScope s_Series___eq) .none kV_Series___eq dc_Series___eq pm_Series___eq an_Series___eq cd_Series___eq ct_Series___eq), sl_Series___eq⟩)
    (c_Series___eq : PySem.W.codeIn K cd_Series___eq "Series.__eq__" = true)
    (k_Series___eq : PySem.W.keepIn K (.ref f_Series___eq) = true)
    (a_Series___contains : PySem.W.findIn K (.ref C_Series) "__contains__" = some (some (.ref f_Series___contains)))
    (i_Series___contains : PySem.W.isFn K (.ref f_Series___contains) = true)
    (l_Series___contains : K.lookup f_Series___contains = some ⟨oc_Series___contains, od_Series___contains, .func (PySem.W.fnOf "__contains__" "Series.__contains__" (defArgs s_Series___contains) (defBody s_Series___contains) (defScope s_Series___contains) .none kV_Series___contains dc_Series___contains pm_Series___contains an_Series___contains cd_Series___contains ct_Series___contains), sl_Series___contains⟩)
    (c_Series___contains : PySem.W.codeIn K cd_Series___contains "Series.__contains__" = true)
    (k_Series___contains : PySem.W.keepIn K (.ref f_Series___contains) = true)
    (a_Told___init : PySem.W.findIn K (.ref C_Told) "__init__" = some (some (.ref f_Told___init)))
    (i_Told___init : PySem.W.isFn K (.ref f_Told___init) = true)
    (l_Told___init : K.lookup f_Told___init = some ⟨oc_Told___init, od_Told___init, .func (PySem.W.fnOf "__init__" "Told.__init__" (defArgs s_Told___init) (defBody s_Told___init) (defScope s_Told___init) .none kV_Told___init dc_Told___init pm_Told___init an_Told___init cd_Told___init ct_Told___init), sl_Told___init⟩)
    (c_Told___init : PySem.W.codeIn K cd_Told___init "Told.__init__" = true)
    (k_Told___init : PySem.W.keepIn K (.ref f_Told___init) = true)
    (a_law_is_int : PySem.W.nsIn K mainGlobals "_law_is_int" = some (some (.ref f_law_is_int)))
    (l_law_is_int : K.lookup f_law_is_int = some ⟨oc_law_is_int, od_law_is_int, .func (PySem.W.fnOf "_law_is_int" "_law_is_int" (defArgs s_law_is_int) (defBody s_law_is_int) (defScope s_law_is_int) .none kV_law_is_int dc_law_is_int pm_law_is_int an_law_is_int cd_law_is_int ct_law_is_int), sl_law_is_int⟩)
    (c_law_is_int : PySem.W.codeIn K cd_law_is_int "_law_is_int" = true)
    (k_law_is_int : PySem.W.keepIn K (.ref f_law_is_int) = true)
    (a_law_alike : PySem.W.nsIn K mainGlobals "_law_alike" = some (some (.ref f_law_alike)))
    (l_law_alike : K.lookup f_law_alike = some ⟨oc_law_alike, od_law_alike, .func (PySem.W.fnOf "_law_alike" "_law_alike" (defArgs s_law_alike) (defBody s_law_alike) (defScope s_law_alike) .none kV_law_alike dc_law_alike pm_law_alike an_law_alike cd_law_alike ct_law_alike), sl_law_alike⟩)
    (c_law_alike : PySem.W.codeIn K cd_law_alike "_law_alike" = true)
    (k_law_alike : PySem.W.keepIn K (.ref f_law_alike) = true)
    (a_law_says : PySem.W.nsIn K mainGlobals "_law_says" = some (some (.ref f_law_says)))
    (l_law_says : K.lookup f_law_says = some ⟨oc_law_says, od_law_says, .func (PySem.W.fnOf "_law_says" "_law_says" (defArgs s_law_says) (defBody s_law_says) (defScope s_law_says) .none kV_law_says dc_law_says pm_law_says an_law_says cd_law_says ct_law_says), sl_law_says⟩)
    (c_law_says : PySem.W.codeIn K cd_law_says "_law_says" = true)
    (k_law_says : PySem.W.keepIn K (.ref f_law_says) = true)
    (a_law_equal : PySem.W.nsIn K mainGlobals "_law_equal" = some (some (.ref f_law_equal)))
    (l_law_equal : K.lookup f_law_equal = some ⟨oc_law_equal, od_law_equal, .func (PySem.W.fnOf "_law_equal" "_law_equal" (defArgs s_law_equal) (defBody s_law_equal) (defScope s_law_equal) .none kV_law_equal dc_law_equal pm_law_equal an_law_equal cd_law_equal ct_law_equal), sl_law_equal⟩)
    (c_law_equal : PySem.W.codeIn K cd_law_equal "_law_equal" = true)
    (k_law_equal : PySem.W.keepIn K (.ref f_law_equal) = true)
    (a_law_no_key : PySem.W.nsIn K mainGlobals "_law_no_key" = some (some (.ref f_law_no_key)))
    (l_law_no_key : K.lookup f_law_no_key = some ⟨oc_law_no_key, od_law_no_key, .func (PySem.W.fnOf "_law_no_key" "_law_no_key" (defArgs s_law_no_key) (defBody s_law_no_key) (defScope s_law_no_key) .none kV_law_no_key dc_law_no_key pm_law_no_key an_law_no_key cd_law_no_key ct_law_no_key), sl_law_no_key⟩)
    (c_law_no_key : PySem.W.codeIn K cd_law_no_key "_law_no_key" = true)
    (k_law_no_key : PySem.W.keepIn K (.ref f_law_no_key) = true)
    (a_law_too_long : PySem.W.nsIn K mainGlobals "_law_too_long" = some (some (.ref f_law_too_long)))
    (l_law_too_long : K.lookup f_law_too_long = some ⟨oc_law_too_long, od_law_too_long, .func (PySem.W.fnOf "_law_too_long" "_law_too_long" (defArgs s_law_too_long) (defBody s_law_too_long) (defScope s_law_too_long) .none kV_law_too_long dc_law_too_long pm_law_too_long an_law_too_long cd_law_too_long ct_law_too_long), sl_law_too_long⟩)
    (c_law_too_long : PySem.W.codeIn K cd_law_too_long "_law_too_long" = true)
    (k_law_too_long : PySem.W.keepIn K (.ref f_law_too_long) = true)
    (a_law_entries : PySem.W.nsIn K mainGlobals "_law_entries" = some (some (.ref f_law_entries)))
    (l_law_entries : K.lookup f_law_entries = some ⟨oc_law_entries, od_law_entries, .func (PySem.W.fnOf "_law_entries" "_law_entries" (defArgs s_law_entries) (defBody s_law_entries) (defScope s_law_entries) .none kV_law_entries dc_law_entries pm_law_entries an_law_entries cd_law_entries ct_law_entries), sl_law_entries⟩)
    (c_law_entries : PySem.W.codeIn K cd_law_entries "_law_entries" = true)
    (k_law_entries : PySem.W.keepIn K (.ref f_law_entries) = true)
    (a_law_changed : PySem.W.nsIn K mainGlobals "_law_changed" = some (some (.ref f_law_changed)))
    (l_law_changed : K.lookup f_law_changed = some ⟨oc_law_changed, od_law_changed, .func (PySem.W.fnOf "_law_changed" "_law_changed" (defArgs s_law_changed) (defBody s_law_changed) (defScope s_law_changed) .none kV_law_changed dc_law_changed pm_law_changed an_law_changed cd_law_changed ct_law_changed), sl_law_changed⟩)
    (c_law_changed : PySem.W.codeIn K cd_law_changed "_law_changed" = true)
    (k_law_changed : PySem.W.keepIn K (.ref f_law_changed) = true)
    (a_law_added : PySem.W.nsIn K mainGlobals "_law_added" = some (some (.ref f_law_added)))
    (l_law_added : K.lookup f_law_added = some ⟨oc_law_added, od_law_added, .func (PySem.W.fnOf "_law_added" "_law_added" (defArgs s_law_added) (defBody s_law_added) (defScope s_law_added) .none kV_law_added dc_law_added pm_law_added an_law_added cd_law_added ct_law_added), sl_law_added⟩)
    (c_law_added : PySem.W.codeIn K cd_law_added "_law_added" = true)
    (k_law_added : PySem.W.keepIn K (.ref f_law_added) = true)
    (a_law : PySem.W.nsIn K mainGlobals "law" = some (some (.ref f_law)))
    (l_law : K.lookup f_law = some ⟨oc_law, od_law, .func (PySem.W.fnOf "law" "law" (defArgs s_law) (defBody s_law) (defScope s_law) .none kV_law dc_law pm_law an_law cd_law ct_law), sl_law⟩)
    (c_law : PySem.W.codeIn K cd_law "law" = true)
    (k_law : PySem.W.keepIn K (.ref f_law) = true)
    (xi_BadSeries : PySem.W.excInitIn K C_BadSeries [.type "ValueError", .type "Exception", .type "BaseException", .type "object"] "ValueError.__new__" = true)
    (xo_BadSeries : PySem.W.excOver K C_BadSeries [.type "ValueError", .type "Exception", .type "BaseException", .type "object"] = true)
    (xs_BadSeries : PySem.W.findIn K (.ref C_BadSeries) "__setattr__" = some (some (.builtin "object.__setattr__")))
    (xh_BadSeries : PySem.W.hasDictIn K C_BadSeries = true)
    (xg_BadSeries : PySem.W.findIn K (.ref C_BadSeries) "__getattribute__" = some (some (.builtin "BaseException.__getattribute__")))
    (xt_BadSeries : PySem.W.findIn K (.ref C_BadSeries) "__getattr__" = some none)
    (xb_BadSeries : PySem.W.subIn K (.ref C_BadSeries) (.type "BaseException") = some true)
    (xz_BadSeries : PySem.W.subIn K (.ref C_BadSeries) (.ref C_BadSeries) = some true)
    (xy_BadSeries : PySem.W.typeIn K (.ref C_BadSeries) = some (.type "type"))
    (xk_BadSeries : PySem.W.keepIn K (.ref C_BadSeries) = true)
    (xc_BadSeries : PySem.W.findIn K (.ref C_BadSeries) "__class__" = some (some (.builtin "object.__class__")))
    (xm_BadSeries : PySem.W.mroIn K C_BadSeries (.type "object") = some true)
    (xi_NoKey : PySem.W.excInitIn K C_NoKey [.type "LookupError", .type "Exception", .type "BaseException", .type "object"] "LookupError.__new__" = true)
    (xo_NoKey : PySem.W.excOver K C_NoKey [.type "LookupError", .type "Exception", .type "BaseException", .type "object"] = true)
    (xs_NoKey : PySem.W.findIn K (.ref C_NoKey) "__setattr__" = some (some (.builtin "object.__setattr__")))
    (xh_NoKey : PySem.W.hasDictIn K C_NoKey = true)
    (xg_NoKey : PySem.W.findIn K (.ref C_NoKey) "__getattribute__" = some (some (.builtin "BaseException.__getattribute__")))
    (xt_NoKey : PySem.W.findIn K (.ref C_NoKey) "__getattr__" = some none)
    (xb_NoKey : PySem.W.subIn K (.ref C_NoKey) (.type "BaseException") = some true)
    (xz_NoKey : PySem.W.subIn K (.ref C_NoKey) (.ref C_NoKey) = some true)
    (xy_NoKey : PySem.W.typeIn K (.ref C_NoKey) = some (.type "type"))
    (xk_NoKey : PySem.W.keepIn K (.ref C_NoKey) = true)
    (xc_NoKey : PySem.W.findIn K (.ref C_NoKey) "__class__" = some (some (.builtin "object.__class__")))
    (xm_NoKey : PySem.W.mroIn K C_NoKey (.type "object") = some true)
    (pg_Series : PySem.W.plainGet K C_Series Str.empty = true)
    (hd_Series : PySem.W.hasDictIn K C_Series = true)
    (po_Series : PySem.W.plainOver K C_Series = true)
    (sa_Series : PySem.W.findIn K (.ref C_Series) "__setattr__" = some (some (.builtin "object.__setattr__")))
    (ca_Series : PySem.W.findIn K (.ref C_Series) "__class__" = some (some (.builtin "object.__class__")))
    (cm_Series : PySem.W.mroIn K C_Series (.type "object") = some true)
    (mk_Series : PySem.W.makesIn K C_Series = true)
    (kc_Series : PySem.W.keepIn K (.ref C_Series) = true)
    (pg_Told : PySem.W.plainGet K C_Told Str.empty = true)
    (hd_Told : PySem.W.hasDictIn K C_Told = true)
    (po_Told : PySem.W.plainOver K C_Told = true)
    (sa_Told : PySem.W.findIn K (.ref C_Told) "__setattr__" = some (some (.builtin "object.__setattr__")))
    (ca_Told : PySem.W.findIn K (.ref C_Told) "__class__" = some (some (.builtin "object.__class__")))
    (cm_Told : PySem.W.mroIn K C_Told (.type "object") = some true)
    (mk_Told : PySem.W.makesIn K C_Told = true)
    (kc_Told : PySem.W.keepIn K (.ref C_Told) = true)
    (pg_Unnumbered : PySem.W.plainGet K C_Unnumbered Str.empty = true)
    (hd_Unnumbered : PySem.W.hasDictIn K C_Unnumbered = true)
    (po_Unnumbered : PySem.W.plainOver K C_Unnumbered = true)
    (sa_Unnumbered : PySem.W.findIn K (.ref C_Unnumbered) "__setattr__" = some (some (.builtin "object.__setattr__")))
    (ca_Unnumbered : PySem.W.findIn K (.ref C_Unnumbered) "__class__" = some (some (.builtin "object.__class__")))
    (cm_Unnumbered : PySem.W.mroIn K C_Unnumbered (.type "object") = some true)
    (mk_Unnumbered : PySem.W.makesIn K C_Unnumbered = true)
    (kc_Unnumbered : PySem.W.keepIn K (.ref C_Unnumbered) = true)
    (sg_Series : PySem.W.selfFirst K C_Series = true)
    (ag_Series : PySem.W.findIn K (.ref C_Series) (PySem.dunder "add") = some (some (.ref f_Series___add)))
    (nd_Series : PySem.W.findIn K (.ref C_Series) "__ne__" = some (some (.builtin "object.__ne__")))
    (gK_MOST_ENTRIES : PySem.W.nsIn K mainGlobals "MOST_ENTRIES" = some (some (.int 250 tk_MOST_ENTRIES)))
    (ocn : PySem.W.specialIn K (.builtin "object.__class__") "__get__" = some (some (.builtin "getset_descriptor.__get__")))
    (oct : PySem.W.takesIn K (.builtin "object.__class__") = some true)
    (no_BadSeries_at : PySem.W.findIn K (.ref C_BadSeries) "at" = some none)
    (no_NoKey_key : PySem.W.findIn K (.ref C_NoKey) "key" = some none)
    (no_Series_entries : PySem.W.findIn K (.ref C_Series) "entries" = some none)
    (no_Told_place : PySem.W.findIn K (.ref C_Told) "place" = some none)
    (no_Unnumbered_name : PySem.W.findIn K (.ref C_Unnumbered) "name" = some none)
    (z_LookupError : PySem.W.nsIn K mainGlobals "LookupError" = some none)
    (z_abs : PySem.W.nsIn K mainGlobals "abs" = some none)
    (z_all : PySem.W.nsIn K mainGlobals "all" = some none)
    (z_any : PySem.W.nsIn K mainGlobals "any" = some none)
    (z_bool : PySem.W.nsIn K mainGlobals "bool" = some none)
    (z_enumerate : PySem.W.nsIn K mainGlobals "enumerate" = some none)
    (z_int : PySem.W.nsIn K mainGlobals "int" = some none)
    (z_isinstance : PySem.W.nsIn K mainGlobals "isinstance" = some none)
    (z_len : PySem.W.nsIn K mainGlobals "len" = some none)
    (z_list : PySem.W.nsIn K mainGlobals "list" = some none)
    (z_max : PySem.W.nsIn K mainGlobals "max" = some none)
    (z_min : PySem.W.nsIn K mainGlobals "min" = some none)
    (z_range : PySem.W.nsIn K mainGlobals "range" = some none)
    (z_str : PySem.W.nsIn K mainGlobals "str" = some none)
    (z_tuple : PySem.W.nsIn K mainGlobals "tuple" = some none)
    (z_zip : PySem.W.nsIn K mainGlobals "zip" = some none)
    (ki_NoKey_LookupError : PySem.W.kitOne K (.ref C_NoKey) (.type "LookupError") = some true)
    (ki_NoKey_UnnumberedError : PySem.W.kitOne K (.ref C_NoKey) (.ref C_UnnumberedError) = some false)
    (ki_NoKey_NoAnswer : PySem.W.kitOne K (.ref C_NoKey) (.ref C_NoAnswer) = some false)
    (ki_NoneType_Series : PySem.W.kitOne K (.type "NoneType") (.ref C_Series) = some false)
    (ki_bool_Series : PySem.W.kitOne K (.type "bool") (.ref C_Series) = some false)
    (ki_int_Series : PySem.W.kitOne K (.type "int") (.ref C_Series) = some false)
    (ki_str_Series : PySem.W.kitOne K (.type "str") (.ref C_Series) = some false)
    (ki_list_Series : PySem.W.kitOne K (.type "list") (.ref C_Series) = some false)
    (ki_tuple_Series : PySem.W.kitOne K (.type "tuple") (.ref C_Series) = some false)
    (ki_Series_Series : PySem.W.kitOne K (.ref C_Series) (.ref C_Series) = some true)
    (ki_Told_Series : PySem.W.kitOne K (.ref C_Told) (.ref C_Series) = some false)
    (ki_Unnumbered_Series : PySem.W.kitOne K (.ref C_Unnumbered) (.ref C_Series) = some false)
    (ki_NoneType_Unnumbered : PySem.W.kitOne K (.type "NoneType") (.ref C_Unnumbered) = some false)
    (ki_bool_Unnumbered : PySem.W.kitOne K (.type "bool") (.ref C_Unnumbered) = some false)
    (ki_int_Unnumbered : PySem.W.kitOne K (.type "int") (.ref C_Unnumbered) = some false)
    (ki_str_Unnumbered : PySem.W.kitOne K (.type "str") (.ref C_Unnumbered) = some false)
    (ki_list_Unnumbered : PySem.W.kitOne K (.type "list") (.ref C_Unnumbered) = some false)
    (ki_tuple_Unnumbered : PySem.W.kitOne K (.type "tuple") (.ref C_Unnumbered) = some false)
    (ki_Series_Unnumbered : PySem.W.kitOne K (.ref C_Series) (.ref C_Unnumbered) = some false)
    (ki_Told_Unnumbered : PySem.W.kitOne K (.ref C_Told) (.ref C_Unnumbered) = some false)
    (ki_Unnumbered_Unnumbered : PySem.W.kitOne K (.ref C_Unnumbered) (.ref C_Unnumbered) = some true)
    (ki_Series_bool : PySem.W.kitOne K (.ref C_Series) (.type "bool") = some false)
    (ki_Told_bool : PySem.W.kitOne K (.ref C_Told) (.type "bool") = some false)
    (ki_Unnumbered_bool : PySem.W.kitOne K (.ref C_Unnumbered) (.type "bool") = some false)
    (ki_Series_int : PySem.W.kitOne K (.ref C_Series) (.type "int") = some false)
    (ki_Told_int : PySem.W.kitOne K (.ref C_Told) (.type "int") = some false)
    (ki_Unnumbered_int : PySem.W.kitOne K (.ref C_Unnumbered) (.type "int") = some false)
    (ki_Series_list : PySem.W.kitOne K (.ref C_Series) (.type "list") = some false)
    (ki_Told_list : PySem.W.kitOne K (.ref C_Told) (.type "list") = some false)
    (ki_Unnumbered_list : PySem.W.kitOne K (.ref C_Unnumbered) (.type "list") = some false)
    (ki_Series_tuple : PySem.W.kitOne K (.ref C_Series) (.type "tuple") = some false)
    (ki_Told_tuple : PySem.W.kitOne K (.ref C_Told) (.type "tuple") = some false)
    (ki_Unnumbered_tuple : PySem.W.kitOne K (.ref C_Unnumbered) (.type "tuple") = some false)
    : ∃ fd : FuncData, (∀ (s : Shared) (v : Value), BindsTo s fd ⟨[v], []⟩ [("_law_script", v)]) ∧ ∀ base : Heap, K.In base → base.Ns mainGlobals mg → FnOk l.prog w K mg base CX0 7 fa fd ["_law_script"] (sp_law K) := by
  have e := hfa.symm.trans (PySem.W.mg_of X G a_law)
  cases e
  have F_law_draw := fun_mk (st := s_law_draw) l_law_draw c_law_draw k_law_draw
  have B_law_draw := F_law_draw.binds (ps := ["_law_bag_here", "_law_many"]) fun _ _ _ _ _ _ us hl => match us, hl with | [_, _], _ => rfl
  have F_law_bag := fun_mk (st := s_law_bag) l_law_bag c_law_bag k_law_bag
  have B_law_bag := F_law_bag.binds (ps := ["_law_script", "_law_at"]) fun _ _ _ _ _ _ us hl => match us, hl with | [_, _], _ => rfl
  have F_law_number := fun_mk (st := s_law_number) l_law_number c_law_number k_law_number
  have B_law_number := F_law_number.binds (ps := ["_law_bag_here"]) fun _ _ _ _ _ _ us hl => match us, hl with | [_], _ => rfl
  have F_law_word := fun_mk (st := s_law_word) l_law_word c_law_word k_law_word
  have B_law_word := F_law_word.binds (ps := ["_law_bag_here"]) fun _ _ _ _ _ _ us hl => match us, hl with | [_], _ => rfl
  have F_is_number := fun_mk (st := s_is_number) l_is_number c_is_number k_is_number
  have B_is_number := F_is_number.binds (ps := ["thing"]) fun _ _ _ _ _ _ us hl => match us, hl with | [_], _ => rfl
  have F_Unnumbered___init := fun_mk (st := s_Unnumbered___init) l_Unnumbered___init c_Unnumbered___init k_Unnumbered___init
  have B_Unnumbered___init := F_Unnumbered___init.binds (ps := ["self", "name"]) fun _ _ _ _ _ _ us hl => match us, hl with | [_, _], _ => rfl
  have F_same := fun_mk (st := s_same) l_same c_same k_same
  have B_same := F_same.binds (ps := ["one", "other"]) fun _ _ _ _ _ _ us hl => match us, hl with | [_, _], _ => rfl
  have F_is_entry := fun_mk (st := s_is_entry) l_is_entry c_is_entry k_is_entry
  have B_is_entry := F_is_entry.binds (ps := ["thing"]) fun _ _ _ _ _ _ us hl => match us, hl with | [_], _ => rfl
  have F_Unnumbered___eq := fun_mk (st := s_Unnumbered___eq) l_Unnumbered___eq c_Unnumbered___eq k_Unnumbered___eq
  have B_Unnumbered___eq := F_Unnumbered___eq.binds (ps := ["self", "other"]) fun _ _ _ _ _ _ us hl => match us, hl with | [_, _], _ => rfl
  have F_Unnumbered___str := fun_mk (st := s_Unnumbered___str) l_Unnumbered___str c_Unnumbered___str k_Unnumbered___str
  have B_Unnumbered___str := F_Unnumbered___str.binds (ps := ["self"]) fun _ _ _ _ _ _ us hl => match us, hl with | [_], _ => rfl
  have F_with_one_object_a_name := fun_mk (st := s_with_one_object_a_name) l_with_one_object_a_name c_with_one_object_a_name k_with_one_object_a_name
  have B_with_one_object_a_name := F_with_one_object_a_name.binds (ps := ["entries"]) fun _ _ _ _ _ _ us hl => match us, hl with | [_], _ => rfl
  have F_Series___init := fun_mk (st := s_Series___init) l_Series___init c_Series___init k_Series___init
  have B_Series___init := F_Series___init.binds (ps := ["self", "entries"]) fun _ _ _ _ _ _ us hl => match us, hl with | [_, _], _ => rfl
  have F_BadSeries___init := fun_mk (st := s_BadSeries___init) l_BadSeries___init c_BadSeries___init k_BadSeries___init
  have B_BadSeries___init := F_BadSeries___init.binds (ps := ["self", "at"]) fun _ _ _ _ _ _ us hl => match us, hl with | [_, _], _ => rfl
  have F_NoKey___init := fun_mk (st := s_NoKey___init) l_NoKey___init c_NoKey___init k_NoKey___init
  have B_NoKey___init := F_NoKey___init.binds (ps := ["self", "key"]) fun _ _ _ _ _ _ us hl => match us, hl with | [_, _], _ => rfl
  have F_Series___len := fun_mk (st := s_Series___len) l_Series___len c_Series___len k_Series___len
  have B_Series___len := F_Series___len.binds (ps := ["self"]) fun _ _ _ _ _ _ us hl => match us, hl with | [_], _ => rfl
  have F_Series___getitem := fun_mk (st := s_Series___getitem) l_Series___getitem c_Series___getitem k_Series___getitem
  have B_Series___getitem := F_Series___getitem.binds (ps := ["self", "at"]) fun _ _ _ _ _ _ us hl => match us, hl with | [_, _], _ => rfl
  have F_Series___str := fun_mk (st := s_Series___str) l_Series___str c_Series___str k_Series___str
  have B_Series___str := F_Series___str.binds (ps := ["self"]) fun _ _ _ _ _ _ us hl => match us, hl with | [_], _ => rfl
  have F_Series___add := fun_mk (st := s_Series___add) l_Series___add c_Series___add k_Series___add
  have B_Series___add := F_Series___add.binds (ps := ["self", "other"]) fun _ _ _ _ _ _ us hl => match us, hl with | [_, _], _ => rfl
  have F_Series___eq := fun_mk (st := s_Series___eq) l_Series___eq c_Series___eq k_Series___eq
  have B_Series___eq := F_Series___eq.binds (ps := ["self", "other"]) fun _ _ _ _ _ _ us hl => match us, hl with | [_, _], _ => rfl
  have F_Series___contains := fun_mk (st := s_Series___contains) l_Series___contains c_Series___contains k_Series___contains
  have B_Series___contains := F_Series___contains.binds (ps := ["self", "x"]) fun _ _ _ _ _ _ us hl => match us, hl with | [_, _], _ => rfl
  have F_Told___init := fun_mk (st := s_Told___init) l_Told___init c_Told___init k_Told___init
  have B_Told___init := F_Told___init.binds (ps := ["self", "place"]) fun _ _ _ _ _ _ us hl => match us, hl with | [_, _], _ => rfl
  have F_law_is_int := fun_mk (st := s_law_is_int) l_law_is_int c_law_is_int k_law_is_int
  have B_law_is_int := F_law_is_int.binds (ps := ["_law_thing"]) fun _ _ _ _ _ _ us hl => match us, hl with | [_], _ => rfl
  have F_law_alike := fun_mk (st := s_law_alike) l_law_alike c_law_alike k_law_alike
  have B_law_alike := F_law_alike.binds (ps := ["_law_one", "_law_other"]) fun _ _ _ _ _ _ us hl => match us, hl with | [_, _], _ => rfl
  have F_law_says := fun_mk (st := s_law_says) l_law_says c_law_says k_law_says
  have B_law_says := F_law_says.binds (ps := ["_law_told", "_law_due"]) fun _ _ _ _ _ _ us hl => match us, hl with | [_, _], _ => rfl
  have F_law_equal := fun_mk (st := s_law_equal) l_law_equal c_law_equal k_law_equal
  have B_law_equal := F_law_equal.binds (ps := ["_law_one", "_law_other"]) fun _ _ _ _ _ _ us hl => match us, hl with | [_, _], _ => rfl
  have F_law_no_key := fun_mk (st := s_law_no_key) l_law_no_key c_law_no_key k_law_no_key
  have B_law_no_key := F_law_no_key.binds (ps := ["_law_series", "_law_place"]) fun _ _ _ _ _ _ us hl => match us, hl with | [_, _], _ => rfl
  have F_law_too_long := fun_mk (st := s_law_too_long) l_law_too_long c_law_too_long k_law_too_long
  have B_law_too_long := F_law_too_long.binds (ps := ["_law_one", "_law_other"]) fun _ _ _ _ _ _ us hl => match us, hl with | [_, _], _ => rfl
  have F_law_entries := fun_mk (st := s_law_entries) l_law_entries c_law_entries k_law_entries
  have B_law_entries := F_law_entries.binds (ps := ["_law_bag_here", "_law_words"]) fun _ _ _ _ _ _ us hl => match us, hl with | [_, _], _ => rfl
  have F_law_changed := fun_mk (st := s_law_changed) l_law_changed c_law_changed k_law_changed
  have B_law_changed := F_law_changed.binds (ps := ["_law_bag_here", "_law_entries_here", "_law_words"]) fun _ _ _ _ _ _ us hl => match us, hl with | [_, _, _], _ => rfl
  have F_law_added := fun_mk (st := s_law_added) l_law_added c_law_added k_law_added
  have B_law_added := F_law_added.binds (ps := ["_law_left", "_law_right", "_law_one", "_law_other"]) fun _ _ _ _ _ _ us hl => match us, hl with | [_, _, _, _], _ => rfl
  have F_law := fun_mk (st := s_law) l_law c_law k_law
  have B_law := F_law.binds (ps := ["_law_script"]) fun _ _ _ _ _ _ us hl => match us, hl with | [_], _ => rfl
  let T : Top K mg := { C_BadSeries := C_BadSeries, C_NoAnswer := C_NoAnswer, C_NoKey := C_NoKey, C_Series := C_Series, C_Told := C_Told, C_Unnumbered := C_Unnumbered, C_UnnumberedError := C_UnnumberedError, f_law_draw := f_law_draw, fd_law_draw := _, F_law_draw := F_law_draw, B_law_draw := B_law_draw, mg_law_draw := PySem.W.mg_of X G a_law_draw, f_law_bag := f_law_bag, fd_law_bag := _, F_law_bag := F_law_bag, B_law_bag := B_law_bag, mg_law_bag := PySem.W.mg_of X G a_law_bag, f_law_number := f_law_number, fd_law_number := _, F_law_number := F_law_number, B_law_number := B_law_number, mg_law_number := PySem.W.mg_of X G a_law_number, f_law_word := f_law_word, fd_law_word := _, F_law_word := F_law_word, B_law_word := B_law_word, mg_law_word := PySem.W.mg_of X G a_law_word, f_is_number := f_is_number, fd_is_number := _, F_is_number := F_is_number, B_is_number := B_is_number, mg_is_number := PySem.W.mg_of X G a_is_number, f_Unnumbered___init := f_Unnumbered___init, fd_Unnumbered___init := _, F_Unnumbered___init := F_Unnumbered___init, B_Unnumbered___init := B_Unnumbered___init, f_same := f_same, fd_same := _, F_same := F_same, B_same := B_same, mg_same := PySem.W.mg_of X G a_same, f_is_entry := f_is_entry, fd_is_entry := _, F_is_entry := F_is_entry, B_is_entry := B_is_entry, mg_is_entry := PySem.W.mg_of X G a_is_entry, f_Unnumbered___eq := f_Unnumbered___eq, fd_Unnumbered___eq := _, F_Unnumbered___eq := F_Unnumbered___eq, B_Unnumbered___eq := B_Unnumbered___eq, f_Unnumbered___str := f_Unnumbered___str, fd_Unnumbered___str := _, F_Unnumbered___str := F_Unnumbered___str, B_Unnumbered___str := B_Unnumbered___str, f_with_one_object_a_name := f_with_one_object_a_name, fd_with_one_object_a_name := _, F_with_one_object_a_name := F_with_one_object_a_name, B_with_one_object_a_name := B_with_one_object_a_name, mg_with_one_object_a_name := PySem.W.mg_of X G a_with_one_object_a_name, f_Series___init := f_Series___init, fd_Series___init := _, F_Series___init := F_Series___init, B_Series___init := B_Series___init, f_BadSeries___init := f_BadSeries___init, fd_BadSeries___init := _, F_BadSeries___init := F_BadSeries___init, B_BadSeries___init := B_BadSeries___init, f_NoKey___init := f_NoKey___init, fd_NoKey___init := _, F_NoKey___init := F_NoKey___init, B_NoKey___init := B_NoKey___init, f_Series___len := f_Series___len, fd_Series___len := _, F_Series___len := F_Series___len, B_Series___len := B_Series___len, f_Series___getitem := f_Series___getitem, fd_Series___getitem := _, F_Series___getitem := F_Series___getitem, B_Series___getitem := B_Series___getitem, f_Series___str := f_Series___str, fd_Series___str := _, F_Series___str := F_Series___str, B_Series___str := B_Series___str, f_Series___add := f_Series___add, fd_Series___add := _, F_Series___add := F_Series___add, B_Series___add := B_Series___add, f_Series___eq := f_Series___eq, fd_Series___eq := _, F_Series___eq := F_Series___eq, B_Series___eq := B_Series___eq, f_Series___contains := f_Series___contains, fd_Series___contains := _, F_Series___contains := F_Series___contains, B_Series___contains := B_Series___contains, f_Told___init := f_Told___init, fd_Told___init := _, F_Told___init := F_Told___init, B_Told___init := B_Told___init, f_law_is_int := f_law_is_int, fd_law_is_int := _, F_law_is_int := F_law_is_int, B_law_is_int := B_law_is_int, mg_law_is_int := PySem.W.mg_of X G a_law_is_int, f_law_alike := f_law_alike, fd_law_alike := _, F_law_alike := F_law_alike, B_law_alike := B_law_alike, mg_law_alike := PySem.W.mg_of X G a_law_alike, f_law_says := f_law_says, fd_law_says := _, F_law_says := F_law_says, B_law_says := B_law_says, mg_law_says := PySem.W.mg_of X G a_law_says, f_law_equal := f_law_equal, fd_law_equal := _, F_law_equal := F_law_equal, B_law_equal := B_law_equal, mg_law_equal := PySem.W.mg_of X G a_law_equal, f_law_no_key := f_law_no_key, fd_law_no_key := _, F_law_no_key := F_law_no_key, B_law_no_key := B_law_no_key, mg_law_no_key := PySem.W.mg_of X G a_law_no_key, f_law_too_long := f_law_too_long, fd_law_too_long := _, F_law_too_long := F_law_too_long, B_law_too_long := B_law_too_long, mg_law_too_long := PySem.W.mg_of X G a_law_too_long, f_law_entries := f_law_entries, fd_law_entries := _, F_law_entries := F_law_entries, B_law_entries := B_law_entries, mg_law_entries := PySem.W.mg_of X G a_law_entries, f_law_changed := f_law_changed, fd_law_changed := _, F_law_changed := F_law_changed, B_law_changed := B_law_changed, mg_law_changed := PySem.W.mg_of X G a_law_changed, f_law_added := f_law_added, fd_law_added := _, F_law_added := F_law_added, B_law_added := B_law_added, mg_law_added := PySem.W.mg_of X G a_law_added, f_law := fa, fd_law := _, F_law := F_law, B_law := B_law, mg_law := PySem.W.mg_of X G a_law, mgC_BadSeries := PySem.W.mg_of X G aC_BadSeries, ex_BadSeries := ⟨⟨_, _, _, _, PySem.F.excBase_ValueError, xi_BadSeries⟩, ⟨_, _, PySem.F.store_ValueError, xo_BadSeries⟩, a_BadSeries___init, i_BadSeries___init, xs_BadSeries, xh_BadSeries, xg_BadSeries, xt_BadSeries, xb_BadSeries, xz_BadSeries, xy_BadSeries, xk_BadSeries, xc_BadSeries, xm_BadSeries, ocn, oct⟩, mgC_NoAnswer := PySem.W.mg_of X G aC_NoAnswer, mgC_NoKey := PySem.W.mg_of X G aC_NoKey, ex_NoKey := ⟨⟨_, _, _, _, PySem.F.excBase_LookupError, xi_NoKey⟩, ⟨_, _, PySem.F.store_LookupError, xo_NoKey⟩, a_NoKey___init, i_NoKey___init, xs_NoKey, xh_NoKey, xg_NoKey, xt_NoKey, xb_NoKey, xz_NoKey, xy_NoKey, xk_NoKey, xc_NoKey, xm_NoKey, ocn, oct⟩, mgC_Series := PySem.W.mg_of X G aC_Series, cl_Series := ⟨pg_Series, hd_Series, po_Series, sa_Series⟩, in_Series := ⟨ca_Series, cm_Series, ocn, oct⟩, mk_Series := ⟨mk_Series, a_Series___init, i_Series___init, kc_Series⟩, mgC_Told := PySem.W.mg_of X G aC_Told, cl_Told := ⟨pg_Told, hd_Told, po_Told, sa_Told⟩, in_Told := ⟨ca_Told, cm_Told, ocn, oct⟩, mk_Told := ⟨mk_Told, a_Told___init, i_Told___init, kc_Told⟩, mgC_Unnumbered := PySem.W.mg_of X G aC_Unnumbered, cl_Unnumbered := ⟨pg_Unnumbered, hd_Unnumbered, po_Unnumbered, sa_Unnumbered⟩, in_Unnumbered := ⟨ca_Unnumbered, cm_Unnumbered, ocn, oct⟩, mk_Unnumbered := ⟨mk_Unnumbered, a_Unnumbered___init, i_Unnumbered___init, kc_Unnumbered⟩, mgC_UnnumberedError := PySem.W.mg_of X G aC_UnnumberedError, me_Series___add := ⟨a_Series___add, i_Series___add, k_Series___add⟩, me_Series___contains := ⟨a_Series___contains, i_Series___contains, k_Series___contains⟩, me_Series___eq := ⟨a_Series___eq, i_Series___eq, k_Series___eq⟩, me_Series___getitem := ⟨a_Series___getitem, i_Series___getitem, k_Series___getitem⟩, me_Series___len := ⟨a_Series___len, i_Series___len, k_Series___len⟩, me_Series___str := ⟨a_Series___str, i_Series___str, k_Series___str⟩, me_Unnumbered___eq := ⟨a_Unnumbered___eq, i_Unnumbered___eq, k_Unnumbered___eq⟩, me_Unnumbered___str := ⟨a_Unnumbered___str, i_Unnumbered___str, k_Unnumbered___str⟩, tk_MOST_ENTRIES := tk_MOST_ENTRIES, mgK_MOST_ENTRIES := PySem.W.mg_of X G gK_MOST_ENTRIES, ad_Series := ⟨sg_Series, ag_Series, i_Series___add⟩, ne_Series := ⟨nd_Series, cm_Series⟩, no_BadSeries_at := no_BadSeries_at, no_NoKey_key := no_NoKey_key, no_Series_entries := no_Series_entries, no_Told_place := no_Told_place, no_Unnumbered_name := no_Unnumbered_name, z_LookupError := PySem.W.mg_none_of X G z_LookupError, z_abs := PySem.W.mg_none_of X G z_abs, z_all := PySem.W.mg_none_of X G z_all, z_any := PySem.W.mg_none_of X G z_any, z_bool := PySem.W.mg_none_of X G z_bool, z_enumerate := PySem.W.mg_none_of X G z_enumerate, z_int := PySem.W.mg_none_of X G z_int, z_isinstance := PySem.W.mg_none_of X G z_isinstance, z_len := PySem.W.mg_none_of X G z_len, z_list := PySem.W.mg_none_of X G z_list, z_max := PySem.W.mg_none_of X G z_max, z_min := PySem.W.mg_none_of X G z_min, z_range := PySem.W.mg_none_of X G z_range, z_str := PySem.W.mg_none_of X G z_str, z_tuple := PySem.W.mg_none_of X G z_tuple, z_zip := PySem.W.mg_none_of X G z_zip, ki_NoKey_LookupError := ki_NoKey_LookupError, ki_NoKey_UnnumberedError := ki_NoKey_UnnumberedError, ki_NoKey_NoAnswer := ki_NoKey_NoAnswer, ki_NoneType_Series := ki_NoneType_Series, ki_bool_Series := ki_bool_Series, ki_int_Series := ki_int_Series, ki_str_Series := ki_str_Series, ki_list_Series := ki_list_Series, ki_tuple_Series := ki_tuple_Series, ki_Series_Series := ki_Series_Series, ki_Told_Series := ki_Told_Series, ki_Unnumbered_Series := ki_Unnumbered_Series, ki_NoneType_Unnumbered := ki_NoneType_Unnumbered, ki_bool_Unnumbered := ki_bool_Unnumbered, ki_int_Unnumbered := ki_int_Unnumbered, ki_str_Unnumbered := ki_str_Unnumbered, ki_list_Unnumbered := ki_list_Unnumbered, ki_tuple_Unnumbered := ki_tuple_Unnumbered, ki_Series_Unnumbered := ki_Series_Unnumbered, ki_Told_Unnumbered := ki_Told_Unnumbered, ki_Unnumbered_Unnumbered := ki_Unnumbered_Unnumbered, ki_Series_bool := ki_Series_bool, ki_Told_bool := ki_Told_bool, ki_Unnumbered_bool := ki_Unnumbered_bool, ki_Series_int := ki_Series_int, ki_Told_int := ki_Told_int, ki_Unnumbered_int := ki_Unnumbered_int, ki_Series_list := ki_Series_list, ki_Told_list := ki_Told_list, ki_Unnumbered_list := ki_Unnumbered_list, ki_Series_tuple := ki_Series_tuple, ki_Told_tuple := ki_Told_tuple, ki_Unnumbered_tuple := ki_Unnumbered_tuple }
  exact ⟨PySem.W.fnOf "law" "law" (defArgs s_law) (defBody s_law) (defScope s_law) .none kV_law dc_law pm_law an_law cd_law ct_law, fun s v => .of_eq rfl, fun base _ _ => ok_law T⟩
theorem walk {l : PySem.W.OpenLaw} {q : Program} {loose : List Str} {XP : (Str → Option Value) → Heap → Prop} {YP : World → Heap → Prop} {d : DefRec} {K : Params → PySem.W.Frag} (hn : l.most = some 63) (hdf : d.params.defaults = [])
    (hY : ∀ (w : World) (h : Heap), YP w h → (K w.params).In h)
    (F : ∀ (w : World) (mg : Str → Option Value) (fa : Addr) (h : Heap), (K w.params).In h → h.Ns mainGlobals mg → mg d.name = some (.ref fa) →
      ∃ fd : FuncData, (∀ (s : Shared) (u : Value), BindsTo s fd ⟨[u], []⟩ [("_law_script", u)]) ∧ ∀ base : Heap, (K w.params).In base → base.Ns mainGlobals mg → FnOk l.prog w (K w.params) mg base CX0 7 fa fd ["_law_script"] (sp_law (K w.params))) :
    PySem.W.WalkO q loose XP YP l.row.toRowW d [] (fun f vs => PySem.call f vs) :=
  L2.walk_of (n := 63) (k := 7) (x := "_law_script") (CX := fun _ => CX0) (sp := fun w => sp_law (K w.params)) hn (by decide) hdf ⟨rfl, by decide, by decide⟩ hY F (fun _ _ a ns hl _ hS => ⟨a, ns, rfl, hS, hl, fun _ => rfl⟩) fun _ _ _ _ _ z => z
end My

open PySem PySem.W PyProof.Rows in
set_option maxRecDepth 100000 in
set_option maxHeartbeats 0 in
theorem PySem.Challenge.cw_unnumbered_k13_series_together_holds : PySem.Challenge.rw_unnumbered_k13_series_together.Holds := by
  w_on; o_law; k_head; (case hw => w_witness2)
  k_fill
  refine My.walk (l := PySem.Challenge.rw_unnumbered_k13_series_together) rfl rfl (fun w h Y => PySem.W.kIn_of Y) ?F
  case F =>
    intro w mg fa h KX G hmg
    refine' My.all_mk KX G hmg ?aC_BadSeries ?aC_NoAnswer ?aC_NoKey ?aC_Series ?aC_Told ?aC_Unnumbered ?aC_UnnumberedError ?a_law_draw ?l_law_draw ?c_law_draw ?k_law_draw ?a_law_bag ?l_law_bag ?c_law_bag ?k_law_bag ?a_law_number ?l_law_number ?c_law_number ?k_law_number ?a_law_word ?l_law_word ?c_law_word ?k_law_word ?a_is_number ?l_is_number ?c_is_number ?k_is_number ?a_Unnumbered___init ?i_Unnumbered___init ?l_Unnumbered___init ?c_Unnumbered___init ?k_Unnumbered___init ?a_same ?l_same ?c_same ?k_same ?a_is_entry ?l_is_entry ?c_is_entry ?k_is_entry ?a_Unnumbered___eq ?i_Unnumbered___eq ?l_Unnumbered___eq ?c_Unnumbered___eq ?k_Unnumbered___eq ?a_Unnumbered___str ?i_Unnumbered___str ?l_Unnumbered___str ?c_Unnumbered___str ?k_Unnumbered___str ?a_with_one_object_a_name ?l_with_one_object_a_name ?c_with_one_object_a_name ?k_with_one_object_a_name ?a_Series___init ?i_Series___init ?l_Series___init ?c_Series___init ?k_Series___init ?a_BadSeries___init ?i_BadSeries___init ?l_BadSeries___init ?c_BadSeries___init ?k_BadSeries___init ?a_NoKey___init ?i_NoKey___init ?l_NoKey___init ?c_NoKey___init ?k_NoKey___init ?a_Series___len ?i_Series___len ?l_Series___len ?c_Series___len ?k_Series___len ?a_Series___getitem ?i_Series___getitem ?l_Series___getitem ?c_Series___getitem ?k_Series___getitem ?a_Series___str ?i_Series___str ?l_Series___str ?c_Series___str ?k_Series___str ?a_Series___add ?i_Series___add ?l_Series___add ?c_Series___add ?k_Series___add ?a_Series___eq ?i_Series___eq ?l_Series___eq ?c_Series___eq ?k_Series___eq ?a_Series___contains ?i_Series___contains ?l_Series___contains ?c_Series___contains ?k_Series___contains ?a_Told___init ?i_Told___init ?l_Told___init ?c_Told___init ?k_Told___init ?a_law_is_int ?l_law_is_int ?c_law_is_int ?k_law_is_int ?a_law_alike ?l_law_alike ?c_law_alike ?k_law_alike ?a_law_says ?l_law_says ?c_law_says ?k_law_says ?a_law_equal ?l_law_equal ?c_law_equal ?k_law_equal ?a_law_no_key ?l_law_no_key ?c_law_no_key ?k_law_no_key ?a_law_too_long ?l_law_too_long ?c_law_too_long ?k_law_too_long ?a_law_entries ?l_law_entries ?c_law_entries ?k_law_entries ?a_law_changed ?l_law_changed ?c_law_changed ?k_law_changed ?a_law_added ?l_law_added ?c_law_added ?k_law_added ?a_law ?l_law ?c_law ?k_law ?xi_BadSeries ?xo_BadSeries ?xs_BadSeries ?xh_BadSeries ?xg_BadSeries ?xt_BadSeries ?xb_BadSeries ?xz_BadSeries ?xy_BadSeries ?xk_BadSeries ?xc_BadSeries ?xm_BadSeries ?xi_NoKey ?xo_NoKey ?xs_NoKey ?xh_NoKey ?xg_NoKey ?xt_NoKey ?xb_NoKey ?xz_NoKey ?xy_NoKey ?xk_NoKey ?xc_NoKey ?xm_NoKey ?pg_Series ?hd_Series ?po_Series ?sa_Series ?ca_Series ?cm_Series ?mk_Series ?kc_Series ?pg_Told ?hd_Told ?po_Told ?sa_Told ?ca_Told ?cm_Told ?mk_Told ?kc_Told ?pg_Unnumbered ?hd_Unnumbered ?po_Unnumbered ?sa_Unnumbered ?ca_Unnumbered ?cm_Unnumbered ?mk_Unnumbered ?kc_Unnumbered ?sg_Series ?ag_Series ?nd_Series ?gK_MOST_ENTRIES ?ocn ?oct ?no_BadSeries_at ?no_NoKey_key ?no_Series_entries ?no_Told_place ?no_Unnumbered_name ?z_LookupError ?z_abs ?z_all ?z_any ?z_bool ?z_enumerate ?z_int ?z_isinstance ?z_len ?z_list ?z_max ?z_min ?z_range ?z_str ?z_tuple ?z_zip ?ki_NoKey_LookupError ?ki_NoKey_UnnumberedError ?ki_NoKey_NoAnswer ?ki_NoneType_Series ?ki_bool_Series ?ki_int_Series ?ki_str_Series ?ki_list_Series ?ki_tuple_Series ?ki_Series_Series ?ki_Told_Series ?ki_Unnumbered_Series ?ki_NoneType_Unnumbered ?ki_bool_Unnumbered ?ki_int_Unnumbered ?ki_str_Unnumbered ?ki_list_Unnumbered ?ki_tuple_Unnumbered ?ki_Series_Unnumbered ?ki_Told_Unnumbered ?ki_Unnumbered_Unnumbered ?ki_Series_bool ?ki_Told_bool ?ki_Unnumbered_bool ?ki_Series_int ?ki_Told_int ?ki_Unnumbered_int ?ki_Series_list ?ki_Told_list ?ki_Unnumbered_list ?ki_Series_tuple ?ki_Told_tuple ?ki_Unnumbered_tuple
    (case aC_BadSeries => k_is)
    (case aC_NoAnswer => k_is)
    (case aC_NoKey => k_is)
    (case aC_Series => k_is)
    (case aC_Told => k_is)
    (case aC_Unnumbered => k_is)
    (case aC_UnnumberedError => k_is)
    (case a_law_draw => k_is)
    (case l_law_draw => k_is)
    (case c_law_draw => k_is)
    (case k_law_draw => k_is)
    (case a_law_bag => k_is)
    (case l_law_bag => k_is)
    (case c_law_bag => k_is)
    (case k_law_bag => k_is)
    (case a_law_number => k_is)
    (case l_law_number => k_is)
    (case c_law_number => k_is)
    (case k_law_number => k_is)
    (case a_law_word => k_is)
    (case l_law_word => k_is)
    (case c_law_word => k_is)
    (case k_law_word => k_is)
    (case a_is_number => k_is)
    (case l_is_number => k_is)
    (case c_is_number => k_is)
    (case k_is_number => k_is)
    (case a_Unnumbered___init => k_is)
    (case i_Unnumbered___init => k_is)
    (case l_Unnumbered___init => k_is)
    (case c_Unnumbered___init => k_is)
    (case k_Unnumbered___init => k_is)
    (case a_same => k_is)
    (case l_same => k_is)
    (case c_same => k_is)
    (case k_same => k_is)
    (case a_is_entry => k_is)
    (case l_is_entry => k_is)
    (case c_is_entry => k_is)
    (case k_is_entry => k_is)
    (case a_Unnumbered___eq => k_is)
    (case i_Unnumbered___eq => k_is)
    (case l_Unnumbered___eq => k_is)
    (case c_Unnumbered___eq => k_is)
    (case k_Unnumbered___eq => k_is)
    (case a_Unnumbered___str => k_is)
    (case i_Unnumbered___str => k_is)
    (case l_Unnumbered___str => k_is)
    (case c_Unnumbered___str => k_is)
    (case k_Unnumbered___str => k_is)
    (case a_with_one_object_a_name => k_is)
    (case l_with_one_object_a_name => k_is)
    (case c_with_one_object_a_name => k_is)
    (case k_with_one_object_a_name => k_is)
    (case a_Series___init => k_is)
    (case i_Series___init => k_is)
    (case l_Series___init => k_is)
    (case c_Series___init => k_is)
    (case k_Series___init => k_is)
    (case a_BadSeries___init => k_is)
    (case i_BadSeries___init => k_is)
    (case l_BadSeries___init => k_is)
    (case c_BadSeries___init => k_is)
    (case k_BadSeries___init => k_is)
    (case a_NoKey___init => k_is)
    (case i_NoKey___init => k_is)
    (case l_NoKey___init => k_is)
    (case c_NoKey___init => k_is)
    (case k_NoKey___init => k_is)
    (case a_Series___len => k_is)
    (case i_Series___len => k_is)
    (case l_Series___len => k_is)
    (case c_Series___len => k_is)
    (case k_Series___len => k_is)
    (case a_Series___getitem => k_is)
    (case i_Series___getitem => k_is)
    (case l_Series___getitem => k_is)
    (case c_Series___getitem => k_is)
    (case k_Series___getitem => k_is)
    (case a_Series___str => k_is)
    (case i_Series___str => k_is)
    (case l_Series___str => k_is)
    (case c_Series___str => k_is)
    (case k_Series___str => k_is)
    (case a_Series___add => k_is)
    (case i_Series___add => k_is)
    (case l_Series___add => k_is)
    (case c_Series___add => k_is)
    (case k_Series___add => k_is)
    (case a_Series___eq => k_is)
    (case i_Series___eq => k_is)
    (case l_Series___eq => k_is)
    (case c_Series___eq => k_is)
    (case k_Series___eq => k_is)
    (case a_Series___contains => k_is)
    (case i_Series___contains => k_is)
    (case l_Series___contains => k_is)
    (case c_Series___contains => k_is)
    (case k_Series___contains => k_is)
    (case a_Told___init => k_is)
    (case i_Told___init => k_is)
    (case l_Told___init => k_is)
    (case c_Told___init => k_is)
    (case k_Told___init => k_is)
    (case a_law_is_int => k_is)
    (case l_law_is_int => k_is)
    (case c_law_is_int => k_is)
    (case k_law_is_int => k_is)
    (case a_law_alike => k_is)
    (case l_law_alike => k_is)
    (case c_law_alike => k_is)
    (case k_law_alike => k_is)
    (case a_law_says => k_is)
    (case l_law_says => k_is)
    (case c_law_says => k_is)
    (case k_law_says => k_is)
    (case a_law_equal => k_is)
    (case l_law_equal => k_is)
    (case c_law_equal => k_is)
    (case k_law_equal => k_is)
    (case a_law_no_key => k_is)
    (case l_law_no_key => k_is)
    (case c_law_no_key => k_is)
    (case k_law_no_key => k_is)
    (case a_law_too_long => k_is)
    (case l_law_too_long => k_is)
    (case c_law_too_long => k_is)
    (case k_law_too_long => k_is)
    (case a_law_entries => k_is)
    (case l_law_entries => k_is)
    (case c_law_entries => k_is)
    (case k_law_entries => k_is)
    (case a_law_changed => k_is)
    (case l_law_changed => k_is)
    (case c_law_changed => k_is)
    (case k_law_changed => k_is)
    (case a_law_added => k_is)
    (case l_law_added => k_is)
    (case c_law_added => k_is)
    (case k_law_added => k_is)
    (case a_law => k_is)
    (case l_law => k_is)
    (case c_law => k_is)
    (case k_law => k_is)
    (case xi_BadSeries => kx_is)
    (case xo_BadSeries => kx_is)
    (case xs_BadSeries => k_is)
    (case xh_BadSeries => k_is)
    (case xg_BadSeries => k_is)
    (case xt_BadSeries => k_is)
    (case xb_BadSeries => k_is)
    (case xz_BadSeries => k_is)
    (case xy_BadSeries => k_is)
    (case xk_BadSeries => k_is)
    (case xc_BadSeries => k_is)
    (case xm_BadSeries => k_is)
    (case xi_NoKey => kx_is)
    (case xo_NoKey => kx_is)
    (case xs_NoKey => k_is)
    (case xh_NoKey => k_is)
    (case xg_NoKey => k_is)
    (case xt_NoKey => k_is)
    (case xb_NoKey => k_is)
    (case xz_NoKey => k_is)
    (case xy_NoKey => k_is)
    (case xk_NoKey => k_is)
    (case xc_NoKey => k_is)
    (case xm_NoKey => k_is)
    (case pg_Series => k_is)
    (case hd_Series => k_is)
    (case po_Series => k_is)
    (case sa_Series => k_is)
    (case ca_Series => k_is)
    (case cm_Series => k_is)
    (case mk_Series => k_is)
    (case kc_Series => k_is)
    (case pg_Told => k_is)
    (case hd_Told => k_is)
    (case po_Told => k_is)
    (case sa_Told => k_is)
    (case ca_Told => k_is)
    (case cm_Told => k_is)
    (case mk_Told => k_is)
    (case kc_Told => k_is)
    (case pg_Unnumbered => k_is)
    (case hd_Unnumbered => k_is)
    (case po_Unnumbered => k_is)
    (case sa_Unnumbered => k_is)
    (case ca_Unnumbered => k_is)
    (case cm_Unnumbered => k_is)
    (case mk_Unnumbered => k_is)
    (case kc_Unnumbered => k_is)
    (case sg_Series => k_is)
    (case ag_Series => k_is)
    (case nd_Series => k_is)
    (case gK_MOST_ENTRIES => k_is)
    (case ocn => k_is)
    (case oct => k_is)
    (case no_BadSeries_at => k_is)
    (case no_NoKey_key => k_is)
    (case no_Series_entries => k_is)
    (case no_Told_place => k_is)
    (case no_Unnumbered_name => k_is)
    (case z_LookupError => k_is)
    (case z_abs => k_is)
    (case z_all => k_is)
    (case z_any => k_is)
    (case z_bool => k_is)
    (case z_enumerate => k_is)
    (case z_int => k_is)
    (case z_isinstance => k_is)
    (case z_len => k_is)
    (case z_list => k_is)
    (case z_max => k_is)
    (case z_min => k_is)
    (case z_range => k_is)
    (case z_str => k_is)
    (case z_tuple => k_is)
    (case z_zip => k_is)
    (case ki_NoKey_LookupError => kit_is)
    (case ki_NoKey_UnnumberedError => kit_is)
    (case ki_NoKey_NoAnswer => kit_is)
    (case ki_NoneType_Series => kit_is)
    (case ki_bool_Series => kit_is)
    (case ki_int_Series => kit_is)
    (case ki_str_Series => kit_is)
    (case ki_list_Series => kit_is)
    (case ki_tuple_Series => kit_is)
    (case ki_Series_Series => kit_is)
    (case ki_Told_Series => kit_is)
    (case ki_Unnumbered_Series => kit_is)
    (case ki_NoneType_Unnumbered => kit_is)
    (case ki_bool_Unnumbered => kit_is)
    (case ki_int_Unnumbered => kit_is)
    (case ki_str_Unnumbered => kit_is)
    (case ki_list_Unnumbered => kit_is)
    (case ki_tuple_Unnumbered => kit_is)
    (case ki_Series_Unnumbered => kit_is)
    (case ki_Told_Unnumbered => kit_is)
    (case ki_Unnumbered_Unnumbered => kit_is)
    (case ki_Series_bool => kit_is)
    (case ki_Told_bool => kit_is)
    (case ki_Unnumbered_bool => kit_is)
    (case ki_Series_int => kit_is)
    (case ki_Told_int => kit_is)
    (case ki_Unnumbered_int => kit_is)
    (case ki_Series_list => kit_is)
    (case ki_Told_list => kit_is)
    (case ki_Unnumbered_list => kit_is)
    (case ki_Series_tuple => kit_is)
    (case ki_Told_tuple => kit_is)
    (case ki_Unnumbered_tuple => kit_is)
#print axioms PySem.Challenge.cw_unnumbered_k13_series_together_holds
