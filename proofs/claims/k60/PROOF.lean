import PyProof.Rows.All
import Wide.All
import OpenK.AllK
import Wide.FinOn
import HandS.ForMost
import HandS.IsInst
import HandS.Style
import HandS.OwnEq
import HandS.SlotsOwn
import KE.RegKIsAll
import KE.KOpsOwn
import HandS.Wide
import HandS.FStr
import HandS.Iter
import KE.GoesMore
import HandS.IterVal
import HandS.ClsMeth
import HandS.Star
import HandS.Text
import HandS.ExcInit
import KE.KExcInit
import KE.KExcLine
import KE.KExcIs
import HandS.Exc
import HandS.ExcOwn
import HandS.ExcField
import HandS.ExcIs
import HandS.WordsExc
import HandS.Deep
import HandS.TupAny
import HandS.ExcCtx
import HandS.HotCalls
import PySem.Challenge.RW_unnumbered_k60_tables_by_keys
set_option Elab.async false
set_option linter.all false
set_option maxRecDepth 100000
set_option maxHeartbeats 4000000
set_option autoImplicit false
namespace My
open PySem PySem.Spec PyProof.Rows L2
/-! the text by its places -/
def topS (i : Nat) : Stmt := PySem.Challenge.pw_unnumbered_k60_tables_by_keys.main.body.getD i (.Pass ⟨0, 0, 0, 0⟩)
abbrev s_law_draw : Stmt := topS 12
abbrev s_law_bag : Stmt := topS 11
abbrev s_law_number : Stmt := topS 14
abbrev s_is_number : Stmt := topS 4
abbrev s_Unnumbered___init : Stmt := inClass (topS 7) 0
abbrev s_is_entry : Stmt := topS 5
abbrev s_is_value : Stmt := topS 6
abbrev s_Unnumbered___eq : Stmt := inClass (topS 7) 1
abbrev s_Unnumbered___ne : Stmt := inClass (topS 7) 2
abbrev s_Unnumbered___lt : Stmt := inClass (topS 7) 3
abbrev s_Unnumbered___le : Stmt := inClass (topS 7) 4
abbrev s_Unnumbered___gt : Stmt := inClass (topS 7) 5
abbrev s_Unnumbered___ge : Stmt := inClass (topS 7) 6
abbrev s_Unnumbered___str : Stmt := inClass (topS 7) 21
abbrev s_Unnumbered___repr : Stmt := inClass (topS 7) 22
abbrev s_NoKey___init : Stmt := inClass (topS 1) 0
abbrev s_law_pick : Stmt := topS 13
abbrev s_law_keys : Stmt := topS 17
abbrev s_Keyed___init : Stmt := inClass (topS 9) 0
abbrev s_Keyed_worths : Stmt := inClass (topS 9) 1
abbrev s_Keyed_total : Stmt := inClass (topS 9) 2
abbrev s_Keyed___getitem : Stmt := inClass (topS 9) 3
abbrev s_Keyed___setitem : Stmt := inClass (topS 9) 4
abbrev s_Keyed___contains : Stmt := inClass (topS 9) 5
abbrev s_Keyed___len : Stmt := inClass (topS 9) 6
abbrev s_Keyed___iter : Stmt := inClass (topS 9) 7
abbrev s_law_is_int : Stmt := topS 15
abbrev s_law_place : Stmt := topS 18
abbrev s_law_missing : Stmt := topS 19
abbrev s_law_says : Stmt := topS 16
abbrev s_law_shows : Stmt := topS 20
abbrev s_law : Stmt := topS 21
/-! readings, step by step; heaps; short words -/
namespace Z
structure Inst (K : PySem.W.Frag) (C : Addr) : Prop where
  ca : PySem.W.findIn K (.ref C) "__class__" = some (some (.builtin "object.__class__"))
  cm : PySem.W.mroIn K C (.type "object") = some true
  cn : PySem.W.specialIn K (.builtin "object.__class__") "__get__" = some (some (.builtin "getset_descriptor.__get__"))
  ct : PySem.W.takesIn K (.builtin "object.__class__") = some true
/-- all but b stands -/
def But (b : Addr) (H H' : Hp) : Prop := ∀ a o, a ≠ b → H a = some o → H' a = some o
theorem But.refl {b : Addr} (H : Hp) : But b H H := fun _ _ _ h => h
theorem But.trans {b : Addr} {H H1 H2 : Hp} (x : But b H H1) (y : But b H1 H2) : But b H H2 := fun a o n h => y a o n (x a o n h)
theorem But.same {b : Addr} {H H1 : Hp} (x : Same H H1) : But b H H1 := fun a o _ h => x a o h
theorem But.upd {b : Addr} {H : Hp} {o : HO} : But b H (upd H b o) := fun a u n h => by
  rw [upd_ne n]; exact h
theorem same_upd {H : Hp} {p : Addr} {o : HO} (h : H p = none) : Same H (upd H p o) := fun b x e => by
  rw [upd_ne (ne_of_none e h)]; exact e
theorem But.free {b p : Addr} {H H1 : Hp} (e : But b H H1) (n : p ≠ b) (h : H1 p = none) : H p = none := by
  cases q : H p with
  | none => rfl
  | some o => rw [e p o n q] at h; cases h
/-- what was fresh may change: all the old stands -/
theorem But.back {b : Addr} {H H1 H2 : Hp} (s : Same H H1) (n : H b = none) (e : But b H1 H2) : Same H H2 := fun a o h => e a o (ne_of_none h n) (s a o h)
theorem But.seq {K : PySem.W.Frag} {b a : Addr} {H H' : Hp} {xs : List V} (e : But b H H') (n : a ≠ b) (h : SqL K H a xs) : SqL K H' a xs := by
  rcases h with (h | ⟨o, h⟩) | h
  · exact .inl (.inl (e _ _ n h))
  · exact .inl (.inr ⟨o, e _ _ n h⟩)
  · exact .inr h
section
variable {K : PySem.W.Frag} {σ : L2.St} {H : Hp} {Q : VK} {D : Ends} {t u : TS} {ta tb te tc : TE} {tt tu : TT} {i j : Nat} {v x y : V} {r : R2} {A : TA} {sp : Sp} {E : XK}
theorem r_start {σ' : L2.St} (e : σ = σ') (h : t D σ' H) : t D σ H := e ▸ h
theorem r_seq (h : t { D with nx := u D } σ H) : tSeq t u D σ H := h
theorem r_next (h : D.nx σ H) : tNext D σ H := h
theorem r_asg (h : te σ H fun x H1 => D.nx (σ.set i (some x)) H1) : tAsg te (gName i) D σ H := h
theorem r_asgG {g : TG} (h : te σ H fun x H1 => g x σ H1 D.nx) : tAsg te g D σ H := h
theorem r_gName {N : L2.St → Hp → Prop} (h : N (σ.set i (some v)) H) : gName i v σ H N := h
theorem r_ret (h : te σ H D.rt) : tRet te D σ H := h
theorem r_retN (h : D.rt .non H) : tRetN D σ H := h
theorem r_drop (h : te σ H fun _ H1 => D.nx σ H1) : tDrop te D σ H := h
theorem r_if (h : tt σ H fun b H1 => if b = true then t D σ H1 else u D σ H1) : tIfS tt t u D σ H := h
theorem r_par (h : A σ H fun vs H1 => ∃ v w, vs = [v, w] ∧ D.nx ((σ.set i (some v)).set j (some w)) H1) : tPar i j A D σ H := h
theorem r_aug {ti : TIp} (e : σ[i]? = some (some x)) (h : te σ H fun y H1 => ti x y H1 fun z H2 => D.nx (σ.set i (some z)) H2) : tAug i te ti D σ H := ⟨x, e, h⟩
theorem r_par3 {l : Nat} (h : A σ H fun vs H1 => ∃ u v w, vs = [u, v, w] ∧ D.nx (((σ.set i (some u)).set j (some v)).set l (some w)) H1) : tPar3 i j l A D σ H := h
theorem r_gTup {n : Nat} {w : TGs} {a : Addr} {xs : List V} {N : L2.St → Hp → Prop} (e : H a = some (.tup xs)) (hn : xs.length = n) (h : w xs σ H N) : gTup K n w (.ref a) σ H N := ⟨a, xs, rfl, SqT.of e, hn, h⟩
theorem r_gCons {g : TG} {w : TGs} {xs : List V} {N : L2.St → Hp → Prop} (h : g v σ H fun σ1 H1 => w xs σ1 H1 N) : gCons g w (v :: xs) σ H N := ⟨v, xs, rfl, h⟩
theorem r_gNil {N : L2.St → Hp → Prop} (h : N σ H) : gNil [] σ H N := ⟨rfl, h⟩
theorem r_vs2 {N : V → V → Prop} (h : N x y) : ∃ v w, [x, y] = [v, w] ∧ N v w := ⟨x, y, rfl, h⟩
theorem r_vs3 {z : V} {N : V → V → V → Prop} (h : N x y z) : ∃ u v w, [x, y, z] = [u, v, w] ∧ N u v w := ⟨x, y, z, rfl, h⟩
theorem r_var (e : σ[i]? = some (some v)) (h : Q v H) : tVar i σ H Q := ⟨v, e, h⟩
theorem r_c (h : Q v H) : tC v σ H Q := h
theorem r_op (h : ta σ H fun x H1 => tb σ H1 fun y H2 => r x y H2 Q) : tOp r ta tb σ H Q := h
theorem r_un {r : V → Hp → VK → Prop} (h : ta σ H fun x H1 => r x H1 Q) : tUn r ta σ H Q := h
theorem r_test {N : Bool → Hp → Prop} (h : te σ H fun x H' => ∃ k, x = .bl k ∧ N k H') : tTest te σ H N := h
theorem r_tB {N : Bool → Hp → Prop} (h : te σ H fun x H1 => ∃ c, x = .bl c ∧ N c H1) : tB te σ H N := h
theorem r_bl {k : Bool} {N : Bool → Prop} (h : N k) : ∃ c, V.bl k = .bl c ∧ N c := ⟨k, rfl, h⟩
theorem r_and {N : Bool → Hp → Prop} (h : tt σ H fun c H1 => if c = true then tu σ H1 N else N false H1) : tAnd tt tu σ H N := h
theorem r_or {N : Bool → Hp → Prop} (h : tt σ H fun c H1 => if c = true then N true H1 else tu σ H1 N) : tOr tt tu σ H N := h
theorem r_not {N : Bool → Hp → Prop} (h : tt σ H fun c H1 => N (!c) H1) : tNot tt σ H N := h
theorem r_andV (h : ta σ H fun x H1 => ∃ c, x = .bl c ∧ if c = true then tb σ H1 Q else Q (.bl false) H1) : tAndV ta tb σ H Q := h
theorem r_orV (h : ta σ H fun x H1 => ∃ c, x = .bl c ∧ if c = true then Q (.bl true) H1 else tb σ H1 Q) : tOrV ta tb σ H Q := h
theorem r_notV (h : ta σ H fun x H1 => ∃ c, x = .bl c ∧ Q (.bl (!c)) H1) : tNotV ta σ H Q := h
theorem r_ifE (h : tt σ H fun c H1 => if c = true then ta σ H1 Q else tb σ H1 Q) : tIf tt ta tb σ H Q := h
theorem via (R : V → Hp → Prop) (h : ∀ M : VK, (∀ v H', R v H' → M v H') → te σ H M) (k : ∀ v H', R v H' → Q v H') : te σ H Q := h Q k
theorem r_nil {N : List V → Hp → Prop} (h : N [] H) : tNil σ H N := h
theorem r_cons {N : List V → Hp → Prop} (h : te σ H fun x H1 => A σ H1 fun xs H2 => N (x :: xs) H2) : tCons te A σ H N := h
theorem r_call {ds : List V} (h : A σ H fun vs H1 => sp (vs ++ ds) H1 Q E) : tCall sp ds E A σ H Q := h
theorem r_cb {r : List V → Hp → VK → Prop} (h : A σ H fun vs H1 => r vs H1 Q) : tCB r A σ H Q := h
/-- a new list, a new tuple -/
def nwL (xs : List V) (H : Hp) (Q : VK) : Prop := xs.length ≤ sizeLine ∧ ∀ p, H p = none → Q (.ref p) (upd H p (.lst xs))
def nwT (xs : List V) (H : Hp) (Q : VK) : Prop := xs.length ≤ sizeLine ∧ ∀ p, H p = none → Q (.ref p) (upd H p (.tup xs))
theorem r_tup (h : A σ H fun xs H1 => nwT xs H1 Q) : tTup A σ H Q := h
theorem r_lst (h : A σ H fun xs H1 => nwL xs H1 Q) : tLst A σ H Q := h
theorem r_nwL {xs : List V} (z : xs.length ≤ 1000) (h : ∀ p H1, H p = none → Same H H1 → H1 p = some (.lst xs) → Q (.ref p) H1) : nwL xs H Q := ⟨Nat.le_trans z (by decide), fun p np => h p _ np (same_upd np) upd_same⟩
theorem r_nwT {xs : List V} (z : xs.length ≤ 1000) (h : ∀ p H1, H p = none → Same H H1 → H1 p = some (.tup xs) → Q (.ref p) H1) : nwT xs H Q := ⟨Nat.le_trans z (by decide), fun p np => h p _ np (same_upd np) upd_same⟩
def fldR (K : PySem.W.Frag) (f : Str) (x : V) (H : Hp) (Q : VK) : Prop := ∃ a C dx fs v, x = .ref a ∧ H a = some (.ins C dx fs) ∧ Cls K C ∧ NoAttr K C f ∧ fs.lookup f = some v ∧ Q v H
theorem r_fld {f : Str} (h : ta σ H fun x H1 => fldR K f x H1 Q) : tFld K ta f σ H Q := h
theorem r_fldV {f : Str} {a C dx : Addr} {fs : List (Str × V)} (e : H a = some (.ins C dx fs)) (c : Cls K C) (n : NoAttr K C f) (l : fs.lookup f = some v) (h : Q v H) : fldR K f (.ref a) H Q := ⟨a, C, dx, fs, v, rfl, e, c, n, l, h⟩
/-! operators on values that are known -/
theorem r_I0 {g : Int → Int → V} {a b : Int} (h : Q (g a b) H) : rI0 g (.int a) (.int b) H Q := ⟨a, b, rfl, rfl, h⟩
theorem r_I {C : Int → Int → Prop} {g : Int → Int → V} {a b : Int} (c : C a b) (h : Q (g a b) H) : rI C g (.int a) (.int b) H Q := ⟨a, b, rfl, rfl, c, h⟩
theorem r_U {g : Int → V} {a : Int} (h : Q (g a) H) : rU g (.int a) H Q := ⟨a, rfl, h⟩
theorem r_eqI {a b : Int} (h : Q (.bl (decide (a = b))) H) : rEq (.int a) (.int b) H Q := ⟨rfl, by
  have e : decide (V.int a = V.int b) = decide (a = b) := by
    by_cases q : a = b <;> simp [q]
  rw [e]; exact h⟩
theorem r_eqB {a b : Bool} (h : Q (.bl (decide (a = b))) H) : rEq (.bl a) (.bl b) H Q := ⟨rfl, by
  have e : decide (V.bl a = V.bl b) = decide (a = b) := by
    by_cases q : a = b <;> simp [q]
  rw [e]; exact h⟩
theorem r_eqS {a b : Str} (h : Q (.bl (decide (a = b))) H) : rEq (.str a) (.str b) H Q := ⟨rfl, by
  have e : decide (V.str a = V.str b) = decide (a = b) := by
    by_cases q : a = b <;> simp [q]
  rw [e]; exact h⟩
theorem r_neI {a b : Int} (h : Q (.bl (!decide (a = b))) H) : rNe (.int a) (.int b) H Q := ⟨rfl, by
  have e : decide (V.int a = V.int b) = decide (a = b) := by
    by_cases q : a = b <;> simp [q]
  rw [e]; exact h⟩
theorem r_neB {a b : Bool} (h : Q (.bl (!decide (a = b))) H) : rNe (.bl a) (.bl b) H Q := ⟨rfl, by
  have e : decide (V.bl a = V.bl b) = decide (a = b) := by
    by_cases q : a = b <;> simp [q]
  rw [e]; exact h⟩
theorem r_neS {a b : Str} (h : Q (.bl (!decide (a = b))) H) : rNe (.str a) (.str b) H Q := ⟨rfl, by
  have e : decide (V.str a = V.str b) = decide (a = b) := by
    by_cases q : a = b <;> simp [q]
  rw [e]; exact h⟩
theorem r_ixL {p : Addr} {xs : List V} {a : Int} (h : SqL K H p xs) (e : atI xs a = some v) (k : Q v H) : rIx K (.ref p) (.int a) H Q := .inl ⟨p, xs, a, v, rfl, rfl, h, e, k⟩
theorem r_ixT {p : Addr} {xs : List V} {a : Int} (h : SqT K H p xs) (e : atI xs a = some v) (k : Q v H) : rIx K (.ref p) (.int a) H Q := .inr (.inl ⟨p, xs, a, v, rfl, rfl, h, e, k⟩)
theorem r_ixS {z : Str} {a : Int} {c : Nat} (l : z.length ≤ sizeLine) (e : atI z.cps.toList a = some c) (k : Q (.str ⟨#[c]⟩) H) : rIx K (.str z) (.int a) H Q := .inr (.inr ⟨z, a, c, rfl, rfl, l, e, k⟩)
theorem r_setL {p : Addr} {xs : List V} {a : Int} {m : Nat} {N : Hp → Prop} (h : H p = some (.lst xs)) (e : ixN xs.length a = some m) (k : ∀ H1, But p H H1 → H1 p = some (.lst (xs.set m v)) → N H1) : rSetL (.ref p) (.int a) v H N :=
  ⟨p, xs, a, m, rfl, rfl, h, e, k _ But.upd upd_same⟩
theorem r_gSub {to ti : TE} {s : TSet} {N : L2.St → Hp → Prop} (h : to σ H fun o H1 => ti σ H1 fun i H2 => s o i v H2 fun H3 => N σ H3) : gSub to ti s v σ H N := h
theorem yes {c : Bool} {P1 P2 : Prop} (h : c = true) (k : P1) : if c = true then P1 else P2 := by
  rw [h, if_pos rfl]; exact k
theorem no {c : Bool} {P1 P2 : Prop} (h : c = false) (k : P2) : if c = true then P1 else P2 := by
  rw [h, if_neg Bool.false_ne_true]; exact k
theorem ways {c P1 P2 : Prop} [Decidable c] (h : c → P1) (k : ¬ c → P2) : if decide c = true then P1 else P2 := by
  by_cases q : c
  · rw [decide_eq_true q, if_pos rfl]; exact h q
  · rw [decide_eq_false q, if_neg Bool.false_ne_true]; exact k q
theorem waysN {c P1 P2 : Prop} [Decidable c] (h : ¬ c → P1) (k : c → P2) : if (!decide c) = true then P1 else P2 := by
  by_cases q : c
  · rw [decide_eq_true q]; exact k q
  · rw [decide_eq_false q]; exact h q
theorem waysB {c : Bool} {P1 P2 : Prop} (h : c = true → P1) (k : c = false → P2) : if c = true then P1 else P2 := by
  cases c with
  | true => rw [if_pos rfl]; exact h rfl
  | false => rw [if_neg Bool.false_ne_true]; exact k rfl
/-! calls of built-ins, their readings by name -/
def rInt1 : List V → Hp → VK → Prop := fun xs H Q => (∃ i, xs = [.int i] ∧ Q (.int i) H) ∨ ∃ k, xs = [.bl k] ∧ Q (.int (if k then 1 else 0)) H
def rAbs : List V → Hp → VK → Prop := fun xs H Q => ∃ i, xs = [.int i] ∧ Q (.int (if i < 0 then -i else i)) H
def rMax2 : List V → Hp → VK → Prop := fun xs H Q => ∃ i j, xs = [.int i, .int j] ∧ Q (.int (if j > i then j else i)) H
def rMin2 : List V → Hp → VK → Prop := fun xs H Q => ∃ i j, xs = [.int i, .int j] ∧ Q (.int (if j < i then j else i)) H
def rLen (K : PySem.W.Frag) : List V → Hp → VK → Prop := fun xs H Q => ∃ p ys, xs = [.ref p] ∧ (SqL K H p ys ∨ SqT K H p ys) ∧ Q (.int ys.length) H
def rLenS : List V → Hp → VK → Prop := fun xs H Q => ∃ z, xs = [.str z] ∧ z.length ≤ sizeLine ∧ Q (.int z.length) H
def rStrI : List V → Hp → VK → Prop := fun xs H Q => ∃ i, xs = [.int i] ∧ i.natAbs.log2 < 1920 ∧ Q (.str (toString i)) H
def rAddS : R2 := fun x y H Q => ∃ i j, x = .str i ∧ y = .str j ∧ i.length + j.length ≤ sizeLine ∧ Q (.str (i ++ j)) H
theorem c_int1 {X : Cx} : CallR X (.type "int") rInt1 := call_int1
theorem c_abs {X : Cx} : CallR X (.builtin "abs") rAbs := call_abs
theorem c_max2 {X : Cx} (hc : X.calm = true) : CallR X (.builtin "max") rMax2 := call_max2 hc
theorem c_min2 {X : Cx} (hc : X.calm = true) : CallR X (.builtin "min") rMin2 := call_min2 hc
theorem c_len {X : Cx} : CallR X (.builtin "len") (rLen X.K) := call_len_seq
theorem c_lenS {X : Cx} : CallR X (.builtin "len") rLenS := call_len_str
theorem c_strI {X : Cx} : CallR X (.type "str") rStrI := call_str_int
theorem o_addS {X : Cx} : OpR X (binaryOp .Add) rAddS := op_add_str
theorem r_int1 {a : Int} (h : Q (.int a) H) : rInt1 [.int a] H Q := .inl ⟨a, rfl, h⟩
theorem r_abs {a : Int} (h : Q (.int (if a < 0 then -a else a)) H) : rAbs [.int a] H Q := ⟨a, rfl, h⟩
theorem r_max2 {a b : Int} (h : Q (.int (if b > a then b else a)) H) : rMax2 [.int a, .int b] H Q := ⟨a, b, rfl, h⟩
theorem r_min2 {a b : Int} (h : Q (.int (if b < a then b else a)) H) : rMin2 [.int a, .int b] H Q := ⟨a, b, rfl, h⟩
theorem r_lenL {p : Addr} {ys : List V} (e : SqL K H p ys) (h : Q (.int ys.length) H) : rLen K [.ref p] H Q := ⟨p, ys, rfl, .inl e, h⟩
theorem r_lenT {p : Addr} {ys : List V} (e : SqT K H p ys) (h : Q (.int ys.length) H) : rLen K [.ref p] H Q := ⟨p, ys, rfl, .inr e, h⟩
theorem r_strI {a : Int} (e : a.natAbs.log2 < 1920) (h : Q (.str (toString a)) H) : rStrI [.int a] H Q := ⟨a, rfl, e, h⟩
theorem r_addS {a b : Str} (e : a.length + b.length ≤ sizeLine) (h : Q (.str (a ++ b)) H) : rAddS (.str a) (.str b) H Q := ⟨a, b, rfl, rfl, e, h⟩
/-! loops, comprehensions -/
theorem r_rng {tb : TS} {k : Nat} {j : Int} (h0 : 0 ≤ j) (h1 : j ≤ 100000) (Pv : Nat → L2.St → Hp → Prop) (hp : Pv 0 σ H)
    (ht : ∀ (i : Nat) σ' H', (i : Int) < j → Pv i σ' H' → tb { D with nx := Pv (i + 1), ct := Pv (i + 1), bk := D.nx } (σ'.set k (some (.int (i : Int)))) H') (hd : ∀ σ' H', Pv j.toNat σ' H' → D.nx σ' H') :
    ∃ j' : Int, [V.int j] = [V.int j'] ∧ -(2 ^ 62) ≤ j' ∧ j' < 2 ^ 62 ∧ ∃ W : Nat → Nat → L2.St → Hp → Prop, (∃ m, W 0 m σ H) ∧ ∀ i m σ H, W i m σ H →
      (((Itr 0 j'.toNat).stop i H ∧ D.nx σ H) ∨ ((Itr 0 j'.toNat).go i H ∧ ∃ N : L2.St → Hp → Prop, (∀ σ' H', N σ' H' → ∃ m', m' < m ∧ W (i + 1) m' σ' H') ∧ ∀ x H', (Itr 0 j'.toNat).yld i H x H' → gName k x σ H' fun σ2 H2 => tb { D with nx := N, ct := N, bk := D.nx } σ2 H2)) := by
  refine ⟨j, rfl, by omega, by omega, for_range (lo := 0) (n := j.toNat) Pv hp (fun i σ' H' hi p => ?_) hd⟩
  have e : (0 : Int) + (i : Int) = (i : Int) := Int.zero_add _
  show tb _ (σ'.set k (some (.int ((0 : Int) + (i : Int))))) H'
  rw [e]
  exact ht i σ' H' (by omega) p
theorem r_forRng {A : TA} {tb : TS} {k : Nat} (h : A σ H fun vs H1 => ∃ j : Int, vs = [.int j] ∧ -(2 ^ 62) ≤ j ∧ j < 2 ^ 62 ∧ ∃ W : Nat → Nat → L2.St → Hp → Prop, (∃ m, W 0 m σ H1) ∧ ∀ i m σ H, W i m σ H →
      (((Itr 0 j.toNat).stop i H ∧ D.nx σ H) ∨ ((Itr 0 j.toNat).go i H ∧ ∃ N : L2.St → Hp → Prop, (∀ σ' H', N σ' H' → ∃ m', m' < m ∧ W (i + 1) m' σ' H') ∧ ∀ x H', (Itr 0 j.toNat).yld i H x H' → gName k x σ H' fun σ2 H2 => tb { D with nx := N, ct := N, bk := D.nx } σ2 H2))) :
    tFor (iRng1 A) (gName k) tb D σ H := h
theorem r_forL0 {tl : TE} {g : TG} {tb : TS} (h : tl σ H fun x H1 => ∃ a, x = .ref a ∧ (∃ xs, SqL K H1 a xs) ∧ ∃ W : Nat → Nat → L2.St → Hp → Prop, (∃ m, W 0 m σ H1) ∧ ∀ i m σ H, W i m σ H →
      (((Itl K a).stop i H ∧ D.nx σ H) ∨ ((Itl K a).go i H ∧ ∃ N : L2.St → Hp → Prop, (∀ σ' H', N σ' H' → ∃ m', m' < m ∧ W (i + 1) m' σ' H') ∧ ∀ x H', (Itl K a).yld i H x H' → g x σ H' fun σ2 H2 => tb { D with nx := N, ct := N, bk := D.nx } σ2 H2))) :
    tFor (iList K tl) g tb D σ H := h
theorem r_lst_by {g : TG} {tb : TS} {a : Addr} {xs : List V} (hs : SqL K H a xs) (Pv : Nat → L2.St → Hp → Prop) (h0 : Pv 0 σ H) (hl : ∀ i σ' H', Pv i σ' H' → SqL K H' a xs)
    (ht : ∀ i x σ' H', xs[i]? = some x → Pv i σ' H' → g x σ' H' fun σ2 H2 => tb { D with nx := Pv (i + 1), ct := Pv (i + 1), bk := D.nx } σ2 H2) (hd : ∀ σ' H', Pv xs.length σ' H' → D.nx σ' H') :
    ∃ a', V.ref a = .ref a' ∧ (∃ xs, SqL K H a' xs) ∧ ∃ W : Nat → Nat → L2.St → Hp → Prop, (∃ m, W 0 m σ H) ∧ ∀ i m σ H, W i m σ H →
      (((Itl K a').stop i H ∧ D.nx σ H) ∨ ((Itl K a').go i H ∧ ∃ N : L2.St → Hp → Prop, (∀ σ' H', N σ' H' → ∃ m', m' < m ∧ W (i + 1) m' σ' H') ∧ ∀ x H', (Itl K a').yld i H x H' → g x σ H' fun σ2 H2 => tb { D with nx := N, ct := N, bk := D.nx } σ2 H2)) :=
  ⟨a, rfl, ⟨xs, hs⟩, for_list (xs := xs) Pv h0 (fun i σ' H' _ p => hl i σ' H' p) ht hd⟩
theorem r_eqD {d e : PyData} (hd : Dp K H x d) (he : Dp K H y e) (sd : SeqAt.shaped d = true) (se : SeqAt.shaped e = true) (h : Q (.bl (PyData.eqv d e)) H) : rEqD K x y H Q := ⟨d, e, hd, he, sd, se, h⟩
theorem r_cat {p q : Addr} {xs zs : List V} (h1 : H p = some (.lst xs)) (h2 : H q = some (.lst zs)) (l : xs.length + zs.length ≤ 100000) (k : ∀ p H1, H p = none → Same H H1 → H1 p = some (.lst (xs ++ zs)) → Q (.ref p) H1) : rCat (.ref p) (.ref q) H Q :=
  ⟨p, q, xs, zs, rfl, rfl, h1, h2, Nat.le_trans l (by decide), fun p np => k p _ np (same_upd np) upd_same⟩
theorem turns (z m : Int) (hm : 1 ≤ m) (hm2 : m ≤ 100000) : 0 ≤ (if (if z < m then z else m) > 1 then (if z < m then z else m) else 1) ∧ (if (if z < m then z else m) > 1 then (if z < m then z else m) else 1) ≤ 100000 := by
  constructor <;> (split <;> split <;> omega)
theorem turns_le (z m : Int) (hm : 1 ≤ m) : (if (if z < m then z else m) > 1 then (if z < m then z else m) else 1) ≤ m := by
  split <;> split <;> omega
/-- two ways that meet -/
theorem join {c : Prop} [Decidable c] {A B : VK → Prop} {N : VK} (R : V → Hp → Prop) (ha : c → ∀ M : VK, (∀ v H', R v H' → M v H') → A M) (hb : ¬ c → ∀ M : VK, (∀ v H', R v H' → M v H') → B M) (k : ∀ v H', R v H' → N v H') :
    if decide c = true then A N else B N := by
  by_cases q : c
  · rw [decide_eq_true q, if_pos rfl]; exact ha q N k
  · rw [decide_eq_false q, if_neg Bool.false_ne_true]; exact hb q N k
theorem get_int {ns : List Int} {i : Nat} (h : i < ns.length) : ∃ c, atI (ns.map V.int) (i : Int) = some (.int c) := by
  refine ⟨ns[i], atI_nat ?_⟩
  rw [List.getElem?_map, List.getElem?_eq_getElem h]; rfl
/-- [e for name in range(j)], [e for name in a list] -/
def lcR (j : Int) (k : Nat) (te : TE) (vs : List Nat) (σ : L2.St) (H : Hp) (Q : VK) : Prop := -(2 ^ 62) ≤ j ∧ j < 2 ^ 62 ∧ ∀ D, H D = none → ∃ W : Nat → Nat → Hp → Prop, (∃ m, W 0 m (L2.upd H D (.lst []))) ∧ ∀ i m H, W i m H →
  ((Itr 0 j.toNat).stop i H ∧ Q (.ref D) H) ∨ ((Itr 0 j.toNat).go i H ∧ ∃ Nx : Hp → Prop, (∀ H', Nx H' → ∃ m', m' < m ∧ W (i + 1) m' H') ∧ ∀ x H', (Itr 0 j.toNat).yld i H x H' → gName k x (wipe σ vs) H' fun σ2 H2 => wipe σ2 vs = wipe σ vs ∧ tYes σ2 H2 fun b H3 =>
    if b = true then te σ2 H3 fun y H4 => ∃ acc, H4 D = some (.lst acc) ∧ acc.length < sizeLine ∧ Nx (L2.upd H4 D (.lst (acc ++ [y]))) else Nx H3)
theorem r_lcRng {k : Nat} {vs : List Nat} (h : A σ H fun ws H1 => ∃ j : Int, ws = [.int j] ∧ lcR j k te vs σ H1 Q) : tLc (iRng1 A) (gName k) tYes te vs σ H Q := h
/-- what is made is put behind the list at Dl -/
def apR (Dl : Addr) (N : Hp → Prop) (y : V) (H : Hp) : Prop := ∃ acc, H Dl = some (.lst acc) ∧ acc.length < sizeLine ∧ N (L2.upd H Dl (.lst (acc ++ [y])))
theorem r_ap {Dl : Addr} {N : Hp → Prop} {acc : List V} (h : H Dl = some (.lst acc)) (l : acc.length ≤ 100000) (k : ∀ H1, But Dl H H1 → H1 Dl = some (.lst (acc ++ [y])) → N H1) : apR Dl N y H :=
  ⟨acc, h, Nat.lt_of_le_of_lt l (by decide), k _ But.upd upd_same⟩
theorem r_lcR {J : Int} {k : Nat} {vs : List Nat} (h0 : 0 ≤ J) (h1 : J ≤ 100000) (hw : ∀ x, wipe ((wipe σ vs).set k (some x)) vs = wipe σ vs) (Pv : Addr → Nat → Hp → Prop)
    (hs : ∀ Dl H1, H Dl = none → Same H H1 → H1 Dl = some (.lst []) → Pv Dl 0 H1)
    (ht : ∀ Dl (i : Nat) H', H Dl = none → (i : Int) < J → Pv Dl i H' → te ((wipe σ vs).set k (some (.int (i : Int)))) H' (apR Dl (Pv Dl (i + 1))))
    (hd : ∀ Dl H', H Dl = none → Pv Dl J.toNat H' → Q (.ref Dl) H') : ∃ j' : Int, [V.int J] = [V.int j'] ∧ lcR j' k te vs σ H Q := by
  refine ⟨J, rfl, by omega, by omega, fun Dl hD => ?_⟩
  refine lc_range (lo := 0) (n := J.toNat) (tt := tYes) (Pv Dl) (hs Dl _ hD (same_upd hD) upd_same) (fun i H' hi p => ?_) (fun H' p => hd Dl H' hD p)
  have e : (0 : Int) + (i : Int) = (i : Int) := Int.zero_add _
  show wipe ((wipe σ vs).set k (some (.int ((0 : Int) + (i : Int))))) vs = wipe σ vs ∧ (if true = true then te ((wipe σ vs).set k (some (.int ((0 : Int) + (i : Int))))) H' (apR Dl (Pv Dl (i + 1))) else Pv Dl (i + 1) H')
  rw [e, if_pos rfl]
  exact ⟨hw _, ht Dl i H' hD (by omega) p⟩
def lcL (K : PySem.W.Frag) (a : Addr) (k : Nat) (te : TE) (vs : List Nat) (σ : L2.St) (H : Hp) (Q : VK) : Prop := (∃ xs, SqL K H a xs) ∧ ∀ D, H D = none → ∃ W : Nat → Nat → Hp → Prop, (∃ m, W 0 m (L2.upd H D (.lst []))) ∧ ∀ i m H, W i m H →
  ((Itl K a).stop i H ∧ Q (.ref D) H) ∨ ((Itl K a).go i H ∧ ∃ Nx : Hp → Prop, (∀ H', Nx H' → ∃ m', m' < m ∧ W (i + 1) m' H') ∧ ∀ x H', (Itl K a).yld i H x H' → gName k x (wipe σ vs) H' fun σ2 H2 => wipe σ2 vs = wipe σ vs ∧ tYes σ2 H2 fun b H3 =>
    if b = true then te σ2 H3 fun y H4 => ∃ acc, H4 D = some (.lst acc) ∧ acc.length < sizeLine ∧ Nx (L2.upd H4 D (.lst (acc ++ [y]))) else Nx H3)
theorem r_lcLst {k : Nat} {vs : List Nat} {tl : TE} (h : tl σ H fun x H1 => ∃ a, x = .ref a ∧ lcL K a k te vs σ H1 Q) : tLc (iList K tl) (gName k) tYes te vs σ H Q := h
theorem r_lcL {a : Addr} {xs : List V} {k : Nat} {vs : List Nat} (hx : SqL K H a xs) (hw : ∀ x, wipe ((wipe σ vs).set k (some x)) vs = wipe σ vs) (Pv : Addr → Nat → Hp → Prop)
    (hs : ∀ Dl H1, H Dl = none → Same H H1 → H1 Dl = some (.lst []) → Pv Dl 0 H1) (hl : ∀ Dl i H', H Dl = none → Pv Dl i H' → SqL K H' a xs)
    (ht : ∀ Dl (i : Nat) x H', H Dl = none → xs[i]? = some x → Pv Dl i H' → te ((wipe σ vs).set k (some x)) H' (apR Dl (Pv Dl (i + 1))))
    (hd : ∀ Dl H', H Dl = none → Pv Dl xs.length H' → Q (.ref Dl) H') : ∃ a', V.ref a = .ref a' ∧ lcL K a' k te vs σ H Q := by
  refine ⟨a, rfl, ⟨xs, hx⟩, fun Dl hD => ?_⟩
  refine lc_list (xs := xs) (tt := tYes) (Pv Dl) (hs Dl _ hD (same_upd hD) upd_same) (fun i H' _ p => hl Dl i H' hD p) (fun i x H' hi p => ?_) (fun H' p => hd Dl H' hD p)
  show wipe ((wipe σ vs).set k (some x)) vs = wipe σ vs ∧ (if true = true then te ((wipe σ vs).set k (some x)) H' (apR Dl (Pv Dl (i + 1))) else Pv Dl (i + 1) H')
  rw [if_pos rfl]
  exact ⟨hw _, ht Dl i x H' hD hi p⟩
def lcF (K : PySem.W.Frag) (a : Addr) (k : Nat) (tt : TT) (te : TE) (vs : List Nat) (σ : L2.St) (H : Hp) (Q : VK) : Prop := (∃ xs, SqL K H a xs) ∧ ∀ D, H D = none → ∃ W : Nat → Nat → Hp → Prop, (∃ m, W 0 m (L2.upd H D (.lst []))) ∧ ∀ i m H, W i m H →
  ((Itl K a).stop i H ∧ Q (.ref D) H) ∨ ((Itl K a).go i H ∧ ∃ Nx : Hp → Prop, (∀ H', Nx H' → ∃ m', m' < m ∧ W (i + 1) m' H') ∧ ∀ x H', (Itl K a).yld i H x H' → gName k x (wipe σ vs) H' fun σ2 H2 => wipe σ2 vs = wipe σ vs ∧ tt σ2 H2 fun b H3 =>
    if b = true then te σ2 H3 fun y H4 => ∃ acc, H4 D = some (.lst acc) ∧ acc.length < sizeLine ∧ Nx (L2.upd H4 D (.lst (acc ++ [y]))) else Nx H3)
theorem r_lcFLst {k : Nat} {vs : List Nat} {tl : TE} {tt : TT} (h : tl σ H fun x H1 => ∃ a, x = .ref a ∧ lcF K a k tt te vs σ H1 Q) : tLc (iList K tl) (gName k) tt te vs σ H Q := h
theorem r_lcF {a : Addr} {xs : List V} {k : Nat} {vs : List Nat} {tt : TT} (hx : SqL K H a xs) (hw : ∀ x, wipe ((wipe σ vs).set k (some x)) vs = wipe σ vs) (Pv : Addr → Nat → Hp → Prop)
    (hs : ∀ Dl H1, H Dl = none → Same H H1 → H1 Dl = some (.lst []) → Pv Dl 0 H1) (hl : ∀ Dl i H', H Dl = none → Pv Dl i H' → SqL K H' a xs)
    (ht : ∀ Dl (i : Nat) x H', H Dl = none → xs[i]? = some x → Pv Dl i H' → tt ((wipe σ vs).set k (some x)) H' fun b H3 => if b = true then te ((wipe σ vs).set k (some x)) H3 (apR Dl (Pv Dl (i + 1))) else Pv Dl (i + 1) H3)
    (hd : ∀ Dl H', H Dl = none → Pv Dl xs.length H' → Q (.ref Dl) H') : ∃ a', V.ref a = .ref a' ∧ lcF K a' k tt te vs σ H Q := by
  refine ⟨a, rfl, ⟨xs, hx⟩, fun Dl hD => ?_⟩
  exact lc_list (xs := xs) (tt := tt) (Pv Dl) (hs Dl _ hD (same_upd hD) upd_same) (fun i H' _ p => hl Dl i H' hD p) (fun i x H' hi p => ⟨hw _, ht Dl i x H' hD hi p⟩) (fun H' p => hd Dl H' hD p)
theorem r_bmA {to : TE} {t : TA} (h : to σ H fun x H1 => tyV K "list" x H1 ∧ t σ H1 fun xs H2 => rAppend x xs H2 Q) : tBM K "list" rAppend to t σ H Q := h
theorem r_tyL {l : Addr} {xs : List V} {G : Prop} (e : H l = some (.lst xs)) (h : G) : tyV K "list" (.ref l) H ∧ G := ⟨.inl ⟨rfl, xs, SqL.of e⟩, h⟩
theorem r_app {l : Addr} {xs : List V} (e : H l = some (.lst xs)) (n : xs.length ≤ 100000) (k : ∀ H1, But l H H1 → H1 l = some (.lst (xs ++ [y])) → Q .non H1) : rAppend (.ref l) [y] H Q :=
  ⟨l, xs, y, rfl, rfl, e, Nat.lt_of_le_of_lt n (by decide), k _ But.upd upd_same⟩
theorem r_rep {l : Addr} {n : Int} {xs : List V} (e : H l = some (.lst xs)) (h0 : 0 ≤ n) (h1 : n ≤ 1000) (hl : xs.length * n.toNat ≤ 100000) (k : ∀ p H1, H p = none → Same H H1 → H1 p = some (.lst (List.replicate n.toNat xs).flatten) → Q (.ref p) H1) : rRep (.ref l) (.int n) H Q :=
  ⟨l, n, xs, rfl, rfl, e, by omega, by omega, Nat.le_trans hl (by decide), fun p np => k p _ np (same_upd np) upd_same⟩
theorem r_sl {te : TE} {tl th : TO} {r : V → Option Int → Option Int → Hp → VK → Prop} (h : te σ H fun x H1 => tl σ H1 fun l H2 => th σ H2 fun u H3 => r x l u H3 Q) : tSl r te tl th σ H Q := h
def prt (Q : Option Int → Hp → Prop) : VK := fun x H => ∃ i : Int, x = .int i ∧ Q (some i) H
theorem r_part {Q : Option Int → Hp → Prop} (h : te σ H (prt Q)) : tPart te σ H Q := h
theorem r_prt {Q : Option Int → Hp → Prop} {i : Int} (h : Q (some i) H) : prt Q (.int i) H := ⟨i, rfl, h⟩
theorem r_nopart {Q : Option Int → Hp → Prop} (h : Q none H) : tNoPart σ H Q := h
theorem r_slL {a : Addr} {xs : List V} {lo hi : Option Int} (e : H a = some (.lst xs)) (k : ∀ p H1, H p = none → Same H H1 → H1 p = some (.lst (cutV xs lo hi)) → Q (.ref p) H1) : rSlL K (.ref a) lo hi H Q :=
  ⟨a, xs, rfl, SqL.of e, fun p np => k p _ np (same_upd np) upd_same⟩
theorem r_anyB {a : Addr} {bs : List Bool} (hs : SqL K H a (bs.map V.bl)) (h : Q (.bl (bs.any id)) H) : rAny K [.ref a] H Q := ⟨a, bs, rfl, hs, h⟩
/-! dicts with keys that are texts -/
def dgR (x y : V) (H : Hp) (Q : VK) : Prop := ∃ a v, x = .ref a ∧ DGet H a y (some v) ∧ Q v H
theorem r_dget (h : ta σ H fun x H1 => tb σ H1 fun y H2 => dgR x y H2 Q) : tDGet ta tb σ H Q := h
theorem r_dgS {a : Addr} {g : Str} {kvs : List (Key × V)} (e : H a = some (.dK kvs)) (l : valV kvs (.inr g) = some v) (k : Q v H) : dgR (.ref a) (.str g) H Q := ⟨a, v, rfl, by
  have z := DGet.k (H := H) (a := a) (kvs := kvs) (k := .inr g) e
  rw [l] at z
  exact z, k⟩
def dpR (x y v : V) (H : Hp) (N : Hp → Prop) : Prop := ∃ a H1, x = .ref a ∧ DPut H a y v H1 ∧ N H1
theorem r_dput (h : tc σ H fun v H1 => ta σ H1 fun x H2 => tb σ H2 fun y H3 => dpR x y v H3 (D.nx σ)) : sDPut ta tb tc D σ H := h
theorem r_dpS {a : Addr} {g : Str} {kvs : List (Key × V)} {N : Hp → Prop} (e : H a = some (.dK kvs)) (l : kvs.length ≤ 1000) (k : ∀ H1, But a H H1 → H1 a = some (.dK (putK kvs (.inr g) v)) → N H1) : dpR (.ref a) (.str g) v H N :=
  ⟨a, _, rfl, DPut.k (k := .inr g) e (Nat.lt_of_le_of_lt l (by decide)), k _ But.upd upd_same⟩
def dspR (p : Addr) (ps : List (V × V)) (H : Hp) (Q : VK) : Prop := H p = some (.dK []) ∧ ∃ kvs : List (Key × V), ps = kvs.map (fun kv => (kV kv.1, kv.2)) ∧ kvs.length ≤ 15 ∧ Q (.ref p) (L2.upd H p (.dK (mergeK [] kvs)))
theorem r_disp {trs : List (TE × TE)} (h : ∀ p H1, H p = none → Same H H1 → H1 p = some (.dK []) → tPairs trs σ H1 fun ps H2 => dspR p ps H2 Q) : tDisp trs σ H Q := fun p np => h p _ np (same_upd np) upd_same
theorem r_pnil {N : List (V × V) → Hp → Prop} (h : N [] H) : tPairs [] σ H N := h
theorem r_pcons {trs : List (TE × TE)} {N : List (V × V) → Hp → Prop} (h : ta σ H fun x H1 => tb σ H1 fun y H2 => tPairs trs σ H2 fun ps H3 => N ((x, y) :: ps) H3) : tPairs ((ta, tb) :: trs) σ H N := h
theorem r_dsp {p : Addr} {ps : List (V × V)} (kvs : List (Key × V)) (e : H p = some (.dK [])) (hps : ps = kvs.map (fun kv => (kV kv.1, kv.2))) (l : kvs.length ≤ 15) (k : ∀ H1, But p H H1 → H1 p = some (.dK (mergeK [] kvs)) → Q (.ref p) H1) : dspR p ps H Q :=
  ⟨e, kvs, hps, l, k _ But.upd upd_same⟩
theorem pow10_le {a b : Nat} (h : a ≤ b) : (10 : Int) ^ a ≤ 10 ^ b := by
  have e : ∀ k : Nat, (10 : Int) ^ k = ((10 ^ k : Nat) : Int) := fun k => by rw [Int.natCast_pow]; rfl
  rw [e, e]
  exact Int.ofNat_le.mpr (Nat.pow_le_pow_right (by decide) h)
theorem letters {n : Nat} (h : n < 26) : ∃ c, ("abcdefghijklmnopqrstuvwxyz" : Str).cps.toList[n]? = some c ∧ 97 ≤ c ∧ c ≤ 122 := by
  have e : ("abcdefghijklmnopqrstuvwxyz" : Str).cps.toList = List.range' 97 26 := by decide +kernel
  refine ⟨97 + n, ?_, by omega, by omega⟩
  rw [e, List.getElem?_range' (by omega)]
  simp
theorem ty_ins {a C dx : Addr} {fs : List (Str × V)} (c : Cls K C) (i : Inst K C) (e : H a = some (.ins C dx fs)) : TyX K H (.ref a) (.ref C) := .base (.ins e c i.ca i.cn i.ct i.cm)
theorem ix_seqG {X : Cx} {K : PySem.W.Frag} (e : X.K = K) : IxR X (rIx K) := e ▸ ix_seq
theorem c_isi {X : Cx} {K : PySem.W.Frag} (e : X.K = K) : CallR X (.builtin "isinstance") (rIsi K) := e ▸ call_isi
theorem r_isiT {t : Value} {n : String} {b : Bool} (ty : TyX K H x t) (k : PySem.W.kitOne K t (.type n) = some b) (h : Q (.bl b) H) : rIsi K [x, .ty n] H Q := ⟨x, .ty n, t, .type n, b, rfl, .ty n, ty, k, h⟩
theorem r_isiC {t : Value} {C : Addr} {b : Bool} (ty : TyX K H x t) (k : PySem.W.kitOne K t (.ref C) = some b) (h : Q (.bl b) H) : rIsi K [x, .ref C] H Q := ⟨x, .ref C, t, .ref C, b, rfl, .own C, ty, k, h⟩
/-- a new instance, its dict made, its __init__ asked -/
def mkI (C : Addr) (sp : Sp) (ds vs : List V) (H : Hp) (Q : VK) (E : XK) : Prop := ∀ x dx, H x = none → H dx = none → dx ≠ x →
  sp (.ref x :: (vs ++ ds)) (L2.upd (L2.upd H dx (.own x)) x (.ins C dx [])) (fun v H2 => v = .non ∧ Q (.ref x) H2) E
theorem r_make {C : Addr} {ds : List V} (h : A σ H fun vs H1 => mkI C sp ds vs H1 Q E) : tMake C sp ds E A σ H Q := h
theorem look1 {f : Str} : ([(f, v)] : List (Str × V)).lookup f = some v := by simp [List.lookup]
/-- o.f = value -/
def stF (K : PySem.W.Frag) (f : Str) (y x : V) (H : Hp) (N : Hp → Prop) : Prop := ∃ a C dx fs, x = .ref a ∧ H a = some (.ins C dx fs) ∧ Cls K C ∧ NoAttr K C f ∧ fs.length < 1000 ∧ N (L2.upd H a (.ins C dx (putF f y fs)))
theorem r_sfld {f : Str} {tv : TE} (h : tv σ H fun y H1 => ta σ H1 fun x H2 => stF K f y x H2 (D.nx σ)) : sFld K ta tv f D σ H := h
theorem r_stF {f : Str} {a C dx : Addr} {fs : List (Str × V)} {N : Hp → Prop} (e : H a = some (.ins C dx fs)) (c : Cls K C) (n : NoAttr K C f) (l : fs.length ≤ 900) (h : ∀ H1, But a H H1 → H1 a = some (.ins C dx (putF f y fs)) → N H1) :
    stF K f y (.ref a) H N := ⟨a, C, dx, fs, rfl, e, c, n, by omega, h _ But.upd upd_same⟩
def rIsN : R2 := fun x y H Q => y = .non ∧ Q (.bl (decide (x = .non))) H
def rNotN : R2 := fun x y H Q => y = .non ∧ Q (.bl (!decide (x = .non))) H
theorem o_isN {X : Cx} : OpR X (compareOp .Is) rIsN := op_isN
theorem o_notN {X : Cx} : OpR X (compareOp .IsNot) rNotN := op_notN
theorem r_isN (h : Q (.bl (decide (x = .non))) H) : rIsN x .non H Q := ⟨rfl, h⟩
theorem r_notN (h : Q (.bl (!decide (x = .non))) H) : rNotN x .non H Q := ⟨rfl, h⟩
theorem z4 : (4 : Nat) ≤ sizeLine := by decide
theorem szle {n : Nat} (h : n ≤ 1000) : n ≤ sizeLine := Nat.le_trans h (by decide)
end
end Z
namespace Z
open PySem PySem.Spec PyProof.Rows L2
/-- what of the text an own operator leans on, the class of instances over object alone -/
structure BinF (K : PySem.W.Frag) (C : Addr) (nm : String) (f g : Addr) : Prop where
  sf : PySem.W.selfFirst K C = true
  at_ : PySem.W.findIn K (.ref C) (PySem.dunder nm) = some (some (.ref f))
  fn : PySem.W.isFn K (.ref f) = true
  rat : PySem.W.findIn K (.ref C) (PySem.dunderR nm) = some (some (.ref g))
  rfn : PySem.W.isFn K (.ref g) = true
  fo : ∃ fo, PySem.W.findIn K (.type "int") (PySem.dunder nm) = some fo
  ro : ∃ ro, PySem.W.findIn K (.type "int") (PySem.dunderR nm) = some ro
  sub : PySem.W.subIn K (.ref C) (.type "int") = some false
  isub : PySem.W.subIn K (.type "int") (.ref C) = some false
  cls : ∃ cd, PySem.W.clsIn K C = some cd ∧ cd.mro = [.ref C, .type "object"]
  ni : PySem.W.findIn K (.ref C) (PySem.dunderI nm) = some none
  noi : PySem.W.findIn K (.type "object") (PySem.dunderI nm) = some none
/-- what the formatting of an own object leans on -/
structure TxF (K : PySem.W.Frag) (C : Addr) : Prop where
  fm : PySem.W.findIn K (.ref C) "__format__" = some (some (.builtin "object.__format__"))
  mo : PySem.W.mroIn K C (.type "object") = some true
/-- != of an own class is the one of all objects -/
structure NeD (K : PySem.W.Frag) (C : Addr) : Prop where
  ne : PySem.W.findIn K (.ref C) "__ne__" = some (some (.builtin "object.__ne__"))
  mo : PySem.W.mroIn K C (.type "object") = some true
end Z

namespace Z
open PySem PySem.Spec PyProof.Rows L2
/-- a block in a block, no name of which is one of the outer one's -/
def bare : Scope := { kind := .function, names := [], isGenerator := false, isCoroutine := false }
theorem blk_any {N : List Str} {sc scope : Scope} {own : List (Str × Nat)} (h : BlkOk N bare scope own) : BlkOk N sc scope own :=
  ⟨h.kind, h.uniq, h.ix, fun y hy e => (h.free y hy e).elim (fun z => by cases z) (fun z => by cases z), h.own⟩
theorem pi_listK {X : Cx} {K : PySem.W.Frag} {tg l : Expr} {tl : TE} (e : X.K = K) (h : PE X l tl) : PI X tg l (iList K tl) := e ▸ pi_list h
/-- the positional ones, then those by name; no other numbers of them -/
def kwG {α : Type} (m n : Nat) (us ws : List α) : List α := if us.length = m ∧ ws.length = n then us ++ ws else []
theorem kwG_of {α : Type} {m n : Nat} {us ws : List α} (h1 : us.length = m) (h2 : ws.length = n) : kwG m n us ws = us ++ ws := if_pos ⟨h1, h2⟩
theorem kw_binds {K : PySem.W.Frag} {fd : FuncData} {ps ks : List Str} {m n : Nat} (hp : ps.length ≠ 0) (h : ∀ (s : Shared) (us ws : List Value), us.length = m → ws.length = n → BindsTo s fd ⟨us, ks.zip ws⟩ (ps.zip (us ++ ws))) : KBinds K fd ps ks (kwG m n) (kwG m n) where
  to := fun s us ws _ hl => by
    by_cases c : us.length = m ∧ ws.length = n
    · rw [kwG_of c.1 c.2]; exact h s us ws c.1 c.2
    · unfold kwG at hl
      rw [if_neg c] at hl
      exact absurd hl.symm hp
  rel := fun {vs us zs ws} r rz => by
    have e1 := r.length
    have e2 := rz.length
    by_cases c : us.length = m ∧ ws.length = n
    · rw [kwG_of c.1 c.2, kwG_of (e1.trans c.1) (e2.trans c.2)]
      exact r.append rz
    · unfold kwG
      rw [if_neg c, if_neg (by rw [e1, e2]; exact c)]
      exact .nil
theorem kbindsF {K : PySem.W.Frag} {x qual : Str} {st : Stmt} {f : Addr} {fd : FuncData} {ps ks : List Str} {m n : Nat} (F : Fun K x qual st f fd) (hp : ps.length ≠ 0)
    (h : ∀ (kV doc pm : Value) (an : Option Addr) (cdv ct : Value) (us ws : List Value), us.length = m → ws.length = n → bindArgs (PySem.W.fnOf x qual (defArgs st) (defBody st) (defScope st) .none kV doc pm an cdv ct) ⟨us, ks.zip ws⟩ = pure (ps.zip (us ++ ws))) :
    KBinds K fd ps ks (kwG m n) (kwG m n) := by
  obtain ⟨oc, od, kV, doc, pm, an, cdv, ct, osl, rfl, lk, hcd⟩ := F.ex
  exact kw_binds hp fun s us ws h1 h2 => .of_eq (h kV doc pm an cdv ct us ws h1 h2)
end Z

namespace Z
open PySem PySem.Spec PyProof.Rows L2
/-! exceptions of own classes, whose __init__ stores one field, as values -/
/-- what such a class, over a built-in one, leans on; f its __init__ -/
structure ExF (K : PySem.W.Frag) (C f : Addr) : Prop where
  mk_ : ∃ (B newId initId : String) (bmB : List Value), ExcBaseFacts B newId initId bmB ∧ PySem.W.excInitIn K C bmB newId = true
  st : ∃ (B : String) (bmB : List Value), StoreFacts B bmB "object.__setattr__" "object" ∧ PySem.W.excOver K C bmB = true
  ini : PySem.W.findIn K (.ref C) "__init__" = some (some (.ref f))
  fn : PySem.W.isFn K (.ref f) = true
  sa : PySem.W.findIn K (.ref C) "__setattr__" = some (some (.builtin "object.__setattr__"))
  hd : PySem.W.hasDictIn K C = true
  ga : PySem.W.findIn K (.ref C) "__getattribute__" = some (some (.builtin "BaseException.__getattribute__"))
  gt : PySem.W.findIn K (.ref C) "__getattr__" = some none
  sb : PySem.W.subIn K (.ref C) (.type "BaseException") = some true
  ss : PySem.W.subIn K (.ref C) (.ref C) = some true
  ty : PySem.W.typeIn K (.ref C) = some (.type "type")
  kp : PySem.W.keepIn K (.ref C) = true
  ca : PySem.W.findIn K (.ref C) "__class__" = some (some (.builtin "object.__class__"))
  cm : PySem.W.mroIn K C (.type "object") = some true
  cn : PySem.W.specialIn K (.builtin "object.__class__") "__get__" = some (some (.builtin "getset_descriptor.__get__"))
  ct : PySem.W.takesIn K (.builtin "object.__class__") = some true
section
open Builtin Builtin.ObjectAttr PySem.HandSPX
variable {prog : Program} {w : World} {A : Around} {R : Result → Shared → Prop} {s : Shared} {K : PySem.W.Frag} {a C f : Addr} {fv : Array Value} {name : Str} {tk : Tok} {v : Value}
theorem osa_first (T : ExF K C f) (X : K.In s.heap) (hx : s.heap.get? a = some { cls := .ref C, data := .fields fv }) (hn : PySem.W.findIn K (.ref C) name = some none)
    (hq : ∀ h' tk' dx, (∀ b o, b ≠ a → s.heap.get? b = some o → h'.get? b = some o) → s.heap.objs.size ≤ dx → dx ≠ a → h'.get? a = some { cls := .ref C, dict := some dx, data := .fields fv } → h'.Ns1 dx (fun y => if y = name then some v else none) →
      R (.ok (.ret .none)) { s with heap := h', toks := tk' }) : codeAny (model prog w) A (.call (.builtin "object.__setattr__") ⟨[.ref a, .str name tk, v], []⟩) R s := by
  obtain ⟨B, bmB, SF, ho⟩ := T.st
  have J : PySem.W.InstAt s.heap a { cls := .ref C, data := .fields fv } C none := ⟨hx, rfl, rfl, trivial⟩
  refine PySem.W.osa_openX SF X J ho (r := none) (by unfold PySem.W.takerIn; rw [hn]; rfl) fun b => ?_
  obtain ⟨cd, hcd, hdct⟩ := PySem.W.any_some T.hd
  have lc : PySem.W.Looks (model prog w) s.heap (classData C) cd := PySem.W.looks_clsIn X hcd
  have ne : a ≠ s.heap.objs.size := Nat.ne_of_lt (Heap.lt_size hx)
  obtain ⟨hp, g, d, t, os⟩ := s
  obtain ⟨nm, bs, mro, ns, qn, hd, sn, sb, ab, col, del⟩ := cd
  dsimp only at hdct
  subst hdct
  show wpAny _ _ (storeInOwnDict (.ref a) (.ref C) (.str name tk) name v b) _ _ _
  unfold storeInOwnDict ownDictForStores
  repeat (first | with_reducible refine store_in_new ?new ?stored | with_reducible refine wpAny_loadPart_at hx ?_ | with_reducible refine lc.at ?_ | wp_step)
  case new => exact ⟨_, #[], _, (Heap.get?_update_ne _ _ _ _ ne.symm).trans (Heap.get?_push_at rfl rfl), rfl, (fun e he => absurd he (by simp)), fun _ => rfl⟩
  case stored =>
    intro h' t' n1 sbut
    have ha : (hp.push { cls := .type "dict", data := .dict #[] }).get? a = some { cls := .ref C, data := .fields fv } := Heap.get?_push_of_some _ hx
    refine hq h' t' hp.objs.size (fun c o hc hco => ?_) (Nat.le_refl _) ne.symm ?_ n1
    · exact (sbut.2 c (Nat.ne_of_lt (Heap.lt_size hco))).trans ((Heap.get?_update_ne _ _ _ _ hc).trans (Heap.get?_push_of_some _ hco))
    · exact (sbut.2 a ne).trans (Heap.get?_update_self _ ha rfl)
end
section
variable {X : Cx} {pins : List (Addr × Obj)} {σ : L2.St} {H : Hp} {s : Shared} {a C f : Addr} {fl : Str} {y : V} {u : Value}
/-- self.fl = y in such an __init__ -/
theorem set_first {Q : Unit → Shared → Prop} {E : Value → Shared → Prop} {A : Around} (T : ExF X.K C f) (I : Inv X pins σ H s) (e : H a = some (exo a C none)) (hn : PySem.W.findIn X.K (.ref C) fl = some none) (ry : RelV y u)
    (h : ∀ dx s', H dx = none → dx ≠ a → Inv X pins σ (L2.upd (L2.upd H dx (exd dx [(fl, y)])) a (exo a C (some dx))) s' → Q () s') : wpAny (model X.prog X.w) A (setAttr (.ref a) fl u) Q E s := by
  obtain ⟨t1, ho⟩ := exo_at I.hok e
  refine PySem.W.set_plain I.kIn (ox := { cls := .ref C, dict := none, data := .fields #[.ref t1, .none, .none, .none, .bool false, .none] }) (od := none) ⟨ho, rfl, rfl, trivial⟩ T.sa ?_
  refine osa_first (s := { s with toks := s.toks + 1 }) T I.kIn ho hn fun h' tk' dx keep dn dne hx n1 => ?_
  have free : H dx = none := I.hok.fresh dn
  have away : ∀ {b : Addr}, H b = none → b ≠ a := fun z q => by
    rw [q, e] at z; cases z
  have older : ∀ {b : Addr} {o : Obj}, s.heap.get? b = some o → b ≠ dx := fun q => Nat.ne_of_lt (Nat.lt_of_lt_of_le (Heap.lt_size q) dn)
  have other : ∀ {b : Addr} {o : HO}, H b = some o → o ≠ exo a C none → b ≠ a := fun q z r => by
    rw [r, e] at q; exact z (Option.some.inj q).symm
  have U : Un X.fs [] H (L2.upd (L2.upd H dx (exd dx [(fl, y)])) a (exo a C (some dx))) s.heap h' := by
    constructor
    · exact fun b o q z _ _ => keep b o (away z) q
    · exact fun b o q z _ _ => ⟨_, keep b o (away z) q⟩
    · intro b o q z _
      rw [upd_ne (away z), upd_ne (older q)]; exact z
    · intro b o q _
      by_cases r : b = a
      · subst r; exact ⟨_, hx⟩
      · exact ⟨_, keep b o r q⟩
    · intro b xs q
      rw [upd_ne (other q fun z => exo_tup z.symm), upd_ne (ne_of_none q free)]; exact q
    · intro b o v q
      rw [upd_ne (other q fun z => exo_frz z.symm), upd_ne (ne_of_none q free)]; exact q
    · intro b ps q
      refine ⟨#[], ?_⟩
      rw [upd_ne (other q fun z => exo_tbl z.symm), upd_ne (ne_of_none q free), q]; simp
  refine h dx _ free dne (I.un (t' := tk') U fun b o q => ?_)
  by_cases r : b = a
  · subst r
    rw [upd_same] at q
    cases q
    exact exo_ok hx
  rw [upd_ne r] at q
  by_cases r2 : b = dx
  · subst r2
    rw [upd_same] at q
    cases q
    exact exd_ok n1 (relO_put (fs := []) ry fun g => True.intro)
  rw [upd_ne r2] at q
  refine (I.hok b o q).stay (fun c v hc z => keep c v ?_ z) (fun c hc => ?_) fun c xs hc => ?_
  · rcases hc with hc | hc
    · rw [hc]; exact r
    · exact other hc fun z => exo_own z.symm
  · rw [upd_ne (other hc fun z => exo_own z.symm), upd_ne (ne_of_none hc free)]; exact hc
  · rw [upd_ne (other hc fun z => exo_tup z.symm), upd_ne (ne_of_none hc free)]; exact hc
/-- such an exception, read -/
theorem exv_at (T : ExF X.K C f) (I : Inv X pins σ H s) {d : Addr} {fs : List (Str × V)} (ea : H a = some (exo a C (some d))) (ed : H d = some (exd d fs)) :
    ∃ ox od, PySem.W.InstAt s.heap a ox C (some od) ∧ ∀ n v, fs.lookup n = some v → ∃ u, PySem.W.lookIn n od = some (some u) ∧ RelV v u := by
  obtain ⟨t1, ho⟩ := exo_at I.hok ea
  obtain ⟨mA, hns, hr⟩ := exd_at I.hok ed
  obtain ⟨od, hod, hl⟩ := lookIn_ns hns
  refine ⟨_, od, ⟨ho, rfl, rfl, hod⟩, fun n v l => ?_⟩
  obtain ⟨u, hu, ru⟩ := RelO.some_of (v := v) (o := mA n) (by rw [← l]; exact hr n)
  exact ⟨u, by rw [hl, hu], ru⟩
end
def xstR (K : PySem.W.Frag) (fl : Str) (y x : V) (H : Hp) (N : Hp → Prop) : Prop := ∃ a C f, x = .ref a ∧ ExF K C f ∧ PySem.W.findIn K (.ref C) fl = some none ∧ H a = some (exo a C none) ∧
  ∀ dx, H dx = none → dx ≠ a → N (L2.upd (L2.upd H dx (exd dx [(fl, y)])) a (exo a C (some dx)))
def tXst (K : PySem.W.Frag) (fl : Str) (to te : TE) : TS := fun D σ H => te σ H fun y H1 => to σ H1 fun x H2 => xstR K fl y x H2 (D.nx σ)
def xvR (K : PySem.W.Frag) (n : Str) (x : V) (H : Hp) (Q : VK) : Prop := ∃ a C f d fs v, x = .ref a ∧ ExF K C f ∧ PySem.W.findIn K (.ref C) n = some none ∧ H a = some (exo a C (some d)) ∧ H d = some (exd d fs) ∧ fs.lookup n = some v ∧ Q v H
def tXv (K : PySem.W.Frag) (n : Str) (te : TE) : TE := fun σ H Q => te σ H fun x H1 => xvR K n x H1 Q
/-- C(e, ..), a new exception -/
def exI (C : Addr) (sp : Sp) (vs : List V) (H : Hp) (Q : VK) : Prop := vs.length ≤ 1000 ∧ ∀ a, H a = none → sp (.ref a :: vs) (L2.upd H a (exo a C none)) (fun v H2 => v = .non ∧ Q (.ref a) H2) E0
def tExv (C : Addr) (sp : Sp) (t : TA) : TE := fun σ H Q => t σ H fun vs H1 => exI C sp vs H1 Q
def rIsX (K : PySem.W.Frag) : List V → Hp → VK → Prop := fun xs H Q => ∃ a C f d fs c u b, xs = [.ref a, c] ∧ ClsV c u ∧ ExF K C f ∧ H a = some (exo a C (some d)) ∧ H d = some (exd d fs) ∧ PySem.W.kitOne K (.ref C) u = some b ∧ Q (.bl b) H
section
variable {X : Cx} {o e : Expr} {es : List Expr} {to te : TE} {ta : TA} {fl n x : Str} {p p' pos : Pos} {k : Nat} {C f : Addr} {fd : FuncData} {ps : List Str} {sp : Sp}
theorem ps_xst (ho : PE X o to) (he : PE X e te) (hs : swapsWith e (some (.Attribute o fl p')) pos.line X.env = pure false := by rfl) : PS X (.Assign [.Attribute o fl p'] e pos) (tXst X.K fl to te) := by
  refine ⟨fun pins s σ H D I h => ?_⟩
  refine plainObj_wpAny_Assign_Attribute (thn (he.run pins s σ H _ I h) fun v s1 ⟨y, H1, I1, r1, q1⟩ => thn (ho.run pins s1 σ H1 _ I1 q1) fun u s2 z => ?_) hs
  obtain ⟨x, H2, I2, r2, a, C, f, rfl, T, hn, ea, q⟩ := z
  cases (show u = Value.ref a from r2)
  exact set_first T I2 ea hn r1 fun dx s' n1 n2 J => ⟨σ, _, J, q dx n1 n2⟩
theorem pe_xv (he : PE X e te) (hb : attributeBase e n X.env (eval e X.env) = eval e X.env := by rfl) : PE X (.Attribute e n pos) (tXv X.K n te) := by
  refine ⟨fun pins s σ H Q I h => ?_⟩
  refine attr_of hb (thn (he.run pins s σ H _ I h) fun u s1 z => ?_)
  obtain ⟨x, H1, I1, rx, a, C, f, d, fs, v, rfl, T, hn, ea, ed, l, q⟩ := z
  cases (show u = Value.ref a from rx)
  obtain ⟨ox, od, J, look⟩ := exv_at T I1 ea ed
  obtain ⟨u, hu, ru⟩ := look n v l
  exact HandSPX.exc_get I1.kIn J T.ga T.gt T.sb (PySem.W.findObj_own T.hd hn rfl hu) (handed_of ru) ⟨v, H1, I1.tok _, ru, q⟩
theorem pe_exv (T : ExF X.K C f) (F : FnOk X.prog X.w X.K X.mg X.base CX0 k f fd ps sp) (hr : Room (k + 1) X.A) (hg : Gl X x) (hm : X.mg x = some (.ref C)) (hb : Binds X.K fd ps []) (ha : PA X (e :: es) ta)
    (hdb : (x == ("__debug__" : Str)) = false := by decide) (he : starEach (e :: es) X.env = (false, eval e X.env) :: starEach es X.env := by rfl) (hpl : (backTo pos (starEach es X.env)).any (·.1) = false := by rfl) :
    PE X (.Call (.Name x p) (e :: es) [] pos) (tExv C sp ta) := by
  refine ⟨fun pins s σ H Q I h => ?_⟩
  refine wpAny_Call_Name_kw (ld_glob I hg hm ?_ hdb)
  refine PySem.W.callWith_K (h₀ := X.base) I.ok.mod.kin T.kp (thn (ha.run pos pins s σ H _ I h) fun us s1 z => ?_) he hpl
  obtain ⟨vs, H1, I1, r1, hz, q1⟩ := z
  refine ⟨I1.kIn, ?_⟩
  obtain ⟨B, newId, initId, bmB, FB, hin⟩ := T.mk_
  obtain ⟨nm, N, qn, bs, bm, hdct, sn, sub, ab, col, dd, k0, k1, k2, k3, k5, hC, hT⟩ := PySem.W.excInit_of I1.kIn hin
  show wpAny _ _ (call (.ref C) us) _ _ _
  obtain ⟨hp, g, dr, tk, os⟩ := s1
  have up : hp.objs.size ≤ hp.objs.size + 1 := Nat.le_succ _
  have hq := q1 (hp.objs.size + 1) (I1.hok.fresh up)
  have keep : ∀ b o, hp.get? b = some o → ((hp.push (PySem.W.kdv_tup us)).push (PySem.HandSPX.excO C hp.objs.size)).get? b = some o := fun b o z => Heap.get?_push_of_some _ (Heap.get?_push_of_some _ z)
  have there : ((hp.push (PySem.W.kdv_tup us)).push (PySem.HandSPX.excO C hp.objs.size)).get? (hp.objs.size + 1) = some (PySem.HandSPX.excO C hp.objs.size) := by heap_get
  have I2 : Inv X pins σ (L2.upd H1 (hp.objs.size + 1) (exo (hp.objs.size + 1) C none)) ⟨(hp.push (PySem.W.kdv_tup us)).push (PySem.HandSPX.excO C hp.objs.size), g, dr, tk, os⟩ := I1.laid (t' := tk) keep up (exo_ok there)
  have r2 : Vals (V.ref (hp.objs.size + 1) :: vs) (Value.ref (hp.objs.size + 1) :: us) := .cons rfl r1
  have lus : us.length ≤ sizeLine := by
    rw [← Paired.length r1, sizeLine_eq]; omega
  have lps : (Value.ref (hp.objs.size + 1) :: us ++ []).length = ps.length := by
    have z := r2.length
    rw [F.len _ _ _ _ hq] at z
    rw [List.append_nil]; exact z.symm
  refine wpAny_call (PySem.HandSPX.call_own FB hT hC (PySem.W.looks_findIn I1.kIn T.ini) (fun self => PySem.W.bind_fn I1.kIn self (beq_iff_eq.mp T.fn)) lus
    (codeAny_mono (F.run _ X.stack _ _ ⟨Value.ref (hp.objs.size + 1) :: us, []⟩ (Value.ref (hp.objs.size + 1) :: us) _ _ E0 (hr.make C us []) (I2.env0.make C us []) (by
      have z := hb _ (Value.ref (hp.objs.size + 1) :: us) I2.kIn lps
      rw [List.append_nil] at z
      exact z) r2 hq) fun r s' z => ?_))
  cases r with
  | error x => exact z.elim
  | ok fl =>
    cases fl with
    | next => exact False.elim z
    | brk => exact False.elim z
    | cont => exact False.elim z
    | ret u =>
      obtain ⟨v, H', I3, rv, rfl, q3⟩ := I2.after z
      exact ⟨rv, ⟨V.ref (hp.objs.size + 1), H', I3, rfl, q3⟩⟩
theorem c_isX {K : PySem.W.Frag} (e : X.K = K) : CallR X (.builtin "isinstance") (rIsX K) := by
  subst e
  intro pins s σ H xs us Q I r h
  obtain ⟨a, C, f, d, fs, c, u, b, rfl, k, T, ea, ed, ek, q⟩ := h
  obtain ⟨u1, u2, rfl, r1, r2⟩ := vals2 r
  cases (show u1 = Value.ref a from r1)
  have e2 := k.eq r2
  subst e2
  obtain ⟨ox, od, J, _⟩ := exv_at T I ea ed
  exact PySem.W.kia_one (PySem.W.kitx_exc (by obtain ⟨cd, z, _⟩ := PySem.W.any_some T.hd; rw [z]; rfl) T.ga T.gt T.sb T.ca T.cn T.ct T.cm) I.kIn J ek (fun z => nomatch z) fun tk => ⟨.bl b, H, I.kept (t' := tk) fun _ _ z => z, rfl, q⟩
end
section
variable {K : PySem.W.Frag} {σ : L2.St} {H : Hp} {Q : VK} {D : Ends} {to te : TE} {ta : TA} {fl n : Str} {y v : V} {a C f d : Addr} {fs : List (Str × V)} {sp : Sp} {vs : List V}
theorem r_xst (h : te σ H fun y H1 => to σ H1 fun x H2 => xstR K fl y x H2 (D.nx σ)) : tXst K fl to te D σ H := h
theorem r_xstV {N : Hp → Prop} (T : ExF K C f) (hn : PySem.W.findIn K (.ref C) fl = some none) (e : H a = some (exo a C none))
    (h : ∀ dx H1, H dx = none → But a H H1 → H1 a = some (exo a C (some dx)) → H1 dx = some (exd dx [(fl, y)]) → N H1) : xstR K fl y (.ref a) H N :=
  ⟨a, C, f, rfl, T, hn, e, fun dx n1 n2 => h dx _ n1 (fun b o nb q => by rw [upd_ne nb, upd_ne (ne_of_none q n1)]; exact q) upd_same (by rw [upd_ne n2, upd_same])⟩
theorem r_xv (h : te σ H fun x H1 => xvR K n x H1 Q) : tXv K n te σ H Q := h
theorem r_xvV (T : ExF K C f) (hn : PySem.W.findIn K (.ref C) n = some none) (ea : H a = some (exo a C (some d))) (ed : H d = some (exd d fs)) (l : fs.lookup n = some v) (q : Q v H) : xvR K n (.ref a) H Q := ⟨a, C, f, d, fs, v, rfl, T, hn, ea, ed, l, q⟩
theorem r_exv (h : ta σ H fun vs H1 => exI C sp vs H1 Q) : tExv C sp ta σ H Q := h
theorem r_isX {u : Value} {c : V} {b : Bool} (k : ClsV c u) (T : ExF K C f) (ea : H a = some (exo a C (some d))) (ed : H d = some (exd d fs)) (ek : PySem.W.kitOne K (.ref C) u = some b) (q : Q (.bl b) H) : rIsX K [.ref a, c] H Q := ⟨a, C, f, d, fs, c, u, b, rfl, k, T, ea, ed, ek, q⟩
end
end Z
namespace Z
open PySem PySem.Spec PyProof.Rows L2
/-- one + other of two instances of a class -/
structure AddF (K : PySem.W.Frag) (C f : Addr) : Prop where
  sf : PySem.W.selfFirst K C = true
  at_ : PySem.W.findIn K (.ref C) (PySem.dunder "add") = some (some (.ref f))
  fn : PySem.W.isFn K (.ref f) = true
end Z
structure Top (K : PySem.W.Frag) (mg : Str → Option Value) where
  C_Keyed : Addr
  C_NoAnswer : Addr
  C_NoKey : Addr
  C_Unnumbered : Addr
  f_law_draw : Addr
  fd_law_draw : FuncData
  F_law_draw : Fun K "_law_draw" "_law_draw" s_law_draw f_law_draw fd_law_draw
  B_law_draw : Binds K fd_law_draw ["_law_bag_here", "_law_many"] []
  f_law_bag : Addr
  fd_law_bag : FuncData
  F_law_bag : Fun K "_law_bag" "_law_bag" s_law_bag f_law_bag fd_law_bag
  B_law_bag : Binds K fd_law_bag ["_law_script", "_law_at"] []
  f_law_number : Addr
  fd_law_number : FuncData
  F_law_number : Fun K "_law_number" "_law_number" s_law_number f_law_number fd_law_number
  B_law_number : Binds K fd_law_number ["_law_bag_here"] []
  f_is_number : Addr
  fd_is_number : FuncData
  F_is_number : Fun K "is_number" "is_number" s_is_number f_is_number fd_is_number
  B_is_number : Binds K fd_is_number ["thing"] []
  f_Unnumbered___init : Addr
  fd_Unnumbered___init : FuncData
  F_Unnumbered___init : Fun K "__init__" "Unnumbered.__init__" s_Unnumbered___init f_Unnumbered___init fd_Unnumbered___init
  B_Unnumbered___init : Binds K fd_Unnumbered___init ["self", "name"] []
  f_is_entry : Addr
  fd_is_entry : FuncData
  F_is_entry : Fun K "is_entry" "is_entry" s_is_entry f_is_entry fd_is_entry
  B_is_entry : Binds K fd_is_entry ["thing"] []
  f_is_value : Addr
  fd_is_value : FuncData
  F_is_value : Fun K "_is_value" "_is_value" s_is_value f_is_value fd_is_value
  B_is_value : Binds K fd_is_value ["thing"] []
  f_Unnumbered___eq : Addr
  fd_Unnumbered___eq : FuncData
  F_Unnumbered___eq : Fun K "__eq__" "Unnumbered.__eq__" s_Unnumbered___eq f_Unnumbered___eq fd_Unnumbered___eq
  B_Unnumbered___eq : Binds K fd_Unnumbered___eq ["self", "other"] []
  f_Unnumbered___ne : Addr
  fd_Unnumbered___ne : FuncData
  F_Unnumbered___ne : Fun K "__ne__" "Unnumbered.__ne__" s_Unnumbered___ne f_Unnumbered___ne fd_Unnumbered___ne
  B_Unnumbered___ne : Binds K fd_Unnumbered___ne ["self", "other"] []
  f_Unnumbered___lt : Addr
  fd_Unnumbered___lt : FuncData
  F_Unnumbered___lt : Fun K "__lt__" "Unnumbered.__lt__" s_Unnumbered___lt f_Unnumbered___lt fd_Unnumbered___lt
  B_Unnumbered___lt : Binds K fd_Unnumbered___lt ["self", "other"] []
  f_Unnumbered___le : Addr
  fd_Unnumbered___le : FuncData
  F_Unnumbered___le : Fun K "__le__" "Unnumbered.__le__" s_Unnumbered___le f_Unnumbered___le fd_Unnumbered___le
  B_Unnumbered___le : Binds K fd_Unnumbered___le ["self", "other"] []
  f_Unnumbered___gt : Addr
  fd_Unnumbered___gt : FuncData
  F_Unnumbered___gt : Fun K "__gt__" "Unnumbered.__gt__" s_Unnumbered___gt f_Unnumbered___gt fd_Unnumbered___gt
  B_Unnumbered___gt : Binds K fd_Unnumbered___gt ["self", "other"] []
  f_Unnumbered___ge : Addr
  fd_Unnumbered___ge : FuncData
  F_Unnumbered___ge : Fun K "__ge__" "Unnumbered.__ge__" s_Unnumbered___ge f_Unnumbered___ge fd_Unnumbered___ge
  B_Unnumbered___ge : Binds K fd_Unnumbered___ge ["self", "other"] []
  f_Unnumbered___str : Addr
  fd_Unnumbered___str : FuncData
  F_Unnumbered___str : Fun K "__str__" "Unnumbered.__str__" s_Unnumbered___str f_Unnumbered___str fd_Unnumbered___str
  B_Unnumbered___str : Binds K fd_Unnumbered___str ["self"] []
  f_Unnumbered___repr : Addr
  fd_Unnumbered___repr : FuncData
  F_Unnumbered___repr : Fun K "__repr__" "Unnumbered.__repr__" s_Unnumbered___repr f_Unnumbered___repr fd_Unnumbered___repr
  B_Unnumbered___repr : Binds K fd_Unnumbered___repr ["self"] []
  f_NoKey___init : Addr
  fd_NoKey___init : FuncData
  F_NoKey___init : Fun K "__init__" "NoKey.__init__" s_NoKey___init f_NoKey___init fd_NoKey___init
  B_NoKey___init : Binds K fd_NoKey___init ["self", "key"] []
  f_law_pick : Addr
  fd_law_pick : FuncData
  F_law_pick : Fun K "_law_pick" "_law_pick" s_law_pick f_law_pick fd_law_pick
  B_law_pick : Binds K fd_law_pick ["_law_bag_here", "_law_some"] []
  f_law_keys : Addr
  fd_law_keys : FuncData
  F_law_keys : Fun K "_law_keys" "_law_keys" s_law_keys f_law_keys fd_law_keys
  B_law_keys : Binds K fd_law_keys ["_law_bag_here", "_law_most"] []
  f_Keyed___init : Addr
  fd_Keyed___init : FuncData
  F_Keyed___init : Fun K "__init__" "Keyed.__init__" s_Keyed___init f_Keyed___init fd_Keyed___init
  B_Keyed___init : Binds K fd_Keyed___init ["self"] []
  f_Keyed_worths : Addr
  fd_Keyed_worths : FuncData
  F_Keyed_worths : Fun K "worths" "Keyed.worths" s_Keyed_worths f_Keyed_worths fd_Keyed_worths
  B_Keyed_worths : Binds K fd_Keyed_worths ["self"] []
  f_Keyed_total : Addr
  fd_Keyed_total : FuncData
  F_Keyed_total : Fun K "total" "Keyed.total" s_Keyed_total f_Keyed_total fd_Keyed_total
  B_Keyed_total : Binds K fd_Keyed_total ["self"] []
  f_Keyed___getitem : Addr
  fd_Keyed___getitem : FuncData
  F_Keyed___getitem : Fun K "__getitem__" "Keyed.__getitem__" s_Keyed___getitem f_Keyed___getitem fd_Keyed___getitem
  B_Keyed___getitem : Binds K fd_Keyed___getitem ["self", "at"] []
  f_Keyed___setitem : Addr
  fd_Keyed___setitem : FuncData
  F_Keyed___setitem : Fun K "__setitem__" "Keyed.__setitem__" s_Keyed___setitem f_Keyed___setitem fd_Keyed___setitem
  B_Keyed___setitem : Binds K fd_Keyed___setitem ["self", "at", "worth"] []
  f_Keyed___contains : Addr
  fd_Keyed___contains : FuncData
  F_Keyed___contains : Fun K "__contains__" "Keyed.__contains__" s_Keyed___contains f_Keyed___contains fd_Keyed___contains
  B_Keyed___contains : Binds K fd_Keyed___contains ["self", "x"] []
  f_Keyed___len : Addr
  fd_Keyed___len : FuncData
  F_Keyed___len : Fun K "__len__" "Keyed.__len__" s_Keyed___len f_Keyed___len fd_Keyed___len
  B_Keyed___len : Binds K fd_Keyed___len ["self"] []
  f_Keyed___iter : Addr
  fd_Keyed___iter : FuncData
  F_Keyed___iter : Fun K "__iter__" "Keyed.__iter__" s_Keyed___iter f_Keyed___iter fd_Keyed___iter
  B_Keyed___iter : Binds K fd_Keyed___iter ["self"] []
  f_law_is_int : Addr
  fd_law_is_int : FuncData
  F_law_is_int : Fun K "_law_is_int" "_law_is_int" s_law_is_int f_law_is_int fd_law_is_int
  B_law_is_int : Binds K fd_law_is_int ["_law_thing"] []
  f_law_place : Addr
  fd_law_place : FuncData
  F_law_place : Fun K "_law_place" "_law_place" s_law_place f_law_place fd_law_place
  B_law_place : Binds K fd_law_place ["_law_keys_here", "_law_key"] []
  f_law_missing : Addr
  fd_law_missing : FuncData
  F_law_missing : Fun K "_law_missing" "_law_missing" s_law_missing f_law_missing fd_law_missing
  B_law_missing : Binds K fd_law_missing ["_law_table", "_law_key"] []
  f_law_says : Addr
  fd_law_says : FuncData
  F_law_says : Fun K "_law_says" "_law_says" s_law_says f_law_says fd_law_says
  B_law_says : Binds K fd_law_says ["_law_told", "_law_due"] []
  f_law_shows : Addr
  fd_law_shows : FuncData
  F_law_shows : Fun K "_law_shows" "_law_shows" s_law_shows f_law_shows fd_law_shows
  B_law_shows : Binds K fd_law_shows ["_law_table", "_law_keys_here", "_law_worths"] []
  f_law : Addr
  fd_law : FuncData
  F_law : Fun K "law" "law" s_law f_law fd_law
  B_law : Binds K fd_law ["_law_script"] []
  mgC_Keyed : mg "Keyed" = some (.ref C_Keyed)
  cl_Keyed : Cls K C_Keyed
  in_Keyed : Z.Inst K C_Keyed
  mk_Keyed : Mk K C_Keyed f_Keyed___init
  mgC_NoAnswer : mg "NoAnswer" = some (.ref C_NoAnswer)
  mgC_NoKey : mg "NoKey" = some (.ref C_NoKey)
  ex_NoKey : Z.ExF K C_NoKey f_NoKey___init
  mgC_Unnumbered : mg "Unnumbered" = some (.ref C_Unnumbered)
  cl_Unnumbered : Cls K C_Unnumbered
  in_Unnumbered : Z.Inst K C_Unnumbered
  mk_Unnumbered : Mk K C_Unnumbered f_Unnumbered___init
  me_Keyed___contains : Meth K C_Keyed "__contains__" f_Keyed___contains
  me_Keyed___getitem : Meth K C_Keyed "__getitem__" f_Keyed___getitem
  me_Keyed___iter : Meth K C_Keyed "__iter__" f_Keyed___iter
  me_Keyed___len : Meth K C_Keyed "__len__" f_Keyed___len
  me_Keyed___setitem : Meth K C_Keyed "__setitem__" f_Keyed___setitem
  me_Keyed_total : Meth K C_Keyed "total" f_Keyed_total
  me_Keyed_worths : Meth K C_Keyed "worths" f_Keyed_worths
  me_Unnumbered___eq : Meth K C_Unnumbered "__eq__" f_Unnumbered___eq
  nq_Keyed : PySem.W.noSeq K C_Keyed = true
  no_Keyed__held : NoAttr K C_Keyed "_held"
  no_Keyed__worths : NoAttr K C_Keyed "_worths"
  no_NoKey_key : NoAttr K C_NoKey "key"
  no_Unnumbered_name : NoAttr K C_Unnumbered "name"
  mg_law_draw : mg "_law_draw" = some (.ref f_law_draw)
  mg_law_bag : mg "_law_bag" = some (.ref f_law_bag)
  mg_law_number : mg "_law_number" = some (.ref f_law_number)
  mg_is_number : mg "is_number" = some (.ref f_is_number)
  mg_is_entry : mg "is_entry" = some (.ref f_is_entry)
  mg_is_value : mg "_is_value" = some (.ref f_is_value)
  mg_law_pick : mg "_law_pick" = some (.ref f_law_pick)
  mg_law_keys : mg "_law_keys" = some (.ref f_law_keys)
  mg_law_is_int : mg "_law_is_int" = some (.ref f_law_is_int)
  mg_law_place : mg "_law_place" = some (.ref f_law_place)
  mg_law_missing : mg "_law_missing" = some (.ref f_law_missing)
  mg_law_says : mg "_law_says" = some (.ref f_law_says)
  mg_law_shows : mg "_law_shows" = some (.ref f_law_shows)
  mg_law : mg "law" = some (.ref f_law)
  z_LookupError : mg "LookupError" = none
  z_abs : mg "abs" = none
  z_all : mg "all" = none
  z_any : mg "any" = none
  z_bool : mg "bool" = none
  z_int : mg "int" = none
  z_isinstance : mg "isinstance" = none
  z_iter : mg "iter" = none
  z_len : mg "len" = none
  z_list : mg "list" = none
  z_max : mg "max" = none
  z_min : mg "min" = none
  z_range : mg "range" = none
  z_sum : mg "sum" = none
  ki_NoKey_LookupError : PySem.W.kitOne K (.ref C_NoKey) (.type "LookupError") = some true
  ki_NoKey_NoAnswer : PySem.W.kitOne K (.ref C_NoKey) (.ref C_NoAnswer) = some false
  ki_NoneType_Unnumbered : PySem.W.kitOne K (.type "NoneType") (.ref C_Unnumbered) = some false
  ki_bool_Unnumbered : PySem.W.kitOne K (.type "bool") (.ref C_Unnumbered) = some false
  ki_int_Unnumbered : PySem.W.kitOne K (.type "int") (.ref C_Unnumbered) = some false
  ki_str_Unnumbered : PySem.W.kitOne K (.type "str") (.ref C_Unnumbered) = some false
  ki_list_Unnumbered : PySem.W.kitOne K (.type "list") (.ref C_Unnumbered) = some false
  ki_tuple_Unnumbered : PySem.W.kitOne K (.type "tuple") (.ref C_Unnumbered) = some false
  ki_Keyed_Unnumbered : PySem.W.kitOne K (.ref C_Keyed) (.ref C_Unnumbered) = some false
  ki_Unnumbered_Unnumbered : PySem.W.kitOne K (.ref C_Unnumbered) (.ref C_Unnumbered) = some true
  ki_Keyed_bool : PySem.W.kitOne K (.ref C_Keyed) (.type "bool") = some false
  ki_Unnumbered_bool : PySem.W.kitOne K (.ref C_Unnumbered) (.type "bool") = some false
  ki_Keyed_int : PySem.W.kitOne K (.ref C_Keyed) (.type "int") = some false
  ki_Unnumbered_int : PySem.W.kitOne K (.ref C_Unnumbered) (.type "int") = some false
  ki_Keyed_list : PySem.W.kitOne K (.ref C_Keyed) (.type "list") = some false
  ki_Unnumbered_list : PySem.W.kitOne K (.ref C_Unnumbered) (.type "list") = some false
theorem kb_NoneType_int : kitB "NoneType" "int" = some false := by decide +kernel
theorem kb_NoneType_bool : kitB "NoneType" "bool" = some false := by decide +kernel
theorem kb_NoneType_list : kitB "NoneType" "list" = some false := by decide +kernel
theorem kb_bool_int : kitB "bool" "int" = some true := by decide +kernel
theorem kb_bool_bool : kitB "bool" "bool" = some true := by decide +kernel
theorem kb_bool_list : kitB "bool" "list" = some false := by decide +kernel
theorem kb_int_int : kitB "int" "int" = some true := by decide +kernel
theorem kb_int_bool : kitB "int" "bool" = some false := by decide +kernel
theorem kb_int_list : kitB "int" "list" = some false := by decide +kernel
theorem kb_str_int : kitB "str" "int" = some false := by decide +kernel
theorem kb_str_bool : kitB "str" "bool" = some false := by decide +kernel
theorem kb_str_list : kitB "str" "list" = some false := by decide +kernel
theorem kb_list_int : kitB "list" "int" = some false := by decide +kernel
theorem kb_list_bool : kitB "list" "bool" = some false := by decide +kernel
theorem kb_list_list : kitB "list" "list" = some true := by decide +kernel
theorem kb_tuple_int : kitB "tuple" "int" = some false := by decide +kernel
theorem kb_tuple_bool : kitB "tuple" "bool" = some false := by decide +kernel
theorem kb_tuple_list : kitB "tuple" "list" = some false := by decide +kernel
local macro_rules | `(tactic| walk_at "ki") => `(tactic| first
  | assumption
  | exact kit_ty kb_NoneType_int
  | exact kit_ty kb_NoneType_bool
  | exact kit_ty kb_NoneType_list
  | exact kit_ty kb_bool_int
  | exact kit_ty kb_bool_bool
  | exact kit_ty kb_bool_list
  | exact kit_ty kb_int_int
  | exact kit_ty kb_int_bool
  | exact kit_ty kb_int_list
  | exact kit_ty kb_str_int
  | exact kit_ty kb_str_bool
  | exact kit_ty kb_str_list
  | exact kit_ty kb_list_int
  | exact kit_ty kb_list_bool
  | exact kit_ty kb_list_list
  | exact kit_ty kb_tuple_int
  | exact kit_ty kb_tuple_bool
  | exact kit_ty kb_tuple_list
  | exact Top.ki_NoneType_Unnumbered (by assumption)
  | exact Top.ki_bool_Unnumbered (by assumption)
  | exact Top.ki_int_Unnumbered (by assumption)
  | exact Top.ki_str_Unnumbered (by assumption)
  | exact Top.ki_list_Unnumbered (by assumption)
  | exact Top.ki_tuple_Unnumbered (by assumption)
  | exact Top.ki_Keyed_Unnumbered (by assumption)
  | exact Top.ki_Unnumbered_Unnumbered (by assumption)
  | exact Top.ki_Keyed_bool (by assumption)
  | exact Top.ki_Unnumbered_bool (by assumption)
  | exact Top.ki_Keyed_int (by assumption)
  | exact Top.ki_Unnumbered_int (by assumption)
  | exact Top.ki_Keyed_list (by assumption)
  | exact Top.ki_Unnumbered_list (by assumption))
local macro_rules | `(tactic| walk_at "no") => `(tactic| first
  | exact Top.no_Keyed__held (by assumption)
  | exact Top.no_Keyed__worths (by assumption)
  | exact Top.no_NoKey_key (by assumption)
  | exact Top.no_Unnumbered_name (by assumption)
  | assumption)
local macro_rules | `(tactic| walk_at "cl") => `(tactic| first
  | exact Top.cl_Keyed (by assumption)
  | exact Top.cl_Unnumbered (by assumption)
  | assumption)
local macro_rules | `(tactic| walk_at "ty") => `(tactic| first
  | assumption
  | exact .base (.int _)
  | exact .base .non
  | exact .base (.bl _)
  | exact .base (.str _)
  | exact .base (.lst (by walk_at "hp"))
  | exact .base (.tup (by walk_at "hp"))
  | exact Z.ty_ins (Top.cl_Keyed (by assumption)) (Top.in_Keyed (by assumption)) (by walk_at "hp")
  | exact Z.ty_ins (Top.cl_Unnumbered (by assumption)) (Top.in_Unnumbered (by assumption)) (by walk_at "hp"))

/-! what stands at an address; which way a test goes; one step; as many as go -/
local macro_rules | `(tactic| walk_at "hp") => `(tactic| first
  | assumption
  | exact upd_same
  | (refine (‹Same _ _› : Same _ _) _ _ ?_; walk_at "hp")
  | (refine (‹Z.But _ _ _› : Z.But _ _ _) _ _ ?_ ?_; (first | assumption | (apply Ne.symm; assumption) | exact ne_of_none (by assumption) (by assumption)); walk_at "hp"))
local macro_rules | `(tactic| walk_at "sq") => `(tactic| first
  | assumption
  | exact SqL.of (by walk_at "hp")
  | (refine Same.seq (by assumption) ?_; walk_at "sq")
  | (refine Z.But.seq (by assumption) (by assumption) ?_; walk_at "sq"))
local macro_rules | `(tactic| walk_at "look") => `(tactic| first | assumption | exact Z.look1 | (simp [List.lookup]; done))
local macro_rules | `(tactic| walk_at "side") => `(tactic| first
  | (show (0 : Int) < _; omega)
  | (show CDiv _ _; exact ⟨by omega, by omega⟩)
  | (show CMul _ _; first | exact .inl ⟨by omega, by omega⟩ | exact .inr ⟨by omega, by omega⟩)
  | (show CPow _ _; exact ⟨by omega, by omega, by omega⟩))
local macro_rules | `(tactic| walk_at "st") => `(tactic| first
  | ((with_reducible refine' Z.r_var ?e ?_); (case e => exact rfl))
  | with_reducible refine Z.r_op ?_
  | with_reducible refine Z.r_c ?_
  | with_reducible refine Z.r_cons ?_
  | with_reducible refine Z.r_nil ?_
  | with_reducible refine Z.r_seq ?_
  | with_reducible refine Z.r_asg ?_
  | with_reducible refine Z.r_call ?_
  | with_reducible refine Z.r_cb ?_
  | with_reducible refine Z.r_asgG ?_
  | with_reducible refine Z.r_gName ?_
  | with_reducible refine Z.r_gSub ?_
  | with_reducible refine Z.r_ret ?_
  | with_reducible refine Z.r_retN ?_
  | with_reducible refine Z.r_next ?_
  | with_reducible refine Z.r_drop ?_
  | with_reducible refine Z.r_if ?_
  | with_reducible refine Z.r_par ?_
  | with_reducible refine Z.r_par3 ?_
  | with_reducible refine Z.r_vs3 ?_
  | with_reducible refine Z.r_gCons ?_
  | with_reducible refine Z.r_gNil ?_
  | ((with_reducible refine' Z.r_gTup ?e ?hn ?_); (case e => walk_at "hp"); (case hn => exact rfl))
  | with_reducible refine Z.r_vs2 ?_
  | ((with_reducible refine' Z.r_aug ?e ?_); (case e => exact rfl))
  | with_reducible refine Z.r_un ?_
  | with_reducible refine Z.r_test ?_
  | with_reducible refine Z.r_tB ?_
  | with_reducible refine Z.r_bl ?_
  | with_reducible refine Z.r_and ?_
  | with_reducible refine Z.r_or ?_
  | with_reducible refine Z.r_not ?_
  | with_reducible refine Z.r_andV ?_
  | with_reducible refine Z.r_orV ?_
  | with_reducible refine Z.r_notV ?_
  | with_reducible refine Z.r_ifE ?_
  | with_reducible refine Z.r_tup ?_
  | with_reducible refine Z.r_lst ?_
  | with_reducible refine Z.r_fld ?_
  | ((with_reducible refine' Z.r_fldV ?e ?c ?n ?l ?_); (case e => walk_at "hp"); (case c => walk_at "cl"); (case n => walk_at "no"); (case l => walk_at "look"))
  | ((with_reducible refine' Z.r_isiT ?ty ?k ?_); (case ty => walk_at "ty"); (case k => walk_at "ki"))
  | ((with_reducible refine' Z.r_isiC ?ty ?k ?_); (case ty => walk_at "ty"); (case k => walk_at "ki"))
  | with_reducible refine Z.r_make ?_
  | with_reducible refine Z.r_dget ?_
  | with_reducible refine Z.r_dput ?_
  | with_reducible refine Z.r_disp ?_
  | with_reducible refine Z.r_pnil ?_
  | with_reducible refine Z.r_pcons ?_
  | with_reducible refine Z.r_sfld ?_
  | ((with_reducible refine' Z.r_stF ?e ?c ?n ?l ?_); (case e => walk_at "hp"); (case c => walk_at "cl"); (case n => walk_at "no"); (case l => exact Nat.le_of_ble_eq_true rfl))
  | ((with_reducible refine' Z.r_nwL ?z ?_); (case z => exact Nat.le_of_ble_eq_true rfl))
  | ((with_reducible refine' Z.r_nwT ?z ?_); (case z => exact Nat.le_of_ble_eq_true rfl))
  | with_reducible refine Z.r_I0 ?_
  | with_reducible refine Z.r_U ?_
  | with_reducible refine Z.r_forRng ?_
  | with_reducible refine Z.r_forL0 ?_
  | with_reducible refine Z.r_lcRng ?_
  | with_reducible refine Z.r_lcLst ?_
  | with_reducible refine Z.r_sl ?_
  | with_reducible refine Z.r_part ?_
  | with_reducible refine Z.r_prt ?_
  | with_reducible refine Z.r_nopart ?_
  | with_reducible refine Z.r_bmA ?_
  | ((with_reducible refine' Z.r_tyL ?e ?_); (case e => walk_at "hp"))
  | with_reducible refine Z.r_lcFLst ?_
  | ((with_reducible refine' Z.r_I ?c ?_); (case c => walk_at "side"))
  | with_reducible refine Z.r_int1 ?_
  | with_reducible refine Z.r_abs ?_
  | with_reducible refine Z.r_max2 ?_
  | with_reducible refine Z.r_min2 ?_
  | ((with_reducible refine' Z.r_lenL ?e ?_); (case e => walk_at "sq"))
  | with_reducible refine Z.r_isN ?_
  | with_reducible refine Z.r_notN ?_
  | with_reducible refine Z.r_eqI ?_
  | with_reducible refine Z.r_eqB ?_
  | with_reducible refine Z.r_eqS ?_
  | with_reducible refine Z.r_neI ?_
  | with_reducible refine Z.r_neB ?_
  | with_reducible refine Z.r_neS ?_
  | ((with_reducible refine' Z.r_ixL ?h ?e ?_); (case h => walk_at "sq"); (case e => first | assumption | exact rfl))
  | ((with_reducible refine' Z.r_ixT ?h ?e ?_); (case h => exact SqT.of (by walk_at "hp")); (case e => first | assumption | exact rfl))
  | ((with_reducible refine' Z.r_setL ?h ?e ?_); (case h => walk_at "hp"); (case e => exact rfl))
  | ((with_reducible refine Z.yes ?_ ?_); (first | exact rfl | decide +kernel))
  | ((with_reducible refine Z.no ?_ ?_); (first | exact rfl | decide +kernel))
  | walk_at "call")
local macro_rules | `(tactic| walk_at "go") => `(tactic| repeat (first
  | ((with_reducible refine' Z.r_var ?e ?_); (case e => exact rfl))
  | with_reducible refine Z.r_op ?_
  | with_reducible refine Z.r_c ?_
  | with_reducible refine Z.r_cons ?_
  | with_reducible refine Z.r_nil ?_
  | with_reducible refine Z.r_seq ?_
  | with_reducible refine Z.r_asg ?_
  | with_reducible refine Z.r_call ?_
  | with_reducible refine Z.r_cb ?_
  | with_reducible refine Z.r_asgG ?_
  | with_reducible refine Z.r_gName ?_
  | with_reducible refine Z.r_gSub ?_
  | with_reducible refine Z.r_ret ?_
  | with_reducible refine Z.r_retN ?_
  | with_reducible refine Z.r_next ?_
  | with_reducible refine Z.r_drop ?_
  | with_reducible refine Z.r_if ?_
  | with_reducible refine Z.r_par ?_
  | with_reducible refine Z.r_par3 ?_
  | with_reducible refine Z.r_vs3 ?_
  | with_reducible refine Z.r_gCons ?_
  | with_reducible refine Z.r_gNil ?_
  | ((with_reducible refine' Z.r_gTup ?e ?hn ?_); (case e => walk_at "hp"); (case hn => exact rfl))
  | with_reducible refine Z.r_vs2 ?_
  | ((with_reducible refine' Z.r_aug ?e ?_); (case e => exact rfl))
  | with_reducible refine Z.r_un ?_
  | with_reducible refine Z.r_test ?_
  | with_reducible refine Z.r_tB ?_
  | with_reducible refine Z.r_bl ?_
  | with_reducible refine Z.r_and ?_
  | with_reducible refine Z.r_or ?_
  | with_reducible refine Z.r_not ?_
  | with_reducible refine Z.r_andV ?_
  | with_reducible refine Z.r_orV ?_
  | with_reducible refine Z.r_notV ?_
  | with_reducible refine Z.r_ifE ?_
  | with_reducible refine Z.r_tup ?_
  | with_reducible refine Z.r_lst ?_
  | with_reducible refine Z.r_fld ?_
  | ((with_reducible refine' Z.r_fldV ?e ?c ?n ?l ?_); (case e => walk_at "hp"); (case c => walk_at "cl"); (case n => walk_at "no"); (case l => walk_at "look"))
  | ((with_reducible refine' Z.r_isiT ?ty ?k ?_); (case ty => walk_at "ty"); (case k => walk_at "ki"))
  | ((with_reducible refine' Z.r_isiC ?ty ?k ?_); (case ty => walk_at "ty"); (case k => walk_at "ki"))
  | with_reducible refine Z.r_make ?_
  | with_reducible refine Z.r_dget ?_
  | with_reducible refine Z.r_dput ?_
  | with_reducible refine Z.r_disp ?_
  | with_reducible refine Z.r_pnil ?_
  | with_reducible refine Z.r_pcons ?_
  | with_reducible refine Z.r_sfld ?_
  | ((with_reducible refine' Z.r_stF ?e ?c ?n ?l ?_); (case e => walk_at "hp"); (case c => walk_at "cl"); (case n => walk_at "no"); (case l => exact Nat.le_of_ble_eq_true rfl))
  | ((with_reducible refine' Z.r_nwL ?z ?_); (case z => exact Nat.le_of_ble_eq_true rfl))
  | ((with_reducible refine' Z.r_nwT ?z ?_); (case z => exact Nat.le_of_ble_eq_true rfl))
  | with_reducible refine Z.r_I0 ?_
  | with_reducible refine Z.r_U ?_
  | with_reducible refine Z.r_forRng ?_
  | with_reducible refine Z.r_forL0 ?_
  | with_reducible refine Z.r_lcRng ?_
  | with_reducible refine Z.r_lcLst ?_
  | with_reducible refine Z.r_sl ?_
  | with_reducible refine Z.r_part ?_
  | with_reducible refine Z.r_prt ?_
  | with_reducible refine Z.r_nopart ?_
  | with_reducible refine Z.r_bmA ?_
  | ((with_reducible refine' Z.r_tyL ?e ?_); (case e => walk_at "hp"))
  | with_reducible refine Z.r_lcFLst ?_
  | ((with_reducible refine' Z.r_I ?c ?_); (case c => walk_at "side"))
  | with_reducible refine Z.r_int1 ?_
  | with_reducible refine Z.r_abs ?_
  | with_reducible refine Z.r_max2 ?_
  | with_reducible refine Z.r_min2 ?_
  | ((with_reducible refine' Z.r_lenL ?e ?_); (case e => walk_at "sq"))
  | with_reducible refine Z.r_isN ?_
  | with_reducible refine Z.r_notN ?_
  | with_reducible refine Z.r_eqI ?_
  | with_reducible refine Z.r_eqB ?_
  | with_reducible refine Z.r_eqS ?_
  | with_reducible refine Z.r_neI ?_
  | with_reducible refine Z.r_neB ?_
  | with_reducible refine Z.r_neS ?_
  | ((with_reducible refine' Z.r_ixL ?h ?e ?_); (case h => walk_at "sq"); (case e => first | assumption | exact rfl))
  | ((with_reducible refine' Z.r_ixT ?h ?e ?_); (case h => exact SqT.of (by walk_at "hp")); (case e => first | assumption | exact rfl))
  | ((with_reducible refine' Z.r_setL ?h ?e ?_); (case h => walk_at "hp"); (case e => exact rfl))
  | ((with_reducible refine Z.yes ?_ ?_); (first | exact rfl | decide +kernel))
  | ((with_reducible refine Z.no ?_ ?_); (first | exact rfl | decide +kernel))
  | walk_at "call"))
local macro_rules | `(tactic| walk_at "bag") => `(tactic| first
  | assumption
  | (refine Bag.mono (by omega) ?_; assumption)
  | (refine Bag.same (by assumption) ?_; walk_at "bag")
  | (refine Bag.but (by assumption) (by first | assumption | (apply Ne.symm; assumption)) ?_; walk_at "bag"))
local macro_rules | `(tactic| walk_at "len") => `(tactic| exact Z.szle (Nat.le_of_ble_eq_true rfl))
local macro_rules | `(tactic| walk_at "draw") => `(tactic| (refine' ⟨_, _, _, rfl, ?bg, ?m0, ?m1, ?n1, ?_⟩; (case bg => walk_at "bag"); (case m0 => omega); (case m1 => omega); (case n1 => omega)))
/-! the bag of a script's cell, its draws -/
/-- a bag: what is left of the digits, the seed, the number of draws (at most n) -/
def Bag (H : Hp) (b : Addr) (n : Nat) : Prop := ∃ g s k : Int, H b = some (.lst [.int g, .int s, .int k]) ∧ 0 ≤ g ∧ 0 ≤ s ∧ s < 1099511627776 ∧ 0 ≤ k ∧ k ≤ n
theorem Bag.mono {H : Hp} {b : Addr} {n m : Nat} (h : n ≤ m) (x : Bag H b n) : Bag H b m := by
  obtain ⟨g, s, k, h1, h2, h3, h4, h5, h6⟩ := x
  exact ⟨g, s, k, h1, h2, h3, h4, h5, by omega⟩
theorem Bag.same {H H' : Hp} {b : Addr} {n : Nat} (e : Same H H') (x : Bag H b n) : Bag H' b n := by
  obtain ⟨g, s, k, h1, h2⟩ := x
  exact ⟨g, s, k, e _ _ h1, h2⟩
theorem Bag.ne {H : Hp} {b p : Addr} {n : Nat} (x : Bag H b n) (h : H p = none) : p ≠ b := fun e => by
  obtain ⟨g, s, k, h1, _⟩ := x
  rw [e, h1] at h; cases h
theorem Bag.ne' {H : Hp} {b p : Addr} {n : Nat} {o : HO} (x : Bag H b n) (h : H p = some o) (d : ∀ xs, o ≠ .lst xs) : p ≠ b := fun e => by
  obtain ⟨g, s, k, h1, _⟩ := x
  rw [e, h1] at h; cases h; exact d _ rfl
theorem Bag.but {H H' : Hp} {b c : Addr} {n : Nat} (e : Z.But c H H') (ne : b ≠ c) (x : Bag H b n) : Bag H' b n := by
  obtain ⟨g, s, k, h1, h2⟩ := x
  exact ⟨g, s, k, e _ _ ne h1, h2⟩
local macro_rules | `(tactic| walk_at "bag") => `(tactic| first
  | assumption
  | (refine Bag.same (by assumption) ?_; walk_at "bag")
  | (refine Bag.but (by assumption) (by first | assumption | (apply Ne.symm; assumption)) ?_; walk_at "bag")
  | (refine Bag.mono (by omega) ?_; assumption))
/-- a word of one to eight small letters -/
def Word (x : Str) : Prop := 1 ≤ x.length ∧ x.length ≤ 8 ∧ ∀ c ∈ x.cps.toList, 97 ≤ c ∧ c ≤ 122
theorem Word.ok {x : Str} (h : Word x) : PyData.strOk x = true := by
  unfold PyData.strOk
  rw [Array.all_eq_true']
  intro c hc
  have := (h.2.2 c (Array.mem_toList_iff.mpr hc)).2
  exact decide_eq_true (by omega)
/-- a beginning of a word, of at most n letters -/
def Wd (n : Nat) (x : Str) : Prop := x.length = n ∧ ∀ c ∈ x.cps.toList, 97 ≤ c ∧ c ≤ 122
theorem Wd.add {n c : Nat} {x : Str} (h : Wd n x) (h1 : 97 ≤ c) (h2 : c ≤ 122) : Wd (n + 1) (x ++ (⟨#[c]⟩ : Str)) := by
  obtain ⟨h3, h4⟩ := h
  have e : (x ++ (⟨#[c]⟩ : Str)).cps = x.cps ++ #[c] := rfl
  constructor
  · show (x ++ (⟨#[c]⟩ : Str)).cps.size = n + 1
    rw [e, Array.size_append]
    have : x.cps.size = n := h3
    rw [this]; rfl
  · intro d hd
    rw [e, Array.toList_append, List.mem_append] at hd
    rcases hd with hd | hd
    · exact h4 d hd
    · have : d = c := by simpa using hd
      omega

/-- a value of the law's: nothing, an unnumbered value (an instance of the class at C) of this name, a number -/
inductive Tag where
  | non | mark (n : Str) | num (i : Int)
  deriving DecidableEq
def Rep (C : Addr) (H : Hp) (x : V) : Tag → Prop
  | .non => x = .non
  | .num i => x = .int i
  | .mark n => ∃ a dx, x = .ref a ∧ H a = some (.ins C dx [("name", .str n)])
theorem Rep.same {C : Addr} {H H' : Hp} {x : V} {t : Tag} (e : Same H H') (h : Rep C H x t) : Rep C H' x t := by
  cases t with
  | non => exact h
  | num i => exact h
  | mark n =>
    obtain ⟨a, dx, h1, h2⟩ := h
    exact ⟨a, dx, h1, e _ _ h2⟩
theorem Rep.but {C b : Addr} {H H' : Hp} {x : V} {t : Tag} {xs : List V} (e : Z.But b H H') (hb : H b = some (.lst xs)) (h : Rep C H x t) : Rep C H' x t := by
  cases t with
  | non => exact h
  | num i => exact h
  | mark n =>
    obtain ⟨a, dx, h1, h2⟩ := h
    exact ⟨a, dx, h1, e _ _ (ne_of h2 hb (by intro z; cases z)) h2⟩
/-! operators and comparisons of instances of an own class -/
namespace Z
open PySem PySem.Spec PyProof.Rows L2
section
variable {prog : Program} {w : World} {A : Around} {E : Value → Shared → Prop} {s : Shared} {x : Addr} {o : Obj} {a : Int} {t : Tok}
/-- what a built-in's operation on ints says of an instance -/
def Declines (B : Builtin) : Prop := ∀ (prog : Program) (w : World) (A : Around) (E : Value → Shared → Prop) (s : Shared) (x : Addr) (o : Obj) (a : Int) (t : Tok) (Q : Fin → Shared → Prop),
  s.heap.get? x = some o → o.data = .plain → Q (.done (.ret .notImplemented)) s → wpAny (model prog w) A (B ⟨[.int a t, .ref x], []⟩) Q E s
theorem dec_lt : Declines Builtin.«int.__lt__» := fun prog w A E s x o a t Q hx hd h => by
  obtain ⟨oc, od, data, sl⟩ := o
  simp only at hd
  subst hd
  obtain ⟨hp, g, d, tk, os⟩ := s
  wp_walk using AutoSeq1.wpAny_loadPart' hx
  exact h
theorem dec_le : Declines Builtin.«int.__le__» := fun prog w A E s x o a t Q hx hd h => by
  obtain ⟨oc, od, data, sl⟩ := o
  simp only at hd
  subst hd
  obtain ⟨hp, g, d, tk, os⟩ := s
  wp_walk using AutoSeq1.wpAny_loadPart' hx
  exact h
theorem dec_gt : Declines Builtin.«int.__gt__» := fun prog w A E s x o a t Q hx hd h => by
  obtain ⟨oc, od, data, sl⟩ := o
  simp only at hd
  subst hd
  obtain ⟨hp, g, d, tk, os⟩ := s
  wp_walk using AutoSeq1.wpAny_loadPart' hx
  exact h
theorem dec_ge : Declines Builtin.«int.__ge__» := fun prog w A E s x o a t Q hx hd h => by
  obtain ⟨oc, od, data, sl⟩ := o
  simp only at hd
  subst hd
  obtain ⟨hp, g, d, tk, os⟩ := s
  wp_walk using AutoSeq1.wpAny_loadPart' hx
  exact h
theorem dec_eq : Declines Builtin.«int.__eq__» := fun prog w A E s x o a t Q hx hd h => by
  obtain ⟨oc, od, data, sl⟩ := o
  simp only at hd
  subst hd
  obtain ⟨hp, g, d, tk, os⟩ := s
  wp_walk using AutoSeq1.wpAny_loadPart' hx
  exact h
theorem dec_ne : Declines Builtin.«int.__ne__» := fun prog w A E s x o a t Q hx hd h => by
  obtain ⟨oc, od, data, sl⟩ := o
  simp only at hd
  subst hd
  obtain ⟨hp, g, d, tk, os⟩ := s
  wp_walk using AutoSeq1.wpAny_loadPart' hx
  exact h
theorem dec_call {T : String} {name : Str} {id : String} {B : Builtin} (slot : Slot "int" name id) (entry : entryFor table id = some B) (args : ∀ a b, argsOk id ⟨[a, b], []⟩) (D : Declines B) {Q : Value → Shared → Prop}
    (hx : s.heap.get? x = some o) (hd : o.data = .plain) (h : Q .notImplemented s) : wpAny (model prog w) A (call (.builtin id) [.int a t, .ref x]) Q E s :=
  GQ.call_here slot (typeIs_int s a t) entry (args _ _) (D _ _ _ _ _ _ _ _ _ _ hx hd h)
/-- an int, a comparison, an instance: the instance's reflected def is asked -/
theorem cmp_int {K : PySem.W.Frag} {C f : Addr} {od : Option Obj} {op : CmpOp} {id : String} {B : Builtin} {Q : Value → Shared → Prop} (hu : A.units < cLine) (X : K.In s.heap) (I : PySem.W.InstAt s.heap x o C od) (hd : o.data = .plain)
    (slot : Slot "int" (cmpInfo op).2.1 id) (entry : entryFor table id = some B) (args : ∀ a b, argsOk id ⟨[a, b], []⟩) (D : Declines B)
    (sub : PySem.W.subIn K (.ref C) (.type "int") = some false) (hs : PySem.W.findIn K (.ref C) (cmpInfo op).2.2 = some (some (.ref f))) (hf : PySem.W.isFn K (.ref f) = true)
    (h : wpAny (model prog w) A (call (.ref f) [.ref x, .int a t]) (PySem.W.CmpBack Q) E s) : wpAny (model prog w) A (richCompare op (.int a t) (.ref x)) Q E s := by
  rcases hi : cmpInfo op with ⟨sym, nf, nr⟩
  rw [hi] at slot hs
  dsimp only at slot hs
  have one : wpAny (model prog w) A (tryCompare (.ref x) nr (.int a t)) (fun r s' => ∃ v, r = some v ∧ Q v s') E s := by
    unfold tryCompare
    refine wpAny_bind (PySem.W.ifBound_K X I hs hf (wpAny_mono h (fun v s' hv => ?_) fun _ _ e => e))
    cases v <;> first | exact hv.elim | exact wpAny_pure ⟨_, rfl, hv⟩
  simp only [richCompare, hi, (typeIs_int s a t).oneThing_none]
  refine wpAny_holding (wpAny_bind (wpAny_cRoomFor hu ?_))
  refine wpAny_bind (wpAny_typeOf (typeIs_int s a t) (wpAny_bind (I.type.here ?_)))
  have hne : (Value.type "int" != Value.ref C) = true := by simp
  simp only [hne, if_true]
  refine wpAny_bind ((PySem.W.looks_subIn X sub).here ?_)
  simp only [Bool.false_eq_true, if_false, Bool.not_false, if_true]
  refine wpAny_bind (m := tryCompare (.int a t) _ (.ref x)) (wpAny_tryCompare_declines (typeIs_int s a t) slot (dec_call (T := "int") slot entry args D I.at_ hd ⟨rfl, ?_⟩))
  refine wpAny_bind (m := tryCompare (.ref x) _ (.int a t)) (wpAny_mono one (fun r s' z => ?_) fun _ _ e => e)
  obtain ⟨v, rfl, hq⟩ := z
  exact wpAny_pure hq
end
section
variable {X : Cx} {C f : Addr} {fd : FuncData} {k : Nat} {ps : List Str} {sp : Sp} {op : CmpOp}
/-- x op y, x an instance of the class at C whose def for op keeps sp -/
def rCmpL (K : PySem.W.Frag) (C : Addr) (sp : Sp) : R2 := fun x y H Q => ∃ a dx fs t, x = .ref a ∧ H a = some (.ins C dx fs) ∧ TyX K H y t ∧ PySem.W.notFirst K C t = true ∧ sp ([x, y] ++ []) H Q E0
theorem o_cmpL (hop : ∀ a b, compareOp op a b = richCompare op a b) (M : Meth X.K C (cmpInfo op).2.1 f) (F : FnOk X.prog X.w X.K X.mg X.base CX0 k f fd ps sp) (hr : Room k X.A) (hb : Binds X.K fd ps []) : OpR X (compareOp op) (rCmpL X.K C sp) := by
  intro pins s σ H x y v u Q I rx ry h
  obtain ⟨a, dx, fs, t, rfl, ha, ty, hn, q⟩ := h
  cases (show v = Value.ref a from rx)
  obtain ⟨mA, O, _⟩ := ins_get I.hok ha
  obtain ⟨od, J, _⟩ := O.look
  obtain ⟨P, Z, p, _⟩ := kit_of I ry ty
  obtain ⟨m, hF⟩ := I.fr
  rw [hop]
  refine PySem.W.cmp_K (op := op) (tb := t) hr.units0 hF I.ok.mod.kin J (Z.ty _ _ I.kIn p) hn M.at_ M.fn ?_
  refine wpAny_mono (run_fn (us := [.ref a, u]) (vs := [.ref a, y]) F hr hb .nil pass0 I (.cons rfl (.cons ry .nil)) q) (fun w s' z => ?_) fun _ _ x => x
  obtain ⟨z', H', I', rz, qz⟩ := z
  exact SlX.cmpback rz ⟨z', H', I', rz, qz⟩
def rCmpR (K : PySem.W.Frag) (C : Addr) (sp : Sp) : R2 := fun x y H Q => ∃ i b dx fs, x = .int i ∧ y = .ref b ∧ H b = some (.ins C dx fs) ∧ PySem.W.subIn K (.ref C) (.type "int") = some false ∧ sp ([y, x] ++ []) H Q E0
theorem o_cmpR {id : String} {B : Builtin} (hop : ∀ a b, compareOp op a b = richCompare op a b) (slot : Slot "int" (cmpInfo op).2.1 id) (entry : entryFor table id = some B) (args : ∀ a b, argsOk id ⟨[a, b], []⟩) (D : Declines B)
    (M : Meth X.K C (cmpInfo op).2.2 f) (F : FnOk X.prog X.w X.K X.mg X.base CX0 k f fd ps sp) (hr : Room k X.A) (hb : Binds X.K fd ps []) : OpR X (compareOp op) (rCmpR X.K C sp) := by
  intro pins s σ H x y v u Q I rx ry h
  obtain ⟨i, b, dx, fs, rfl, rfl, hB, sub, q⟩ := h
  obtain ⟨t, rfl⟩ := (show ∃ t, v = Value.int i t from rx)
  cases (show u = Value.ref b from ry)
  obtain ⟨mA, O, _⟩ := ins_get I.hok hB
  obtain ⟨od, J, _⟩ := O.look
  rw [hop]
  refine cmp_int hr.units0 I.kIn J rfl slot entry args D sub M.at_ M.fn ?_
  refine wpAny_mono (run_fn (us := [.ref b, .int i t]) (vs := [.ref b, .int i]) F hr hb .nil pass0 I (.cons rfl (.cons ⟨t, rfl⟩ .nil)) q) (fun w s' z => ?_) fun _ _ x => x
  obtain ⟨z', H', I', rz, qz⟩ := z
  exact SlX.cmpback rz ⟨z', H', I', rz, qz⟩
/-- x in [x], the very object -/
def rInSelf : R2 := fun x y H Q => ∃ a p, x = .ref a ∧ y = .ref p ∧ H p = some (.lst [.ref a]) ∧ Q (.bl true) H
theorem o_inSelf : OpR X (compareOp .In) rInSelf := by
  intro pins s σ H x y v u Q I rx ry h
  obtain ⟨a, p, rfl, rfl, hp, q⟩ := h
  cases (show v = Value.ref a from rx)
  cases (show u = Value.ref p from ry)
  obtain ⟨its, r, pl, hz⟩ := I.list (SqL.of hp)
  have e : its = [Value.ref a] := by
    cases r with
    | cons r1 r2 =>
      cases r2
      cases r1
      rfl
  subst e
  refine SeqAt.in_listAt (fun _ => true) pl.isList (fun w hw => ?_) ⟨.bl true, H, I, (show Value.bool (#[Value.ref a].any fun _ => true) = Value.bool true by simp), q⟩
  have : w = Value.ref a := by simpa using hw
  subst this
  exact SeqAt.EqAt.same (.ref a)
/-- three kinds of one operator -/
def rAny3 (r1 r2 r3 : R2) : R2 := fun x y H Q => r1 x y H Q ∨ r2 x y H Q ∨ r3 x y H Q
theorem o_any3 {f : Value → Value → Sem Value} {r1 r2 r3 : R2} (h1 : OpR X f r1) (h2 : OpR X f r2) (h3 : OpR X f r3) : OpR X f (rAny3 r1 r2 r3) := OpR.or h1 (OpR.or h2 h3)
end
section
variable {K : PySem.W.Frag} {H : Hp} {Q : VK} {r1 r2 r3 : R2} {x y : V} {a b C dx : Addr} {fs : List (Str × V)} {t : Value} {sp : Sp} {i j : Int}
theorem r_anyII (h : r1 (.int i) (.int j) H Q) : rAny3 r1 r2 r3 (.int i) (.int j) H Q := .inl h
theorem r_anyR (h : r2 (.ref a) y H Q) : rAny3 r1 r2 r3 (.ref a) y H Q := .inr (.inl h)
theorem r_anyIR (h : r3 (.int i) (.ref b) H Q) : rAny3 r1 r2 r3 (.int i) (.ref b) H Q := .inr (.inr h)
theorem nf_self : PySem.W.notFirst K C (.ref C) = true := by
  unfold PySem.W.notFirst
  rw [beq_self_eq_true]; rfl
theorem nf_kit (h : PySem.W.kitOne K t (.ref C) = some false) : PySem.W.notFirst K C t = true := by
  unfold PySem.W.kitOne PySem.W.kitCls at h
  unfold PySem.W.notFirst
  split at h
  · cases h
  · split at h
    · rename_i C' he
      cases he
      split at h
      · rw [h]; simp
      · cases h
    · rename_i he; cases he
    · rename_i h1 h2; exact absurd rfl (h1 _)
theorem sub_kit {n : String} (h : PySem.W.kitOne K (.ref C) (.type n) = some false) : PySem.W.subIn K (.ref C) (.type n) = some false := by
  unfold PySem.W.kitOne PySem.W.kitCls at h
  split at h
  · cases h
  · split at h
    · rename_i he; cases he
    · rename_i T he
      cases he
      split at h
      · exact h
      · cases h
    · rename_i h1 h2; exact absurd rfl (h2 _)
theorem r_inSelf (e : H b = some (.lst [.ref a])) (h : Q (.bl true) H) : rInSelf (.ref a) (.ref b) H Q := ⟨a, b, rfl, rfl, e, h⟩
theorem r_cmpL (e : H a = some (.ins C dx fs)) (ty : TyX K H y t) (nf : PySem.W.notFirst K C t = true) (h : sp ([.ref a, y] ++ []) H Q E0) : rCmpL K C sp (.ref a) y H Q := ⟨a, dx, fs, t, rfl, e, ty, nf, h⟩
theorem r_cmpR (e : H b = some (.ins C dx fs)) (k : PySem.W.kitOne K (.ref C) (.type "int") = some false) (h : sp ([.ref b, .int i] ++ []) H Q E0) : rCmpR K C sp (.int i) (.ref b) H Q := ⟨i, b, dx, fs, rfl, rfl, e, sub_kit k, h⟩
end
end Z
local macro_rules | `(tactic| walk_at "nf") => `(tactic| first | exact Z.nf_self | exact Z.nf_kit (by walk_at "ki"))
local macro_rules | `(tactic| walk_at "call") => `(tactic| first
  | with_reducible refine Z.r_anyII ?_
  | ((with_reducible refine' Z.r_inSelf ?e ?_); (case e => walk_at "hp"))
  | with_reducible refine Z.r_anyR ?_
  | with_reducible refine Z.r_anyIR ?_
  | ((with_reducible refine' Z.r_cmpL ?e ?ty ?nf ?_); (case e => walk_at "hp"); (case ty => walk_at "ty"); (case nf => walk_at "nf"))
  | ((with_reducible refine' Z.r_cmpR ?e ?k ?_); (case e => walk_at "hp"); (case k => walk_at "ki")))
namespace Z
open PySem PySem.Spec PyProof.Rows L2 PySem.SeqAt
open MeetsSeq MeetsSeq2 MeetsSeq3 SeqRoads2
section
variable {prog : Program} {w : World} {A : Around} {R : Result → Shared → Prop}
def anyFrom (e : Nat → Bool) : Nat → Nat → Bool
  | _, 0 => false
  | i, k + 1 => e i || anyFrom e (i + 1) k
/-- at each turn the list is read anew; its i-th item's == with x tells e i -/
def Reads1 (prog : Program) (w : World) (A : Around) (R : Result → Shared → Prop) (l : Addr) (x : Value) (N : Nat) (e : Nat → Bool) (I : Shared → Prop) : Prop :=
  ∀ s, I s → ∃ (items : Array Value) (n : Nat), s.heap.get? l = some { cls := .type "list", data := .seq items n } ∧ items.size = N ∧
    ∀ (i : Nat) (h : i < items.size), wpAny (model prog w) A.in1 (eqBool items[i] x) (fun r s' => r = e i ∧ I s') (fun e s' => R (.error e) s') s
theorem contains_loopG (l : Addr) (x : Value) (N : Nat) (e : Nat → Bool) (I : Shared → Prop) (rd : Reads1 prog w A R l x N e I) (k : Nat) :
    ∀ i : Nat, N = i + k → (∀ s, I s → R (.ok (.ret (.bool (anyFrom e i k)))) s) → ∀ s, I s →
      wpAny (model prog w) A.in1 (Builtin.«list.__contains__.loop» ⟨[.ref l, x, rawInt i], []⟩) (GQ.FinOf prog w A R) (fun e s' => R (.error e) s') s := by
  induction k with
  | zero =>
    intro i hk fin s h
    obtain ⟨items, n, hl1, hs1, _⟩ := rd s h
    have hR := fin s h
    obtain ⟨hp, g, d, tk, os⟩ := s
    wp_walk using AutoSeq1.wpAny_loadPart' hl1
    have hi : items[((i : Nat) : Int).toNat]? = none := by simp; omega
    rw [hi]
    wp_walk
    exact hR
  | succ k ih =>
    intro i hk fin s h
    obtain ⟨items, n, hl1, hs1, turn⟩ := rd s h
    have hlt : i < items.size := by omega
    have ht := turn i hlt
    obtain ⟨hp, g, d, tk, os⟩ := s
    wp_walk using AutoSeq1.wpAny_loadPart' hl1
    have hi : items[((i : Nat) : Int).toNat]? = some items[i] := by simp [hlt]
    rw [hi]
    refine wpAny_bind (wpAny_mono ht (fun r s2 h2 => ?_) fun _ _ x => x)
    obtain ⟨hr, h2⟩ := h2
    subst hr
    cases hb : e i with
    | true =>
      have z := fin s2 h2
      rw [show anyFrom e i (k + 1) = (e i || anyFrom e (i + 1) k) from rfl, hb] at z
      obtain ⟨hp2, g2, d2, tk2, os2⟩ := s2
      wp_walk
      exact z
    | false =>
      have hrec := ih (i + 1) (by omega) (fun s q => by
        have z := fin s q
        rw [show anyFrom e i (k + 1) = (e i || anyFrom e (i + 1) k) from rfl, hb] at z
        exact z) s2 h2
      have hc : ((i : Int) + 1) = ((i + 1 : Nat) : Int) := by push_cast; rfl
      obtain ⟨hp2, g2, d2, tk2, os2⟩ := s2
      wp_walk
      rw [hc]
      exact ⟨plainId_quiet plain_contains_loop _, codeAny_builtin entry_contains_loop (by
        rw [Around.under_plainId plain_contains_loop _]
        exact hrec)⟩
theorem list_containsG (l : Addr) (x : Value) (N : Nat) (e : Nat → Bool) (I : Shared → Prop) (rd : Reads1 prog w A R l x N e I) (fin : ∀ s, I s → R (.ok (.ret (.bool (anyFrom e 0 N)))) s) {s : Shared} (h : I s) :
    wpAny (model prog w) A.in1 (Builtin.«list.__contains__» ⟨[.ref l, x], []⟩) (GQ.FinOf prog w A R) (fun e s' => R (.error e) s') s := by
  obtain ⟨items, n, hl1, _, _⟩ := rd s h
  have hrec := contains_loopG (A := A) (R := R) l x N e I rd N 0 (by omega) fin s h
  obtain ⟨hp, g, d, tk, os⟩ := s
  wp_walk using AutoSeq1.wpAny_loadPart' hl1
  exact ⟨plainId_quiet plain_contains_loop _, codeAny_builtin entry_contains_loop (by
    rw [Around.under_plainId plain_contains_loop _]
    exact hrec)⟩
end
end Z
namespace Z
open PySem PySem.Spec PyProof.Rows L2
section
variable {X : Cx} {k : Nat} {f : Addr} {fd : FuncData} {ps : List Str} {sp : Sp} {pins : List (Addr × Obj)} {σ : L2.St} {H : Hp} {s : Shared} {Q : VK} {us : List Value} {vs : List V}
/-- a def that is called somewhere below the running body -/
theorem run_below {A : Around} (sb : Sub X k A) (F : FnOk X.prog X.w X.K X.mg X.base CX0 k f fd ps sp) (hb : Binds X.K fd ps []) (I : Inv X pins σ H s) (r : Vals vs us) (h : sp vs H Q E0) :
    wpAny (model X.prog X.w) A (call (.ref f) us) (EP X pins σ Q) X.xe s := by
  have e0 : Env0 X.prog X.w X.K X.mg X.base A X.stack s H := by
    have e := I.env0
    exact ⟨by rw [sb.fr]; exact e.frames, e.mod, e.bs, e.bsz, e.funs, e.frf, e.hok, e.bare⟩
  have hl := F.len _ _ _ _ h
  have hl2 : us.length = ps.length := by rw [← r.length]; exact hl
  refine wpAny_call (codeAny_mono (F.run A X.stack s H ⟨us, []⟩ us vs Q E0 sb.room e0 (by simpa using hb s us I.kIn (by simpa using hl2)) r h) fun r s' hq => ?_)
  cases r with
  | error e => exact hq.elim
  | ok fl =>
    cases fl with
    | ret u => exact I.after hq
    | next => exact False.elim hq
    | brk => exact False.elim hq
    | cont => exact False.elim hq
/-- == within a built-in, of two values, tells b and leaves all as it was -/
def EqB (X : Cx) (k : Nat) (y x : V) (H : Hp) (b : Bool) : Prop :=
  ∀ (A : Around) (pins : List (Addr × Obj)) (σ : L2.St) (s : Shared) (u v : Value), Sub X k A → Inv X pins σ H s → RelV y u → RelV x v → wpAny (model X.prog X.w) A (eqBool u v) (fun r s' => r = b ∧ Inv X pins σ H s') X.xe s
theorem EqB.same {a : Addr} : EqB X k (.ref a) (.ref a) H true := by
  intro A pins σ s u v sb I ru rv
  cases (show u = Value.ref a from ru)
  cases (show v = Value.ref a from rv)
  exact SeqAt.EqAt.same (A := A) (s := s) (.ref a) X.prog X.w X.xe _ ⟨rfl, I⟩
theorem EqB.flat {x y : V} (fx : flatV x = true) (fy : flatV y = true) : EqB X k x y H (eqV x y) := by
  intro A pins σ s u v sb I ru rv
  exact eqAt_V (A := A) (s := s) ru rv fx fy X.prog X.w X.xe _ ⟨rfl, I⟩
/-- an instance whose own == says b of x, the very object excepted -/
theorem EqB.own {C a dx : Addr} {fs : List (Str × V)} {x : V} {t : Value} {b : Bool} (M : Meth X.K C "__eq__" f) (F : FnOk X.prog X.w X.K X.mg X.base CX0 k f fd ps sp) (hb : Binds X.K fd ps [])
    (ha : H a = some (.ins C dx fs)) (ty : TyX X.K H x t) (nf : PySem.W.notFirst X.K C t = true) (ne : x ≠ .ref a) (h : sp [.ref a, x] H (fun v H' => v = .bl b ∧ H' = H) E0) : EqB X k (.ref a) x H b := by
  intro A pins σ s u v sb I ru rv
  cases (show u = Value.ref a from ru)
  have hne : ¬ (Value.ref a == v) = true := by
    intro q
    have e : Value.ref a = v := eq_of_beq q
    subst e
    cases x with
    | ref c => exact ne (by cases (show Value.ref a = Value.ref c from rv); rfl)
    | int i => obtain ⟨_, e⟩ := (show ∃ t, Value.ref a = Value.int i t from rv); cases e
    | str i => obtain ⟨_, e⟩ := (show ∃ t, Value.ref a = Value.str i t from rv); cases e
    | byt i => obtain ⟨_, e⟩ := (show ∃ t, Value.ref a = Value.bytes i t from rv); cases e
    | flt i => obtain ⟨_, e⟩ := (show ∃ t, Value.ref a = Value.float i t from rv); cases e
    | non => cases (show Value.ref a = Value.none from rv)
    | bl i => cases (show Value.ref a = Value.bool i from rv)
    | ty n => cases (show Value.ref a = Value.type n from rv)
  obtain ⟨mA, O, _⟩ := ins_get I.hok ha
  obtain ⟨od, J, _⟩ := O.look
  obtain ⟨P, Z, p, _⟩ := kit_of I rv ty
  obtain ⟨m, hF⟩ := I.fr
  have rc : wpAny (model X.prog X.w) A (richCompare .Eq (.ref a) v) (fun r s' => ∃ z, r = .bool z ∧ z = b ∧ Inv X pins σ H s') X.xe s := by
    refine PySem.W.cmp_K (op := .Eq) (tb := t) sb.room.units0 hF I.ok.mod.kin J (Z.ty _ _ I.kIn p) nf M.at_ M.fn ?_
    refine wpAny_mono (run_below (us := [.ref a, v]) (vs := [.ref a, x]) sb F hb I (.cons rfl (.cons rv .nil)) h) (fun w s' z => ?_) fun _ _ x => x
    obtain ⟨z', H', I', rz, e1, e2⟩ := z
    subst e1 e2
    cases (show w = Value.bool b from rz)
    exact ⟨b, rfl, rfl, I'⟩
  unfold eqBool
  refine wpAny_holding ?_
  refine wpAny_ite_split (fun hab => absurd hab hne) (fun _ => ?_)
  refine wpAny_bind (wpAny_mono rc (fun r s' hv => ?_) fun _ _ x => x)
  obtain ⟨z, rfl, hz, hI⟩ := hv
  exact wpAny_truthy_bool ⟨hz, hI⟩
/-- an int beside an instance whose own == says b of it -/
theorem EqB.int {C a dx : Addr} {fs : List (Str × V)} {i : Int} {b : Bool} (M : Meth X.K C "__eq__" f) (F : FnOk X.prog X.w X.K X.mg X.base CX0 k f fd ps sp) (hb : Binds X.K fd ps [])
    (ha : H a = some (.ins C dx fs)) (sub : PySem.W.subIn X.K (.ref C) (.type "int") = some false) (h : sp [.ref a, .int i] H (fun v H' => v = .bl b ∧ H' = H) E0) : EqB X k (.int i) (.ref a) H b := by
  intro A pins σ s u v sb I ru rv
  obtain ⟨t, rfl⟩ := (show ∃ t, u = Value.int i t from ru)
  cases (show v = Value.ref a from rv)
  obtain ⟨mA, O, _⟩ := ins_get I.hok ha
  obtain ⟨od, J, _⟩ := O.look
  have rc : wpAny (model X.prog X.w) A (richCompare .Eq (.int i t) (.ref a)) (fun r s' => ∃ z, r = .bool z ∧ z = b ∧ Inv X pins σ H s') X.xe s := by
    refine cmp_int (op := .Eq) sb.room.units0 I.kIn J rfl PySem.F.slot_int_eq PySem.F.entry_int_eq PySem.F.args_int_eq_2 dec_eq sub M.at_ M.fn ?_
    refine wpAny_mono (run_below (us := [.ref a, .int i t]) (vs := [.ref a, .int i]) sb F hb I (.cons rfl (.cons ⟨t, rfl⟩ .nil)) h) (fun w s' z => ?_) fun _ _ x => x
    obtain ⟨z', H', I', rz, e1, e2⟩ := z
    subst e1 e2
    cases (show w = Value.bool b from rz)
    exact ⟨b, rfl, rfl, I'⟩
  unfold eqBool
  refine wpAny_holding ?_
  refine wpAny_ite_split (fun hab => absurd (eq_of_beq hab) nofun) (fun _ => ?_)
  refine wpAny_bind (wpAny_mono rc (fun r s' hv => ?_) fun _ _ x => x)
  obtain ⟨z, rfl, hz, hI⟩ := hv
  exact wpAny_truthy_bool ⟨hz, hI⟩
theorem any_from (f : V → Bool) : ∀ (xs ys : List V), anyFrom (fun i => f ((ys ++ xs).getD i .non)) ys.length xs.length = xs.any f
  | [], _ => rfl
  | x :: xs, ys => by
    have ih := any_from f xs (ys ++ [x])
    rw [List.append_assoc] at ih
    have h0 : (ys ++ x :: xs).getD ys.length .non = x := by simp [List.getD_eq_getElem?_getD]
    show (f ((ys ++ x :: xs).getD ys.length .non) || anyFrom _ (ys.length + 1) xs.length) = (x :: xs).any f
    rw [h0, List.any_cons, ← ih]
    simp
/-- x in a list, by what == says of each item -/
theorem in_ok {p : Addr} {xs : List V} {x : V} {v : Value} (e : V → Bool) (hr : Room (k + 1) X.A) (I : Inv X pins σ H s) (hp : H p = some (.lst xs)) (rx : RelV x v) (he : ∀ z ∈ xs, EqB X k z x H (e z)) {Q : Value → Shared → Prop}
    (q : ∀ s', Inv X pins σ H s' → Q (.bool (xs.any e)) s') : wpAny (model X.prog X.w) X.A (call (.builtin "list.__contains__") [.ref p, v]) Q X.xe s := by
  obtain ⟨hz, its, n, r, hl⟩ := (show ObjOk X.prog X.w H s.heap p (.lst xs) from I.hok p _ hp)
  refine GQ.call_here PySem.F.slot_list_contains ⟨_, hl, rfl⟩ PySem.F.entry_list_contains (PySem.F.args_list_contains_2 _ _) ?_
  refine list_containsG p v xs.length (fun i => e (xs.getD i .non)) (fun s' => Inv X pins σ H s') (fun s' I' => ?_) (fun s' I' => ?_) I
  · obtain ⟨hz', its', n', r', hl'⟩ := (show ObjOk X.prog X.w H s'.heap p (.lst xs) from I'.hok p _ hp)
    refine ⟨its'.toArray, n', hl', by rw [List.size_toArray, ← r'.length], fun i hi => ?_⟩
    have h1 : i < its'.length := by simpa using hi
    have h2 : i < xs.length := by rw [r'.length]; exact h1
    obtain ⟨u, hu, ru⟩ := r'.get (List.getElem?_eq_getElem h2)
    rw [List.getElem?_eq_getElem h1] at hu
    have e1 : its'.toArray[i] = u := by simpa using Option.some.inj hu
    have e2 : xs.getD i .non = xs[i] := by simp [List.getD_eq_getElem?_getD, h2]
    rw [e1]
    show wpAny _ _ _ (fun r s'' => r = e (xs.getD i .non) ∧ Inv X pins σ H s'') _ _
    rw [e2]
    exact he _ (List.getElem_mem h2) X.A.in1 pins σ s' u v ⟨hr.in1, rfl⟩ I' ru rx
  · have z := any_from e xs []
    rw [List.nil_append, List.length_nil] at z
    show Q (.bool (anyFrom _ 0 xs.length)) s'
    rw [z]
    exact q s' I'
/-- the same of every place of the program -/
def EqG (P : Program) (w : World) (K : PySem.W.Frag) (mg : Str → Option Value) (base : Heap) (k : Nat) (y x : V) (H : Hp) (b : Bool) : Prop := ∀ X : Cx, X.prog = P → X.w = w → X.K = K → X.mg = mg → X.base = base → EqB X k y x H b
section
variable {P : Program} {w : World} {K : PySem.W.Frag} {mg : Str → Option Value} {base : Heap}
theorem EqG.same {a : Addr} : EqG P w K mg base k (.ref a) (.ref a) H true := fun _ _ _ _ _ _ => EqB.same
theorem EqG.flat {x y : V} (fx : flatV x = true) (fy : flatV y = true) : EqG P w K mg base k x y H (eqV x y) := fun _ _ _ _ _ _ => EqB.flat fx fy
theorem EqG.own {C a dx : Addr} {fs : List (Str × V)} {x : V} {t : Value} {b : Bool} (M : Meth K C "__eq__" f) (F : FnOk P w K mg base CX0 k f fd ps sp) (hb : Binds K fd ps [])
    (ha : H a = some (.ins C dx fs)) (ty : TyX K H x t) (nf : PySem.W.notFirst K C t = true) (ne : x ≠ .ref a) (h : sp [.ref a, x] H (fun v H' => v = .bl b ∧ H' = H) E0) : EqG P w K mg base k (.ref a) x H b := by
  intro X e1 e2 e3 e4 e5
  subst e1 e2 e3 e4 e5
  exact EqB.own M F hb ha ty nf ne h
theorem EqG.int {C a dx : Addr} {fs : List (Str × V)} {i : Int} {b : Bool} (M : Meth K C "__eq__" f) (F : FnOk P w K mg base CX0 k f fd ps sp) (hb : Binds K fd ps [])
    (ha : H a = some (.ins C dx fs)) (sub : PySem.W.subIn K (.ref C) (.type "int") = some false) (h : sp [.ref a, .int i] H (fun v H' => v = .bl b ∧ H' = H) E0) : EqG P w K mg base k (.int i) (.ref a) H b := by
  intro X e1 e2 e3 e4 e5
  subst e1 e2 e3 e4 e5
  exact EqB.int M F hb ha sub h
end
/-- x in p, x not in p: all that == says of the items is told -/
def rInO (P : Program) (w : World) (K : PySem.W.Frag) (mg : Str → Option Value) (base : Heap) (k : Nat) (neg : Bool) : R2 := fun x y H Q => ∃ (p : Addr) (xs : List V) (e : V → Bool), y = .ref p ∧ H p = some (.lst xs) ∧ (∀ z ∈ xs, EqG P w K mg base k z x H (e z)) ∧ Q (.bl (if neg = true then !xs.any e else xs.any e)) H
section
variable {P : Program} {w : World} {K : PySem.W.Frag} {mg : Str → Option Value} {base : Heap}
theorem o_inO (e1 : X.prog = P) (e2 : X.w = w) (e3 : X.K = K) (e4 : X.mg = mg) (e5 : X.base = base) (hr : Room (k + 1) X.A) : OpR X (compareOp .In) (rInO P w K mg base k false) := by
  intro pins s σ H x y v u Q I rx ry h
  obtain ⟨p, xs, e, rfl, hp, he, q⟩ := h
  cases (show u = Value.ref p from ry)
  obtain ⟨hz, its, n, r, hl⟩ := (show ObjOk X.prog X.w H s.heap p (.lst xs) from I.hok p _ hp)
  show wpAny _ X.A (do return Value.bool (← contains (.ref p) v)) _ _ s
  refine wpAny_bind (wpAny_contains_slot ⟨_, hl, rfl⟩ PySem.F.slot_list_contains (in_ok e hr I hp rx (fun z hz => he z hz X e1 e2 e3 e4 e5) fun s' I' => ?_))
  exact wpAny_truthy_bool (wpAny_pure ⟨.bl _, H, I', rfl, q⟩)
theorem o_notInO (e1 : X.prog = P) (e2 : X.w = w) (e3 : X.K = K) (e4 : X.mg = mg) (e5 : X.base = base) (hr : Room (k + 1) X.A) : OpR X (compareOp .NotIn) (rInO P w K mg base k true) := by
  intro pins s σ H x y v u Q I rx ry h
  obtain ⟨p, xs, e, rfl, hp, he, q⟩ := h
  cases (show u = Value.ref p from ry)
  obtain ⟨hz, its, n, r, hl⟩ := (show ObjOk X.prog X.w H s.heap p (.lst xs) from I.hok p _ hp)
  show wpAny _ X.A (do return Value.bool (!(← contains (.ref p) v))) _ _ s
  refine wpAny_bind (wpAny_contains_slot ⟨_, hl, rfl⟩ PySem.F.slot_list_contains (in_ok e hr I hp rx (fun z hz => he z hz X e1 e2 e3 e4 e5) fun s' I' => ?_))
  exact wpAny_truthy_bool (wpAny_pure ⟨.bl _, H, I', rfl, q⟩)
end
end
end Z
namespace Z
open PySem PySem.Spec PyProof.Rows L2
section
variable {prog : Program} {w : World} {A : Around} {E : Value → Shared → Prop} {s : Shared} {K : PySem.W.Frag} {x y C f : Addr} {ox oy : Obj} {od od' : Option Obj} {nm : String}
theorem bin1_same {Q : Value → Shared → Prop} (X : K.In s.heap) (I : PySem.W.InstAt s.heap x ox C od) (J : PySem.W.InstAt s.heap y oy C od') (hc : PySem.W.selfFirst K C = true)
    (hs : PySem.W.findIn K (.ref C) (PySem.dunder nm) = some (some (.ref f))) (hf : PySem.W.isFn K (.ref f) = true)
    (h : wpAny (model prog w) A (call (.ref f) [.ref x, .ref y]) (PySem.W.CmpBack Q) E s) : wpAny (model prog w) A (binaryOp1 nm (.ref x) (.ref y)) (fun r s' => ∃ v, r = some v ∧ Q v s') E s := by
  obtain ⟨cd, rest, hcd, hm⟩ := PySem.W.ksp_first hc
  have one := PySem.W.ksp_try X I hs hf h
  obtain ⟨hh, g, d, tt, os⟩ := s
  have L1 : PySem.W.Looks (model prog w) hh (typeOf (.ref x)) (.ref C) := I.type
  have L2 : PySem.W.Looks (model prog w) hh (typeOf (.ref y)) (.ref C) := J.type
  have L3 : PySem.W.Looks (model prog w) hh (fillsNumberSlot (.ref C) nm) true := PySem.W.fills_K X hcd hm hs
  have heq : (Value.ref C == Value.ref C) = true := beq_self_eq_true _
  unfold binaryOp1
  refine wpAny_bind (L1.at (wpAny_bind (L2.at (wpAny_bind (L3.at ?_)))))
  simp only [heq, if_true]
  ksp_lk
  refine wpAny_mono one (fun r s' hr' => ?_) fun _ _ e => e
  obtain ⟨v, rfl, hq⟩ := hr'
  ksp_lk
  exact ⟨v, rfl, hq⟩
theorem bin1_own {b : Value} {T : String} {fo ro rc : Option Value} {Q : Value → Shared → Prop} (X : K.In s.heap) (I : PySem.W.InstAt s.heap x ox C od) (hb : typeOf b = pure (.type T)) (hc : PySem.W.selfFirst K C = true)
    (hs : PySem.W.findIn K (.ref C) (PySem.dunder nm) = some (some (.ref f))) (hf : PySem.W.isFn K (.ref f) = true) (hr : PySem.W.findIn K (.ref C) (PySem.dunderR nm) = some rc) (hp : rc = none ∨ ∃ g : Addr, rc = some (.ref g))
    (h1 : PySem.W.findIn K (.type T) (PySem.dunder nm) = some fo) (h2 : PySem.W.findIn K (.type T) (PySem.dunderR nm) = some ro) (hsub : PySem.W.subIn K (.type T) (.ref C) = some false)
    (h : wpAny (model prog w) A (call (.ref f) [.ref x, b]) (PySem.W.CmpBack Q) E s) : wpAny (model prog w) A (binaryOp1 nm (.ref x) b) (fun r s' => ∃ v, r = some v ∧ Q v s') E s := by
  obtain ⟨cd, rest, hcd, hm⟩ := PySem.W.ksp_first hc
  have one := PySem.W.ksp_try X I hs hf h
  obtain ⟨hh, g, d, tt, os⟩ := s
  have L1 : PySem.W.Looks (model prog w) hh (typeOf (.ref x)) (.ref C) := I.type
  have L2 : PySem.W.Looks (model prog w) hh (typeOf b) (.type T) := PySem.W.Looks.of_pure hb
  have L3 : PySem.W.Looks (model prog w) hh (fillsNumberSlot (.ref C) nm) true := PySem.W.fills_K X hcd hm hs
  have L4 : PySem.W.Looks (model prog w) hh (fillsNumberSlot (.type T) nm) ((fo.isSome && !isSeqSlot fo) || (ro.isSome && !isSeqSlot ro)) := PySem.W.ksp_fillsT X h1 h2
  have L5 : PySem.W.Looks (model prog w) hh (isSubtype (.type T) (.ref C)) false := PySem.W.looks_subIn X hsub
  have L6 : PySem.W.Looks (model prog w) hh (numberSlotInPython (.ref C) nm) true := PySem.W.ksp_inPy X hs hr hp
  have L7 : PySem.W.Looks (model prog w) hh (numberSlotInPython (.type T) nm) false := PySem.W.Looks.of_pure rfl
  have L8 : PySem.W.Looks (model prog w) hh (typeLookup (.type T) (PySem.dunderR nm)) ro := PySem.W.looks_findIn X h2
  generalize ((fo.isSome && !isSeqSlot fo) || (ro.isSome && !isSeqSlot ro)) = right at L4
  have hne : (Value.ref C == Value.type T) = false := Bool.eq_false_iff.mpr fun q => by cases beq_iff_eq.mp q
  unfold binaryOp1
  refine wpAny_bind (L1.at (wpAny_bind (L2.at (wpAny_bind (L3.at ?_)))))
  simp only [hne, Bool.false_eq_true, if_false]
  cases right with
  | false =>
    ksp_lk
    refine wpAny_mono one (fun r s' hr' => ?_) fun _ _ e => e
    obtain ⟨v, rfl, hq⟩ := hr'
    ksp_lk
    exact ⟨v, rfl, hq⟩
  | true =>
    ksp_lk
    refine wpAny_mono one (fun r s' hr' => ?_) fun _ _ e => e
    obtain ⟨v, rfl, hq⟩ := hr'
    ksp_lk
    exact ⟨v, rfl, hq⟩
theorem bin1_int {i : Int} {t : Tok} {id : String} {B : Builtin} {Q : Value → Shared → Prop} (X : K.In s.heap) (I : PySem.W.InstAt s.heap x ox C od) (hd : ox.data = .plain) (hc : PySem.W.selfFirst K C = true)
    (slot : Slot "int" (PySem.dunder nm) id) (entry : entryFor table id = some B) (args : ∀ a b, argsOk id ⟨[a, b], []⟩) (D : Declines B) (fills : fillsNumberSlot (.type "int") nm = pure true)
    (hl : PySem.W.findIn K (.ref C) (PySem.dunder nm) = some (some (.ref y))) (hs : PySem.W.findIn K (.ref C) (PySem.dunderR nm) = some (some (.ref f))) (hf : PySem.W.isFn K (.ref f) = true) (sub : PySem.W.subIn K (.ref C) (.type "int") = some false)
    (h : wpAny (model prog w) A (call (.ref f) [.ref x, .int i t]) (PySem.W.CmpBack Q) E s) : wpAny (model prog w) A (binaryOp1 nm (.int i t) (.ref x)) (fun r s' => ∃ v, r = some v ∧ Q v s') E s := by
  obtain ⟨cd, rest, hcd, hm⟩ := PySem.W.ksp_first hc
  have one := PySem.W.ksp_try X I hs hf h
  have dec : ∀ {Q : Option Value → Shared → Prop}, Q none s → wpAny (model prog w) A (tryMethod (.int i t) (PySem.dunder nm) (.ref x)) Q E s := fun q =>
    wpAny_tryMethod_declines (typeIs_int s i t) slot (dec_call (T := "int") slot entry args D I.at_ hd ⟨rfl, q⟩)
  obtain ⟨hh, g, d, tt, os⟩ := s
  have L1 : PySem.W.Looks (model prog w) hh (typeOf (.int i t)) (.type "int") := PySem.W.Looks.of_pure rfl
  have L2 : PySem.W.Looks (model prog w) hh (typeOf (.ref x)) (.ref C) := I.type
  have L3 : PySem.W.Looks (model prog w) hh (fillsNumberSlot (.type "int") nm) true := PySem.W.Looks.of_pure fills
  have L4 : PySem.W.Looks (model prog w) hh (fillsNumberSlot (.ref C) nm) true := PySem.W.fills_K X hcd hm hl
  have L5 : PySem.W.Looks (model prog w) hh (isSubtype (.ref C) (.type "int")) false := PySem.W.looks_subIn X sub
  have L7 : PySem.W.Looks (model prog w) hh (numberSlotInPython (.type "int") nm) false := PySem.W.Looks.of_pure rfl
  have hne : (Value.type "int" == Value.ref C) = false := Bool.eq_false_iff.mpr fun q => by cases beq_iff_eq.mp q
  unfold binaryOp1
  refine wpAny_bind (L1.at (wpAny_bind (L2.at (wpAny_bind (L3.at ?_)))))
  simp only [hne, Bool.false_eq_true, if_false]
  ksp_lk
  refine dec ?_
  ksp_lk
  refine wpAny_mono one (fun r s' hr' => ?_) fun _ _ e => e
  obtain ⟨v, rfl, hq⟩ := hr'
  ksp_lk
  exact ⟨v, rfl, hq⟩
theorem bin_of1 {op : Operator} {a b : Value} {Q : Value → Shared → Prop} (h : wpAny (model prog w) A (binaryOp1 op.info.2 a b) (fun r s' => ∃ v, r = some v ∧ Q v s') E s) : wpAny (model prog w) A (binaryOp op a b) Q E s := by
  rcases hi : op.info with ⟨sym, nm'⟩
  rw [hi] at h
  simp only [binaryOp, hi]
  refine wpAny_holding (wpAny_bind (wpAny_mono h (fun r s' hr => ?_) fun _ _ e => e))
  obtain ⟨v, rfl, hq⟩ := hr
  exact wpAny_pure hq
/-- op= where the left type has no in-place def -/
theorem inp_of1 {op : Operator} {a b ta : Value} {Q : Value → Shared → Prop} (L1 : PySem.W.Looks (model prog w) s.heap (typeOf a) ta) (L2 : PySem.W.Looks (model prog w) s.heap (fillsInplaceSlot ta op.info.2 (op == .Add)) false)
    (h : wpAny (model prog w) A (binaryOp1 op.info.2 a b) (fun r s' => ∃ v, r = some v ∧ Q v s') E s) : wpAny (model prog w) A (inplaceOp op a b) Q E s := by
  obtain ⟨hh, g, d, tt, os⟩ := s
  unfold inplaceOp
  refine wpAny_holding (wpAny_bind (L1.at (wpAny_bind (L2.at ?_))))
  simp only [Bool.false_eq_true, if_false]
  refine wpAny_bind (wpAny_mono h (fun r s' hr => ?_) fun _ _ e => e)
  obtain ⟨v, rfl, hq⟩ := hr
  exact wpAny_pure hq
theorem dec_add : Declines Builtin.«int.__add__» := fun prog w A E s x o a t Q hx hd h => by
  obtain ⟨oc, od, data, sl⟩ := o
  simp only at hd
  subst hd
  obtain ⟨hp, g, d, tk, os⟩ := s
  wp_walk using AutoSeq1.wpAny_loadPart' hx
  exact h
theorem dec_sub : Declines Builtin.«int.__sub__» := fun prog w A E s x o a t Q hx hd h => by
  obtain ⟨oc, od, data, sl⟩ := o
  simp only at hd
  subst hd
  obtain ⟨hp, g, d, tk, os⟩ := s
  wp_walk using AutoSeq1.wpAny_loadPart' hx
  exact h
theorem dec_mul : Declines Builtin.«int.__mul__» := fun prog w A E s x o a t Q hx hd h => by
  obtain ⟨oc, od, data, sl⟩ := o
  simp only at hd
  subst hd
  obtain ⟨hp, g, d, tk, os⟩ := s
  wp_walk using AutoSeq1.wpAny_loadPart' hx
  exact h
theorem dec_floordiv : Declines Builtin.«int.__floordiv__» := fun prog w A E s x o a t Q hx hd h => by
  obtain ⟨oc, od, data, sl⟩ := o
  simp only at hd
  subst hd
  obtain ⟨hp, g, d, tk, os⟩ := s
  wp_walk using AutoSeq1.wpAny_loadPart' hx
  exact h
theorem dec_mod : Declines Builtin.«int.__mod__» := fun prog w A E s x o a t Q hx hd h => by
  obtain ⟨oc, od, data, sl⟩ := o
  simp only at hd
  subst hd
  obtain ⟨hp, g, d, tk, os⟩ := s
  wp_walk using AutoSeq1.wpAny_loadPart' hx
  exact h
end
end Z
namespace Z
open PySem PySem.Spec PyProof.Rows L2
section
variable {K : PySem.W.Frag} {C f : Addr} {nm : String}
theorem inpl_own {M : Model} {h : Heap} {add : Bool} {cd : ClassData} (X : K.In h) (hc : PySem.W.clsIn K C = some cd) (hm : cd.mro = [.ref C, .type "object"]) (h1 : PySem.W.findIn K (.ref C) (PySem.dunderI nm) = some none) (h2 : PySem.W.findIn K (.type "object") (PySem.dunderI nm) = some none) :
    PySem.W.Looks M h (fillsInplaceSlot (.ref C) nm add) false := by
  intro A Q E s k q
  have Lm : PySem.W.Looks M h (mroOf (.ref C)) cd.mro := (PySem.W.looks_clsIn X hc).andThen (f := fun cd => pure cd.mro) .now
  have Lm' := Lm.keeps k
  obtain ⟨hh, g, d, tt, os⟩ := s
  have X' : K.In hh := X.keeps k
  have L1 : PySem.W.Looks M hh (typeLookup (.ref C) (PySem.dunderI nm)) none := PySem.W.looks_findIn X' h1
  have L2 : PySem.W.Looks M hh (typeLookup (.type "object") (PySem.dunderI nm)) none := PySem.W.looks_findIn X' h2
  unfold fillsInplaceSlot
  refine wpAny_bind (Lm'.at ?_)
  rw [hm, List.anyM_cons]
  refine wpAny_bind ?_
  refine wpAny_bind (L1.at ?_)
  refine wpAny_pure ?_
  simp only [Bool.false_eq_true, if_false]
  rw [List.anyM_cons]
  refine wpAny_bind ?_
  refine wpAny_bind (L2.at ?_)
  refine wpAny_pure ?_
  simp only [Bool.false_eq_true, if_false]
  exact wpAny_pure q
end
section
variable {X : Cx} {C f g : Addr} {fd : FuncData} {k : Nat} {ps : List Str} {sp : Sp} {op : Operator}
/-- an int, or another instance of the class -/
def NumOr (C : Addr) (H : Hp) (y : V) : Prop := (∃ i, y = .int i) ∨ ∃ b dy gs, y = .ref b ∧ H b = some (.ins C dy gs)
def rBinL (C : Addr) (sp : Sp) : R2 := fun x y H Q => ∃ a dx fs, x = .ref a ∧ H a = some (.ins C dx fs) ∧ NumOr C H y ∧ sp ([x, y] ++ []) H Q E0
def rBinR (C : Addr) (sp : Sp) : R2 := fun x y H Q => ∃ i b dx fs, x = .int i ∧ y = .ref b ∧ H b = some (.ins C dx fs) ∧ sp ([y, x] ++ []) H Q E0
theorem bin1_L {pins : List (Addr × Obj)} {s : Shared} {σ : L2.St} {H : Hp} {x y : V} {v u : Value} {Q : VK} (B : BinF X.K C op.info.2 f g) (F : FnOk X.prog X.w X.K X.mg X.base CX0 k f fd ps sp) (hr : Room k X.A) (hb : Binds X.K fd ps [])
    (I : Inv X pins σ H s) (rx : RelV x v) (ry : RelV y u) (h : rBinL C sp x y H Q) : wpAny (model X.prog X.w) X.A (binaryOp1 op.info.2 v u) (fun r s' => ∃ v, r = some v ∧ EP X pins σ Q v s') X.xe s := by
  obtain ⟨a, dx, fs, rfl, ha, hy, q⟩ := h
  cases (show v = Value.ref a from rx)
  obtain ⟨mA, O, _⟩ := ins_get I.hok ha
  obtain ⟨od, J, _⟩ := O.look
  have call : wpAny (model X.prog X.w) X.A (PySem.call (.ref f) [.ref a, u]) (PySem.W.CmpBack (EP X pins σ Q)) X.xe s := by
    refine wpAny_mono (run_fn (us := [.ref a, u]) (vs := [.ref a, y]) F hr hb .nil pass0 I (.cons rfl (.cons ry .nil)) q) (fun w s' z => ?_) fun _ _ x => x
    obtain ⟨z', H', I', rz, qz⟩ := z
    exact SlX.cmpback rz ⟨z', H', I', rz, qz⟩
  rcases hy with ⟨i, rfl⟩ | ⟨b, dy, gs, rfl, hB⟩
  · obtain ⟨t, rfl⟩ := (show ∃ t, u = Value.int i t from ry)
    obtain ⟨fo, hfo⟩ := B.fo
    obtain ⟨ro, hro⟩ := B.ro
    exact bin1_own I.kIn J rfl B.sf B.at_ B.fn B.rat (.inr ⟨g, rfl⟩) hfo hro B.isub call
  · cases (show u = Value.ref b from ry)
    obtain ⟨mB, O', _⟩ := ins_get I.hok hB
    obtain ⟨od', J', _⟩ := O'.look
    exact bin1_same I.kIn J J' B.sf B.at_ B.fn call
theorem o_binL (B : BinF X.K C op.info.2 f g) (F : FnOk X.prog X.w X.K X.mg X.base CX0 k f fd ps sp) (hr : Room k X.A) (hb : Binds X.K fd ps []) : OpR X (binaryOp op) (rBinL C sp) := by
  intro pins s σ H x y v u Q I rx ry h
  exact bin_of1 (bin1_L B F hr hb I rx ry h)
theorem o_inpL (B : BinF X.K C op.info.2 f g) (F : FnOk X.prog X.w X.K X.mg X.base CX0 k f fd ps sp) (hr : Room k X.A) (hb : Binds X.K fd ps []) : OpR X (inplaceOp op) (rBinL C sp) := by
  intro pins s σ H x y v u Q I rx ry h
  obtain ⟨a, dx, fs, ex, ha, _⟩ := id h
  subst ex
  cases (show v = Value.ref a from rx)
  obtain ⟨mA, O, _⟩ := ins_get I.hok ha
  obtain ⟨od, J, _⟩ := O.look
  obtain ⟨cd, hc, hm⟩ := B.cls
  exact inp_of1 J.type (inpl_own I.kIn hc hm B.ni B.noi) (bin1_L B F hr hb I rx ry h)
theorem bin1_R {id : String} {Bi : Builtin} {pins : List (Addr × Obj)} {s : Shared} {σ : L2.St} {H : Hp} {x y : V} {v u : Value} {Q : VK} (B : BinF X.K C op.info.2 g f) (slot : Slot "int" (PySem.dunder op.info.2) id) (entry : entryFor table id = some Bi) (args : ∀ a b, argsOk id ⟨[a, b], []⟩) (D : Declines Bi)
    (fills : fillsNumberSlot (.type "int") op.info.2 = pure true) (F : FnOk X.prog X.w X.K X.mg X.base CX0 k f fd ps sp) (hr : Room k X.A) (hb : Binds X.K fd ps [])
    (I : Inv X pins σ H s) (rx : RelV x v) (ry : RelV y u) (h : rBinR C sp x y H Q) : wpAny (model X.prog X.w) X.A (binaryOp1 op.info.2 v u) (fun r s' => ∃ v, r = some v ∧ EP X pins σ Q v s') X.xe s := by
  obtain ⟨i, b, dx, fs, rfl, rfl, hB, q⟩ := h
  obtain ⟨t, rfl⟩ := (show ∃ t, v = Value.int i t from rx)
  cases (show u = Value.ref b from ry)
  obtain ⟨mA, O, _⟩ := ins_get I.hok hB
  obtain ⟨od, J, _⟩ := O.look
  refine bin1_int I.kIn J rfl B.sf slot entry args D fills B.at_ B.rat B.rfn B.sub ?_
  refine wpAny_mono (run_fn (us := [.ref b, .int i t]) (vs := [.ref b, .int i]) F hr hb .nil pass0 I (.cons rfl (.cons ⟨t, rfl⟩ .nil)) q) (fun w s' z => ?_) fun _ _ x => x
  obtain ⟨z', H', I', rz, qz⟩ := z
  exact SlX.cmpback rz ⟨z', H', I', rz, qz⟩
theorem o_binR {id : String} {Bi : Builtin} (B : BinF X.K C op.info.2 g f) (slot : Slot "int" (PySem.dunder op.info.2) id) (entry : entryFor table id = some Bi) (args : ∀ a b, argsOk id ⟨[a, b], []⟩) (D : Declines Bi)
    (fills : fillsNumberSlot (.type "int") op.info.2 = pure true) (F : FnOk X.prog X.w X.K X.mg X.base CX0 k f fd ps sp) (hr : Room k X.A) (hb : Binds X.K fd ps []) : OpR X (binaryOp op) (rBinR C sp) := by
  intro pins s σ H x y v u Q I rx ry h
  exact bin_of1 (bin1_R B slot entry args D fills F hr hb I rx ry h)
theorem o_inpR {id : String} {Bi : Builtin} (B : BinF X.K C op.info.2 g f) (slot : Slot "int" (PySem.dunder op.info.2) id) (entry : entryFor table id = some Bi) (args : ∀ a b, argsOk id ⟨[a, b], []⟩) (D : Declines Bi)
    (fills : fillsNumberSlot (.type "int") op.info.2 = pure true) (hno : typeLookup (.type "int") (dunderI op.info.2) = pure none) (F : FnOk X.prog X.w X.K X.mg X.base CX0 k f fd ps sp) (hr : Room k X.A) (hb : Binds X.K fd ps []) : OpR X (inplaceOp op) (rBinR C sp) := by
  intro pins s σ H x y v u Q I rx ry h
  obtain ⟨i, b, dx, fs, ex, _⟩ := _root_.id h
  subst ex
  obtain ⟨t, e⟩ := (show ∃ t, v = Value.int i t from rx)
  subst e
  have noi : fillsInplaceSlot (.type "int") op.info.2 (op == .Add) = pure false := by
    unfold fillsInplaceSlot
    show (typeLookup (.type "int") (dunderI op.info.2) >>= fun fi => pure (fi.isSome && !isSeqSlot fi)) = pure false
    rw [hno]; rfl
  exact inp_of1 (ta := .type "int") (PySem.W.Looks.of_pure rfl) (PySem.W.Looks.of_pure noi) (bin1_R B slot entry args D fills F hr hb I rx ry h)
end
section
variable {X : Cx} {k : Nat} {C f : Addr} {fd : FuncData} {ps : List Str} {sp : Sp}
def rUO (C : Addr) (sp : Sp) : V → Hp → VK → Prop := fun x H Q => ∃ a dx fs, x = .ref a ∧ H a = some (.ins C dx fs) ∧ sp ([.ref a] ++ []) H Q E0
def rAbsO (C : Addr) (sp : Sp) : List V → Hp → VK → Prop := fun xs H Q => ∃ a dx fs, xs = [.ref a] ∧ H a = some (.ins C dx fs) ∧ sp ([.ref a] ++ []) H Q E0
theorem un_negO (M : Meth X.K C "__neg__" f) (F : FnOk X.prog X.w X.K X.mg X.base CX0 k f fd ps sp) (hr : Room k X.A) (hb : Binds X.K fd ps []) : UnR X (unaryOp .USub) (rUO C sp) := by
  intro pins s σ H x v Q I rx h
  obtain ⟨a, dx, fs, rfl, ha, q⟩ := h
  cases (show v = Value.ref a from rx)
  obtain ⟨mA, O, _⟩ := ins_get I.hok ha
  obtain ⟨od, J, _⟩ := O.look
  unfold unaryOp
  refine wpAny_holding ?_
  exact wpAny_bind (PySem.W.special_fn I.kIn J M.at_ (beq_iff_eq.mp M.fn) (wpAny_mono (run_fn (us := [.ref a]) (vs := [.ref a]) F hr hb .nil pass0 I (.cons rfl .nil) q) (fun w s' z => wpAny_pure z) fun _ _ x => x))
theorem un_posO (M : Meth X.K C "__pos__" f) (F : FnOk X.prog X.w X.K X.mg X.base CX0 k f fd ps sp) (hr : Room k X.A) (hb : Binds X.K fd ps []) : UnR X (unaryOp .UAdd) (rUO C sp) := by
  intro pins s σ H x v Q I rx h
  obtain ⟨a, dx, fs, rfl, ha, q⟩ := h
  cases (show v = Value.ref a from rx)
  obtain ⟨mA, O, _⟩ := ins_get I.hok ha
  obtain ⟨od, J, _⟩ := O.look
  unfold unaryOp
  refine wpAny_holding ?_
  exact wpAny_bind (PySem.W.special_fn I.kIn J M.at_ (beq_iff_eq.mp M.fn) (wpAny_mono (run_fn (us := [.ref a]) (vs := [.ref a]) F hr hb .nil pass0 I (.cons rfl .nil) q) (fun w s' z => wpAny_pure z) fun _ _ x => x))
theorem c_absO (M : Meth X.K C "__abs__" f) (F : FnOk X.prog X.w X.K X.mg X.base CX0 k f fd ps sp) (hr : Room (k + 1) X.A) (hb : Binds X.K fd ps []) : CallR X (.builtin "abs") (rAbsO C sp) := by
  intro pins s σ H xs us Q I r h
  obtain ⟨a, dx, fs, rfl, ha, q⟩ := h
  obtain ⟨u, rfl, ru⟩ := vals1 r
  cases (show u = Value.ref a from ru)
  obtain ⟨mA, O, _⟩ := ins_get I.hok ha
  obtain ⟨od, J, _⟩ := O.look
  refine PySem.Calls.call_function_entry kind_abs plain_abs entry_abs (args_abs _) ?_
  unfold Builtin.«abs»
  refine wpAny_bind (m := oneArg "abs" _) (wpAny_pure ?_)
  refine wpAny_bind (m := callSpecial? (.ref a) (Str.ofString "__abs__")) (PySem.W.special_fn I.kIn J M.at_ (beq_iff_eq.mp M.fn) (wpAny_mono (run_below (us := [.ref a]) (vs := [.ref a]) (A := X.A.in1) ⟨hr.in1, rfl⟩ F hb I (.cons rfl .nil) q) (fun w s' z => ?_) fun _ _ x => x))
  exact wpAny_pure ⟨_, rfl, z⟩
end
section
variable {H : Hp} {Q : VK} {a C dx : Addr} {fs : List (Str × V)} {sp : Sp}
theorem r_UO (e : H a = some (.ins C dx fs)) (h : sp ([.ref a] ++ []) H Q E0) : rUO C sp (.ref a) H Q := ⟨a, dx, fs, rfl, e, h⟩
theorem r_absO (e : H a = some (.ins C dx fs)) (h : sp ([.ref a] ++ []) H Q E0) : rAbsO C sp [.ref a] H Q := ⟨a, dx, fs, rfl, e, h⟩
end
section
variable {H : Hp} {Q : VK} {x y : V} {a b C dx : Addr} {fs : List (Str × V)} {sp : Sp} {i : Int}
theorem r_binL (e : H a = some (.ins C dx fs)) (n : NumOr C H y) (h : sp ([.ref a, y] ++ []) H Q E0) : rBinL C sp (.ref a) y H Q := ⟨a, dx, fs, rfl, e, n, h⟩
theorem r_binR (e : H b = some (.ins C dx fs)) (h : sp ([.ref b, .int i] ++ []) H Q E0) : rBinR C sp (.int i) (.ref b) H Q := ⟨i, b, dx, fs, rfl, rfl, e, h⟩
theorem nm_int : NumOr C H (.int i) := .inl ⟨i, rfl⟩
theorem nm_ref (e : H b = some (.ins C dx fs)) : NumOr C H (.ref b) := .inr ⟨b, dx, fs, rfl, e⟩
end
section
variable {X : Cx} {k : Nat} {H : Hp} {Q : VK} {x : V} {p : Addr} {xs : List V} {neg : Bool}
theorem r_inO {P : Program} {w : World} {K : PySem.W.Frag} {mg : Str → Option Value} {base : Heap} (e : V → Bool) (hp : H p = some (.lst xs)) (he : ∀ z ∈ xs, EqG P w K mg base k z x H (e z)) (q : Q (.bl (if neg = true then !xs.any e else xs.any e)) H) : rInO P w K mg base k neg x (.ref p) H Q := ⟨p, xs, e, rfl, hp, he, q⟩
end
end Z
local macro_rules | `(tactic| walk_at "num") => `(tactic| first | exact Z.nm_int | exact Z.nm_ref (by walk_at "hp") | assumption)
local macro_rules | `(tactic| walk_at "call") => `(tactic| first
  | ((with_reducible refine' Z.r_binL ?e ?n ?_); (case e => walk_at "hp"); (case n => walk_at "num"))
  | ((with_reducible refine' Z.r_binR ?e ?_); (case e => walk_at "hp"))
  | ((with_reducible refine' Z.r_UO ?e ?_); (case e => walk_at "hp"))
  | ((with_reducible refine' Z.r_absO ?e ?_); (case e => walk_at "hp")))

theorem rep_non {C : Addr} {H : Hp} : Rep C H .non .non := rfl
theorem rep_num {C : Addr} {H : Hp} {i : Int} : Rep C H (.int i) (.num i) := rfl
theorem rep_mark {C a dx : Addr} {H : Hp} {n : Str} (h : H a = some (.ins C dx [("name", .str n)])) : Rep C H (.ref a) (.mark n) := ⟨a, dx, rfl, h⟩
local macro_rules | `(tactic| walk_at "rep") => `(tactic| first | exact rep_non | exact rep_num | exact rep_mark (by walk_at "hp") | assumption)
namespace Z
open PySem PySem.Spec PyProof.Rows L2 PySem.Builtin PySem.Builtin.Str
section
variable {X : Cx} {k : Nat} {C f : Addr} {fd : FuncData} {ps : List Str} {sp : Sp}
def txB (Q : VK) : VK := fun v H => ∃ y, v = .str y ∧ Q (.str y) H
def rTxO (C : Addr) (sp : Sp) : List V → Hp → VK → Prop := fun xs H Q => ∃ a dx fs, xs = [.ref a] ∧ H a = some (.ins C dx fs) ∧ sp ([.ref a] ++ []) H (txB Q) E0
theorem tx_back {pins : List (Addr × Obj)} {σ : L2.St} {Q : VK} {w : Value} {s' : Shared} (z : EP X pins σ (txB Q) w s') : PySem.W.StrBack (EP X pins σ Q) w s' := by
  obtain ⟨z', H', I', rz, y, e, qz⟩ := z
  subst e
  obtain ⟨t, rfl⟩ := rz
  exact ⟨.str y, H', I', ⟨t, rfl⟩, qz⟩
theorem c_strO (M : Meth X.K C "__str__" f) (F : FnOk X.prog X.w X.K X.mg X.base CX0 k f fd ps sp) (hr : Room (k + 2) X.A) (hb : Binds X.K fd ps []) : CallR X (.type "str") (rTxO C sp) := by
  intro pins s σ H xs us Q I r h
  obtain ⟨a, dx, fs, rfl, ha, q⟩ := h
  obtain ⟨u, rfl, ru⟩ := vals1 r
  cases (show u = Value.ref a from ru)
  obtain ⟨mA, O, _⟩ := ins_get I.hok ha
  obtain ⟨od, J, _⟩ := O.look
  exact PySem.W.kso_call (hr.in1.in1).units0 I.kIn J M.at_ M.fn (wpAny_mono (run_below (us := [.ref a]) (vs := [.ref a]) (A := X.A.in1.in1) ⟨hr.in1.in1, rfl⟩ F hb I (.cons rfl .nil) q) (fun w s' z => tx_back z) fun _ _ x => x)
theorem c_reprO (M : Meth X.K C "__repr__" f) (F : FnOk X.prog X.w X.K X.mg X.base CX0 k f fd ps sp) (hr : Room (k + 2) X.A) (hb : Binds X.K fd ps []) : CallR X (.builtin "repr") (rTxO C sp) := by
  intro pins s σ H xs us Q I r h
  obtain ⟨a, dx, fs, rfl, ha, q⟩ := h
  obtain ⟨u, rfl, ru⟩ := vals1 r
  cases (show u = Value.ref a from ru)
  obtain ⟨mA, O, _⟩ := ins_get I.hok ha
  obtain ⟨od, J, _⟩ := O.look
  obtain ⟨m, hF⟩ := I.fr
  exact PySem.W.repr_K (hr.in1).units0 hF I.ok.mod.kin J M.at_ M.fn (wpAny_mono (run_below (us := [.ref a]) (vs := [.ref a]) (A := X.A.in1) ⟨hr.in1.mono (by omega), rfl⟩ F hb I (.cons rfl .nil) q) (fun w s' z => tx_back z) fun _ _ x => x)
def tFmtO (C : Addr) (sp : Sp) (te : TE) : TE := fun σ H Q => te σ H fun x H1 => rTxO C sp [x] H1 Q
theorem pe_fmtO {e : Expr} {te : TE} {pos : Pos} (TX : TxF X.K C) (M : Meth X.K C "__str__" f) (F : FnOk X.prog X.w X.K X.mg X.base CX0 k f fd ps sp) (hr : Room (k + 2) X.A) (hb : Binds X.K fd ps []) (he : PE X e te) : PE X (.FormattedValue e (-1) none pos) (tFmtO C sp te) := by
  refine ⟨fun pins s σ H Q I h => ?_⟩
  refine wpAny_FormattedValue_plain (thn (he.run pins s σ H _ I h) fun v s1 hv => ?_)
  obtain ⟨x, H1, I1, r1, a, dx, fs, ex, ha, q⟩ := hv
  cases ex
  cases (show v = Value.ref a from r1)
  have I2 := I1.tok (s1.toks + 1)
  obtain ⟨mA, O, _⟩ := ins_get I1.hok ha
  obtain ⟨od, J, _⟩ := O.look
  exact PySem.W.kfo_fieldS (hr.in1).units0 I1.kIn J TX.fm TX.mo M.at_ M.fn (wpAny_mono (run_below (us := [.ref a]) (vs := [.ref a]) (A := X.A.in1) ⟨hr.in1.mono (by omega), rfl⟩ F hb I2 (.cons rfl .nil) q) (fun w s' z => tx_back z) fun _ _ x => x)
end
section
variable {H : Hp} {Q : VK} {σ : L2.St} {te : TE} {ts : List TE} {a C dx : Addr} {fs : List (Str × V)} {sp : Sp} {acc y : Str} {v : V}
theorem r_txO (e : H a = some (.ins C dx fs)) (h : sp ([.ref a] ++ []) H (txB Q) E0) : rTxO C sp [.ref a] H Q := ⟨a, dx, fs, rfl, e, h⟩
theorem r_txB (h : Q (.str y) H) : txB Q (.str y) H := ⟨y, rfl, h⟩
theorem r_fmtO (h : te σ H fun x H1 => rTxO C sp [x] H1 Q) : tFmtO C sp te σ H Q := h
def fmP (Q : VK) : VK := fun x H1 => (∃ y : Str, x = .str y ∧ y.length ≤ sizeLine ∧ Q (.str y) H1) ∨ ∃ i : Int, x = .int i ∧ i.natAbs.log2 < 1920 ∧ Q (.str (toString i)) H1
theorem r_fmt (h : te σ H (fmP Q)) : tFmt te σ H Q := h
theorem r_fmP (l : y.length ≤ sizeLine) (h : Q (.str y) H) : fmP Q (.str y) H := .inl ⟨y, rfl, l, h⟩
def fmR (Q : VK) : VK := fun x H1 => (∃ y : Str, x = .str y ∧ (reprText y).length ≤ sizeLine ∧ Q (.str (reprText y)) H1) ∨ ∃ i : Int, x = .int i ∧ i.natAbs.log2 < 1920 ∧ Q (.str (toString i)) H1
theorem r_fmtR (h : te σ H (fmR Q)) : tFmtR te σ H Q := h
theorem r_fmR (l : (reprText y).length ≤ sizeLine) (h : Q (.str (reprText y)) H) : fmR Q (.str y) H := .inl ⟨y, rfl, l, h⟩
def jsP (acc : Str) (N : Str → Hp → Prop) : VK := fun x H1 => ∃ y : Str, x = .str y ∧ (acc ++ y).length ≤ sizeLine ∧ N (acc ++ y) H1
theorem r_jsC {N : Str → Hp → Prop} (h : te σ H (jsP acc fun z H1 => tJs ts z σ H1 N)) : tJs (te :: ts) acc σ H N := h
theorem r_jsN {N : Str → Hp → Prop} (h : N acc H) : tJs [] acc σ H N := h
theorem r_jsP {N : Str → Hp → Prop} (l : (acc ++ y).length ≤ sizeLine) (h : N (acc ++ y) H) : jsP acc N (.str y) H := ⟨y, rfl, l, h⟩
end
theorem repr_letter : ∀ k : Fin 26, reprChar 39 (97 + k.val) = [97 + k.val] := by decide +kernel
theorem repr_fold : ∀ (l : List Nat) (acc : Array Nat), (∀ c ∈ l, 97 ≤ c ∧ c ≤ 122) → l.foldl (fun out c => out ++ (reprChar 39 c).toArray) acc = acc ++ l.toArray
  | [], acc, _ => by simp
  | c :: l, acc, h => by
    have hc := h c List.mem_cons_self
    have e : reprChar 39 c = [c] := by
      have z := repr_letter ⟨c - 97, by omega⟩
      rwa [show 97 + (c - 97) = c by omega] at z
    rw [List.foldl_cons, repr_fold l _ (fun x hx => h x (List.mem_cons_of_mem _ hx)), e]
    simp
end Z
open PySem.Builtin PySem.Builtin.Str in
theorem word_repr {n : Str} (h : Word n) : reprText n = ("'" : Str) ++ n ++ ("'" : Str) := by
  have hq : reprQuote n = 39 := by
    unfold reprQuote
    rw [if_neg]
    intro e
    rw [Bool.and_eq_true] at e
    have m := e.1
    rw [Array.contains_iff_mem] at m
    have := h.2.2 39 (by simpa using m)
    omega
  have e1 : reprText n = ⟨(#[39] ++ n.cps).push 39⟩ := by
    unfold reprText
    rw [hq, ← Array.foldl_toList, Z.repr_fold _ _ h.2.2]
  have e2 : (("'" : Str) ++ n ++ ("'" : Str)) = ⟨(#[39] ++ n.cps) ++ #[39]⟩ := rfl
  rw [e1, e2, Array.push_eq_append]
local macro_rules | `(tactic| walk_at "call") => `(tactic| first
  | ((with_reducible refine' Z.r_txO ?e ?_); (case e => walk_at "hp"))
  | with_reducible refine Z.r_txB ?_
  | with_reducible refine Z.r_fmtO ?_
  | with_reducible refine Z.r_fmt ?_
  | with_reducible refine Z.r_fmtR ?_
  | with_reducible refine Z.r_jsC ?_
  | with_reducible refine Z.r_jsN ?_
  | ((with_reducible refine' Z.r_fmP ?l ?_); (case l => walk_at "tlen"))
  | ((with_reducible refine' Z.r_fmR ?l ?_); (case l => walk_at "tlen"))
  | ((with_reducible refine' Z.r_jsP ?l ?_); (case l => walk_at "tlen")))
local macro_rules | `(tactic| walk_at "tlen") => `(tactic| first | assumption | exact Z.szle (Nat.le_of_ble_eq_true rfl))
/-! != of instances whose class has an own == alone -/
namespace Z
open PySem PySem.Spec PyProof.Rows L2
section
variable {prog : Program} {w : World} {A : Around} {E : Value → Shared → Prop} {s : Shared} {K : PySem.W.Frag} {x C L f : Addr} {h₀ : Heap} {m : Str → Option Value} {ox : Obj} {od : Option Obj} {b tb : Value}
theorem ifBound_B {M : Model} {name : Str} {id B : String} {args : List Value} {Q : Option Value → Shared → Prop} (X : K.In s.heap) (I : PySem.W.InstAt s.heap x ox C od) (hs : PySem.W.findIn K (.ref C) name = some (some (.builtin id))) (S : Slot B name id)
    (h : wpAny M A (call (.builtin id) (.ref x :: args)) (fun v => Q (some v)) E s) : wpAny M A (callSpecialIfBound? (.ref x) name args) Q E s := by
  simp only [callSpecialIfBound?, bindSpecialIfBound?]
  refine wpAny_holding (wpAny_bind (wpAny_bind (wpAny_bind (I.type.here ((PySem.W.looks_findIn X hs).here ?_)))))
  simp only [S.bind]
  refine wpAny_bind (wpAny_askSetting (wpAny_ite ?_))
  have fin : wpAny M A (call (.builtin id) ([.ref x] ++ args) >>= fun v => pure (some v)) Q E s := wpAny_bind (wpAny_mono h (fun v s' h' => wpAny_pure h') fun _ _ h' => h')
  split
  · exact wpAny_bind (wpAny_pure (wpAny_pure fin))
  · exact wpAny_tryCatch (wpAny_bind (wpAny_pure (wpAny_pure fin)))
theorem ne_entry {Q : Fin → Shared → Prop} (hu : A.units < cLine) (X : K.In s.heap) (I : PySem.W.InstAt s.heap x ox C od) (hs : PySem.W.findIn K (.ref C) "__eq__" = some (some (.ref f))) (hf : PySem.W.isFn K (.ref f) = true)
    (h : wpAny (model prog w) A (call (.ref f) [.ref x, b]) (fun v s' => ∃ c, v = .bool c ∧ Q (.done (.ret (.bool (!c)))) s') E s) :
    wpAny (model prog w) A (Builtin.«object.__ne__» ⟨[.ref x, b], []⟩) Q E s := by
  unfold Builtin.«object.__ne__»
  repeat (first
    | with_reducible refine wpAny_cRoomFor hu ?_
    | (refine wpAny_bind (m := callSpecialIfBound? (.ref x) (Str.ofString "__eq__") [b])
        (PySem.W.ifBound_K X I hs hf (wpAny_mono h (fun r s' hr => by
          obtain ⟨b, rfl, hq⟩ := hr
          repeat (first | exact hq | exact wpAny_pure hq | exact wpAny_truthy_bool hq | (refine wpAny_bind (m := truthy (.bool _)) (wpAny_truthy_bool ?_)) | wp_step)) fun _ _ e => e)))
    | wp_step)
theorem cmp_neD {Q : Value → Shared → Prop} (hu : A.units < cLine) (hu1 : A.in1.units < cLine) (X : K.In s.heap) (I : PySem.W.InstAt s.heap x ox C od) (hb : PySem.W.Looks (model prog w) s.heap (typeOf b) tb) (hn : PySem.W.notFirst K C tb = true)
    (D : NeD K C) (hs : PySem.W.findIn K (.ref C) "__eq__" = some (some (.ref f))) (hf : PySem.W.isFn K (.ref f) = true)
    (h : wpAny (model prog w) A.in1 (call (.ref f) [.ref x, b]) (fun v s' => ∃ c, v = .bool c ∧ Q (.bool (!c)) s') E s) : wpAny (model prog w) A (richCompare .NotEq (.ref x) b) Q E s := by
  have S := PySem.F.cmp_object.ne
  have sub : PySem.W.Looks (model prog w) s.heap (isInstance (.ref x) (.type "object")) true := I.type.andThen (PySem.W.looks_mroIn X D.mo)
  have one : wpAny (model prog w) A (tryCompare (.ref x) "__ne__" b) (fun r s' => ∃ v, r = some v ∧ Q v s') E s := by
    unfold tryCompare
    refine wpAny_bind (ifBound_B X I D.ne S (wpAny_call (codeAny_call_builtin S.plain PySem.F.cmpEntry_ne (@PySem.W.check_slot (model prog w) _ _ s "object.__ne__" "object" "__ne__" (.ref x) [b] [] _ PySem.F.cmpKind_ne PySem.F.cmpSplit_ne sub (PySem.F.cmpArgs_ne _ _)
      (ne_entry (A := A.in1) hu1 X I hs hf (wpAny_mono h (fun v s' hv => ?_) fun _ _ e => e))))))
    obtain ⟨c, rfl, hq⟩ := hv
    first | exact ⟨c, rfl, wpAny_pure ⟨_, rfl, hq⟩⟩ | exact ⟨c, rfl, wpAny_pure (wpAny_pure ⟨_, rfl, hq⟩)⟩ | exact ⟨c, rfl, _, rfl, hq⟩
  unfold richCompare
  simp only [oneThing_ref]
  refine wpAny_holding (wpAny_bind (wpAny_cRoomFor hu ?_))
  refine wpAny_bind (I.type.here (wpAny_bind (hb.here ?_)))
  split
  · rename_i q
    have e : PySem.W.subIn K tb (.ref C) = some false := by
      rcases Bool.or_eq_true_iff.mp hn with e | e
      · rw [beq_iff_eq.mp e] at q; simp at q
      · exact beq_iff_eq.mp e
    refine wpAny_bind ((PySem.W.looks_subIn X e).here ?_)
    simp only [Bool.false_eq_true, if_false]
    refine wpAny_bind (wpAny_mono one (fun r s' z => ?_) fun _ _ e => e)
    obtain ⟨v, rfl, hq⟩ := z
    exact wpAny_pure hq
  · refine wpAny_bind (wpAny_pure ?_)
    simp only [Bool.false_eq_true, if_false]
    refine wpAny_bind (wpAny_mono one (fun r s' z => ?_) fun _ _ e => e)
    obtain ⟨v, rfl, hq⟩ := z
    exact wpAny_pure hq
end
section
variable {X : Cx} {C f : Addr} {fd : FuncData} {k : Nat} {ps : List Str} {sp : Sp}
/-- x != y, x an instance of a class with an own == and no own != -/
def neB (Q : VK) : VK := fun v H' => ∃ c, v = .bl c ∧ Q (.bl (!c)) H'
def rNeX (K : PySem.W.Frag) (C : Addr) (sp : Sp) : R2 := fun x y H Q => ∃ a dx fs t, x = .ref a ∧ H a = some (.ins C dx fs) ∧ TyX K H y t ∧ PySem.W.notFirst K C t = true ∧ sp ([x, y] ++ []) H (neB Q) E0
theorem o_neX (D : NeD X.K C) (M : Meth X.K C "__eq__" f) (F : FnOk X.prog X.w X.K X.mg X.base CX0 k f fd ps sp) (hr : Room (k + 1) X.A) (hb : Binds X.K fd ps []) : OpR X (compareOp .NotEq) (rNeX X.K C sp) := by
  intro pins s σ H x y v u Q I rx ry h
  obtain ⟨a, dx, fs, t, rfl, ha, ty, hn, q⟩ := h
  cases (show v = Value.ref a from rx)
  obtain ⟨mA, O, _⟩ := ins_get I.hok ha
  obtain ⟨od, J, _⟩ := O.look
  obtain ⟨P, Z, p, _⟩ := kit_of I ry ty
  show wpAny _ X.A (richCompare .NotEq (.ref a) u) _ _ s
  refine cmp_neD (tb := t) (hr.mono (by omega) : Room k X.A).units0 hr.in1.units0 I.kIn J (Z.ty _ _ I.kIn p) hn D M.at_ M.fn ?_
  refine wpAny_mono (run_below (us := [.ref a, u]) (vs := [.ref a, y]) (A := X.A.in1) ⟨hr.in1, rfl⟩ F hb I (.cons rfl (.cons ry .nil)) q) (fun w s' z => ?_) fun _ _ x => x
  obtain ⟨z', H', I', rz, c, e, qz⟩ := z
  subst e
  cases (show w = Value.bool c from rz)
  exact ⟨c, rfl, .bl (!c), H', I', rfl, qz⟩
end
section
variable {K : PySem.W.Frag} {H : Hp} {Q : VK} {y : V} {a C dx : Addr} {fs : List (Str × V)} {t : Value} {sp : Sp} {c : Bool}
theorem r_neX (e : H a = some (.ins C dx fs)) (ty : TyX K H y t) (nf : PySem.W.notFirst K C t = true) (h : sp ([.ref a, y] ++ []) H (neB Q) E0) : rNeX K C sp (.ref a) y H Q := ⟨a, dx, fs, t, rfl, e, ty, nf, h⟩
theorem r_neXB (h : Q (.bl (!c)) H) : neB Q (.bl c) H := ⟨c, rfl, h⟩
end
def optV : Option Int → V
  | none => .non
  | some i => .int i
theorem r_eqO {o p : Option Int} {H : Hp} {Q : VK} (h : Q (.bl (decide (o = p))) H) : rEq (optV o) (optV p) H Q := by
  have e : decide (optV o = optV p) = decide (o = p) := by
    cases o <;> cases p <;> simp [optV]
  refine ⟨by cases o <;> cases p <;> rfl, ?_⟩
  rw [e]
  exact h
theorem r_neO {o p : Option Int} {H : Hp} {Q : VK} (h : Q (.bl (!decide (o = p))) H) : rNe (optV o) (optV p) H Q := by
  have e : decide (optV o = optV p) = decide (o = p) := by
    cases o <;> cases p <;> simp [optV]
  refine ⟨by cases o <;> cases p <;> rfl, ?_⟩
  rw [e]
  exact h
def optS : Option Int → Str
  | none => "None"
  | some i => toString i
def optOk (o : Option Int) : Prop := ∀ i, o = some i → 0 ≤ i ∧ i ≤ 100000
theorem log_small {n : Nat} (h : n ≤ 100000) : n.log2 < 1920 := by
  by_cases e : n = 0
  · subst e; decide
  · rw [Nat.log2_lt e]
    exact Nat.lt_of_le_of_lt h (Nat.lt_of_lt_of_le (by decide : 100000 < 2 ^ 17) (Nat.pow_le_pow_right (by decide) (by decide)))
theorem optOk.log {i : Int} (h : optOk (some i)) : i.natAbs.log2 < 1920 := log_small (by have := h i rfl; omega)
theorem optOk.len {o : Option Int} (h : optOk o) : (optS o).length ≤ 100 := by
  cases o with
  | none => decide +kernel
  | some i =>
    have h1 := h i rfl
    have e := int_text_length_le10 (a := i) (k := 6) (by decide) (by omega)
    show (Str.ofString (toString i)).length ≤ 100
    rw [PySem.ofString_length]
    omega
theorem r_neP {K : PySem.W.Frag} {x y : V} {H : Hp} {Q : VK} {d e : PyData} (hd : Dp K H x d) (he : Dp K H y e) (sd : SeqAt.shaped d = true) (se : SeqAt.shaped e = true) (h : Q (.bl (!PyData.eqv d e)) H) : L2.rNeD K x y H Q := ⟨d, e, hd, he, sd, se, h⟩
/-- str of nothing or an int -/
def rStrO : List V → Hp → VK → Prop := fun xs H Q => ∃ o : Option Int, xs = [optV o] ∧ (∀ i, o = some i → i.natAbs.log2 < 1920) ∧ Q (.str (optS o)) H
theorem c_strOpt {X : Cx} : CallR X (.type "str") rStrO := by
  intro pins s σ H xs us Q I r h
  obtain ⟨o, rfl, hz, q⟩ := h
  cases o with
  | none =>
    obtain ⟨u, rfl, ru⟩ := vals1 r
    cases (show u = Value.none from ru)
    exact PySem.P.str_of_none ⟨.str _, H, I.tok _, ⟨_, rfl⟩, q⟩
  | some i =>
    obtain ⟨u, rfl, t, rfl⟩ := vals1 r
    exact PySem.P.str_of_int (hz i rfl) ⟨.str _, H, I.tok _, ⟨_, rfl⟩, q⟩
theorem r_strOpt {o : Option Int} {H : Hp} {Q : VK} (h : ∀ i, o = some i → i.natAbs.log2 < 1920) (q : Q (.str (optS o)) H) : rStrO [optV o] H Q := ⟨o, rfl, h, q⟩
/-- {x!r}: nothing or an int -/
def foP (Q : VK) : VK := fun x H1 => ∃ o : Option Int, x = optV o ∧ (∀ i, o = some i → i.natAbs.log2 < 1920) ∧ Q (.str (optS o)) H1
def tFmtRO (te : TE) : TE := fun σ H Q => te σ H (foP Q)
theorem pe_fmtRO {X : Cx} {e : Expr} {te : TE} {pos : Pos} (he : PE X e te) : PE X (.FormattedValue e 114 none pos) (tFmtRO te) := by
  refine ⟨fun pins s σ H Q I h => ?_⟩
  refine wpAny_FormattedValue_repr (thn (he.run pins s σ H _ I h) fun v s1 hv => ?_)
  obtain ⟨x, H1, I1, r1, o, rfl, hz, q⟩ := hv
  cases o with
  | none =>
    cases (show v = Value.none from r1)
    exact pyReprObj_none (wpAny_formatField_str ⟨.str "None", H1, I1.tok _, ⟨_, rfl⟩, q⟩ ⟨.str "None", H1, I1.tok _, ⟨_, rfl⟩, q⟩ (by decide))
  | some i =>
    obtain ⟨t, rfl⟩ := r1
    exact pyReprObj_int (hz i rfl) (wpAny_formatField_str ⟨.str (toString i), H1, I1.tok _, ⟨_, rfl⟩, q⟩ ⟨.str (toString i), H1, I1.tok _, ⟨_, rfl⟩, q⟩ (int_text_fits (hz i rfl)))
theorem r_fmtRO {σ : L2.St} {H : Hp} {Q : VK} {te : TE} (h : te σ H (foP Q)) : tFmtRO te σ H Q := h
theorem r_foP {o : Option Int} {H : Hp} {Q : VK} (h : ∀ i, o = some i → i.natAbs.log2 < 1920) (q : Q (.str (optS o)) H) : foP Q (optV o) H := ⟨o, rfl, h, q⟩
end Z
local macro_rules | `(tactic| walk_at "call") => `(tactic| first
  | ((with_reducible refine' Z.r_neX ?e ?ty ?nf ?_); (case e => walk_at "hp"); (case ty => walk_at "ty"); (case nf => walk_at "nf"))
  | with_reducible refine Z.r_neXB ?_
  | ((with_reducible refine' Z.r_lenT ?e ?_); (case e => exact SqT.of (by walk_at "hp")))
  | with_reducible refine Z.r_fmtRO ?_)

namespace Z
open PySem PySem.Spec PyProof.Rows L2
section
variable {K : PySem.W.Frag} {σ : L2.St} {H : Hp} {Q : VK} {D : Ends} {ta tb : TE} {A : TA} {v x y : V}
theorem r_dnewK (h : ∀ p H1, H p = none → Same H H1 → H1 p = some (.dK []) → Q (.ref p) H1) : tDNewK σ H Q := fun p np => h p _ np (same_upd np) upd_same
/-- a text that is, or is not, a key -/
def dnR (y x : V) (H : Hp) (Q : VK) : Prop := ∃ a o, x = .ref a ∧ DGet H a y o ∧ Q (.bl (!o.isSome)) H
theorem r_dnotin (h : ta σ H fun y H1 => tb σ H1 fun x H2 => dnR y x H2 Q) : tDNotIn ta tb σ H Q := h
theorem r_dnS {a : Addr} {g : Str} {kvs : List (Key × V)} (e : H a = some (.dK kvs)) (k : Q (.bl (!(valV kvs (.inr g)).isSome)) H) : dnR (.str g) (.ref a) H Q := ⟨a, _, rfl, DGet.k (k := .inr g) e, k⟩
def rTupOf (K : PySem.W.Frag) : List V → Hp → VK → Prop := fun xs H Q => ∃ p ys, xs = [.ref p] ∧ ((SqL K H p ys ∧ ∀ l, H l = none → Q (.ref l) (L2.upd H l (.tup ys))) ∨ (SqT K H p ys ∧ Q (.ref p) H))
theorem c_tupOf {X : Cx} : CallR X (.type "tuple") (rTupOf X.K) := call_tuple_of
theorem r_tupL {p : Addr} {ys : List V} (e : H p = some (.lst ys)) (k : ∀ q H1, H q = none → Same H H1 → H1 q = some (.tup ys) → Q (.ref q) H1) : rTupOf K [.ref p] H Q :=
  ⟨p, ys, rfl, .inl ⟨SqL.of e, fun l nl => k l _ nl (same_upd nl) upd_same⟩⟩
theorem c_isiT {X : Cx} {K : PySem.W.Frag} (e : X.K = K) : CallR X (.builtin "isinstance") (rIsiT K) := e ▸ call_isiT
theorem r_isiLT {tp : Addr} {t : Value} {b : Bool} (e : H tp = some (.tup [.ty "list", .ty "tuple"])) (ty : TyX K H x t) (k : PySem.W.kitAny K t [.type "list", .type "tuple"] = some b) (h : Q (.bl b) H) : rIsiT K [x, .ref tp] H Q :=
  ⟨x, tp, _, t, _, b, rfl, e, .cons (.ty _) (.cons (.ty _) .nil), ty, k, h⟩
/-- for i, x in enumerate(a list) -/
theorem r_forE {g : TG} {tb : TS} (h : A σ H fun vs H1 => ∃ a xs, vs = [.ref a] ∧ SqL K H1 a xs ∧ ∃ W : Nat → Nat → L2.St → Hp → Prop, (∃ m, W 0 m σ H1) ∧ ∀ i m σ H, W i m σ H →
      (((Ite K a).stop i H ∧ D.nx σ H) ∨ ((Ite K a).go i H ∧ ∃ N : L2.St → Hp → Prop, (∀ σ' H', N σ' H' → ∃ m', m' < m ∧ W (i + 1) m' σ' H') ∧ ∀ x H', (Ite K a).yld i H x H' → g x σ H' fun σ2 H2 => tb { D with nx := N, ct := N, bk := D.nx } σ2 H2))) :
    tFor (iEnum K A) g tb D σ H := h
theorem r_enum_by {g : TG} {tb : TS} {a : Addr} {xs : List V} (hs : SqL K H a xs) (Pv : Nat → L2.St → Hp → Prop) (h0 : Pv 0 σ H) (hl : ∀ i σ' H', Pv i σ' H' → SqL K H' a xs)
    (ht : ∀ (i : Nat) x σ' H', xs[i]? = some x → Pv i σ' H' → ∀ T H2, H' T = none → Same H' H2 → H2 T = some (.tup [.int (i : Nat), x]) → g (.ref T) σ' H2 fun σ2 H3 => tb { D with nx := Pv (i + 1), ct := Pv (i + 1), bk := D.nx } σ2 H3) (hd : ∀ σ' H', Pv xs.length σ' H' → D.nx σ' H') :
    ∃ a' xs', [V.ref a] = [.ref a'] ∧ SqL K H a' xs' ∧ ∃ W : Nat → Nat → L2.St → Hp → Prop, (∃ m, W 0 m σ H) ∧ ∀ i m σ H, W i m σ H →
      (((Ite K a').stop i H ∧ D.nx σ H) ∨ ((Ite K a').go i H ∧ ∃ N : L2.St → Hp → Prop, (∀ σ' H', N σ' H' → ∃ m', m' < m ∧ W (i + 1) m' σ' H') ∧ ∀ x H', (Ite K a').yld i H x H' → g x σ H' fun σ2 H2 => tb { D with nx := N, ct := N, bk := D.nx } σ2 H2)) := by
  refine ⟨a, xs, rfl, hs, fun i m σ H => m = xs.length - i ∧ i ≤ xs.length ∧ Pv i σ H, ⟨xs.length, by simp, Nat.zero_le _, h0⟩, ?_⟩
  rintro i m σ H ⟨rfl, hi, p⟩
  have q := hl i σ H p
  by_cases hlt : i < xs.length
  · refine .inr ⟨⟨xs, xs[i], q, by simp [hlt]⟩, Pv (i + 1), fun σ' H' p' => ⟨xs.length - (i + 1), by omega, rfl, hlt, p'⟩, fun x H' y => ?_⟩
    obtain ⟨T, z, e1, nT, e2, hz⟩ := y
    subst e1 e2
    exact ht i z σ H (hz xs q) p T _ nT (same_upd nT) upd_same
  · have e : i = xs.length := by omega
    subst e
    exact .inl ⟨⟨xs, q, Nat.le_refl _⟩, hd σ H p⟩
end
theorem kit_list {K : PySem.W.Frag} (h1 : PySem.W.kitOne K (.type "list") (.type "list") = some true) : PySem.W.kitAny K (.type "list") [.type "list", .type "tuple"] = some true := by
  simp only [PySem.W.kitAny, h1]
theorem kit_tuple {K : PySem.W.Frag} (h1 : PySem.W.kitOne K (.type "tuple") (.type "list") = some false) (h2 : PySem.W.kitOne K (.type "tuple") (.type "tuple") = some true) : PySem.W.kitAny K (.type "tuple") [.type "list", .type "tuple"] = some true := by
  simp only [PySem.W.kitAny, h1, h2]
end Z
local macro_rules | `(tactic| walk_at "call") => `(tactic| first
  | with_reducible refine Z.r_dnewK ?_
  | with_reducible refine Z.r_dnotin ?_
  | with_reducible refine Z.r_forE ?_
  | ((with_reducible refine' Z.r_dnS ?e ?_); (case e => walk_at "hp"))
  | ((with_reducible refine' Z.r_tupL ?e ?_); (case e => walk_at "hp"))
  | ((with_reducible refine' Z.r_isiLT ?e ?ty ?k ?_); (case e => walk_at "hp"); (case ty => walk_at "ty"); (case k => first | exact Z.kit_list (by walk_at "ki") | exact Z.kit_tuple (by walk_at "ki") (by walk_at "ki"))))
/-- entries with what they are -/
abbrev Ens := List (V × Tag)
def EnsOk (C : Addr) (H : Hp) (es : Ens) : Prop := ∀ e ∈ es, Rep C H e.1 e.2 ∧ e.2 ≠ .non
theorem EnsOk.same {C : Addr} {H H' : Hp} {es : Ens} (s : Same H H') (h : EnsOk C H es) : EnsOk C H' es := fun e m => ⟨(h e m).1.same s, (h e m).2⟩
theorem EnsOk.but {C b : Addr} {H H' : Hp} {es : Ens} {xs : List V} (s : Z.But b H H') (hb : H b = some (.lst xs)) (h : EnsOk C H es) : EnsOk C H' es := fun e m => ⟨(h e m).1.but s hb, (h e m).2⟩
/-- the first of them that is this -/
def fst? (es : Ens) (t : Tag) : Option V := (es.find? fun e => decide (e.2 = t)).map (·.1)
def fstV (es : Ens) (t : Tag) : V := (fst? es t).getD .non
theorem fst_num {C : Addr} {H : Hp} {es : Ens} {i : Int} (h : EnsOk C H es) (m : ∃ x, (x, Tag.num i) ∈ es) : fstV es (.num i) = .int i := by
  unfold fstV fst?
  cases q : es.find? fun e => decide (e.2 = .num i) with
  | none =>
    obtain ⟨x, m⟩ := m
    have := List.find?_eq_none.mp q _ m
    simp at this
  | some e =>
    have h1 : e.2 = .num i := by simpa using List.find?_some q
    have h2 := (h e (List.mem_of_find?_eq_some q)).1
    rw [h1] at h2
    exact h2
theorem fst_take {es : Ens} {k : Nat} {t : Tag} {x : V} (h : fst? (es.take k) t = some x) : fst? es t = some x := by
  unfold fst? at h ⊢
  rw [← List.take_append_drop k es, List.find?_append]
  obtain ⟨e, he, hx⟩ := Option.map_eq_some_iff.mp h
  rw [he]
  simp [hx]
theorem fst_snoc {es : Ens} {e : V × Tag} {t : Tag} : fst? (es ++ [e]) t = (fst? es t).or (if e.2 = t then some e.1 else none) := by
  unfold fst?
  rw [List.find?_append]
  cases es.find? fun e => decide (e.2 = t) with
  | some z => simp
  | none =>
    by_cases h : e.2 = t
    · simp [List.find?_cons, h]
    · simp [List.find?_cons, h]
/-- what the dict of first ones tells -/
def Firsts (kvs : List (Key × V)) (es : Ens) : Prop := ∀ n : Str, valV kvs (.inr n) = fst? es (.mark n)
/-! enumerate of a tuple, walked -/
namespace Z
open PySem PySem.Spec PyProof.Rows L2
/-- the iterator and the enumerate object, one behind the other -/
def enIt (l : Addr) : Obj := { cls := .type "tuple_iterator", data := .fields #[.ref l, .int 0 0] }
def enOb (n : Nat) : Obj := { cls := .type "enumerate", data := .fields #[.none, .bool false, .ref n, rawInt 0, .none, .none] }
theorem enumT_meets (l : Addr) (ot : Obj) (its : Array Value) (n : Nat) (hc : ot.cls = .type "tuple") (hd : ot.data = .seq its n) :
    Meets (Builtin.«enumerate.__new__» ⟨[.type "enumerate", .ref l], []⟩) (fun _ R s => s.heap.get? l = some ot ∧ R (.ok (.ret (.ref (s.heap.push (enIt l)).objs.size))) { s with heap := (s.heap.push (enIt l)).push (enOb s.heap.objs.size) }) :=
  .of_wp fun prog w A R s h => by
    obtain ⟨otc, otd, otx, ots⟩ := ot
    simp only at hc hd
    subst hc hd
    obtain ⟨hp, g, d, tk, os⟩ := s
    obtain ⟨hl, h⟩ := h
    have sb := sub_enumerate
    have tp : Heap.IsTuple (Shared.heap ⟨hp, g, d, tk, os⟩) l its := ⟨_, hl, rfl, n, rfl⟩
    wp_walk using AutoSeq1.wpAny_loadPart' hl
    refine wpAny_stack_any fun _ => wpAny_pure ?_
    split
    · rename_i c _ _ _ _ _
      cases (c == Value.type "enumerate") <;> (wp_walk using AutoSeq1.wpAny_loadPart' hl, wpAny_pyIter_tuple tp; exact ⟨_, rfl, h⟩)
    · wp_walk using AutoSeq1.wpAny_loadPart' hl, wpAny_pyIter_tuple tp
      exact ⟨_, rfl, h⟩
section
variable {prog : Program} {w : World} {A : Around} {E : Value → Shared → Prop} {s : Shared}
theorem enumT_call {l : Addr} {its : Array Value} {Q : Value → Shared → Prop} (tp : IsTup s.heap l its)
    (h : ∀ h', IsEnum h' (s.heap.objs.size + 1) s.heap.objs.size 0 .none → h'.IsTupleIter s.heap.objs.size l 0 → (∀ b o, s.heap.get? b = some o → h'.get? b = some o) → Q (.ref (s.heap.objs.size + 1)) { s with heap := h' }) :
    wpAny (model prog w) A (call (.type "enumerate") [.ref l]) Q E s := by
  obtain ⟨ot, hl, hc, n, hd⟩ := tp
  refine callType_new PySem.F.called_enumerate (by decide) (PySem.F.typeCall_enumerate_1 _) (PySem.F.newCall_enumerate_1 _) (fun obj => PySem.F.args_object_init_2 obj _) PySem.F.entry_enumerate_new (enumT_meets l ot its n hc hd) ⟨hl, ?_⟩
  have sz : (s.heap.push (enIt l)).objs.size = s.heap.objs.size + 1 := Heap.size_push ..
  have he : IsEnum ((s.heap.push (enIt l)).push (enOb s.heap.objs.size)) (s.heap.objs.size + 1) s.heap.objs.size 0 .none := by
    have z := Heap.get?_push_size (s.heap.push (enIt l)) (o := enOb s.heap.objs.size) rfl
    rw [sz] at z
    exact z
  show _ ∧ _
  rw [sz]
  exact ⟨⟨_, he, rfl⟩, h _ he ⟨_, Heap.get?_push_of_some _ (Heap.get?_push_size _ rfl), rfl, rfl⟩ fun b o x => Heap.get?_push_of_some _ (Heap.get?_push_of_some _ x)⟩
end
/-- the tuple at a, its items in new pairs with their places -/
def ItT (K : PySem.W.Frag) (a : Addr) : It :=
  ⟨fun i H => ∃ (xs : List V) (x : V), SqT K H a xs ∧ xs[i]? = some x,
   fun i H v H' => ∃ T x, v = .ref T ∧ H T = none ∧ H' = L2.upd H T (.tup [.int (i : Nat), x]) ∧ ∀ xs, SqT K H a xs → xs[i]? = some x,
   fun i H => ∃ xs : List V, SqT K H a xs ∧ xs.length = i⟩
theorem turnT {P : Program} {w : World} {K : PySem.W.Frag} {elts : List Expr} {kk : Nat} {tpos : Pos} (a e it : Addr) :
    Turn P w K (.Tuple elts kk tpos) (ItT K a) [e, it] e (fun i h => (∃ old, IsEnum h e it ((i : Nat) : Int) old) ∧ h.IsTupleIter it a i ∧ e ≠ it) where
  mem := by simp
  obj := fun i h st b hb => by
    obtain ⟨⟨old, he⟩, ⟨o, ho, _, hd⟩, _⟩ := st
    rcases (by simpa using hb : b = e ∨ b = it) with rfl | rfl
    · exact ⟨_, he, fun v q => nomatch q⟩
    · exact ⟨o, ho, fun v q => by rw [hd] at q; cases q⟩
  keep := fun i h h' st k => by
    obtain ⟨⟨old, he⟩, hi, hne⟩ := st
    exact ⟨⟨old, k e (by simp) _ he⟩, hi.at fun o q => k it (by simp) o q, hne⟩
  item := by
    intro X hP hw hK hc i pins s σ H E I hf st hg
    subst hP hw hK
    obtain ⟨⟨old, he⟩, hit, hne⟩ := st
    obtain ⟨xs, x, hq, hx⟩ := hg
    obtain ⟨ts, rv, p, hz⟩ := I.tuple hq
    obtain ⟨u, hu, ru⟩ := rv.get hx
    have hel : e < s.heap.objs.size := Heap.lt_size he
    have hil : it < s.heap.objs.size := by obtain ⟨_, q, _⟩ := hit; exact Heap.lt_size q
    have nit : a ≠ it := by
      rintro rfl
      obtain ⟨o1, q1, c1, _⟩ := hit
      obtain ⟨o2, q2, c2, _⟩ := p
      rw [q1] at q2
      cases q2
      rw [c1] at c2
      simp at c2
    have hi : i < ts.toArray.size := by
      have := (List.getElem?_eq_some_iff.mp hu).1
      simpa using this
    have ex : e ∉ [it, a] := by
      intro m
      rcases (by simpa using m : e = it ∨ e = a) with z | rfl
      · exact hne z
      · obtain ⟨o2, q2, c2, _⟩ := p
        rw [he] at q2
        cases q2
        simp at c2
    refine wpAny_pyNext_enum_itemD (Draws.tuple (A := X.A.in1) (show X.A.in1.handled = none from I.ok.hd hc) it a nit ts.toArray) he ⟨hit, p⟩ hi hne ex fun y h' tk hy ho st' hT hsz hk => ?_
    have eu : y = u := by
      have z : ts.toArray[i]? = some u := by simpa using hu
      exact Option.some.inj (hy.symm.trans z)
    subst eu
    refine ⟨_, rfl, wpAny_letOwnedTupleGo_enum (s := { s with heap := h', toks := tk + 1 }) ho fun h'' he' sb => ?_⟩
    have ke : ∀ b o, b ≠ e → b ≠ it → s.heap.get? b = some o → h''.get? b = some o := fun b o n1 n2 q => (sb.2 b n1).trans (hk b o n1 n2 q)
    have hT2 : h''.get? s.heap.objs.size = some { cls := .type "tuple", data := .seq #[.int i tk, y] } := (sb.2 _ (Nat.ne_of_gt hel)).trans hT
    have new : ObjOk X.prog X.w (L2.upd H s.heap.objs.size (.tup [.int (i : Nat), x])) h'' s.heap.objs.size (.tup [.int (i : Nat), x]) :=
      ⟨by show 2 ≤ sizeLine; decide, [.int i tk, y], .cons ⟨_, rfl⟩ (.cons ru .nil), ⟨_, hT2, rfl, _, rfl⟩⟩
    have I1 : Inv X pins σ (L2.upd H s.heap.objs.size (.tup [.int (i : Nat), x])) { s with heap := h'', toks := tk + 1 } :=
      I.turnedNew (ch := [e, it]) (fun b ob hb q => ke b ob (fun z => hb (by simp [z])) (fun z => hb (by simp [z])) q) hf (Nat.le_refl _) new
    have fin : ((i + 1 : Nat) : Int) = (i : Int) + 1 := by omega
    refine ⟨.ref s.heap.objs.size, _, I1, rfl, ⟨_, x, rfl, I.hok.fresh (Nat.le_refl _), rfl, fun ys hy2 => ?_⟩, ⟨⟨y, by rw [fin]; exact he'⟩, st'.1.at fun o q => (sb.2 it (Ne.symm hne)).trans q, hne⟩, fun b hb => ?_⟩
    · rw [I.tuple_inj hy2 hq]
      exact hx
    · have lt : b < s.heap.objs.size := by
        rcases (by simpa using hb : b = e ∨ b = it) with rfl | rfl
        · exact hel
        · exact hil
      rw [upd_ne (Nat.ne_of_lt lt)]
      exact (hf b hb).1
  done := by
    intro X hP hw hK hc i pins s σ H E I hf st hg
    subst hP hw hK
    obtain ⟨⟨old, he⟩, hit, hne⟩ := st
    obtain ⟨xs, hq, hx⟩ := hg
    obtain ⟨ts, rv, p, hz⟩ := I.tuple hq
    obtain ⟨f0, f1, f2, f3, f4, f5⟩ := hf it (by simp)
    have nit : a ≠ it := by
      rintro rfl
      obtain ⟨o1, q1, c1, _⟩ := hit
      obtain ⟨o2, q2, c2, _⟩ := p
      rw [q1] at q2
      cases q2
      rw [c1] at c2
      simp at c2
    have sz : i = ts.toArray.size := by
      have := rv.length
      simp
      omega
    subst sz
    exact wpAny_pyNext_enum_endD (Draws.tuple (A := X.A.in1) (show X.A.in1.handled = none from I.ok.hd hc) it a nit ts.toArray) he ⟨hit, p⟩ fun h' eb => ⟨rfl, I.turned (t' := s.toks) (fun b o hb q => eb b o hb q) f0 f1 f3 f4 f5⟩
  self := fun A i s Q E st h => let ⟨⟨_, he⟩, _⟩ := st; wpAny_pyIter_enum he h
theorem new_pair {b n : Nat} (h : b = n + 1 ∨ b = n) : n ≤ b := by omega
def iEnT (K : PySem.W.Frag) (ta : TA) : TI := fun σ H R => ta σ H fun vs H1 => ∃ a xs, vs = [.ref a] ∧ SqT K H1 a xs ∧ R (ItT K a) H1
theorem pi_enT {X : Cx} {e : Expr} {ta : TA} {p pos tpos : Pos} {elts : List Expr} {kk : Nat} (hg : Gl X "enumerate") (hm : X.mg "enumerate" = none) (ha : PA X [e] ta) (hs : starEach [e] X.env = [(false, eval e X.env)] := by rfl) :
    PI X (.Tuple elts kk tpos) (.Call (.Name "enumerate" p) [e] [] pos) (iEnT X.K ta) := by
  refine ⟨fun pins s σ H R I h => ?_⟩
  refine Call_ (ld_blt I hg hm boot_enumerate (PyProof.Rows.callWith_type1 (thn (ha.run pos pins s σ H _ I h) fun us s1 ⟨vs, H1, I1, r1, a, xs, ex, hq, q⟩ => ?_) hs rfl))
  subst ex
  obtain rfl := Vals.ref1 r1
  obtain ⟨ts, rv, tp, hz⟩ := I1.tuple hq
  refine enumT_call tp fun h' he hit hk => wpAny_pyIter_enum he ?_
  refine ⟨s1.heap.objs.size + 1, [s1.heap.objs.size + 1, s1.heap.objs.size], _, _, H1, rfl, I1.kept (t' := s1.toks) hk, turnT a (s1.heap.objs.size + 1) s1.heap.objs.size, ⟨⟨.none, he⟩, hit, Nat.succ_ne_self _⟩, fun b hb => ?_, q⟩
  have le := new_pair (by simpa using hb)
  exact I1.fpOk le (I1.hok.fresh le)
section
variable {K : PySem.W.Frag} {σ : L2.St} {H : Hp} {Q : VK} {D : Ends} {A : TA} {te : TE} {tt : TT}
/-- for i, x in enumerate(a tuple) -/
theorem r_forET {g : TG} {tb : TS} (h : A σ H fun vs H1 => ∃ a xs, vs = [.ref a] ∧ SqT K H1 a xs ∧ ∃ W : Nat → Nat → L2.St → Hp → Prop, (∃ m, W 0 m σ H1) ∧ ∀ i m σ H, W i m σ H →
      (((ItT K a).stop i H ∧ D.nx σ H) ∨ ((ItT K a).go i H ∧ ∃ N : L2.St → Hp → Prop, (∀ σ' H', N σ' H' → ∃ m', m' < m ∧ W (i + 1) m' σ' H') ∧ ∀ x H', (ItT K a).yld i H x H' → g x σ H' fun σ2 H2 => tb { D with nx := N, ct := N, bk := D.nx } σ2 H2))) :
    tFor (iEnT K A) g tb D σ H := h
theorem r_enumT_by {g : TG} {tb : TS} {a : Addr} {xs : List V} (hs : SqT K H a xs) (Pv : Nat → L2.St → Hp → Prop) (h0 : Pv 0 σ H) (hl : ∀ i σ' H', Pv i σ' H' → SqT K H' a xs)
    (ht : ∀ (i : Nat) x σ' H', xs[i]? = some x → Pv i σ' H' → ∀ T H2, H' T = none → Same H' H2 → H2 T = some (.tup [.int (i : Nat), x]) → g (.ref T) σ' H2 fun σ2 H3 => tb { D with nx := Pv (i + 1), ct := Pv (i + 1), bk := D.nx } σ2 H3) (hd : ∀ σ' H', Pv xs.length σ' H' → D.nx σ' H') :
    ∃ a' xs', [V.ref a] = [.ref a'] ∧ SqT K H a' xs' ∧ ∃ W : Nat → Nat → L2.St → Hp → Prop, (∃ m, W 0 m σ H) ∧ ∀ i m σ H, W i m σ H →
      (((ItT K a').stop i H ∧ D.nx σ H) ∨ ((ItT K a').go i H ∧ ∃ N : L2.St → Hp → Prop, (∀ σ' H', N σ' H' → ∃ m', m' < m ∧ W (i + 1) m' σ' H') ∧ ∀ x H', (ItT K a').yld i H x H' → g x σ H' fun σ2 H2 => tb { D with nx := N, ct := N, bk := D.nx } σ2 H2)) := by
  refine ⟨a, xs, rfl, hs, fun i m σ H => m = xs.length - i ∧ i ≤ xs.length ∧ Pv i σ H, ⟨xs.length, by simp, Nat.zero_le _, h0⟩, ?_⟩
  rintro i m σ H ⟨rfl, hi, p⟩
  have q := hl i σ H p
  by_cases hlt : i < xs.length
  · refine .inr ⟨⟨xs, xs[i], q, by simp [hlt]⟩, Pv (i + 1), fun σ' H' p' => ⟨xs.length - (i + 1), by omega, rfl, hlt, p'⟩, fun x H' y => ?_⟩
    obtain ⟨T, z, e1, nT, e2, hz⟩ := y
    subst e1 e2
    exact ht i z σ H (hz xs q) p T _ nT (same_upd nT) upd_same
  · have e : i = xs.length := by omega
    subst e
    exact .inl ⟨⟨xs, q, rfl⟩, hd σ H p⟩
/-- [e for i, x in enumerate(a tuple) if t] -/
def lcET (K : PySem.W.Frag) (a : Addr) (g : TG) (tt : TT) (te : TE) (vs : List Nat) (σ : L2.St) (H : Hp) (Q : VK) : Prop := ∀ D, H D = none → ∃ W : Nat → Nat → Hp → Prop, (∃ m, W 0 m (L2.upd H D (.lst []))) ∧ ∀ i m H, W i m H →
  ((ItT K a).stop i H ∧ Q (.ref D) H) ∨ ((ItT K a).go i H ∧ ∃ Nx : Hp → Prop, (∀ H', Nx H' → ∃ m', m' < m ∧ W (i + 1) m' H') ∧ ∀ x H', (ItT K a).yld i H x H' → g x (wipe σ vs) H' fun σ2 H2 => wipe σ2 vs = wipe σ vs ∧ tt σ2 H2 fun b H3 =>
    if b = true then te σ2 H3 fun y H4 => ∃ acc, H4 D = some (.lst acc) ∧ acc.length < sizeLine ∧ Nx (L2.upd H4 D (.lst (acc ++ [y]))) else Nx H3)
theorem r_lcETup {vs : List Nat} {g : TG} (h : A σ H fun ws H1 => ∃ a xs, ws = [.ref a] ∧ SqT K H1 a xs ∧ lcET K a g tt te vs σ H1 Q) : tLc (iEnT K A) g tt te vs σ H Q := h
theorem r_lcET {vs : List Nat} {g : TG} {a : Addr} {xs : List V} (hx : SqT K H a xs) (Pv : Addr → Nat → Hp → Prop)
    (hs : ∀ Dl H1, H Dl = none → Same H H1 → H1 Dl = some (.lst []) → Pv Dl 0 H1) (hl : ∀ Dl i H', H Dl = none → Pv Dl i H' → SqT K H' a xs)
    (ht : ∀ Dl (i : Nat) x H', H Dl = none → xs[i]? = some x → Pv Dl i H' → ∀ T H2, H' T = none → Same H' H2 → H2 T = some (.tup [.int (i : Nat), x]) → g (.ref T) (wipe σ vs) H2 fun σ2 H3 => wipe σ2 vs = wipe σ vs ∧
      tt σ2 H3 fun b H4 => if b = true then te σ2 H4 (apR Dl (Pv Dl (i + 1))) else Pv Dl (i + 1) H4)
    (hd : ∀ Dl H', H Dl = none → Pv Dl xs.length H' → Q (.ref Dl) H') : ∃ a' xs', [V.ref a] = [.ref a'] ∧ SqT K H a' xs' ∧ lcET K a' g tt te vs σ H Q := by
  refine ⟨a, xs, rfl, hx, fun Dl nD => ⟨fun i m H' => m = xs.length - i ∧ i ≤ xs.length ∧ Pv Dl i H', ⟨xs.length, by simp, Nat.zero_le _, hs Dl _ nD (same_upd nD) upd_same⟩, ?_⟩⟩
  rintro i m H' ⟨rfl, hi, p⟩
  have q := hl Dl i H' nD p
  by_cases hlt : i < xs.length
  · refine .inr ⟨⟨xs, xs[i], q, by simp [hlt]⟩, Pv Dl (i + 1), fun H2 p' => ⟨xs.length - (i + 1), by omega, rfl, hlt, p'⟩, fun x H2 y => ?_⟩
    obtain ⟨T, z, e1, nT, e2, hz⟩ := y
    subst e1 e2
    exact ht Dl i z H' nD (hz xs q) p T _ nT (same_upd nT) upd_same
  · have e : i = xs.length := by omega
    subst e
    exact .inl ⟨⟨xs, q, rfl⟩, hd Dl H' nD p⟩
/-- [e for x in a tuple if t] -/
def lcT (K : PySem.W.Frag) (a : Addr) (k : Nat) (tt : TT) (te : TE) (vs : List Nat) (σ : L2.St) (H : Hp) (Q : VK) : Prop := (∃ xs, SqT K H a xs) ∧ ∀ D, H D = none → ∃ W : Nat → Nat → Hp → Prop, (∃ m, W 0 m (L2.upd H D (.lst []))) ∧ ∀ i m H, W i m H →
  ((Itt K a).stop i H ∧ Q (.ref D) H) ∨ ((Itt K a).go i H ∧ ∃ Nx : Hp → Prop, (∀ H', Nx H' → ∃ m', m' < m ∧ W (i + 1) m' H') ∧ ∀ x H', (Itt K a).yld i H x H' → gName k x (wipe σ vs) H' fun σ2 H2 => wipe σ2 vs = wipe σ vs ∧ tt σ2 H2 fun b H3 =>
    if b = true then te σ2 H3 fun y H4 => ∃ acc, H4 D = some (.lst acc) ∧ acc.length < sizeLine ∧ Nx (L2.upd H4 D (.lst (acc ++ [y]))) else Nx H3)
theorem r_lcTup {k : Nat} {vs : List Nat} {tl : TE} (h : tl σ H fun x H1 => ∃ a, x = .ref a ∧ lcT K a k tt te vs σ H1 Q) : tLc (iTup K tl) (gName k) tt te vs σ H Q := h
theorem r_lcT {a : Addr} {xs : List V} {k : Nat} {vs : List Nat} (hx : SqT K H a xs) (hw : ∀ x, wipe ((wipe σ vs).set k (some x)) vs = wipe σ vs) (Pv : Addr → Nat → Hp → Prop)
    (hs : ∀ Dl H1, H Dl = none → Same H H1 → H1 Dl = some (.lst []) → Pv Dl 0 H1) (hl : ∀ Dl i H', H Dl = none → Pv Dl i H' → SqT K H' a xs)
    (ht : ∀ Dl (i : Nat) x H', H Dl = none → xs[i]? = some x → Pv Dl i H' → tt ((wipe σ vs).set k (some x)) H' fun b H3 => if b = true then te ((wipe σ vs).set k (some x)) H3 (apR Dl (Pv Dl (i + 1))) else Pv Dl (i + 1) H3)
    (hd : ∀ Dl H', H Dl = none → Pv Dl xs.length H' → Q (.ref Dl) H') : ∃ a', V.ref a = .ref a' ∧ lcT K a' k tt te vs σ H Q := by
  refine ⟨a, rfl, ⟨xs, hx⟩, fun Dl hD => ?_⟩
  exact lc_tup (xs := xs) (tt := tt) (Pv Dl) (hs Dl _ hD (same_upd hD) upd_same) (fun i H' _ p => hl Dl i H' hD p) (fun i x H' hi p => ⟨hw _, ht Dl i x H' hD hi p⟩) (fun H' p => hd Dl H' hD p)
/-- for x in a tuple -/
theorem r_forT0 {tl : TE} {g : TG} {tb : TS} (h : tl σ H fun x H1 => ∃ a, x = .ref a ∧ (∃ xs, SqT K H1 a xs) ∧ ∃ W : Nat → Nat → L2.St → Hp → Prop, (∃ m, W 0 m σ H1) ∧ ∀ i m σ H, W i m σ H →
      (((Itt K a).stop i H ∧ D.nx σ H) ∨ ((Itt K a).go i H ∧ ∃ N : L2.St → Hp → Prop, (∀ σ' H', N σ' H' → ∃ m', m' < m ∧ W (i + 1) m' σ' H') ∧ ∀ x H', (Itt K a).yld i H x H' → g x σ H' fun σ2 H2 => tb { D with nx := N, ct := N, bk := D.nx } σ2 H2))) :
    tFor (iTup K tl) g tb D σ H := h
theorem r_tup_by {g : TG} {tb : TS} {a : Addr} {xs : List V} (hs : SqT K H a xs) (Pv : Nat → L2.St → Hp → Prop) (h0 : Pv 0 σ H) (hl : ∀ i σ' H', Pv i σ' H' → SqT K H' a xs)
    (ht : ∀ i x σ' H', xs[i]? = some x → Pv i σ' H' → g x σ' H' fun σ2 H2 => tb { D with nx := Pv (i + 1), ct := Pv (i + 1), bk := D.nx } σ2 H2) (hd : ∀ σ' H', Pv xs.length σ' H' → D.nx σ' H') :
    ∃ a', V.ref a = .ref a' ∧ (∃ xs, SqT K H a' xs) ∧ ∃ W : Nat → Nat → L2.St → Hp → Prop, (∃ m, W 0 m σ H) ∧ ∀ i m σ H, W i m σ H →
      (((Itt K a').stop i H ∧ D.nx σ H) ∨ ((Itt K a').go i H ∧ ∃ N : L2.St → Hp → Prop, (∀ σ' H', N σ' H' → ∃ m', m' < m ∧ W (i + 1) m' σ' H') ∧ ∀ x H', (Itt K a').yld i H x H' → g x σ H' fun σ2 H2 => tb { D with nx := N, ct := N, bk := D.nx } σ2 H2)) :=
  ⟨a, rfl, ⟨xs, hs⟩, for_tup (xs := xs) Pv h0 (fun i σ' H' _ p => hl i σ' H' p) ht hd⟩
end
end Z
local macro_rules | `(tactic| walk_at "call") => `(tactic| first
  | with_reducible refine Z.r_forET ?_
  | with_reducible refine Z.r_lcETup ?_
  | with_reducible refine Z.r_lcTup ?_
  | with_reducible refine Z.r_forT0 ?_)

/-! instances of an own class: len, [..], for .. in where __iter__ gives a tuple's iterator -/
namespace Z
open PySem PySem.Spec PyProof.Rows L2
open ItX (dropH dropH_upd inv_drop inv_fp)
/-- the iterator at it of the tuple at t -/
def ItTup (t it : Addr) (i : Nat) : HO := .ext fun h => h.IsTupleIter it t i
theorem itTup_ok {P : Program} {w : World} {H : Hp} {h : Heap} {t it : Addr} {i : Nat} (e : h.IsTupleIter it t i) : ObjOk P w H h it (ItTup t it i) :=
  ⟨e, let ⟨o, ho, _⟩ := e; ⟨o, ho⟩, fun h1 h2 e1 k => e1.at fun o q => k o q⟩
theorem itTup_get {P : Program} {w : World} {H : Hp} {h : Heap} {t it : Addr} {i : Nat} (ok : HOk P w H h) (e : H it = some (ItTup t it i)) : h.IsTupleIter it t i := (show ObjOk P w H h it (ItTup t it i) from ok it _ e).1
/-- iter(a tuple): young, as the caller's start was of n objects -/
def rIterT (K : PySem.W.Frag) (n : Nat) : List V → Hp → VK → Prop := fun xs H Q => ∃ (t : Addr) (zs : List V), xs = [.ref t] ∧ SqT K H t zs ∧ ∀ it, H it = none → n ≤ it → Q (.ref it) (L2.upd H it (ItTup t it 0))
section
variable {X : Cx} {k : Nat} {C f : Addr} {fd : FuncData} {ps : List Str} {sp : Sp}
theorem c_iterT : CallR X (.builtin "iter") (rIterT X.K X.s_0.heap.objs.size) := by
  intro pins s σ H xs us Q I r h
  obtain ⟨t, zs, rfl, hq, q⟩ := h
  obtain rfl := Vals.ref1 r
  obtain ⟨its, rv, tp, hz⟩ := I.tuple hq
  refine Calls.call_function_entry (by decide +kernel) (by decide +kernel) PySem.W.kdk_entry_iter (PySem.W.kdk_args_iter _) ?_
  unfold Builtin.«iter»
  refine wpAny_bind (m := someArgs "iter" 1 2 _) (wpAny_of_eq (a := [Value.ref t]) (by kernel_rfl!) (?_ : wpAny _ _ (pyIter (.ref t) >>= _) _ _ s))
  refine wpAny_bind (wpAny_pyIter_tuple (show s.heap.IsTuple t its.toArray from tp) (wpAny_pure ⟨_, rfl, ?_⟩))
  have fr := I.hok.fresh (Nat.le_refl s.heap.objs.size)
  exact ⟨.ref s.heap.objs.size, _, I.laid (t' := s.toks) (fun b u e => Heap.get?_push_of_some _ e) (Nat.le_refl _) (itTup_ok ⟨_, Heap.get?_push_size _ rfl, rfl, rfl⟩), rfl, q _ fr I.sz⟩
/-- len of an instance -/
def inB (Q : VK) : VK := fun v H' => ∃ n : Nat, v = .int n ∧ n ≤ 1000000 ∧ Q (.int n) H'
def rLenO (C : Addr) (sp : Sp) : List V → Hp → VK → Prop := fun xs H Q => ∃ a dx fs, xs = [.ref a] ∧ H a = some (.ins C dx fs) ∧ sp ([.ref a] ++ []) H (inB Q) E0
theorem c_lenO (M : Meth X.K C "__len__" f) (F : FnOk X.prog X.w X.K X.mg X.base CX0 k f fd ps sp) (hr : Room (k + 1) X.A) (hb : Binds X.K fd ps []) : CallR X (.builtin "len") (rLenO C sp) := by
  intro pins s σ H xs us Q I r h
  obtain ⟨a, dx, fs, rfl, ha, q⟩ := h
  obtain ⟨u, rfl, ru⟩ := vals1 r
  cases (show u = Value.ref a from ru)
  obtain ⟨mA, O, _⟩ := ins_get I.hok ha
  obtain ⟨od, J, _⟩ := O.look
  obtain ⟨m, hF⟩ := I.fr
  refine PySem.W.len_K hF I.ok.mod.kin J M.at_ M.fn (wpAny_mono (run_below (us := [.ref a]) (vs := [.ref a]) (A := X.A.in1) ⟨hr.in1, rfl⟩ F hb I (.cons rfl .nil) q) (fun w s' z => ?_) fun _ _ x => x)
  obtain ⟨z', H', I', rz, n, e, hn, qz⟩ := z
  subst e
  obtain ⟨t, rfl⟩ := (show ∃ t, w = Value.int (n : Int) t from rz)
  have p63 : (1000000 : Int) < 2 ^ 63 := by decide
  exact ⟨⟨by omega, by omega⟩, .int n, H', I'.tok _, ⟨_, rfl⟩, qz⟩
end
section
variable {P : Program} {w : World} {K : PySem.W.Frag} {mg : Str → Option Value} {base : Heap}
/-- a def called in one state, its body's reading told of that state alone -/
theorem fn_at {x qual : Str} {st : Stmt} {f : Addr} {fd : FuncData} {N ps : List Str} {k : Nat} {A : Around} {outer : List Env} {s : Shared} {H : Hp} {args : Args} {us : List Value} {vs : List V} {Q : VK} {E : XK}
    (F : Fun K x qual st f fd) (S : FnScope N ps (defScope st)) (hr : Room (k + 1) A) (e0 : Env0 P w K mg base A outer s H) (hb : BindsTo s fd args (ps.zip us)) (r : Vals vs us) (hl : vs.length = ps.length)
    (hbody : ∀ cdv, Room k (A.deeper (envOfC qual (defScope st) s.heap.objs.size f cdv)) → ∃ t, PSs (cxOf CX0 P w K mg base N qual (defScope st) f cdv A outer s H E) (defBody st) t ∧ t { nx := fun _ H' => Q .non H', rt := Q } (start N vs) H) :
    codeAny (model P w) A (.call (.ref f) args) (CR CX0 outer P w H s Q E) s := by
  obtain ⟨oc, od, kV, doc, pm, an, cdv, ct, osl, rfl, lk, hcd⟩ := F.ex
  have bk : ∀ b o, base.get? b = some o → s.heap.get? b = some o := fun b o e => (e0.bs b o e).1
  have KX : K.In s.heap := e0.mod.kin.keeps bk
  have kinds : ∀ y ∈ ps.zip us, (defScope st).names.lookup y.1 = some .local ∨ ((defScope st).names.lookup y.1 = some .cell ∧ ((cellsFrom (s.heap.objs.size + 1) (defScope st).names []).lookup y.1).isSome = true) := by
    rintro ⟨n, v⟩ hy
    exact (S.par n (List.of_mem_zip hy).1).imp id fun q => ⟨q, PySem.W.cellsFrom_some _ _ _ (.inl q)⟩
  refine codeAny_call_function hr.depth (KX _ _ lk) rfl S.co S.gen rfl (PySem.W.codeRec_of KX hcd) (hb _ _ _ _ (wpAny_newFunctionEnv_cells S.kind kinds fun env he s1 y => ?_))
  subst he
  refine ⟨(e0.mod.nolimit.keeps bk).keeps y.toInCall.keep, codeAny_func ?_⟩
  obtain ⟨t, ht, hq⟩ := hbody cdv (hr.deeper _)
  have I := inv_start (CX := CX0) (P := P) (w := w) (K := K) (mg := mg) (base := base) (E := E) S hr.hd e0 hl r y
  refine wpAny_mono (ht.run [] s1 (start N vs) H _ I hq) (fun fl s' hs => ?_) fun _ _ z => z
  cases fl with
  | ret u =>
    obtain ⟨v, _, H', J, rv, q⟩ := hs
    exact ⟨v, H', J.os, J.bare, J.base, J.hok, rv, q⟩
  | next =>
    obtain ⟨_, H', J, q⟩ := hs
    exact ⟨V.non, H', J.os, J.bare, J.base, J.hok, rfl, q⟩
  | brk => exact False.elim hs.choose_spec.choose_spec.2
  | cont => exact False.elim hs.choose_spec.choose_spec.2
end
end Z
namespace Z
open PySem PySem.Spec PyProof.Rows L2
open ItX (dropH dropH_upd inv_drop inv_fp)
/-- the def at f gives, of an instance of C whose field fl holds a tuple, a young iterator of it -/
def IterOk (P : Program) (w : World) (K : PySem.W.Frag) (mg : Str → Option Value) (base : Heap) (k : Nat) (f C : Addr) (fl : Str) : Prop :=
  ∀ (A : Around) (outer : List Env) (s : Shared) (H : Hp) (a : Addr) (Q : VK), Room k A → Env0 P w K mg base A outer s H →
    (∃ dx fs t zs, H a = some (.ins C dx fs) ∧ fs.lookup fl = some (.ref t) ∧ SqT K H t zs ∧ ∀ it, H it = none → s.heap.objs.size ≤ it → Q (.ref it) (L2.upd H it (ItTup t it 0))) →
    codeAny (model P w) A (.call (.ref f) ⟨[.ref a], []⟩) (CR CX0 outer P w H s Q E0) s
def iOwn (K : PySem.W.Frag) (C : Addr) (fl : Str) (te : TE) : TI := fun σ H R => te σ H fun x H1 => ∃ a dx fs t zs, x = .ref a ∧ H1 a = some (.ins C dx fs) ∧ fs.lookup fl = some (.ref t) ∧ SqT K H1 t zs ∧ R (Itt K t) H1
section
variable {prog : Program} {w : World} {A : Around} {E : Value → Shared → Prop} {s : Shared} {K : PySem.W.Frag} {x C f : Addr} {ox : Obj} {od : Option Obj}
theorem iter_own {Q : Value → Shared → Prop} (X : K.In s.heap) (I : PySem.W.InstAt s.heap x ox C od) (hs : PySem.W.findIn K (.ref C) "__iter__" = some (some (.ref f))) (hf : PySem.W.isFn K (.ref f) = true)
    (h : wpAny (model prog w) A (call (.ref f) [.ref x]) (fun v s' => (∃ t it i, v = .ref it ∧ s'.heap.IsTupleIter it t i) ∧ Q v s') E s) : wpAny (model prog w) A (pyIter (.ref x)) Q E s := by
  have look : ∀ {R : Option Value → Shared → Prop}, R (some (.ref f)) s → wpAny (model prog w) A (specialOf (.ref x) (Str.ofString "__iter__")) R E s := fun q => wpAny_bind (I.type.here ((PySem.W.looks_findIn X hs).here q))
  have go : wpAny (model prog w) A (call (.ref f) [.ref x] >>= fun v => pure (some v)) (fun r s' => ∃ v, r = some v ∧ (∃ t it i, v = .ref it ∧ s'.heap.IsTupleIter it t i) ∧ Q v s') E s :=
    wpAny_bind (wpAny_mono h (fun v s' z => wpAny_pure ⟨v, rfl, z⟩) fun _ _ z => z)
  unfold pyIter
  refine wpAny_bind (look ?_)
  dsimp only
  refine wpAny_bind (wpAny_mono (Q := fun r s' => ∃ v, r = some v ∧ (∃ t it i, v = .ref it ∧ s'.heap.IsTupleIter it t i) ∧ Q v s') ?_ (fun r s' z => ?_) fun _ _ z => z)
  · simp only [callSpecialIfBoundUnlessNone?, bindSpecialIfBound?]
    refine wpAny_holding (wpAny_bind (wpAny_bind (look ?_)))
    refine wpAny_bind (wpAny_askSetting (wpAny_ite ?_))
    split
    · exact wpAny_bind ((PySem.W.bind_fn X _ (beq_iff_eq.mp hf)).here (wpAny_pure (by exact go)))
    · exact wpAny_tryCatch (wpAny_bind ((PySem.W.bind_fn X _ (beq_iff_eq.mp hf)).here (wpAny_pure (by exact go))))
  · obtain ⟨v, rfl, ⟨t, it, i, rfl, hi⟩, q⟩ := z
    exact wpAny_bind (wpAny_specialOf hi.typeIs PySem.F.slot_tuple_iterator_next.lookup (wpAny_pure q))
end
section
variable {X : Cx} {k : Nat} {C f : Addr} {fl : Str} {te : TE} {tg e : Expr}
theorem pi_own (M : Meth X.K C "__iter__" f) (F : IterOk X.prog X.w X.K X.mg X.base k f C fl) (hr : Room k X.A) (he : PE X e te) : PI X tg e (iOwn X.K C fl te) := by
  refine ⟨fun pins s σ H R I h => ?_⟩
  refine thn (he.run pins s σ H _ I h) fun v s1 hv => ?_
  obtain ⟨y, H1, I1, r1, a, dx, fs, t, zs, rfl, ha, hl, ht, q⟩ := hv
  cases (show v = Value.ref a from r1)
  obtain ⟨mA, O, _⟩ := ins_get I1.hok ha
  obtain ⟨od, J, _⟩ := O.look
  refine iter_own I1.kIn J M.at_ M.fn (wpAny_call (codeAny_mono (F X.A X.stack s1 H1 a (fun v H' => ∃ it, v = .ref it ∧ H1 it = none ∧ s1.heap.objs.size ≤ it ∧ H' = L2.upd H1 it (ItTup t it 0)) hr I1.env0
    ⟨dx, fs, t, zs, ha, hl, ht, fun it n1 n2 => ⟨it, rfl, n1, n2, rfl⟩⟩) fun r s' hq => ?_))
  cases r with
  | error e => exact hq.elim
  | ok fl =>
    cases fl with
    | next => exact False.elim hq
    | brk => exact False.elim hq
    | cont => exact False.elim hq
    | ret u =>
      obtain ⟨v, H', I2, rv, it, rfl, n1, n2, rfl⟩ := I1.after hq
      cases (show u = Value.ref it from rv)
      have hi : L2.upd H1 it (ItTup t it 0) it = some (ItTup t it 0) := upd_same
      have st := itTup_get I2.hok hi
      refine ⟨⟨t, it, 0, rfl, st⟩, it, [it], _, _, dropH (L2.upd H1 it (ItTup t it 0)) it, rfl, inv_drop I2 hi, turn_tuple t it, st, fun b hb => ?_, ?_⟩
      · have e : b = it := by simpa using hb
        rw [e]
        exact inv_fp I2 hi (Nat.le_trans I1.sz n2)
      · rw [dropH_upd n1]
        exact q
end
section
variable {K : PySem.W.Frag} {σ : L2.St} {H : Hp} {Q : VK} {D : Ends} {te : TE} {tt : TT} {a C dx t : Addr} {fs : List (Str × V)} {fl : Str} {zs : List V}
def owR (K : PySem.W.Frag) (C : Addr) (fl : Str) (R : It → Hp → Prop) : VK := fun x H1 => ∃ a dx fs t zs, x = .ref a ∧ H1 a = some (.ins C dx fs) ∧ fs.lookup fl = some (.ref t) ∧ SqT K H1 t zs ∧ R (Itt K t) H1
def forOR (g : TG) (tb : TS) (D : Ends) (σ : L2.St) : It → Hp → Prop := fun J H1 => ∃ W : Nat → Nat → L2.St → Hp → Prop, (∃ m, W 0 m σ H1) ∧ ∀ i m σ H, W i m σ H →
  ((J.stop i H ∧ D.nx σ H) ∨ (J.go i H ∧ ∃ N : L2.St → Hp → Prop, (∀ σ' H', N σ' H' → ∃ m', m' < m ∧ W (i + 1) m' σ' H') ∧ ∀ x H', J.yld i H x H' → g x σ H' fun σ2 H2 => tb { D with nx := N, ct := N, bk := D.nx } σ2 H2))
theorem r_forO {g : TG} {tb : TS} (h : te σ H (owR K C fl (forOR g tb D σ))) : tFor (iOwn K C fl te) g tb D σ H := h
theorem r_forO_by {g : TG} {tb : TS} (ha : H a = some (.ins C dx fs)) (hf : fs.lookup fl = some (.ref t)) (hs : SqT K H t zs) (Pv : Nat → L2.St → Hp → Prop) (h0 : Pv 0 σ H) (hl : ∀ i σ' H', Pv i σ' H' → SqT K H' t zs)
    (ht : ∀ i x σ' H', zs[i]? = some x → Pv i σ' H' → g x σ' H' fun σ2 H2 => tb { D with nx := Pv (i + 1), ct := Pv (i + 1), bk := D.nx } σ2 H2) (hd : ∀ σ' H', Pv zs.length σ' H' → D.nx σ' H') : owR K C fl (forOR g tb D σ) (.ref a) H :=
  ⟨a, dx, fs, t, zs, rfl, ha, hf, hs, for_tup (xs := zs) Pv h0 (fun i σ' H' _ p => hl i σ' H' p) ht hd⟩
def lcOR (k : Nat) (tt : TT) (te' : TE) (vs : List Nat) (σ : L2.St) (Q : VK) : It → Hp → Prop := fun J H1 => ∀ D, H1 D = none → ∃ W : Nat → Nat → Hp → Prop, (∃ m, W 0 m (L2.upd H1 D (.lst []))) ∧ ∀ i m H, W i m H →
  (J.stop i H ∧ Q (.ref D) H) ∨ (J.go i H ∧ ∃ Nx : Hp → Prop, (∀ H', Nx H' → ∃ m', m' < m ∧ W (i + 1) m' H') ∧ ∀ x H', J.yld i H x H' → gName k x (wipe σ vs) H' fun σ2 H2 => wipe σ2 vs = wipe σ vs ∧ tt σ2 H2 fun b H3 =>
    if b = true then te' σ2 H3 fun y H4 => ∃ acc, H4 D = some (.lst acc) ∧ acc.length < sizeLine ∧ Nx (L2.upd H4 D (.lst (acc ++ [y]))) else Nx H3)
theorem r_lcO0 {k : Nat} {vs : List Nat} {te' : TE} (h : te σ H (owR K C fl (lcOR k tt te' vs σ Q))) : tLc (iOwn K C fl te) (gName k) tt te' vs σ H Q := h
theorem r_lcO {k : Nat} {vs : List Nat} {te' : TE} (ha : H a = some (.ins C dx fs)) (hf : fs.lookup fl = some (.ref t)) (hx : SqT K H t zs) (hw : ∀ x, wipe ((wipe σ vs).set k (some x)) vs = wipe σ vs) (Pv : Addr → Nat → Hp → Prop)
    (hs : ∀ Dl H1, H Dl = none → Same H H1 → H1 Dl = some (.lst []) → Pv Dl 0 H1) (hl : ∀ Dl i H', H Dl = none → Pv Dl i H' → SqT K H' t zs)
    (ht : ∀ Dl (i : Nat) x H', H Dl = none → zs[i]? = some x → Pv Dl i H' → tt ((wipe σ vs).set k (some x)) H' fun b H3 => if b = true then te' ((wipe σ vs).set k (some x)) H3 (apR Dl (Pv Dl (i + 1))) else Pv Dl (i + 1) H3)
    (hd : ∀ Dl H', H Dl = none → Pv Dl zs.length H' → Q (.ref Dl) H') : owR K C fl (lcOR k tt te' vs σ Q) (.ref a) H :=
  ⟨a, dx, fs, t, zs, rfl, ha, hf, hx, fun Dl hD => lc_tup (xs := zs) (tt := tt) (Pv Dl) (hs Dl _ hD (same_upd hD) upd_same) (fun i H' _ p => hl Dl i H' hD p) (fun i x H' hi p => ⟨hw _, ht Dl i x H' hD hi p⟩) fun H' p => hd Dl H' hD p⟩
theorem r_iterT {n : Nat} (hs : SqT K H t zs) (h : ∀ it, H it = none → n ≤ it → Q (.ref it) (L2.upd H it (ItTup t it 0))) : rIterT K n [.ref t] H Q := ⟨t, zs, rfl, hs, h⟩
theorem r_lenO {sp : Sp} (e : H a = some (.ins C dx fs)) (h : sp ([.ref a] ++ []) H (inB Q) E0) : rLenO C sp [.ref a] H Q := ⟨a, dx, fs, rfl, e, h⟩
theorem r_inB {n : Nat} (l : n ≤ 1000000) (h : Q (.int n) H) : inB Q (.int n) H := ⟨n, rfl, l, h⟩
end
end Z
local macro_rules | `(tactic| walk_at "call") => `(tactic| first
  | with_reducible refine Z.r_forO ?_
  | with_reducible refine Z.r_lcO0 ?_
  | ((with_reducible refine' Z.r_lenO ?e ?_); (case e => walk_at "hp")))
namespace Z
open PySem PySem.Spec PyProof.Rows L2
theorem fn_in {K : PySem.W.Frag} {x qual : Str} {st : Stmt} {f : Addr} {fd : FuncData} (F : Fun K x qual st f fd) : PySem.W.fnIn K f = true := by
  obtain ⟨oc, od, kV, doc, pm, an, cdv, ct, osl, rfl, lk, hcd⟩ := F.ex
  unfold PySem.W.fnIn
  rw [lk]
section
variable {X : Cx} {k : Nat} {C f : Addr} {fd : FuncData} {ps : List Str} {sp : Sp} {a b : Expr} {ta tb : TE} {pos : Pos}
/-- o[i], o an instance whose __getitem__ keeps sp -/
def rIxO (C : Addr) (sp : Sp) : R2 := fun x y H Q => ∃ a dx fs, x = .ref a ∧ H a = some (.ins C dx fs) ∧ sp ([x, y] ++ []) H Q E0
theorem pe_ixO (M : Meth X.K C "__getitem__" f) (hfn : PySem.W.fnIn X.K f = true) (F : FnOk X.prog X.w X.K X.mg X.base CX0 k f fd ps sp) (hr : Room (k + 1) X.A) (hb : Binds X.K fd ps []) (ha : PE X a ta) (hb' : PE X b tb)
    (hs : ∀ x i, subscripted b true (.ref x) i = runValue (.builtin "lifetime.subscript" ⟨[.ref x, i], []⟩) := by intro _ _; with_unfolding_all rfl) : PE X (.Subscript a b pos) (tOp (rIxO C sp) ta tb) := by
  refine ⟨fun pins s σ H Q I h => ?_⟩
  refine Subscript_ (binT ha hb' I h fun v u s2 x y H2 I2 rx ry q => ?_)
  obtain ⟨c, dx, fs, rfl, hc, q⟩ := q
  cases (show v = Value.ref c from rx)
  obtain ⟨mA, O, _⟩ := ins_get I2.hok hc
  obtain ⟨od, J, _⟩ := O.look
  obtain ⟨m, hF⟩ := I2.fr
  refine PySem.W.sub_K hF I2.ok.mod.kin J M.at_ hfn M.fn ?_ (hs c u)
  exact run_below (us := [.ref c, u]) (vs := [.ref c, y]) (A := X.A.in1) ⟨hr.in1, rfl⟩ F hb I2 (.cons rfl (.cons ry .nil)) q
end
section
variable {H : Hp} {Q : VK} {y : V} {a C dx : Addr} {fs : List (Str × V)} {sp : Sp}
theorem r_ixO (e : H a = some (.ins C dx fs)) (h : sp ([.ref a, y] ++ []) H Q E0) : rIxO C sp (.ref a) y H Q := ⟨a, dx, fs, rfl, e, h⟩
end
end Z
namespace Z
open PySem PySem.Spec PyProof.Rows L2
section
variable {X : Cx} {CX : CXT} {k i : Nat} {C f p g : Addr} {fd : FuncData} {ps : List Str} {ds : List Value} {dvs : List V} {sp : Sp} {E : XK} {x m : Str} {e o : Expr} {es : List Expr} {t : TA} {ta : TE} {q pos apos : Pos} {mc : Value} {pl : Sem Bool}
/-- v(e, ..), v a local that holds the class at C -/
def tMakeV (i : Nat) (C : Addr) (sp : Sp) (dvs : List V) (E : XK) (t : TA) : TE := fun σ H Q => σ[i]? = some (some (.ref C)) ∧ tMake C sp dvs E t σ H Q
theorem pe_makeV (M : Mk X.K C f) (F : FnOk X.prog X.w X.K X.mg X.base CX k f fd ps sp) (hr : Room (k + 1) X.A) (hb : Binds X.K fd ps ds) (hd : Vals dvs ds) (hx : Passes CX X E) (hN : X.N[i]? = some x) (hv : Vis X.env.scope x) (ha : PA X (e :: es) t)
    (hdb : (x == ("__debug__" : Str)) = false := by decide) (hcd : (x == ("__classdict__" : Str)) = false := by decide) (he : starEach (e :: es) X.env = (false, eval e X.env) :: starEach es X.env := by rfl) (hpl : (backTo pos (starEach es X.env)).any (·.1) = false := by rfl) :
    PE X (.Call (.Name x q) (e :: es) [] pos) (tMakeV i C sp dvs E t) := by
  refine ⟨fun pins s σ H Q I ⟨hs, h⟩ => ?_⟩
  refine wpAny_Call_Name_kw (thn ((pe_var (pos := q) (i := i) hN hv hdb hcd).run pins s σ H (fun v H1 => v = .ref C ∧ H1 = H) I ⟨.ref C, hs, rfl, rfl⟩) fun u s1 ⟨v, H1, I1, r1, ev, eH⟩ => ?_)
  subst ev eH
  cases r1
  exact PySem.W.callWith_K (h₀ := X.base) I1.ok.mod.kin M.kp (thn (ha.run pos pins s1 σ _ _ I1 h) fun us s2 ⟨vs, H2, I2, r, q⟩ => ⟨I2.kIn, run_make M F hr hb hd hx I2 r q⟩) he hpl
/-- C.m(), m a classmethod -/
def tCMeth0 (C : Addr) (sp : Sp) (E : XK) (ta : TE) : TE := fun σ H Q => ta σ H fun x H1 => x = .ref C ∧ sp [.ref C] H1 Q E
theorem pe_cmeth0 (he : PE X o ta) (r : ClX.CRead X.K C mc) (c : ClX.CMet X.K C mc m p g) (F : FnR X.prog X.w X.K X.mg X.base CX k g sp) (hr : Room k X.A) (hx : Passes CX X E)
    (ht : eval (.Call (.Attribute o m apos) [] [] pos) X.env = (do
      let ov ← eval o X.env
      standAt apos.atName
      let (f, first) ← holding [ov] (getMethod ov m pl)
      callWith pos f first (backTo pos (starEach [] X.env)) (backToKw pos (keywordEach [] X.env))) := by rfl) :
    PE X (.Call (.Attribute o m apos) [] [] pos) (tCMeth0 C sp E ta) := by
  refine ⟨fun pins s σ H Q I h => ?_⟩
  refine PySem.W.methodCall_KW (pl := pl) (thn (he.run pins s σ H _ I h) fun u s1 ⟨x, H1, I1, rx, ex, q⟩ => ?_) ht
  subst ex
  obtain rfl : u = Value.ref C := rx
  refine ClX.getmethcm_ok I1 r c fun s2 I2 => ?_
  exact PySem.W.callWith_M0 ⟨ClX.pin_at I2, I2.kIn⟩ c.fi (ClX.run_cm (us := []) (vs := []) F hr hx I2 .nil q)
end
section
variable {K : PySem.W.Frag} {σ : L2.St} {H : Hp} {Q : VK} {i : Nat} {C : Addr} {sp : Sp} {dvs : List V} {E : XK} {t : TA} {ta : TE}
theorem r_makeV (e : σ[i]? = some (some (.ref C))) (h : tMake C sp dvs E t σ H Q) : tMakeV i C sp dvs E t σ H Q := ⟨e, h⟩
theorem r_cmeth (h : ta σ H fun x H1 => x = .ref C ∧ t σ H1 fun vs H2 => sp (.ref C :: vs) H2 Q E) : ClX.tCMeth C sp E ta t σ H Q := h
theorem r_cmeth0 (h : ta σ H fun x H1 => x = .ref C ∧ sp [.ref C] H1 Q E) : tCMeth0 C sp E ta σ H Q := h
theorem r_eqAnd {P : Prop} {x : V} (h : P) : x = x ∧ P := ⟨rfl, h⟩
/-- sep.join(a list of texts) -/
def jnR (K : PySem.W.Frag) (x : V) (xs : List V) (H : Hp) (Q : VK) : Prop := ∃ a p, ∃ ys : List Str, x = .str a ∧ xs = [.ref p] ∧ (SqL K H p (ys.map V.str) ∨ SqT K H p (ys.map V.str)) ∧ (ys.map (·.length)).sum + ys.length * a.length ≤ 16777216 ∧ Q (.str (Txt.join a ys)) H
end
end Z
local macro_rules | `(tactic| walk_at "call") => `(tactic| first
  | ((with_reducible refine' Z.r_makeV ?e ?_); (case e => exact rfl))
  | with_reducible refine Z.r_cmeth ?_
  | with_reducible refine Z.r_cmeth0 ?_
  | with_reducible refine Z.r_eqAnd ?_)

local macro_rules | `(tactic| walk_at "call") => `(tactic| first
  | with_reducible refine Z.r_xst ?_
  | with_reducible refine Z.r_xv ?_
  | with_reducible refine Z.r_exv ?_)
/-- the promise of an __init__ that stores its one argument -/
def sp_ex (C : Addr) (fl : Str) : Sp := fun vs H Q _ => ∃ a y, vs = [.ref a, y] ∧ H a = some (exo a C none) ∧ ∀ dx H1, H dx = none → Z.But a H H1 → H1 a = some (exo a C (some dx)) → H1 dx = some (exd dx [(fl, y)]) → Q .non H1
theorem k_ex {C : Addr} {fl : Str} {y : V} {H : Hp} {Q : VK} (h : ∀ a d H1, H a = none → H d = none → Same H H1 → H1 a = some (exo a C (some d)) → H1 d = some (exd d [(fl, y)]) → Q (.ref a) H1) : Z.exI C (sp_ex C fl) [y] H Q := by
  refine ⟨Nat.le_of_ble_eq_true rfl, fun a na => ⟨a, y, rfl, upd_same, fun dx H1 n b h1 h2 => ⟨rfl, ?_⟩⟩⟩
  have ne : dx ≠ a := fun e => by
    rw [e, upd_same] at n; cases n
  rw [upd_ne ne] at n
  exact h a dx H1 na n (Z.But.back (Z.same_upd na) na b) h1 h2
theorem k_exR {C : Addr} {fl : Str} {y : V} {H : Hp} {M : XK} (h : ∀ d H', H d = none → Same H H' → H' d = some (.xd [(fl, y)]) → M (.ref C) (some d) H') : ([y] : List V).length ≤ 1000 ∧ ∀ a, H a = none → sp_ex C fl (.ref a :: [y]) (L2.upd H a (exo a C none))
    (fun v H2 => v = .non ∧ ∃ (d : Addr) (fs : List (Str × V)), H2 a = some (exo a C (some d)) ∧ H2 d = some (exd d fs) ∧ H d = none ∧ M (.ref C) (some d) (L2.upd (L2.del H2 a) d (.xd fs))) E0 := by
  refine ⟨Nat.le_of_ble_eq_true rfl, fun a na => ⟨a, y, rfl, upd_same, fun dx H1 n b h1 h2 => ⟨rfl, dx, _, h1, h2, ?_⟩⟩⟩
  have ne : dx ≠ a := fun e => by
    rw [e, upd_same] at n; cases n
  rw [upd_ne ne] at n
  refine ⟨n, h dx _ n (fun c o q => ?_) upd_same⟩
  rw [upd_ne (ne_of_none q n), L2.del_ne (ne_of_none q na)]
  exact b c o (ne_of_none q na) (by rw [upd_ne (ne_of_none q na)]; exact q)

namespace Z
open PySem PySem.Spec PyProof.Rows L2
/-! such exceptions raised, caught, looked at -/
theorem passAt0 {X : Cx} {E : L2.St → XK} (σ : L2.St) : PassesAt CX0 X σ (E σ) := fun _ _ _ _ _ _ h => h.elim
/-- C(e, ..) behind raise -/
def tMkX (C : Addr) (sp : Sp) (t : TA) : L2.St → Hp → XK → Prop := fun σ H Q => t σ H fun vs H1 => vs.length ≤ 1000 ∧ ∀ a, H1 a = none → sp (.ref a :: vs) (L2.upd H1 a (exo a C none))
  (fun v H2 => v = .non ∧ ∃ (d : Addr) (fs : List (Str × V)), H2 a = some (exo a C (some d)) ∧ H2 d = some (exd d fs) ∧ H1 d = none ∧ Q (.ref C) (some d) (L2.upd (L2.del H2 a) d (.xd fs))) E0
section
variable {X : Cx} {e : Expr} {es : List Expr} {ta : TA} {x : Str} {p pos : Pos} {k : Nat} {C f : Addr} {fd : FuncData} {ps : List Str} {sp : Sp}
theorem pmk_exf (T : ExF X.K C f) (F : FnOk X.prog X.w X.K X.mg X.base CX0 k f fd ps sp) (hr : Room (k + 1) X.A) (hg : Gl X x) (hm : X.mg x = some (.ref C)) (hb : Binds X.K fd ps []) (ha : PA X (e :: es) ta)
    (hdb : (x == ("__debug__" : Str)) = false := by decide) (he : starEach (e :: es) X.env = (false, eval e X.env) :: starEach es X.env := by rfl) (hpl : (backTo pos (starEach es X.env)).any (·.1) = false := by rfl) :
    PMk X (.Call (.Name x p) (e :: es) [] pos) (tMkX C sp ta) := by
  intro pins s σ H Q I h
  refine wpAny_Call_Name_kw (ld_glob I hg hm ?_ hdb)
  refine PySem.W.callWith_K (h₀ := X.base) I.ok.mod.kin T.kp (thn (ha.run pos pins s σ H _ I h) fun us s1 z => ?_) he hpl
  obtain ⟨vs, H1, I1, r1, hz, q1⟩ := z
  refine ⟨I1.kIn, ?_⟩
  obtain ⟨B, newId, initId, bmB, FB, hin⟩ := T.mk_
  obtain ⟨nm, N, qn, bs, bm, hdct, sn, sub, ab, col, dd, k0, k1, k2, k3, k5, hC, hT⟩ := PySem.W.excInit_of I1.kIn hin
  show wpAny _ _ (call (.ref C) us) _ _ _
  obtain ⟨hp, g, dr, tk, os⟩ := s1
  have up : hp.objs.size ≤ hp.objs.size + 1 := Nat.le_succ _
  have hq := q1 (hp.objs.size + 1) (I1.hok.fresh up)
  have keep : ∀ b o, hp.get? b = some o → ((hp.push (PySem.W.kdv_tup us)).push (PySem.HandSPX.excO C hp.objs.size)).get? b = some o := fun b o z => Heap.get?_push_of_some _ (Heap.get?_push_of_some _ z)
  have there : ((hp.push (PySem.W.kdv_tup us)).push (PySem.HandSPX.excO C hp.objs.size)).get? (hp.objs.size + 1) = some (PySem.HandSPX.excO C hp.objs.size) := by heap_get
  have I2 : Inv X pins σ (L2.upd H1 (hp.objs.size + 1) (exo (hp.objs.size + 1) C none)) ⟨(hp.push (PySem.W.kdv_tup us)).push (PySem.HandSPX.excO C hp.objs.size), g, dr, tk, os⟩ := I1.laid (t' := tk) keep up (exo_ok there)
  have r2 : Vals (V.ref (hp.objs.size + 1) :: vs) (Value.ref (hp.objs.size + 1) :: us) := .cons rfl r1
  have lus : us.length ≤ sizeLine := by
    rw [← Paired.length r1, sizeLine_eq]; omega
  have lps : (Value.ref (hp.objs.size + 1) :: us ++ []).length = ps.length := by
    have z := r2.length
    rw [F.len _ _ _ _ hq] at z
    rw [List.append_nil]; exact z.symm
  refine wpAny_call (PySem.HandSPX.call_own FB hT hC (PySem.W.looks_findIn I1.kIn T.ini) (fun self => PySem.W.bind_fn I1.kIn self (beq_iff_eq.mp T.fn)) lus
    (codeAny_mono (F.run _ X.stack _ _ ⟨Value.ref (hp.objs.size + 1) :: us, []⟩ (Value.ref (hp.objs.size + 1) :: us) _ _ E0 (hr.make C us []) (I2.env0.make C us []) (by
      have z := hb _ (Value.ref (hp.objs.size + 1) :: us) I2.kIn lps
      rw [List.append_nil] at z
      exact z) r2 hq) fun r s' z => ?_))
  cases r with
  | error x => exact z.elim
  | ok fl =>
    cases fl with
    | next => exact False.elim z
    | brk => exact False.elim z
    | cont => exact False.elim z
    | ret u =>
      obtain ⟨v, H2, os2, bare2, un2, hok2, rv, ev, d, fs, ea, ed, hd1, q2⟩ := z
      subst ev
      obtain ⟨h2, g2, d2, t2, os'⟩ := s'
      exact ⟨rv, L2.mk_end (raises_own T.sb T.ty) I1 up keep un2 hok2 os2 bare2 ea ed hd1 q2⟩
end
section
variable {X : Cx} {CX' : CXT} {pins : List (Addr × Obj)} {σ : L2.St} {H : Hp} {s : Shared} {k : Nat} {f : Addr} {fd : FuncData} {ps : List Str} {sp : Sp} {Q : VK} {us : List Value} {vs : List V} {E : XK}
/-- a def asked from within a built-in, which may let exceptions out -/
theorem run_belowX {A : Around} (sb : Sub X k A) (F : FnOk X.prog X.w X.K X.mg X.base CX' k f fd ps sp) (hb : Binds X.K fd ps []) (hx : PassesAt CX' X σ E) (I : Inv X pins σ H s) (r : Vals vs us) (h : sp vs H Q E) :
    wpAny (model X.prog X.w) A (call (.ref f) us) (EP X pins σ Q) X.xe s := by
  have e0 : Env0 X.prog X.w X.K X.mg X.base A X.stack s H := by
    have e := I.env0
    exact ⟨by rw [sb.fr]; exact e.frames, e.mod, e.bs, e.bsz, e.funs, e.frf, e.hok, e.bare⟩
  have hl : us.length = ps.length := by rw [← r.length]; exact F.len _ _ _ _ h
  refine wpAny_call (codeAny_mono (F.run A X.stack s H ⟨us, []⟩ us vs Q E sb.room e0 (by simpa using hb s us I.kIn (by simpa using hl)) r h) fun r s' z => ?_)
  cases r with
  | error e => exact hx pins H s e s' I z
  | ok fl =>
    cases fl with
    | ret u => exact I.after z
    | next => exact False.elim z
    | brk => exact False.elim z
    | cont => exact False.elim z
end
section
variable {X : Cx} {CX' : CXT} {k : Nat} {C f : Addr} {fd : FuncData} {ps : List Str} {sp : Sp} {a b : Expr} {ta tb : TE} {pos : Pos} {E : L2.St → XK}
/-- o[i] by an own __getitem__ that may raise -/
def tIxX (C : Addr) (sp : Sp) (E : L2.St → XK) (ta tb : TE) : TE := fun σ H Q => ta σ H fun x H1 => tb σ H1 fun y H2 => ∃ a dx fs, x = .ref a ∧ H2 a = some (.ins C dx fs) ∧ sp ([x, y] ++ []) H2 Q (E σ)
theorem pe_ixX (M : Meth X.K C "__getitem__" f) (hfn : PySem.W.fnIn X.K f = true) (F : FnOk X.prog X.w X.K X.mg X.base CX' k f fd ps sp) (hr : Room (k + 1) X.A) (hb : Binds X.K fd ps []) (hx : ∀ σ, PassesAt CX' X σ (E σ)) (ha : PE X a ta) (hb' : PE X b tb)
    (hs : ∀ x i, subscripted b true (.ref x) i = runValue (.builtin "lifetime.subscript" ⟨[.ref x, i], []⟩) := by intro _ _; with_unfolding_all rfl) : PE X (.Subscript a b pos) (tIxX C sp E ta tb) := by
  refine ⟨fun pins s σ H Q I h => ?_⟩
  refine Subscript_ (binT ha hb' I h fun v u s2 x y H2 I2 rx ry q => ?_)
  obtain ⟨c, dx, fs, rfl, hc, q⟩ := q
  cases (show v = Value.ref c from rx)
  obtain ⟨mA, O, _⟩ := ins_get I2.hok hc
  obtain ⟨od, J, _⟩ := O.look
  obtain ⟨m, hF⟩ := I2.fr
  refine PySem.W.sub_K hF I2.ok.mod.kin J M.at_ hfn M.fn ?_ (hs c u)
  exact run_belowX (us := [.ref c, u]) (vs := [.ref c, y]) (A := X.A.in1) ⟨hr.in1, rfl⟩ F hb (hx σ) I2 (.cons rfl (.cons ry .nil)) q
def tAddX (C : Addr) (sp : Sp) (E : L2.St → XK) (ta tb : TE) : TE := fun σ H Q => ta σ H fun x H1 => tb σ H1 fun y H2 => ∃ a dx fs b dy gs, x = .ref a ∧ H2 a = some (.ins C dx fs) ∧ y = .ref b ∧ H2 b = some (.ins C dy gs) ∧
  sp ([x, y] ++ []) H2 (fun v H' => (∃ p, v = .ref p) ∧ Q v H') (E σ)
theorem pe_addX (B : AddF X.K C f) (F : FnOk X.prog X.w X.K X.mg X.base CX' k f fd ps sp) (hr : Room k X.A) (hb : Binds X.K fd ps []) (hx : ∀ σ, PassesAt CX' X σ (E σ)) (ha : PE X a ta) (hb' : PE X b tb) : PE X (.BinOp a .Add b pos) (tAddX C sp E ta tb) := by
  refine ⟨fun pins s σ H Q I h => ?_⟩
  refine wpAny_BinOp (binT ha hb' I h fun v u s2 x y H2 I2 rx ry q => ?_)
  obtain ⟨c, dx, fs, d, dy, gs, rfl, hc, rfl, hd, q⟩ := q
  cases (show v = Value.ref c from rx)
  cases (show u = Value.ref d from ry)
  obtain ⟨mA, O, _⟩ := ins_get I2.hok hc
  obtain ⟨od, J, _⟩ := O.look
  obtain ⟨mB, O', _⟩ := ins_get I2.hok hd
  obtain ⟨od', J', _⟩ := O'.look
  refine bin_of1 (op := .Add) (bin1_same I2.kIn J J' B.sf B.at_ B.fn (wpAny_mono (run_belowX (us := [.ref c, .ref d]) (vs := [.ref c, .ref d]) (A := X.A) ⟨hr, rfl⟩ F hb (hx σ) I2 (.cons rfl (.cons rfl .nil)) q) (fun w s' z => ?_) fun _ _ x => x))
  obtain ⟨z', H', I', rz, ⟨p, rfl⟩, qz⟩ := z
  exact SlX.cmpback rz ⟨_, H', I', rz, qz⟩
end
/-- isinstance(e, c), e caught, an exception with its dict -/
def rIsC (K : PySem.W.Frag) (a : Addr) (cls : Value) (d : Option Addr) : List V → Hp → VK → Prop := fun xs H Q => ∃ (C f dd : Addr) (fs : List (Str × V)) (c : V) (u : Value) (b : Bool), xs = [.ref a, c] ∧ cls = .ref C ∧ d = some dd ∧ ExF K C f ∧ H dd = some (.xd fs) ∧ ClsV c u ∧ PySem.W.kitOne K cls u = some b ∧ Q (.bl b) H
def rIsCT (K : PySem.W.Frag) (a : Addr) (cls : Value) (d : Option Addr) : List V → Hp → VK → Prop := fun xs H Q => ∃ (C f dd tp : Addr) (fs : List (Str × V)) (cs : List V) (us : List Value) (b : Bool), xs = [.ref a, .ref tp] ∧ cls = .ref C ∧ d = some dd ∧ ExF K C f ∧ H dd = some (.xd fs) ∧ H tp = some (.tup cs) ∧ Paired ClsV cs us ∧
  PySem.W.kitAny K cls us = some b ∧ Q (.bl b) H
section
variable {X : Cx} {K : PySem.W.Frag} {a : Addr} {oe : Obj} {cls : Value} {d : Option Addr} {pn : List (Addr × Obj)}
theorem caught_at {C : Addr} {dd : Addr} {fs : List (Str × V)} {pins : List (Addr × Obj)} {σ : L2.St} {H : Hp} {s : Shared} (hz : Zc cls d oe) (hf : ∃ vs, oe.data = .fields vs) (I : Inv (X.suite a ((a, oe) :: pn)) pins σ H s) (ec : cls = .ref C) (ed : d = some dd) (hd : H dd = some (.xd fs)) :
    ∃ od, PySem.W.InstAt s.heap a oe C (some od) := by
  subst ec ed
  obtain ⟨ha, _⟩ := I.pin (a, oe) (List.mem_append_left _ List.mem_cons_self)
  obtain ⟨vs, hv⟩ := hf
  have hx : ObjOk X.prog X.w H s.heap dd (.xd fs) := I.hok dd _ hd
  obtain ⟨mA, hns, hr⟩ := hx
  obtain ⟨od, ho, hl⟩ := lookIn_ns hns
  exact ⟨od, ha, hz.1, by unfold PySem.W.notCls; rw [hv] <;> rfl, by rw [hz.2]; exact ho⟩
theorem kitx {C f : Addr} (T : ExF K C f) {x : Addr} {ox : Obj} {od : Option Obj} : PySem.W.KitX K (.ref x) (.ref C) (fun h => PySem.W.InstAt h x ox C od) :=
  PySem.W.kitx_exc (by obtain ⟨cd, z, _⟩ := PySem.W.any_some T.hd; rw [z]; rfl) T.ga T.gt T.sb T.ca T.cn T.ct T.cm
theorem c_isC (eK : X.K = K) (hz : Zc cls d oe) (hf : ∃ vs, oe.data = .fields vs) : CallR (X.suite a ((a, oe) :: pn)) (.builtin "isinstance") (rIsC K a cls d) := by
  subst eK
  intro pins s σ H xs us Q I r h
  obtain ⟨C, f, dd, fs, c, u, b, rfl, rfl, ed, T, hd, k, ek, q⟩ := h
  obtain ⟨u1, u2, rfl, r1, r2⟩ := vals2 r
  cases (show u1 = Value.ref a from r1)
  have e2 := k.eq r2
  subst e2
  obtain ⟨od, J⟩ := caught_at hz hf I rfl ed hd
  exact PySem.W.kia_one (kitx T) I.kIn J ek (fun z => nomatch z) fun tk => ⟨.bl b, H, I.kept (t' := tk) fun _ _ z => z, rfl, q⟩
end
section
variable {K : PySem.W.Frag} {σ : L2.St} {H : Hp} {Q : VK} {ta tb te : TE} {t : TA} {sp : Sp} {C : Addr} {E : L2.St → XK} {x y : V} {a d : Addr} {dx : Addr} {fs : List (Str × V)}
theorem exm_self {f : Addr} (T : ExF K C f) : PySem.W.exmOne K (.ref C) (.ref C) = some true := PySem.W.exm_ref T.sb T.hd T.ty T.ss
theorem r_mkX {M : XK} (h : t σ H fun vs H1 => vs.length ≤ 1000 ∧ ∀ a, H1 a = none → sp (.ref a :: vs) (L2.upd H1 a (exo a C none))
  (fun v H2 => v = .non ∧ ∃ (d : Addr) (fs : List (Str × V)), H2 a = some (exo a C (some d)) ∧ H2 d = some (exd d fs) ∧ H1 d = none ∧ M (.ref C) (some d) (L2.upd (L2.del H2 a) d (.xd fs))) E0) : tMkX C sp t σ H M := h
theorem r_ixX (h : ta σ H fun x H1 => tb σ H1 fun y H2 => ∃ a dx fs, x = .ref a ∧ H2 a = some (.ins C dx fs) ∧ sp ([x, y] ++ []) H2 Q (E σ)) : tIxX C sp E ta tb σ H Q := h
theorem r_addX (h : ta σ H fun x H1 => tb σ H1 fun y H2 => ∃ a dx fs b dy gs, x = .ref a ∧ H2 a = some (.ins C dx fs) ∧ y = .ref b ∧ H2 b = some (.ins C dy gs) ∧ sp ([x, y] ++ []) H2 (fun v H' => (∃ p, v = .ref p) ∧ Q v H') (E σ)) : tAddX C sp E ta tb σ H Q := h
end
end Z

namespace Z
open PySem PySem.Spec PyProof.Rows L2
section
variable {X : Cx} {K : PySem.W.Frag} {a : Addr} {oe : Obj} {cls : Value} {d : Option Addr} {pn : List (Addr × Obj)}
theorem c_isCT (eK : X.K = K) (hz : Zc cls d oe) (hf : ∃ vs, oe.data = .fields vs) : CallR (X.suite a ((a, oe) :: pn)) (.builtin "isinstance") (rIsCT K a cls d) := by
  subst eK
  intro pins s σ H xs us Q I r h
  obtain ⟨C, f, dd, tp, fs, cs, ws, b, rfl, rfl, ed, T, hd, hT, k, ek, q⟩ := h
  obtain ⟨u1, u2, rfl, r1, r2⟩ := vals2 r
  cases (show u1 = Value.ref a from r1)
  cases (show u2 = Value.ref tp from r2)
  obtain ⟨_, its, rv, o, h1, h2, n, h3⟩ := (show ObjOk X.prog X.w H s.heap tp (.tup cs) from I.hok tp _ hT)
  have e3 := ClsV.all k rv
  subst e3
  obtain ⟨oc, od', dt, sl⟩ := o
  simp only at h2 h3
  subst h2 h3
  obtain ⟨od, J⟩ := caught_at hz hf I rfl ed hd
  exact PySem.W.kia_tup (kitx T) I.kIn J h1 ek (fun z => nomatch z) fun tk => ⟨.bl b, H, I.tok tk, rfl, q⟩
/-- xs != [] -/
def rNeNil (K : PySem.W.Frag) : R2 := fun x y H Q => rNeD K x y H Q ∨ ∃ p q xs, x = .ref p ∧ H p = some (.lst xs) ∧ xs ≠ [] ∧ y = .ref q ∧ H q = some (.lst []) ∧ Q (.bl true) H
theorem o_neNil (hu : X.A.units < cLine) (h0 : OpR X (compareOp .NotEq) (rNeD X.K)) : OpR X (compareOp .NotEq) (rNeNil X.K) := by
  intro pins s σ H x y v u Q I rx ry h
  rcases h with h | ⟨p, q, xs, rfl, hp, hx, rfl, hq, qq⟩
  · exact h0 pins s σ H x y v u Q I rx ry h
  · cases (show v = Value.ref p from rx)
    cases (show u = Value.ref q from ry)
    obtain ⟨its, r, pl, _⟩ := I.list (SqL.of hp)
    obtain ⟨its2, r2, pl2, _⟩ := I.list (SqL.of hq)
    have l1 := r.length
    have l2 := r2.length
    refine (PySem.SeqAt.RcNeAt.lists_lengths pl.isList pl2.isList ?_ hu) X.prog X.w X.xe _ ⟨.bl true, H, I, rfl, qq⟩
    have : xs.length ≠ 0 := fun e => hx (List.eq_nil_of_length_eq_zero e)
    simp only [List.length_nil] at l2
    rw [List.size_toArray, List.size_toArray, ← l1, ← l2]
    simpa using this
end
def xfcR (a : Addr) (cls : Value) (d : Option Addr) (C : Addr) (f : Str) (Q : VK) : VK := fun x H1 => x = .ref a ∧ cls = .ref C ∧ ∃ (dd : Addr) (fs : List (Str × V)) (v : V), d = some dd ∧ H1 dd = some (.xd fs) ∧ fs.lookup f = some v ∧ Q v H1
section
variable {K : PySem.W.Frag} {σ : L2.St} {H : Hp} {Q : VK} {te : TE} {a C dd f : Addr} {cls : Value} {d : Option Addr} {n : Str} {v : V} {fs : List (Str × V)}
theorem r_xfc (h : te σ H (xfcR a cls d C n Q)) : tXf a cls d C n te σ H Q := h
theorem r_xfV (e : H dd = some (.xd [(n, v)])) (q : Q v H) : xfcR a (.ref C) (some dd) C n Q (.ref a) H := ⟨rfl, rfl, dd, _, v, rfl, e, look1, q⟩
theorem r_isC {c : V} {u : Value} {b : Bool} (k : ClsV c u) (T : ExF K C f) (e : H dd = some (.xd fs)) (ek : PySem.W.kitOne K (.ref C) u = some b) (q : Q (.bl b) H) : rIsC K a (.ref C) (some dd) [.ref a, c] H Q := ⟨C, f, dd, fs, c, u, b, rfl, rfl, rfl, T, e, k, ek, q⟩
theorem r_isCT {tp : Addr} {cs : List V} {us : List Value} {b : Bool} (T : ExF K C f) (e : H dd = some (.xd fs)) (et : H tp = some (.tup cs)) (k : Paired ClsV cs us) (ek : PySem.W.kitAny K (.ref C) us = some b) (q : Q (.bl b) H) : rIsCT K a (.ref C) (some dd) [.ref a, .ref tp] H Q := ⟨C, f, dd, tp, fs, cs, us, b, rfl, rfl, rfl, T, e, et, k, ek, q⟩
theorem kit_none2 {t c1 c2 : Value} (h1 : PySem.W.kitOne K t c1 = some false) (h2 : PySem.W.kitOne K t c2 = some false) : PySem.W.kitAny K t [c1, c2] = some false := by
  simp only [PySem.W.kitAny, h1, h2]
end
end Z
local macro_rules | `(tactic| walk_at "call") => `(tactic| first
  | with_reducible refine Z.r_xfc ?_
  | ((with_reducible refine' Z.r_xfV ?e ?_); (case e => walk_at "hp")))

namespace Z
open PySem PySem.Spec PyProof.Rows L2
section
variable {X : Cx} {C f : Addr} {fd : FuncData} {k : Nat} {ps : List Str} {sp : Sp}
/-- x in o, o an instance -/
def rInI (C : Addr) (sp : Sp) : R2 := fun x y H Q => ∃ a dx fs, y = .ref a ∧ H a = some (.ins C dx fs) ∧ sp ([y, x] ++ []) H (fun v H' => ∃ c, v = .bl c ∧ Q (.bl c) H') E0
theorem o_inI (M : Meth X.K C "__contains__" f) (F : FnOk X.prog X.w X.K X.mg X.base CX0 k f fd ps sp) (hr : Room k X.A) (hb : Binds X.K fd ps []) : OpR X (compareOp .In) (rInI C sp) := by
  intro pins s σ H x y v u Q I rx ry h
  obtain ⟨a, dx, fs, rfl, ha, q⟩ := h
  cases (show u = Value.ref a from ry)
  obtain ⟨mA, O, _⟩ := ins_get I.hok ha
  obtain ⟨od, J, _⟩ := O.look
  obtain ⟨m, hF⟩ := I.fr
  refine PySem.W.in_K hF I.ok.mod.kin J M.at_ M.fn (wpAny_mono (run_fn (us := [.ref a, v]) (vs := [.ref a, x]) F hr hb .nil pass0 I (.cons rfl (.cons rx .nil)) q) (fun w s' z => ?_) fun _ _ x => x)
  obtain ⟨z', H', I', rz, c, rfl, qz⟩ := z
  cases (show w = Value.bool c from rz)
  exact wpAny_truthy_bool ⟨.bl c, H', I', rfl, qz⟩
theorem r_inI {a dx : Addr} {fs : List (Str × V)} {x : V} {H : Hp} {Q : VK} (e : H a = some (.ins C dx fs)) (h : sp ([.ref a, x] ++ []) H (fun v H' => ∃ c, v = .bl c ∧ Q (.bl c) H') E0) : rInI C sp x (.ref a) H Q := ⟨a, dx, fs, rfl, e, h⟩
end
end Z
local macro_rules | `(tactic| walk_at "call") => `(tactic| first
  | with_reducible refine Z.r_mkX ?_
  | with_reducible refine Z.r_ixX ?_
  | with_reducible refine Z.r_addX ?_)
/-! the methods of a series -/
def SerAt (S : Addr) (H : Hp) (a : Addr) (gs : Ens) : Prop := ∃ dx t, H a = some (.ins S dx [("entries", .ref t)]) ∧ H t = some (.tup (gs.map (·.1)))
theorem SerAt.same {S a : Addr} {H H' : Hp} {gs : Ens} (s : Same H H') (h : SerAt S H a gs) : SerAt S H' a gs := by
  obtain ⟨dx, t, h1, h2⟩ := h
  exact ⟨dx, t, s _ _ h1, s _ _ h2⟩
/-- the entries as a series holds them -/
def held (es : Ens) : Ens := es.map fun e => (fstV es e.2, e.2)
theorem held_fst (es : Ens) : (held es).map (·.1) = es.map fun e => fstV es e.2 := by
  unfold held
  rw [List.map_map]; rfl
theorem held_len (es : Ens) : (held es).length = es.length := List.length_map _
theorem fst_rep {C : Addr} {H : Hp} {es : Ens} {e : V × Tag} (h : EnsOk C H es) (m : e ∈ es) : Rep C H (fstV es e.2) e.2 := by
  unfold fstV fst?
  cases q : es.find? fun x => decide (x.2 = e.2) with
  | none =>
    have := List.find?_eq_none.mp q _ m
    simp at this
  | some x =>
    have h1 : x.2 = e.2 := by simpa using List.find?_some q
    have h2 := (h x (List.mem_of_find?_eq_some q)).1
    rw [h1] at h2
    exact h2
theorem held_ok {C : Addr} {H : Hp} {es : Ens} (h : EnsOk C H es) : EnsOk C H (held es) := by
  intro e m
  obtain ⟨x, mx, rfl⟩ := List.mem_map.mp m
  exact ⟨fst_rep h mx, (h x mx).2⟩
def isNumT : Tag → Bool
  | .num _ => true
  | _ => false
def numsOf (gs : Ens) : List V := (gs.filter fun e => isNumT e.2).map (·.1)
def marksFrom (k : Nat) : Ens → List V
  | [] => []
  | e :: r => if isNumT e.2 = true then marksFrom (k + 1) r else .int k :: marksFrom (k + 1) r
theorem marks_snoc (k : Nat) (gs : Ens) (e : V × Tag) : marksFrom k (gs ++ [e]) = marksFrom k gs ++ (if isNumT e.2 = true then [] else [.int ((k + gs.length : Nat) : Int)]) := by
  induction gs generalizing k with
  | nil =>
    show (if isNumT e.2 = true then _ else _) = _
    cases isNumT e.2 <;> rfl
  | cons x r ih =>
    show (if isNumT x.2 = true then marksFrom (k + 1) (r ++ [e]) else .int k :: marksFrom (k + 1) (r ++ [e])) = (if isNumT x.2 = true then marksFrom (k + 1) r else .int k :: marksFrom (k + 1) r) ++ _
    rw [ih]
    have e1 : k + 1 + r.length = k + (x :: r).length := by show k + 1 + r.length = k + (r.length + 1); omega
    rw [e1]
    cases isNumT x.2 <;> rfl
theorem nums_snoc (gs : Ens) (e : V × Tag) : numsOf (gs ++ [e]) = numsOf gs ++ (if isNumT e.2 = true then [e.1] else []) := by
  unfold numsOf
  rw [List.filter_append, List.map_append]
  cases h : isNumT e.2 <;> simp [h]
theorem nums_len (gs : Ens) : (numsOf gs).length ≤ gs.length := by
  unfold numsOf
  rw [List.length_map]
  exact List.length_filter_le _ _
theorem marks_len (k : Nat) (gs : Ens) : (marksFrom k gs).length ≤ gs.length := by
  induction gs generalizing k with
  | nil => exact Nat.le_refl _
  | cons x r ih =>
    have := ih (k + 1)
    show (if isNumT x.2 = true then marksFrom (k + 1) r else .int k :: marksFrom (k + 1) r).length ≤ r.length + 1
    cases isNumT x.2 with
    | true => rw [if_pos rfl]; omega
    | false => rw [if_neg Bool.false_ne_true]; show (marksFrom (k + 1) r).length + 1 ≤ _; omega
theorem take_snoc {gs : Ens} {i : Nat} {e : V × Tag} (h : gs[i]? = some e) : gs.take (i + 1) = gs.take i ++ [e] := by
  rw [List.take_succ, h]; rfl
/-! the text of a series; of(..) -/
def textT : Tag → Str
  | .num i => toString i
  | .mark n => ("?" : Str) ++ n
  | .non => "None"
def tagB : Tag → Prop
  | .num i => i.natAbs < 10 ^ 246
  | .mark n => Word n
  | .non => False
theorem big_log {m : Int} (h : m.natAbs < 10 ^ 246) : m.natAbs.log2 < 1920 := by
  by_cases e : m.natAbs = 0
  · rw [e]; decide
  · rw [Nat.log2_lt e]
    exact Nat.lt_of_lt_of_le h (by decide +kernel)
theorem textT_len {t : Tag} (h : tagB t) : (textT t).length ≤ 250 := by
  cases t with
  | num i =>
    have e := int_text_length_le10 (a := i) (k := 246) (by decide) h
    show (Str.ofString (toString i)).length ≤ 250
    rw [PySem.ofString_length]
    omega
  | mark n =>
    show (("?" : Str) ++ n).length ≤ 250
    rw [Str.length_append]
    have h1 : ("?" : Str).length = 1 := rfl
    have h2 := h.2.1
    omega
  | non => exact h.elim
namespace Z
open PySem PySem.Spec PyProof.Rows L2
theorem sum_le {m : Nat} : ∀ (ys : List Str), (∀ y ∈ ys, y.length ≤ m) → (ys.map (·.length)).sum ≤ ys.length * m
  | [], _ => Nat.zero_le _
  | y :: ys, h => by
    have h1 := sum_le ys fun z hz => h z (List.mem_cons_of_mem _ hz)
    have h2 := h y List.mem_cons_self
    show y.length + (ys.map (·.length)).sum ≤ (ys.length + 1) * m
    rw [Nat.succ_mul]
    omega
section
variable {X : Cx} {C : Addr} {sp : Sp} {σ : L2.St} {H : Hp} {Q : VK} {to te : TE} {K : PySem.W.Frag}
/-- str of an int, or of an instance -/
def rStrM (C : Addr) (sp : Sp) : List V → Hp → VK → Prop := fun xs H Q => rStrI xs H Q ∨ rTxO C sp xs H Q
theorem c_strM (h : CallR X (.type "str") (rTxO C sp)) : CallR X (.type "str") (rStrM C sp) := fun pins s σ H xs us Q I r q => q.elim (fun q => c_strI pins s σ H xs us Q I r q) fun q => h pins s σ H xs us Q I r q
/-- list(a list or a tuple), a new one -/
def rListOf (K : PySem.W.Frag) : List V → Hp → VK → Prop := fun xs H Q => ∃ p ys, xs = [.ref p] ∧ (SqL K H p ys ∨ SqT K H p ys) ∧ ∀ l, H l = none → Q (.ref l) (L2.upd H l (.lst ys))
theorem c_listOf : CallR X (.type "list") (rListOf X.K) := call_list_of
theorem r_listL {p : Addr} {ys : List V} (e : H p = some (.lst ys)) (k : ∀ q H1, H q = none → Same H H1 → H1 q = some (.lst ys) → Q (.ref q) H1) : rListOf K [.ref p] H Q := ⟨p, ys, rfl, .inl (SqL.of e), fun l nl => k l _ nl (same_upd nl) upd_same⟩
theorem r_revL {l : Addr} {xs : List V} (e : H l = some (.lst xs)) (k : ∀ H1, But l H H1 → H1 l = some (.lst xs.reverse) → Q .non H1) : rReverse (.ref l) [] H Q := ⟨l, xs, rfl, rfl, e, k _ But.upd upd_same⟩
theorem r_m1 {r : V → List V → Hp → VK → Prop} (h : to σ H fun x H1 => (∃ a, x = .str a) ∧ te σ H1 fun y H2 => r x [y] H2 Q) : tM1 r to te σ H Q := h
theorem r_tYes {N : Bool → Hp → Prop} (h : N true H) : tYes σ H N := h
theorem r_strAnd {z : Str} {P : Prop} (h : P) : (∃ a, V.str z = .str a) ∧ P := ⟨⟨z, rfl⟩, h⟩
theorem r_join {a : Str} {p : Addr} {ys : List Str} (e : H p = some (.lst (ys.map V.str))) (l : (ys.map (·.length)).sum + ys.length * a.length ≤ 16777216) (h : Q (.str (Txt.join a ys)) H) : jnR K (.str a) [.ref p] H Q := ⟨a, p, ys, rfl, rfl, .inl (SqL.of e), l, h⟩
end
end Z
local macro_rules | `(tactic| walk_at "call") => `(tactic| first
  | with_reducible refine Z.r_m1 ?_
  | with_reducible refine Z.r_tYes ?_
  | with_reducible refine Z.r_strAnd ?_)
/-- the texts of entries, put together -/
def textOf (gs : Ens) : Str := Txt.join (" " : Str) (gs.map fun e => textT e.2)
def TagsB (gs : Ens) : Prop := ∀ e ∈ gs, tagB e.2
theorem texts_sum {gs : Ens} (h : TagsB gs) (n : gs.length ≤ 250) : ((gs.map fun e => textT e.2).map (·.length)).sum + (gs.map fun e => textT e.2).length * (" " : Str).length ≤ 70000 := by
  have e := Z.sum_le (m := 250) (gs.map fun e => textT e.2) (fun y hy => by
    obtain ⟨x, hx, rfl⟩ := List.mem_map.mp hy
    exact textT_len (h x hx))
  rw [List.length_map] at e ⊢
  have l1 : (" " : Str).length = 1 := rfl
  rw [l1]
  have := Nat.mul_le_mul_right 250 n
  omega
theorem textOf_len {gs : Ens} (h : TagsB gs) (n : gs.length ≤ 250) : (textOf gs).length ≤ 70000 := by
  unfold textOf
  rw [show Txt.join (" " : Str) (gs.map fun e => textT e.2) = Str.join (" " : Str) (gs.map fun e => textT e.2) from StrLaws.glued_eq_join _ _]
  exact Nat.le_trans (StrLaws.join_length_le _ _) (texts_sum h n)
/-! data that can be compared: not too deep, equal to itself -/
structure Fine (n : Nat) (d : PyData) : Prop where
  lay : d.canLay0 = true
  dep : d.depth ≤ n
  same : PyData.eqv d d = true
theorem Fine.mono {n m : Nat} {d : PyData} (l : n ≤ m) (h : Fine n d) : Fine m d := ⟨h.lay, Nat.le_trans h.dep l, h.same⟩
theorem Fine.int (i : Int) : Fine 0 (.int i) := ⟨rfl, Nat.le_refl _, beq_self_eq_true i⟩
theorem Fine.bool (b : Bool) : Fine 0 (.bool b) := ⟨rfl, Nat.le_refl _, by simp [PyData.eqv]⟩
theorem Fine.none : Fine 0 .none := ⟨rfl, Nat.le_refl _, rfl⟩
theorem Fine.str {x : Str} (h : PyData.strOk x = true) : Fine 0 (.str x) := ⟨h, Nat.le_refl _, beq_self_eq_true x⟩
theorem fine_all {n : Nat} : ∀ {ds : List PyData}, (∀ d ∈ ds, Fine n d) → PyData.canLayAll0 ds = true ∧ PyData.depthAll ds ≤ n ∧ PyData.eqvAll ds ds = true
  | [], _ => ⟨rfl, Nat.zero_le _, rfl⟩
  | d :: r, h => by
    obtain ⟨h1, h2, h3⟩ := fine_all fun z hz => h z (List.mem_cons_of_mem _ hz)
    have hd := h d List.mem_cons_self
    refine ⟨?_, ?_, ?_⟩
    · show (PyData.canLay0 d && PyData.canLayAll0 r) = true
      rw [hd.lay, h1]; rfl
    · show max (PyData.depth d) (PyData.depthAll r) ≤ n
      have := hd.dep
      omega
    · show (PyData.eqv d d && PyData.eqvAll r r) = true
      rw [hd.same, h3]; rfl
theorem Fine.list {n : Nat} {ds : List PyData} (h : ∀ d ∈ ds, Fine n d) : Fine (n + 1) (.list ds) := by
  obtain ⟨h1, h2, h3⟩ := fine_all h
  exact ⟨h1, Nat.succ_le_succ h2, h3⟩
theorem Fine.tuple {n : Nat} {ds : List PyData} (h : ∀ d ∈ ds, Fine n d) : Fine (n + 1) (.tuple ds) := by
  obtain ⟨h1, h2, h3⟩ := fine_all h
  exact ⟨h1, Nat.succ_le_succ h2, h3⟩
theorem Fine.shaped {n : Nat} {d : PyData} (h : Fine n d) (l : n ≤ 64) : SeqAt.shaped d = true := by
  show (d.canLay0 && decide (d.depth ≤ 64)) = true
  rw [h.lay, decide_eq_true (Nat.le_trans h.dep l)]; rfl
theorem Fine.map {α : Type} {n : Nat} {f : α → PyData} {l : List α} (h : ∀ x ∈ l, Fine n (f x)) : ∀ d ∈ l.map f, Fine n d := by
  intro d hd
  obtain ⟨x, hx, rfl⟩ := List.mem_map.mp hd
  exact h x hx
theorem fine_cons {n : Nat} {d : PyData} {r : List PyData} (h : Fine n d) (hr : ∀ x ∈ r, Fine n x) : ∀ x ∈ d :: r, Fine n x := fun x hx => by
  rcases List.mem_cons.mp hx with rfl | hx
  · exact h
  · exact hr x hx
theorem fine_nil {n : Nat} : ∀ x ∈ ([] : List PyData), Fine n x := fun x hx => by cases hx
theorem dp_map {α : Type} {K : PySem.W.Frag} {H : Hp} {f : α → V} {g : α → PyData} : ∀ {l : List α}, (∀ x ∈ l, Dp K H (f x) (g x)) → DpAll K H (l.map f) (l.map g)
  | [], _ => .nil
  | x :: r, h => .cons (h x List.mem_cons_self) (dp_map fun z hz => h z (List.mem_cons_of_mem _ hz))
theorem first_of {α : Type} (p : α → Prop) : ∀ l : List α, (∃ x ∈ l, p x) → ∃ A s B, l = A ++ s :: B ∧ (∀ r ∈ A, ¬ p r) ∧ p s
  | [], h => by obtain ⟨x, hx, _⟩ := h; cases hx
  | x :: r, h => by
    by_cases q : p x
    · exact ⟨[], x, r, rfl, (fun z hz => by cases hz), q⟩
    · obtain ⟨y, hy, py⟩ := h
      rcases List.mem_cons.mp hy with rfl | hy
      · exact absurd py q
      obtain ⟨A, s, B, e, h1, h2⟩ := first_of p r ⟨y, hy, py⟩
      refine ⟨x :: A, s, B, by rw [e]; rfl, fun z hz => ?_, h2⟩
      rcases List.mem_cons.mp hz with rfl | hz
      · exact q
      · exact h1 z hz
theorem all_trues (n : Nat) : (List.replicate n true).all id = true := by
  induction n with
  | zero => rfl
  | succ n ih => rw [List.replicate_succ]; exact ih
theorem any_falses (n : Nat) : (List.replicate n false).any id = false := by
  induction n with
  | zero => rfl
  | succ n ih => rw [List.replicate_succ]; exact ih
namespace Z
open PySem PySem.Spec PyProof.Rows L2
theorem hu65 {k : Nat} {A : Around} (r : Room k A) : A.units + 65 < cLine := by have := r.un; omega
section
variable {K : PySem.W.Frag} {σ : L2.St} {H : Hp} {Q : VK} {to : TE} {t tk : TA} {sp : Sp} {E : XK} {g : List V → List V → List V}
theorem r_bmG {ty : String} {r : V → List V → Hp → VK → Prop} (h : to σ H fun x H1 => tyV K ty x H1 ∧ t σ H1 fun xs H2 => r x xs H2 Q) : tBM K ty r to t σ H Q := h
theorem r_bm0G {ty : String} {r : V → List V → Hp → VK → Prop} (h : to σ H fun x H1 => tyV K ty x H1 ∧ r x [] H1 Q) : tBM0 K ty r to σ H Q := h
theorem r_callKG (h : t σ H fun us H1 => tk σ H1 fun ws H2 => sp (g us ws) H2 Q E) : tCallK sp g E t tk σ H Q := h
theorem r_tNilG {N : List V → Hp → Prop} (h : N [] H) : tNil σ H N := h
theorem r_inD {x y : V} {d : PyData} {ds : List PyData} (hd : Dp K H x d) (hs : Dp K H y (.list ds)) (sd : SeqAt.shaped d = true) (ss : SeqAt.shaped (.list ds) = true) (q : Q (.bl (ds.any fun z => PyData.eqv z d)) H) : rInD K x y H Q := ⟨d, ds, hd, hs, sd, ss, q⟩
theorem r_notInD {x y : V} {d : PyData} {ds : List PyData} (hd : Dp K H x d) (hs : Dp K H y (.list ds)) (sd : SeqAt.shaped d = true) (ss : SeqAt.shaped (.list ds) = true) (q : Q (.bl (!ds.any fun z => PyData.eqv z d)) H) : rNotInD K x y H Q := ⟨d, ds, hd, hs, sd, ss, q⟩
theorem r_indexD {a : Addr} {y : V} {d : PyData} {ds : List PyData} (j : Nat) {z : PyData} (hs : Dp K H (.ref a) (.list ds)) (hd : Dp K H y d) (ss : SeqAt.shaped (.list ds) = true) (sd : SeqAt.shaped d = true) (hj : ds[j]? = some z) (e : PyData.eqv z d = true)
    (no : ∀ (m : Nat) (z' : PyData), m < j → ds[m]? = some z' → PyData.eqv z' d = false) (q : Q (.int (j : Nat)) H) : rIndexD K (.ref a) [y] H Q := ⟨a, y, d, ds, j, z, rfl, rfl, hs, hd, ss, sd, hj, e, no, q⟩
theorem r_allG {a : Addr} {bs : List Bool} (hs : SqL K H a (bs.map V.bl)) (h : Q (.bl (bs.all id)) H) : rAll K [.ref a] H Q := ⟨a, bs, rfl, hs, h⟩
theorem r_slTA {a : Addr} {xs : List V} {lo hi : Option Int} (e : H a = some (.tup xs)) (q1 : HT.sIx xs.length 0 lo = 0 ∧ HT.sIx xs.length xs.length hi = xs.length → Q (.ref a) H)
    (q2 : ¬ (HT.sIx xs.length 0 lo = 0 ∧ HT.sIx xs.length xs.length hi = xs.length) → ∀ p H1, H p = none → Same H H1 → H1 p = some (.tup (cutV xs lo hi)) → Q (.ref p) H1) : rSlA K (.ref a) lo hi H Q :=
  ⟨a, xs, rfl, SqT.of e, q1, fun n p np => q2 n p _ np (same_upd np) upd_same⟩
end
section
variable {X : Cx} {CX : CXT} {k : Nat} {f : Addr} {fd : FuncData} {ps ks : List Str} {sp : Sp} {E : XK} {x : Str} {kws : List Keyword} {tk : TA} {p pos : Pos}
theorem pe_callK0 {g : List Value → List Value → List Value} {gV : List V → List V → List V} (F : FnOk X.prog X.w X.K X.mg X.base CX k f fd ps sp) (hr : Room k X.A) (hg : Gl X x) (hm : X.mg x = some (.ref f)) (hk : PySem.W.keepIn X.K (.ref f) = true) (hb : KBinds X.K fd ps ks g gV) (hx : Passes CX X E)
    (hkw : PK X kws tk) (hall : (backToKw pos (keywordEach kws X.env)).all (·.1.isSome) = true := by rfl) (hks : (backToKw pos (keywordEach kws X.env)).filterMap (·.1) = ks := by rfl)
    (hdb : (x == ("__debug__" : Str)) = false := by decide)
    (hpl : ((backTo pos (starEach [] X.env)).any (·.1) || (backToKw pos (keywordEach kws X.env)).any (·.1.isNone)) = false := by rfl) :
    PE X (.Call (.Name x p) [] kws pos) (tCallK sp gV E tNil tk) := by
  refine ⟨fun pins s σ H Q I h => ?_⟩
  refine wpAny_Call_Name_kw (ld_glob I hg hm ?_ hdb)
  refine PySem.W.callWith_KW0 (h₀ := X.base) I.ok.mod.kin hk hall (thn (hkw.run pos pins s σ H _ I h) fun ws s2 ⟨zs, H2, I2, rz, q2⟩ => ⟨I2.kIn, ?_⟩) hpl
  rw [hks]
  exact run_fnk (us := []) (vs := []) F hr hb hx I2 .nil rz q2
end
end Z
namespace Z
open PySem PySem.Spec PyProof.Rows L2
section
variable {σ : L2.St} {H : Hp} {D : Ends} {t : TS} {tt : TT} {N : Bool → Hp → Prop}
/-- a statement whose ways all go on, and meet -/
theorem viaS (R : L2.St → Hp → Prop) (h : ∀ D' : Ends, (∀ σ' H', R σ' H' → D'.nx σ' H') → t D' σ H) (k : ∀ σ' H', R σ' H' → D.nx σ' H') : t D σ H := h D k
/-- a test whose ways meet -/
theorem viaT (R : Bool → Hp → Prop) (h : ∀ M : Bool → Hp → Prop, (∀ b H', R b H' → M b H') → tt σ H M) (k : ∀ b H', R b H' → N b H') : tt σ H N := h N k
end
end Z
local macro_rules | `(tactic| walk_at "toseq") => `(tactic| ((repeat (first
  | with_reducible refine Z.r_next ?_
  | ((fail_if_success (with_reducible refine Z.r_seq ?_)); walk_at "st"))); with_reducible refine Z.r_seq ?_))

/-! exceptions whose context is known to be none; defs called within an except suite -/
namespace Z
open PySem PySem.Spec PyProof.Rows L2
theorem takesN0 {X : Cx} : L2N.Takes X (fun _ _ _ _ => False) := fun _ _ ⟨_, _, _, _, _, _, _, _, _, _, _, _, _, _, _, _, w⟩ => w.elim
section
variable {P : Program} {w : World} {K : PySem.W.Frag} {mg : Str → Option Value} {base : Heap}
/-- as Fun.ok, for a def that may raise; the exception's context is none -/
theorem okXN {x qual : Str} {st : Stmt} {f : Addr} {fd : FuncData} {N ps : List Str} {k : Nat} {sp : Sp} (F : Fun K x qual st f fd) (S : FnScope N ps (defScope st)) (len : ∀ vs H Q E, sp vs H Q E → vs.length = ps.length)
    (hbody : ∀ (cdv : Value) (A : Around) (outer : List Env) (s : Shared) (H : Hp) (vs : List V) (Q : VK) (E : XK), Room k (A.deeper (envOfC qual (defScope st) s.heap.objs.size f cdv)) → sp vs H Q E →
      ∃ t, PSs (cxOf (L2N.CX P w) P w K mg base N qual (defScope st) f cdv A outer s H E) (defBody st) t ∧ t { nx := fun _ H' => Q .non H', rt := Q } (start N vs) H) : FnOk P w K mg base (L2N.CX P w) (k + 1) f fd ps sp := by
  obtain ⟨oc, od, kV, doc, pm, an, cdv, ct, osl, rfl, lk, hcd⟩ := F.ex
  exact fn_of lk hcd S len fun A outer s H vs Q E hr hsp => hbody cdv A outer s H vs Q E hr hsp
/-- as Fun.ok, for a def that is called within an except suite -/
theorem okH {x qual : Str} {st : Stmt} {f : Addr} {fd : FuncData} {N ps : List Str} {k : Nat} {sp : Sp} (F : Fun K x qual st f fd) (S : FnScope N ps (defScope st)) (len : ∀ vs H Q E, sp vs H Q E → vs.length = ps.length)
    (hbody : ∀ (cdv : Value) (A : Around) (outer : List Env) (s : Shared) (H : Hp) (vs : List V) (Q : VK) (E : XK) (p : Addr × Obj), L2H.Hot1 A p → L2H.RoomH k (A.deeper (envOfC qual (defScope st) s.heap.objs.size f cdv)) → sp vs H Q E →
      ∃ t, PSs (L2H.cxH CX0 P w K mg base N qual (defScope st) f cdv A outer s H E p) (defBody st) t ∧ t { nx := fun _ H' => Q .non H', rt := Q } (L2.start N vs) H) : L2H.FnH P w K mg base CX0 (k + 1) f fd ps sp := by
  obtain ⟨oc, od, kV, doc, pm, an, cdv, ct, osl, rfl, lk, hcd⟩ := F.ex
  exact L2H.fn_ofH lk hcd S len fun A outer s H vs Q E p hot hr hsp => hbody cdv A outer s H vs Q E p hot hr hsp
theorem hotH {N : List Str} {qual : Str} {scope : Scope} {f : Addr} {cd : Value} {A : Around} {outer : List Env} {s : Shared} {H : Hp} {E : XK} {p : Addr × Obj} {CX : CXT} (hot : L2H.Hot1 A p) : L2H.HotC (L2H.cxH CX P w K mg base N qual scope f cd A outer s H E p) :=
  ⟨p, hot, List.mem_singleton.mpr rfl⟩
end
/-- the suite of a caught exception with no context -/
theorem hotS {X : Cx} {a : Addr} {oe : Obj} {cls : Value} {d : Option Addr} {pn : List (Addr × Obj)} (hz : L2N.Zn cls d oe) (hf : ∃ vs, oe.data = .fields vs) : L2H.HotC (X.suite a ((a, oe) :: pn)) := by
  obtain ⟨vs, e⟩ := hf
  exact ⟨(a, oe), ⟨rfl, vs, e, hz.2.2 vs e⟩, List.mem_cons_self⟩
theorem roomS {X : Cx} {k : Nat} {a : Addr} {pn : List (Addr × Obj)} (hr : Room k X.A) : L2H.RoomH k (X.suite a pn).A := ⟨hr.dp, hr.un⟩
section
variable {X : Cx} {e : Expr} {es : List Expr} {ta : TA} {x : Str} {p pos : Pos} {k : Nat} {C f : Addr} {fd : FuncData} {ps : List Str} {sp : Sp}
theorem pmk_exfN (T : ExF X.K C f) (F : FnOk X.prog X.w X.K X.mg X.base CX0 k f fd ps sp) (hr : Room (k + 1) X.A) (hg : Gl X x) (hm : X.mg x = some (.ref C)) (hb : Binds X.K fd ps []) (ha : PA X (e :: es) ta)
    (hdb : (x == ("__debug__" : Str)) = false := by decide) (he : starEach (e :: es) X.env = (false, eval e X.env) :: starEach es X.env := by rfl) (hpl : (backTo pos (starEach es X.env)).any (·.1) = false := by rfl) :
    L2N.PMk X (.Call (.Name x p) (e :: es) [] pos) (tMkX C sp ta) := by
  intro pins s σ H Q I h
  refine wpAny_Call_Name_kw (ld_glob I hg hm ?_ hdb)
  refine PySem.W.callWith_K (h₀ := X.base) I.ok.mod.kin T.kp (thn (ha.run pos pins s σ H _ I h) fun us s1 z => ?_) he hpl
  obtain ⟨vs, H1, I1, r1, hz, q1⟩ := z
  refine ⟨I1.kIn, ?_⟩
  obtain ⟨B, newId, initId, bmB, FB, hin⟩ := T.mk_
  obtain ⟨nm, N, qn, bs, bm, hdct, sn, sub, ab, col, dd, k0, k1, k2, k3, k5, hC, hT⟩ := PySem.W.excInit_of I1.kIn hin
  show wpAny _ _ (call (.ref C) us) _ _ _
  obtain ⟨hp, g, dr, tk, os⟩ := s1
  have up : hp.objs.size ≤ hp.objs.size + 1 := Nat.le_succ _
  have hq := q1 (hp.objs.size + 1) (I1.hok.fresh up)
  have keep : ∀ b o, hp.get? b = some o → ((hp.push (PySem.W.kdv_tup us)).push (PySem.HandSPX.excO C hp.objs.size)).get? b = some o := fun b o z => Heap.get?_push_of_some _ (Heap.get?_push_of_some _ z)
  have there : ((hp.push (PySem.W.kdv_tup us)).push (PySem.HandSPX.excO C hp.objs.size)).get? (hp.objs.size + 1) = some (PySem.HandSPX.excO C hp.objs.size) := by heap_get
  have I2 : Inv X pins σ (L2.upd H1 (hp.objs.size + 1) (exo (hp.objs.size + 1) C none)) ⟨(hp.push (PySem.W.kdv_tup us)).push (PySem.HandSPX.excO C hp.objs.size), g, dr, tk, os⟩ := I1.laid (t' := tk) keep up (exo_ok there)
  have r2 : Vals (V.ref (hp.objs.size + 1) :: vs) (Value.ref (hp.objs.size + 1) :: us) := .cons rfl r1
  have lus : us.length ≤ sizeLine := by
    rw [← Paired.length r1, sizeLine_eq]; omega
  have lps : (Value.ref (hp.objs.size + 1) :: us ++ []).length = ps.length := by
    have z := r2.length
    rw [F.len _ _ _ _ hq] at z
    rw [List.append_nil]; exact z.symm
  refine wpAny_call (PySem.HandSPX.call_own FB hT hC (PySem.W.looks_findIn I1.kIn T.ini) (fun self => PySem.W.bind_fn I1.kIn self (beq_iff_eq.mp T.fn)) lus
    (codeAny_mono (F.run _ X.stack _ _ ⟨Value.ref (hp.objs.size + 1) :: us, []⟩ (Value.ref (hp.objs.size + 1) :: us) _ _ E0 (hr.make C us []) (I2.env0.make C us []) (by
      have z := hb _ (Value.ref (hp.objs.size + 1) :: us) I2.kIn lps
      rw [List.append_nil] at z
      exact z) r2 hq) fun r s' z => ?_))
  cases r with
  | error x => exact z.elim
  | ok fl =>
    cases fl with
    | next => exact False.elim z
    | brk => exact False.elim z
    | cont => exact False.elim z
    | ret u =>
      obtain ⟨v, H2, os2, bare2, un2, hok2, rv, ev, d, fs, ea, ed, hd1, q2⟩ := z
      subst ev
      obtain ⟨h2, g2, d2, t2, os'⟩ := s'
      obtain ⟨t0, G, J, kG, ge, hoe, na⟩ := L2.mk_end0 (d2 := d2) (t2 := t2) I1 up keep un2 hok2 os2 bare2 ea ed hd1
      exact ⟨rv, _, _, _, ⟨G, g2, d2, t2, os'⟩, _, .ref C, some d, rfl, J, kG, ge, hoe, ⟨rfl, rfl, fun vs e => by cases e; rfl⟩, rfl, rfl, na, rfl, bare2, raises_own T.sb T.ty, q2⟩
end
section
variable {K : PySem.W.Frag} {σ : L2.St} {H : Hp} {Q : VK} {t : TA} {sp : Sp} {E : L2.St → XK}
theorem r_callS (h : t σ H fun vs H1 => sp vs H1 Q (E σ)) : tCallS sp E t σ H Q := h
end
end Z
local macro_rules | `(tactic| walk_at "call") => `(tactic| with_reducible refine Z.r_callS ?_)

/-! list.index by an own ==, an instance's items by an iterator of its list, o[i] = v of an instance -/
namespace Z
open PySem PySem.Spec PyProof.Rows L2 PySem.SeqAt
open MeetsSeq MeetsSeq2 MeetsSeq3 SeqRoads2
section
variable {prog : Program} {w : World} {A : Around} {R : Result → Shared → Prop}
theorem index_loopG (l : Addr) (x : Value) (N : Nat) (e : Nat → Bool) (I : Shared → Prop) (rd : Reads1 prog w A R l x N e I) (upto : Int) (j : Nat) (hj : j < N) (hu : (j : Int) < upto) (hit : e j = true) (fin : ∀ s, I s → R (.ok (.ret (.int j s.toks))) { s with toks := s.toks + 1 }) (k : Nat) :
    ∀ i : Nat, j - i = k → i ≤ j → (∀ m, i ≤ m → m < j → e m = false) → ∀ s, I s →
      wpAny (model prog w) A.in1 (Builtin.«list.index.loop» ⟨[.ref l, x, rawInt i, rawInt upto], []⟩) (GQ.FinOf prog w A R) (fun e s' => R (.error e) s') s := by
  induction k with
  | zero =>
    intro i hk hij hno s h
    have hij' : i = j := by omega
    subst hij'
    obtain ⟨items, n, hl1, hs1, turn⟩ := rd s h
    have hlt : i < items.size := by omega
    have ht := turn i hlt
    obtain ⟨hp, g, d, tk, os⟩ := s
    wp_walk using AutoSeq1.wpAny_loadPart' hl1
    have hi : (if (i : Int) < upto then items[((i : Nat) : Int).toNat]? else none) = some items[i] := by simp [hu, hlt]
    rw [hi]
    refine wpAny_bind (wpAny_mono ht (fun r s2 h2 => ?_) fun _ _ x => x)
    obtain ⟨hr, h2⟩ := h2
    subst hr
    have z := fin s2 h2
    obtain ⟨hp2, g2, d2, tk2, os2⟩ := s2
    rw [hit]
    wp_walk
    exact z
  | succ k ih =>
    intro i hk hij hno s h
    obtain ⟨items, n, hl1, hs1, turn⟩ := rd s h
    have hlt : i < items.size := by omega
    have hst : (i : Int) < upto := by omega
    have ht := turn i hlt
    obtain ⟨hp, g, d, tk, os⟩ := s
    wp_walk using AutoSeq1.wpAny_loadPart' hl1
    have hi : (if (i : Int) < upto then items[((i : Nat) : Int).toNat]? else none) = some items[i] := by simp [hst, hlt]
    have hc : ((i : Int) + 1) = ((i + 1 : Nat) : Int) := by push_cast; rfl
    rw [hi]
    refine wpAny_bind (wpAny_mono ht (fun r s2 h2 => ?_) fun _ _ x => x)
    obtain ⟨hr, h2⟩ := h2
    subst hr
    have hrec := ih (i + 1) (by omega) (by omega) (fun m h1 h3 => hno m (by omega) h3) s2 h2
    rw [hno i (Nat.le_refl _) (by omega)]
    obtain ⟨hp2, g2, d2, tk2, os2⟩ := s2
    wp_walk
    rw [hc]
    exact ⟨plainId_quiet plain_index_loop _, codeAny_builtin entry_index_loop (by
      rw [Around.under_plainId plain_index_loop _]
      exact hrec)⟩
theorem list_indexG (l : Addr) (x : Value) (N : Nat) (e : Nat → Bool) (I : Shared → Prop) (rd : Reads1 prog w A R l x N e I) (j : Nat) (hj : j < N) (hu : (j : Int) < 2 ^ 63 - 1) (hit : e j = true) (hno : ∀ m, m < j → e m = false) (fin : ∀ s, I s → R (.ok (.ret (.int j s.toks))) { s with toks := s.toks + 1 }) {s : Shared} (h : I s) :
    wpAny (model prog w) A.in1 (Builtin.«list.index» ⟨[.ref l, x], []⟩) (GQ.FinOf prog w A R) (fun e s' => R (.error e) s') s := by
  obtain ⟨items, n, hl1, _, _⟩ := rd s h
  have hrec := index_loopG (A := A) (R := R) l x N e I rd (2 ^ 63 - 1) j hj hu hit fin _ 0 rfl (Nat.zero_le _) (fun m _ h2 => hno m h2) s h
  obtain ⟨hp, g, d, tk, os⟩ := s
  wp_walk using AutoSeq1.wpAny_loadPart' hl1
  have a1 : ((fun i : Int => if i < 0 then max 0 (i + (items.size : Int)) else i) ((none : Option Int).getD 0)) = ((0 : Nat) : Int) := by simp
  have a2 : ((fun i : Int => if i < 0 then max 0 (i + (items.size : Int)) else i) ((none : Option Int).getD (2 ^ 63 - 1))) = 2 ^ 63 - 1 := by simp
  rw [a1, a2]
  exact ⟨plainId_quiet plain_index_loop _, codeAny_builtin entry_index_loop (by
    rw [Around.under_plainId plain_index_loop _]
    exact hrec)⟩
end
end Z
namespace Z
open PySem PySem.Spec PyProof.Rows L2
section
variable {X : Cx} {k : Nat}
/-- xs.index(x): all that == says of the items is told, the first that is equal stands at j -/
def rIndexO (P : Program) (w : World) (K : PySem.W.Frag) (mg : Str → Option Value) (base : Heap) (k : Nat) : V → List V → Hp → VK → Prop := fun x ys H Q => ∃ (p : Addr) (xs : List V) (y : V) (e : V → Bool) (j : Nat), x = .ref p ∧ ys = [y] ∧ H p = some (.lst xs) ∧ (∀ z ∈ xs, EqG P w K mg base k z y H (e z)) ∧
  j < xs.length ∧ e (xs.getD j .non) = true ∧ (∀ m, m < j → e (xs.getD m .non) = false) ∧ Q (.int (j : Nat)) H
theorem mt_indexO {P : Program} {w : World} {K : PySem.W.Frag} {mg : Str → Option Value} {base : Heap} (e1 : X.prog = P) (e2 : X.w = w) (e3 : X.K = K) (e4 : X.mg = mg) (e5 : X.base = base) (hr : Room (k + 1) X.A) : MtR X "list.index" (rIndexO P w K mg base k) := by
  intro pins s σ H x ys v us Q I rx rys h
  obtain ⟨p, xs, y, e, j, rfl, rfl, hp, he, hj, hit, hno, q⟩ := h
  cases (show v = Value.ref p from rx)
  obtain ⟨u, rfl, ry⟩ := vals1 rys
  obtain ⟨hz, its, n, r, hl⟩ := (show ObjOk X.prog X.w H s.heap p (.lst xs) from I.hok p _ hp)
  have small : (j : Int) < 2 ^ 63 - 1 := by
    have : sizeLine ≤ 2 ^ 62 := by decide
    omega
  refine GQ.call_here PySem.F.slot_list_index ⟨_, hl, rfl⟩ PySem.F.entry_list_index (PySem.F.args_list_index_2 _ _) ?_
  refine list_indexG p u xs.length (fun i => e (xs.getD i .non)) (fun s' => Inv X pins σ H s') (fun s' I' => ?_) j hj small hit hno (fun s' I' => ?_) I
  · obtain ⟨hz', its', n', r', hl'⟩ := (show ObjOk X.prog X.w H s'.heap p (.lst xs) from I'.hok p _ hp)
    refine ⟨its'.toArray, n', hl', by rw [List.size_toArray, ← r'.length], fun i hi => ?_⟩
    have h1 : i < its'.length := by simpa using hi
    have h2 : i < xs.length := by rw [r'.length]; exact h1
    obtain ⟨u', hu, ru⟩ := r'.get (List.getElem?_eq_getElem h2)
    rw [List.getElem?_eq_getElem h1] at hu
    have e1' : its'.toArray[i] = u' := by simpa using Option.some.inj hu
    have e2' : xs.getD i .non = xs[i] := by simp [List.getD_eq_getElem?_getD, h2]
    rw [e1']
    show wpAny _ _ _ (fun r s'' => r = e (xs.getD i .non) ∧ Inv X pins σ H s'') _ _
    rw [e2']
    exact he _ (List.getElem_mem h2) X e1 e2 e3 e4 e5 X.A.in1 pins σ s' u' u ⟨hr.in1, rfl⟩ I' ru ry
  · exact ⟨.int (j : Nat), H, I'.tok _, ⟨_, rfl⟩, q⟩
theorem r_indexO {P : Program} {w : World} {K : PySem.W.Frag} {mg : Str → Option Value} {base : Heap} {p : Addr} {xs : List V} {y : V} {H : Hp} {Q : VK} (e : V → Bool) (j : Nat) (hp : H p = some (.lst xs)) (he : ∀ z ∈ xs, EqG P w K mg base k z y H (e z)) (hj : j < xs.length) (hit : e (xs.getD j .non) = true) (hno : ∀ m, m < j → e (xs.getD m .non) = false) (q : Q (.int (j : Nat)) H) :
    rIndexO P w K mg base k (.ref p) [y] H Q := ⟨p, xs, y, e, j, rfl, rfl, hp, he, hj, hit, hno, q⟩
end
end Z
namespace Z
open PySem PySem.Spec PyProof.Rows L2
open ItX (dropH dropH_upd inv_drop inv_fp)
/-- the iterator at it of the list at t -/
def ItLst (t it : Addr) (i : Nat) : HO := .ext fun h => h.IsListIter it t i
theorem itLst_ok {P : Program} {w : World} {H : Hp} {h : Heap} {t it : Addr} {i : Nat} (e : h.IsListIter it t i) : ObjOk P w H h it (ItLst t it i) :=
  ⟨e, let ⟨o, ho, _⟩ := e; ⟨o, ho⟩, fun h1 h2 e1 k => e1.at fun o q => k o q⟩
theorem itLst_get {P : Program} {w : World} {H : Hp} {h : Heap} {t it : Addr} {i : Nat} (ok : HOk P w H h) (e : H it = some (ItLst t it i)) : h.IsListIter it t i := (show ObjOk P w H h it (ItLst t it i) from ok it _ e).1
def rIterL (K : PySem.W.Frag) (n : Nat) : List V → Hp → VK → Prop := fun xs H Q => ∃ (t : Addr) (zs : List V), xs = [.ref t] ∧ SqL K H t zs ∧ ∀ it, H it = none → n ≤ it → Q (.ref it) (L2.upd H it (ItLst t it 0))
section
variable {X : Cx} {k : Nat} {C f : Addr} {fd : FuncData} {ps : List Str} {sp : Sp}
theorem c_iterL : CallR X (.builtin "iter") (rIterL X.K X.s_0.heap.objs.size) := by
  intro pins s σ H xs us Q I r h
  obtain ⟨t, zs, rfl, hq, q⟩ := h
  obtain rfl := Vals.ref1 r
  obtain ⟨its, rv, tp, hz⟩ := I.list hq
  refine Calls.call_function_entry (by decide +kernel) (by decide +kernel) PySem.W.kdk_entry_iter (PySem.W.kdk_args_iter _) ?_
  unfold Builtin.«iter»
  refine wpAny_bind (m := someArgs "iter" 1 2 _) (wpAny_of_eq (a := [Value.ref t]) (by kernel_rfl!) (?_ : wpAny _ _ (pyIter (.ref t) >>= _) _ _ s))
  refine wpAny_bind (wpAny_pyIter_list tp.isList (wpAny_pure ⟨_, rfl, ?_⟩))
  have fr := I.hok.fresh (Nat.le_refl s.heap.objs.size)
  exact ⟨.ref s.heap.objs.size, _, I.laid (t' := s.toks) (fun b u e => Heap.get?_push_of_some _ e) (Nat.le_refl _) (itLst_ok ⟨_, Heap.get?_push_size _ rfl, rfl, rfl⟩), rfl, q _ fr I.sz⟩
end
/-- the def at f gives, of an instance of C whose field fl holds a list, a young iterator of it -/
def IterOkL (P : Program) (w : World) (K : PySem.W.Frag) (mg : Str → Option Value) (base : Heap) (k : Nat) (f C : Addr) (fl : Str) : Prop :=
  ∀ (A : Around) (outer : List Env) (s : Shared) (H : Hp) (a : Addr) (Q : VK), Room k A → Env0 P w K mg base A outer s H →
    (∃ dx fs t zs, H a = some (.ins C dx fs) ∧ fs.lookup fl = some (.ref t) ∧ SqL K H t zs ∧ ∀ it, H it = none → s.heap.objs.size ≤ it → Q (.ref it) (L2.upd H it (ItLst t it 0))) →
    codeAny (model P w) A (.call (.ref f) ⟨[.ref a], []⟩) (CR CX0 outer P w H s Q E0) s
def iOwnL (K : PySem.W.Frag) (C : Addr) (fl : Str) (te : TE) : TI := fun σ H R => te σ H fun x H1 => ∃ a dx fs t zs, x = .ref a ∧ H1 a = some (.ins C dx fs) ∧ fs.lookup fl = some (.ref t) ∧ SqL K H1 t zs ∧ R (Itl K t) H1
section
variable {prog : Program} {w : World} {A : Around} {E : Value → Shared → Prop} {s : Shared} {K : PySem.W.Frag} {x C f : Addr} {ox : Obj} {od : Option Obj}
theorem iter_ownL {Q : Value → Shared → Prop} (X : K.In s.heap) (I : PySem.W.InstAt s.heap x ox C od) (hs : PySem.W.findIn K (.ref C) "__iter__" = some (some (.ref f))) (hf : PySem.W.isFn K (.ref f) = true)
    (h : wpAny (model prog w) A (call (.ref f) [.ref x]) (fun v s' => (∃ t it i, v = .ref it ∧ s'.heap.IsListIter it t i) ∧ Q v s') E s) : wpAny (model prog w) A (pyIter (.ref x)) Q E s := by
  have look : ∀ {R : Option Value → Shared → Prop}, R (some (.ref f)) s → wpAny (model prog w) A (specialOf (.ref x) (Str.ofString "__iter__")) R E s := fun q => wpAny_bind (I.type.here ((PySem.W.looks_findIn X hs).here q))
  have go : wpAny (model prog w) A (call (.ref f) [.ref x] >>= fun v => pure (some v)) (fun r s' => ∃ v, r = some v ∧ (∃ t it i, v = .ref it ∧ s'.heap.IsListIter it t i) ∧ Q v s') E s :=
    wpAny_bind (wpAny_mono h (fun v s' z => wpAny_pure ⟨v, rfl, z⟩) fun _ _ z => z)
  unfold pyIter
  refine wpAny_bind (look ?_)
  dsimp only
  refine wpAny_bind (wpAny_mono (Q := fun r s' => ∃ v, r = some v ∧ (∃ t it i, v = .ref it ∧ s'.heap.IsListIter it t i) ∧ Q v s') ?_ (fun r s' z => ?_) fun _ _ z => z)
  · simp only [callSpecialIfBoundUnlessNone?, bindSpecialIfBound?]
    refine wpAny_holding (wpAny_bind (wpAny_bind (look ?_)))
    refine wpAny_bind (wpAny_askSetting (wpAny_ite ?_))
    split
    · exact wpAny_bind ((PySem.W.bind_fn X _ (beq_iff_eq.mp hf)).here (wpAny_pure (by exact go)))
    · exact wpAny_tryCatch (wpAny_bind ((PySem.W.bind_fn X _ (beq_iff_eq.mp hf)).here (wpAny_pure (by exact go))))
  · obtain ⟨v, rfl, ⟨t, it, i, rfl, hi⟩, q⟩ := z
    exact wpAny_bind (wpAny_specialOf hi.typeIs slot_listiter_next.lookup (wpAny_pure q))
end
section
variable {X : Cx} {k : Nat} {C f : Addr} {fl : Str} {te : TE} {tg e : Expr}
theorem pi_ownL {K : PySem.W.Frag} (eK : X.K = K) (M : Meth X.K C "__iter__" f) (F : IterOkL X.prog X.w X.K X.mg X.base k f C fl) (hr : Room k X.A) (he : PE X e te) : PI X tg e (iOwnL K C fl te) := by
  subst eK
  refine ⟨fun pins s σ H R I h => ?_⟩
  refine thn (he.run pins s σ H _ I h) fun v s1 hv => ?_
  obtain ⟨y, H1, I1, r1, a, dx, fs, t, zs, rfl, ha, hl, ht, q⟩ := hv
  cases (show v = Value.ref a from r1)
  obtain ⟨mA, O, _⟩ := ins_get I1.hok ha
  obtain ⟨od, J, _⟩ := O.look
  refine iter_ownL I1.kIn J M.at_ M.fn (wpAny_call (codeAny_mono (F X.A X.stack s1 H1 a (fun v H' => ∃ it, v = .ref it ∧ H1 it = none ∧ s1.heap.objs.size ≤ it ∧ H' = L2.upd H1 it (ItLst t it 0)) hr I1.env0
    ⟨dx, fs, t, zs, ha, hl, ht, fun it n1 n2 => ⟨it, rfl, n1, n2, rfl⟩⟩) fun r s' hq => ?_))
  cases r with
  | error e => exact hq.elim
  | ok fl =>
    cases fl with
    | next => exact False.elim hq
    | brk => exact False.elim hq
    | cont => exact False.elim hq
    | ret u =>
      obtain ⟨v, H', I2, rv, it, rfl, n1, n2, rfl⟩ := I1.after hq
      cases (show u = Value.ref it from rv)
      have hi : L2.upd H1 it (ItLst t it 0) it = some (ItLst t it 0) := upd_same
      have st := itLst_get I2.hok hi
      refine ⟨⟨t, it, 0, rfl, st⟩, it, [it], _, _, dropH (L2.upd H1 it (ItLst t it 0)) it, rfl, inv_drop I2 hi, turn_list t it, st, fun b hb => ?_, ?_⟩
      · have e : b = it := by simpa using hb
        rw [e]
        exact inv_fp I2 hi (Nat.le_trans I1.sz n2)
      · rw [dropH_upd n1]
        exact q
end
section
variable {K : PySem.W.Frag} {σ : L2.St} {H : Hp} {Q : VK} {D : Ends} {te : TE} {tt : TT} {a C dx t : Addr} {fs : List (Str × V)} {fl : Str} {zs : List V}
def owLR (K : PySem.W.Frag) (C : Addr) (fl : Str) (R : It → Hp → Prop) : VK := fun x H1 => ∃ a dx fs t zs, x = .ref a ∧ H1 a = some (.ins C dx fs) ∧ fs.lookup fl = some (.ref t) ∧ SqL K H1 t zs ∧ R (Itl K t) H1
theorem r_lcOL0 {k : Nat} {vs : List Nat} {te' : TE} (h : te σ H (owLR K C fl (lcOR k tt te' vs σ Q))) : tLc (iOwnL K C fl te) (gName k) tt te' vs σ H Q := h
theorem r_lcOL {k : Nat} {vs : List Nat} {te' : TE} (ha : H a = some (.ins C dx fs)) (hf : fs.lookup fl = some (.ref t)) (hx : SqL K H t zs) (hw : ∀ x, wipe ((wipe σ vs).set k (some x)) vs = wipe σ vs) (Pv : Addr → Nat → Hp → Prop)
    (hs : ∀ Dl H1, H Dl = none → Same H H1 → H1 Dl = some (.lst []) → Pv Dl 0 H1) (hl : ∀ Dl i H', H Dl = none → Pv Dl i H' → SqL K H' t zs)
    (ht : ∀ Dl (i : Nat) x H', H Dl = none → zs[i]? = some x → Pv Dl i H' → tt ((wipe σ vs).set k (some x)) H' fun b H3 => if b = true then te' ((wipe σ vs).set k (some x)) H3 (apR Dl (Pv Dl (i + 1))) else Pv Dl (i + 1) H3)
    (hd : ∀ Dl H', H Dl = none → Pv Dl zs.length H' → Q (.ref Dl) H') : owLR K C fl (lcOR k tt te' vs σ Q) (.ref a) H :=
  ⟨a, dx, fs, t, zs, rfl, ha, hf, hx, fun Dl hD => lc_list (xs := zs) (tt := tt) (Pv Dl) (hs Dl _ hD (same_upd hD) upd_same) (fun i H' _ p => hl Dl i H' hD p) (fun i x H' hi p => ⟨hw _, ht Dl i x H' hD hi p⟩) fun H' p => hd Dl H' hD p⟩
theorem r_iterL {n : Nat} (hs : SqL K H t zs) (h : ∀ it, H it = none → n ≤ it → Q (.ref it) (L2.upd H it (ItLst t it 0))) : rIterL K n [.ref t] H Q := ⟨t, zs, rfl, hs, h⟩
end
section
variable {X : Cx} {k : Nat} {C f : Addr} {fd : FuncData} {ps : List Str} {sp : Sp}
/-- o[i] = v, o an instance -/
def rSetO (C : Addr) (sp : Sp) : TSet := fun o i v H N => ∃ a dx fs, o = .ref a ∧ H a = some (.ins C dx fs) ∧ sp ([o, i, v] ++ []) H (fun _ H' => N H') E0
theorem set_own (M : Meth X.K C "__setitem__" f) (F : FnOk X.prog X.w X.K X.mg X.base CX0 k f fd ps sp) (hr : Room k X.A) (hb : Binds X.K fd ps []) (hq : PySem.W.noSeq X.K C = true) : PSet X (rSetO C sp) := by
  intro pins s σ H o i v ov iv u N I ro ri rv h
  obtain ⟨a, dx, fs, rfl, ha, q⟩ := h
  cases (show ov = Value.ref a from ro)
  obtain ⟨mA, O, _⟩ := ins_get I.hok ha
  obtain ⟨od, J, _⟩ := O.look
  obtain ⟨m, hF⟩ := I.fr
  refine PySem.W.ksp_setItem hF I.ok.mod.kin J hq M.at_ M.fn (wpAny_mono (run_fn (us := [.ref a, iv, u]) (vs := [.ref a, i, v]) F hr hb .nil pass0 I (.cons rfl (.cons ri (.cons rv .nil))) q) (fun w s' z => ?_) fun _ _ x => x)
  obtain ⟨z', H', I', rz, qz⟩ := z
  exact ⟨H', I', qz⟩
theorem r_setO {a dx : Addr} {fs : List (Str × V)} {i v : V} {H : Hp} {N : Hp → Prop} (e : H a = some (.ins C dx fs)) (h : sp ([.ref a, i, v] ++ []) H (fun _ H' => N H') E0) : rSetO C sp (.ref a) i v H N := ⟨a, dx, fs, rfl, e, h⟩
theorem r_sumI {K : PySem.W.Frag} {a : Addr} {ns : List Int} {H : Hp} {Q : VK} (hs : SqL K H a (ns.map V.int)) (h : Q (.int ns.sum) H) : rSum K [.ref a] H Q := ⟨a, ns, rfl, hs, h⟩
end
end Z
local macro_rules | `(tactic| walk_at "call") => `(tactic| with_reducible refine Z.r_lcOL0 ?_)
namespace Z
open PySem PySem.Spec PyProof.Rows L2
section
variable {X : Cx} {C f : Addr} {fd : FuncData} {k : Nat} {ps : List Str} {sp : Sp}
/-- x not in o, o an instance -/
def rNotInI (C : Addr) (sp : Sp) : R2 := fun x y H Q => ∃ a dx fs, y = .ref a ∧ H a = some (.ins C dx fs) ∧ sp ([y, x] ++ []) H (fun v H' => ∃ c, v = .bl c ∧ Q (.bl (!c)) H') E0
theorem o_notInI (M : Meth X.K C "__contains__" f) (F : FnOk X.prog X.w X.K X.mg X.base CX0 k f fd ps sp) (hr : Room k X.A) (hb : Binds X.K fd ps []) : OpR X (compareOp .NotIn) (rNotInI C sp) := by
  intro pins s σ H x y v u Q I rx ry h
  obtain ⟨a, dx, fs, rfl, ha, q⟩ := h
  cases (show u = Value.ref a from ry)
  obtain ⟨mA, O, _⟩ := ins_get I.hok ha
  obtain ⟨od, J, _⟩ := O.look
  obtain ⟨m, hF⟩ := I.fr
  refine PySem.W.notIn_K hF I.ok.mod.kin J M.at_ M.fn (wpAny_mono (run_fn (us := [.ref a, v]) (vs := [.ref a, x]) F hr hb .nil pass0 I (.cons rfl (.cons rx .nil)) q) (fun w s' z => ?_) fun _ _ x => x)
  obtain ⟨z', H', I', rz, c, rfl, qz⟩ := z
  cases (show w = Value.bool c from rz)
  exact wpAny_truthy_bool ⟨.bl (!c), H', I', rfl, qz⟩
theorem r_notInI {a dx : Addr} {fs : List (Str × V)} {x : V} {H : Hp} {Q : VK} (e : H a = some (.ins C dx fs)) (h : sp ([.ref a, x] ++ []) H (fun v H' => ∃ c, v = .bl c ∧ Q (.bl (!c)) H') E0) : rNotInI C sp x (.ref a) H Q := ⟨a, dx, fs, rfl, e, h⟩
end
end Z
namespace Z
open PySem PySem.Spec PyProof.Rows L2
section
variable {σ : L2.St} {H : Hp} {Q : VK} {C : Addr} {m : Str} {sp : Sp} {E : XK} {ta : TE} {t : TA}
/-- o.m(), o.m(e, ..) -/
def mtRG (C : Addr) (m : Str) (sp : Sp) (E : XK) (t : TA) (σ : L2.St) (Q : VK) : VK := fun x H1 => ∃ a dx fs, x = .ref a ∧ H1 a = some (.ins C dx fs) ∧ fs.lookup m = none ∧ t σ H1 fun vs H2 => sp (x :: (vs ++ [])) H2 Q E
theorem r_methG (h : ta σ H (mtRG C m sp E t σ Q)) : tMeth C m sp [] E ta t σ H Q := h
theorem r_mtG {a dx : Addr} {fs : List (Str × V)} (e : H a = some (.ins C dx fs)) (l : fs.lookup m = none) (h : t σ H fun vs H2 => sp (.ref a :: (vs ++ [])) H2 Q E) : mtRG C m sp E t σ Q (.ref a) H := ⟨a, dx, fs, rfl, e, l, h⟩
end
end Z
local macro_rules | `(tactic| walk_at "call") => `(tactic| first
  | with_reducible refine Z.r_methG ?_
  | ((with_reducible refine' Z.r_mtG ?e ?l ?_); (case e => walk_at "hp"); (case l => first | assumption | (simp [List.lookup]; done))))

namespace Z
open PySem PySem.Spec PyProof.Rows L2
section
variable {K : PySem.W.Frag} {σ : L2.St} {H : Hp} {Q : VK} {A : TA} {te : TE} {tt : TT}
/-- [e for name in range(j) if t] -/
def lcRT (j : Int) (k : Nat) (tt : TT) (te : TE) (vs : List Nat) (σ : L2.St) (H : Hp) (Q : VK) : Prop := -(2 ^ 62) ≤ j ∧ j < 2 ^ 62 ∧ ∀ D, H D = none → ∃ W : Nat → Nat → Hp → Prop, (∃ m, W 0 m (L2.upd H D (.lst []))) ∧ ∀ i m H, W i m H →
  ((Itr 0 j.toNat).stop i H ∧ Q (.ref D) H) ∨ ((Itr 0 j.toNat).go i H ∧ ∃ Nx : Hp → Prop, (∀ H', Nx H' → ∃ m', m' < m ∧ W (i + 1) m' H') ∧ ∀ x H', (Itr 0 j.toNat).yld i H x H' → gName k x (wipe σ vs) H' fun σ2 H2 => wipe σ2 vs = wipe σ vs ∧ tt σ2 H2 fun b H3 =>
    if b = true then te σ2 H3 fun y H4 => ∃ acc, H4 D = some (.lst acc) ∧ acc.length < sizeLine ∧ Nx (L2.upd H4 D (.lst (acc ++ [y]))) else Nx H3)
theorem r_lcRT0 {k : Nat} {vs : List Nat} (h : A σ H fun ws H1 => ∃ j : Int, ws = [.int j] ∧ lcRT j k tt te vs σ H1 Q) : tLc (iRng1 A) (gName k) tt te vs σ H Q := h
theorem r_lcRT {J : Int} {k : Nat} {vs : List Nat} (h0 : 0 ≤ J) (h1 : J ≤ 100000) (hw : ∀ x, wipe ((wipe σ vs).set k (some x)) vs = wipe σ vs) (Pv : Addr → Nat → Hp → Prop)
    (hs : ∀ Dl H1, H Dl = none → Same H H1 → H1 Dl = some (.lst []) → Pv Dl 0 H1)
    (ht : ∀ Dl (i : Nat) H', H Dl = none → (i : Int) < J → Pv Dl i H' → tt ((wipe σ vs).set k (some (.int (i : Int)))) H' fun b H3 => if b = true then te ((wipe σ vs).set k (some (.int (i : Int)))) H3 (apR Dl (Pv Dl (i + 1))) else Pv Dl (i + 1) H3)
    (hd : ∀ Dl H', H Dl = none → Pv Dl J.toNat H' → Q (.ref Dl) H') : ∃ j' : Int, [V.int J] = [V.int j'] ∧ lcRT j' k tt te vs σ H Q := by
  refine ⟨J, rfl, by omega, by omega, fun Dl hD => ?_⟩
  refine lc_range (lo := 0) (n := J.toNat) (tt := tt) (Pv Dl) (hs Dl _ hD (same_upd hD) upd_same) (fun i H' hi p => ?_) (fun H' p => hd Dl H' hD p)
  have e : (0 : Int) + (i : Int) = (i : Int) := Int.zero_add _
  rw [e]
  exact ⟨hw _, ht Dl i H' hD (by omega) p⟩
/-- x in a written tuple of texts, and not -/
theorem o_inW {X : Cx} {K : PySem.W.Frag} (e : X.K = K) : OpR X (compareOp .In) (rIn K false) := e ▸ op_in_seq
end
end Z
local macro_rules | `(tactic| walk_at "call") => `(tactic| with_reducible refine Z.r_lcRT0 ?_)
theorem no_anyJ (n : Nat) : (List.replicate n false).any id = false := by
  induction n with
  | zero => rfl
  | succ n ih => rw [List.replicate_succ]; exact ih
/-- when two keys meet -/
def meetB (how : Str) (s t : Tag) : Bool := if how = "object" then decide (s = t) else if (isNumT s || isNumT t) = true then decide (s = t) else decide (how = "one")
/-- the pairs of places -/
def rowP (how : Str) (s : Tag) (i : Nat) : Nat → List Tag → List (Nat × Nat)
  | _, [] => []
  | j, t :: r => if meetB how s t = true then (i, j) :: rowP how s i (j + 1) r else rowP how s i (j + 1) r
def allP (how : Str) (ts : List Tag) : Nat → List Tag → List (Nat × Nat)
  | _, [] => []
  | i, s :: r => rowP how s i 0 ts ++ allP how ts (i + 1) r
theorem rowP_snoc (how : Str) (s t : Tag) (i j : Nat) (r : List Tag) : rowP how s i j (r ++ [t]) = rowP how s i j r ++ (if meetB how s t = true then [(i, j + r.length)] else []) := by
  induction r generalizing j with
  | nil =>
    show (if meetB how s t = true then [(i, j)] else []) = _
    rfl
  | cons x r ih =>
    have e : j + 1 + r.length = j + (x :: r).length := by show j + 1 + r.length = j + (r.length + 1); omega
    show (if meetB how s x = true then (i, j) :: rowP how s i (j + 1) (r ++ [t]) else rowP how s i (j + 1) (r ++ [t])) = (if meetB how s x = true then (i, j) :: rowP how s i (j + 1) r else rowP how s i (j + 1) r) ++ _
    rw [ih, e]
    split <;> rfl
theorem allP_snoc (how : Str) (ts : List Tag) (i : Nat) (r : List Tag) (s : Tag) : allP how ts i (r ++ [s]) = allP how ts i r ++ rowP how s (i + r.length) 0 ts := by
  induction r generalizing i with
  | nil =>
    show rowP how s i 0 ts ++ [] = _
    rw [List.append_nil]; rfl
  | cons x r ih =>
    have e : i + 1 + r.length = i + (x :: r).length := by show i + 1 + r.length = i + (r.length + 1); omega
    show rowP how x i 0 ts ++ allP how ts (i + 1) (r ++ [s]) = rowP how x i 0 ts ++ allP how ts (i + 1) r ++ _
    rw [ih, e, List.append_assoc]
theorem rowP_len (how : Str) (s : Tag) (i j : Nat) (r : List Tag) : (rowP how s i j r).length ≤ r.length := by
  induction r generalizing j with
  | nil => exact Nat.le_refl _
  | cons x r ih =>
    have := ih (j + 1)
    show (if meetB how s x = true then (i, j) :: rowP how s i (j + 1) r else rowP how s i (j + 1) r).length ≤ r.length + 1
    split
    · show (rowP how s i (j + 1) r).length + 1 ≤ _; omega
    · omega
theorem allP_len (how : Str) (ts : List Tag) (i : Nat) (r : List Tag) : (allP how ts i r).length ≤ r.length * ts.length := by
  induction r generalizing i with
  | nil => exact Nat.zero_le _
  | cons x r ih =>
    have h1 := ih (i + 1)
    have h2 := rowP_len how x i 0 ts
    show (rowP how x i 0 ts ++ allP how ts (i + 1) r).length ≤ (r.length + 1) * ts.length
    rw [List.length_append, Nat.succ_mul]
    omega
/-- tuples of two places, each at its address -/
def PA (H : Hp) : List Addr → List (Nat × Nat) → Prop
  | [], [] => True
  | a :: r, q :: s => H a = some (.tup [.int (q.1 : Nat), .int (q.2 : Nat)]) ∧ PA H r s
  | _, _ => False
theorem PA.same {H H' : Hp} (s : Same H H') : ∀ {xs : List Addr} {ps : List (Nat × Nat)}, PA H xs ps → PA H' xs ps
  | [], [], _ => trivial
  | a :: r, q :: ps, h => ⟨s _ _ h.1, PA.same s h.2⟩
theorem PA.but {b : Addr} {ys : List V} {H H' : Hp} (s : Z.But b H H') (hb : H b = some (.lst ys)) : ∀ {xs : List Addr} {ps : List (Nat × Nat)}, PA H xs ps → PA H' xs ps
  | [], [], _ => trivial
  | a :: r, q :: ps, h => ⟨s _ _ (ne_of h.1 hb (by intro z; cases z)) h.1, PA.but s hb h.2⟩
theorem PA.app {H : Hp} : ∀ {xs ys : List Addr} {ps qs : List (Nat × Nat)}, PA H xs ps → PA H ys qs → PA H (xs ++ ys) (ps ++ qs)
  | [], _, [], _, _, h => h
  | a :: r, _, q :: ps, _, h1, h2 => ⟨h1.1, PA.app h1.2 h2⟩
theorem PA.len {H : Hp} : ∀ {xs : List Addr} {ps : List (Nat × Nat)}, PA H xs ps → xs.length = ps.length
  | [], [], _ => rfl
  | a :: r, q :: ps, h => congrArg (· + 1) (PA.len h.2)
theorem PA.at_ {H : Hp} : ∀ {xs : List Addr} {ps : List (Nat × Nat)} {k : Nat} {a : Addr}, PA H xs ps → xs[k]? = some a → ∃ i j : Nat, H a = some (.tup [.int i, .int j])
  | b :: r, q :: ps, 0, a, h, e => by cases e; exact ⟨_, _, h.1⟩
  | b :: r, q :: ps, k + 1, a, h, e => PA.at_ (xs := r) (ps := ps) (k := k) h.2 e
  | [], [], k, a, h, e => by cases k <;> cases e
def pairD (q : Nat × Nat) : PyData := .tuple [.int (q.1 : Nat), .int (q.2 : Nat)]
theorem PA.dp {K : PySem.W.Frag} {H : Hp} : ∀ {xs : List Addr} {ps : List (Nat × Nat)}, PA H xs ps → DpAll K H (xs.map V.ref) (ps.map pairD)
  | [], [], _ => .nil
  | a :: r, q :: ps, h => .cons (.tup (SqT.of h.1) (.cons (.int _) (.cons (.int _) .nil))) (PA.dp h.2)
theorem pairs_can (ps : List (Nat × Nat)) : PyData.canLayAll0 (ps.map pairD) = true := by
  induction ps with
  | nil => rfl
  | cons q r ih => show (true && PyData.canLayAll0 (r.map pairD)) = true; rw [ih]; rfl
theorem pairs_depth (ps : List (Nat × Nat)) : PyData.depthAll (ps.map pairD) ≤ 1 := by
  induction ps with
  | nil => exact Nat.zero_le _
  | cons q r ih =>
    show max (PyData.depth (pairD q)) (PyData.depthAll (r.map pairD)) ≤ 1
    have : PyData.depth (pairD q) = 1 := rfl
    omega
theorem pairs_shaped (ps : List (Nat × Nat)) : SeqAt.shaped (.list (ps.map pairD)) = true := by
  show (PyData.canLayAll0 (ps.map pairD) && decide (PyData.depthAll (ps.map pairD) + 1 ≤ 64)) = true
  rw [pairs_can, Bool.true_and]
  have := pairs_depth ps
  exact decide_eq_true (by omega)
theorem pairs_eqv (ps : List (Nat × Nat)) : PyData.eqv (.list (ps.map pairD)) (.list (ps.map pairD)) = true := by
  have h : ∀ ps : List (Nat × Nat), PyData.eqvAll (ps.map pairD) (ps.map pairD) = true := by
    intro ps
    induction ps with
    | nil => rfl
    | cons q r ih =>
      show (PyData.eqv (pairD q) (pairD q) && PyData.eqvAll (r.map pairD) (r.map pairD)) = true
      rw [ih, Bool.and_true]
      show ((((q.1 : Nat) : Int) == ((q.1 : Nat) : Int)) && ((((q.2 : Nat) : Int) == ((q.2 : Nat) : Int)) && true)) = true
      rw [beq_self_eq_true, beq_self_eq_true]; rfl
  exact h ps
/-- the place of a thing among others -/
def idxV (x : V) : List V → Nat
  | [] => 0
  | y :: r => if y = x then 0 else idxV x r + 1
theorem idxV_lt {x : V} : ∀ {l : List V}, x ∈ l → idxV x l < l.length
  | y :: r, h => by
    unfold idxV
    by_cases e : y = x
    · rw [if_pos e]; exact Nat.succ_pos _
    · rw [if_neg e]
      rcases List.mem_cons.mp h with h | h
      · exact absurd h.symm e
      · exact Nat.succ_lt_succ (idxV_lt h)
theorem idxV_at {x : V} : ∀ {l : List V}, x ∈ l → l[idxV x l]? = some x
  | y :: r, h => by
    unfold idxV
    by_cases e : y = x
    · rw [if_pos e, e]; rfl
    · rw [if_neg e]
      rcases List.mem_cons.mp h with h | h
      · exact absurd h.symm e
      · exact idxV_at h
theorem idxV_no {x : V} : ∀ {l : List V} {m : Nat}, m < idxV x l → l[m]? ≠ some x
  | [], m, h => by cases h
  | y :: r, m, h => by
    unfold idxV at h
    by_cases e : y = x
    · rw [if_pos e] at h; cases h
    · rw [if_neg e] at h
      cases m with
      | zero => intro z; exact e (Option.some.inj z)
      | succ m => exact idxV_no (l := r) (m := m) (by omega)
theorem idxV_first {x : V} : ∀ {l : List V} {m : Nat}, l[m]? = some x → (∀ k, k < m → l[k]? ≠ some x) → idxV x l = m
  | [], m, h, _ => by cases m <;> cases h
  | y :: r, 0, h, _ => by cases h; unfold idxV; rw [if_pos rfl]
  | y :: r, m + 1, h, no => by
    have e : y ≠ x := fun e => no 0 (Nat.succ_pos _) (by rw [e]; rfl)
    unfold idxV
    rw [if_neg e, idxV_first (l := r) (m := m) h fun k hk => no (k + 1) (Nat.succ_lt_succ hk)]
theorem ixN_k {n j : Nat} (h : j < n) : ixN n (j : Int) = some j := by
  unfold ixN
  rw [if_pos (by omega), if_pos (by omega)]
  rfl
/-- a table's keys and worths -/
structure TabAt (D : Addr) (H : Hp) (a h w : Addr) (ks : List V) (ws : List Int) : Prop where
  ins : ∃ dx, H a = some (.ins D dx [("_held", .ref h), ("_worths", .ref w)])
  held : H h = some (.lst ks)
  worths : H w = some (.lst (ws.map V.int))
  ne : h ≠ w
  len : ws.length = ks.length
theorem TabAt.same {D a h w : Addr} {H H' : Hp} {ks : List V} {ws : List Int} (s : Same H H') (t : TabAt D H a h w ks ws) : TabAt D H' a h w ks ws := by
  obtain ⟨⟨dx, h1⟩, h2, h3, h4, h5⟩ := t
  exact ⟨⟨dx, s _ _ h1⟩, s _ _ h2, s _ _ h3, h4, h5⟩
theorem TabAt.but {D a h w b : Addr} {H H' : Hp} {ks : List V} {ws : List Int} {xs : List V} (s : Z.But b H H') (hb : H b = some (.lst xs)) (n1 : h ≠ b) (n2 : w ≠ b) (t : TabAt D H a h w ks ws) : TabAt D H' a h w ks ws := by
  obtain ⟨⟨dx, h1⟩, h2, h3, h4, h5⟩ := t
  exact ⟨⟨dx, s _ _ (ne_of h1 hb (by intro z; cases z)) h1⟩, s _ _ n1 h2, s _ _ n2 h3, h4, h5⟩
/-- what is a key -/
def KeyAt (C : Addr) (H : Hp) (x : V) : Prop := ∃ t, Rep C H x t ∧ t ≠ .non
theorem KeyAt.same {C : Addr} {H H' : Hp} {x : V} (s : Same H H') (h : KeyAt C H x) : KeyAt C H' x := by
  obtain ⟨t, h1, h2⟩ := h
  exact ⟨t, h1.same s, h2⟩
theorem KeyAt.but {C b : Addr} {H H' : Hp} {x : V} {xs : List V} (s : Z.But b H H') (hb : H b = some (.lst xs)) (h : KeyAt C H x) : KeyAt C H' x := by
  obtain ⟨t, h1, h2⟩ := h
  exact ⟨t, h1.but s hb, h2⟩
theorem two1 {f g : Str} {v u : V} : ([(f, v), (g, u)] : List (Str × V)).lookup f = some v := by simp [List.lookup]
theorem two2 {f g : Str} {v u : V} (h : (g == f) = false) : ([(f, v), (g, u)] : List (Str × V)).lookup g = some u := by simp [List.lookup, h]
theorem two0 {m f g : Str} {v u : V} (h1 : (m == f) = false) (h2 : (m == g) = false) : ([(f, v), (g, u)] : List (Str × V)).lookup m = none := by simp [List.lookup, h1, h2]
section
variable {P : Program} {w : World} {K : PySem.W.Frag} {mg : Str → Option Value} {base : Heap}
theorem sc_law_draw : FnScope ["_law_bag_here", "_law_many", "_law_first", "_law_second", "_law_digit"] ["_law_bag_here", "_law_many"] (defScope s_law_draw) := ⟨rfl, rfl, rfl, by decide +kernel, rfl, by decide +kernel, by decide +kernel⟩
def sp_law_draw : Sp := fun vs H Q _ => ∃ (b : Addr) (m : Int) (n : Nat), vs = [.ref b, .int m] ∧ Bag H b n ∧ 0 < m ∧ m < 1073741824 ∧ n < 1073741824 ∧
  ∀ r H', 0 ≤ r → r < m → Z.But b H H' → Bag H' b (n + 1) → Q (.int r) H'
theorem ok_law_draw (T : Top K mg) : FnOk P w K mg base CX0 1 T.f_law_draw T.fd_law_draw ["_law_bag_here", "_law_many"] sp_law_draw := by
  refine T.F_law_draw.ok sc_law_draw (fun vs H Q E h => ?_) (fun cdv A outer s H vs Q E hr h => ?_)
  · obtain ⟨b, m, n, rfl, _⟩ := h
    rfl
  · obtain ⟨b, m, n, rfl, ⟨g, sd, k, hb, hg, hs0, hs1, hk0, hk1⟩, hm0, hm1, hn, q⟩ := h
    refine ⟨_, pss_cons (ps_if (pt_cmpR op_gt (pe_ix (Z.ix_seqG (K := K) rfl) (pv 0) (pe_int) (fun _ _ => rfl)) (pe_int) (nomark _)) (pss_cons (ps_set (i := 4) sc_law_draw.nd rfl (.inl rfl) (pe_op op_mod (pe_callTy Z.c_int1 (by rfl) T.z_int (by decide +kernel) (pa_cons (pe_ix (Z.ix_seqG (K := K) rfl) (pv 0) (pe_int) (fun _ _ => rfl)) (pa_nil))) (pv 1))) (pss_cons (ps_asg (pe_op op_fdiv (pe_ix (Z.ix_seqG (K := K) rfl) (pv 0) (pe_int) (fun _ _ => rfl)) (pv 1)) (pg_sub (pv 0) (pe_int) set_list)) (pss_one (ps_ret (pv 4))))) (pss_nil)) (pss_cons (ps_asg (pe_op op_add (pe_ix (Z.ix_seqG (K := K) rfl) (pv 0) (pe_int) (fun _ _ => rfl)) (pe_int)) (pg_sub (pv 0) (pe_int) set_list)) (pss_cons (ps_set (i := 2) sc_law_draw.nd rfl (.inl rfl) (pe_op op_mod (pe_callTy Z.c_int1 (by rfl) T.z_int (by decide +kernel) (pa_cons (pe_op op_add (pe_op op_pow (pe_op op_add (pe_ix (Z.ix_seqG (K := K) rfl) (pv 0) (pe_int) (fun _ _ => rfl)) (pe_op op_mul (pe_int) (pe_ix (Z.ix_seqG (K := K) rfl) (pv 0) (pe_int) (fun _ _ => rfl)))) (pe_int)) (pe_op op_mul (pe_ix (Z.ix_seqG (K := K) rfl) (pv 0) (pe_int) (fun _ _ => rfl)) (pe_int))) (pa_nil))) (pe_int))) (pss_cons (ps_set (i := 3) sc_law_draw.nd rfl (.inl rfl) (pe_op op_mod (pe_callTy Z.c_int1 (by rfl) T.z_int (by decide +kernel) (pa_cons (pe_op op_add (pe_op op_mul (pv 2) (pv 2)) (pe_op op_mul (pe_int) (pe_ix (Z.ix_seqG (K := K) rfl) (pv 0) (pe_int) (fun _ _ => rfl)))) (pa_nil))) (pe_int))) (pss_one (ps_ret (pe_op op_mod (pe_callTy Z.c_int1 (by rfl) T.z_int (by decide +kernel) (pa_cons (pe_op op_fdiv (pv 3) (pe_int)) (pa_nil))) (pv 1))))))), ?_⟩
    refine Z.r_start (σ' := [some (.ref b), some (.int m), none, none, none]) rfl ?_
    walk_at "go"
    refine Z.ways (fun c => ?_) (fun c => ?_)
    · walk_at "go"
      intro H1 b1 h1
      walk_at "go"
      refine q _ _ ?_ ?_ b1 ⟨_, _, _, h1, ?_, hs0, hs1, hk0, ?_⟩
      · exact Int.emod_nonneg _ (by omega)
      · exact Int.emod_lt_of_pos _ hm0
      · exact Int.ediv_nonneg hg (by omega)
      · omega
    · walk_at "go"
      intro H1 b1 h1
      walk_at "go"
      refine q _ _ (Int.emod_nonneg _ (by omega)) (Int.emod_lt_of_pos _ hm0) b1 ⟨_, _, _, h1, hg, hs0, hs1, by omega, by omega⟩
theorem sc_law_bag : FnScope ["_law_script", "_law_at", "_law_cell", "_law_great"] ["_law_script", "_law_at"] (defScope s_law_bag) := ⟨rfl, rfl, rfl, by decide +kernel, rfl, by decide +kernel, by decide +kernel⟩
def sp_law_bag (K : PySem.W.Frag) : Sp := fun vs H Q _ => ∃ (a : Addr) (ns : List Int) (at_ : Nat), vs = [.ref a, .int at_] ∧ SqL K H a (ns.map V.int) ∧ at_ ≤ 100 ∧
  ∀ p H', Same H H' → H p = none → Bag H' p 0 → Q (.ref p) H'
theorem ok_law_bag (T : Top K mg) : FnOk P w K mg base CX0 1 T.f_law_bag T.fd_law_bag ["_law_script", "_law_at"] (sp_law_bag K) := by
  refine T.F_law_bag.ok sc_law_bag (fun vs H Q E h => ?_) (fun cdv A outer s H vs Q E hr h => ?_)
  · obtain ⟨a, ns, at_, rfl, _⟩ := h
    rfl
  · obtain ⟨a, ns, at_, rfl, hS, hat, q⟩ := h
    refine ⟨_, pss_cons (ps_set (i := 2) sc_law_bag.nd rfl (.inl rfl) (pe_ifExp (pt_cmpR op_lt (pv 1) (pe_callB Z.c_len (by rfl) T.z_len (by decide +kernel) (pa_cons (pv 0) (pa_nil))) (nomark _)) (pe_ix (Z.ix_seqG (K := K) rfl) (pv 0) (pv 1) (fun _ _ => rfl)) (pe_int))) (pss_cons (ps_set (i := 3) sc_law_bag.nd rfl (.inl rfl) (pe_ifExp (pt_cmpR op_ge (pe_callB Z.c_abs (by rfl) T.z_abs (by decide +kernel) (pa_cons (pv 2) (pa_nil))) (pe_op op_pow (pe_int) (pe_int)) (nomark _)) (pe_callB Z.c_abs (by rfl) T.z_abs (by decide +kernel) (pa_cons (pv 2) (pa_nil))) (pe_int))) (pss_one (ps_ret (pe_lst (pa_cons (pv 3) (pa_cons (pe_op op_add (pe_op op_add (pe_op op_mul (pe_op op_mod (pe_callTy Z.c_int1 (by rfl) T.z_int (by decide +kernel) (pa_cons (pv 2) (pa_nil))) (pe_int)) (pe_int)) (pe_op op_mul (pe_int) (pv 1))) (pe_int)) (pa_cons (pe_int) (pa_nil)))))))), ?_⟩
    refine Z.r_start (σ' := [some (.ref a), some (.int at_), none, none]) rfl ?_
    walk_at "go"
    refine Z.join (fun v H' => (∃ c : Int, v = .int c) ∧ H' = H) (fun c M k => ?_) (fun c M k => ?_) (fun v H' hv => ?_)
    · obtain ⟨z, hz⟩ := Z.get_int (ns := ns) (i := at_) (by rw [List.length_map] at c; omega)
      refine' Z.r_op ?_
      walk_at "go"
      exact k _ _ ⟨⟨z, rfl⟩, rfl⟩
    · exact k _ _ ⟨⟨0, rfl⟩, rfl⟩
    · obtain ⟨⟨z, rfl⟩, rfl⟩ := hv
      walk_at "go"
      refine Z.join (fun v H'' => (∃ c : Int, v = .int c ∧ 0 ≤ c) ∧ H'' = H') (fun c M k => ?_) (fun c M k => ?_) (fun v H'' hv => ?_)
      · walk_at "go"
        refine k _ _ ⟨⟨_, rfl, ?_⟩, rfl⟩
        split <;> omega
      · exact k _ _ ⟨⟨0, rfl, Int.le_refl 0⟩, rfl⟩
      · obtain ⟨⟨y, rfl, hy⟩, rfl⟩ := hv
        walk_at "go"
        intro p H1 np s1 hp
        exact q _ _ s1 np ⟨_, _, _, hp, hy, by omega, by omega, Int.le_refl 0, Int.le_refl _⟩
theorem k_law_bag {K : PySem.W.Frag} {a : Addr} {ns : List Int} {at_ : Nat} {H : Hp} {Q : VK} {E : XK} (hS : SqL K H a (ns.map V.int)) (h : at_ ≤ 100) (q : ∀ p H', Same H H' → H p = none → Bag H' p 0 → Q (.ref p) H') :
    sp_law_bag K ([.ref a, .int at_] ++ []) H Q E := ⟨a, ns, at_, rfl, hS, h, q⟩
theorem sc_law_number : FnScope ["_law_bag_here", "_law_road", "_law_number_here", "_law_turn"] ["_law_bag_here"] (defScope s_law_number) := ⟨rfl, rfl, rfl, by decide +kernel, rfl, by decide +kernel, by decide +kernel⟩
def sp_law_number : Sp := fun vs H Q _ => ∃ (b : Addr) (n : Nat), vs = [.ref b] ∧ Bag H b n ∧ n < 1073741000 ∧ ∀ (i : Int) (H' : Hp), i.natAbs < 10 ^ 246 → Z.But b H H' → Bag H' b (n + 60) → Q (.int i) H'
theorem ok_law_number (T : Top K mg) : FnOk P w K mg base CX0 2 T.f_law_number T.fd_law_number ["_law_bag_here"] sp_law_number := by
  refine T.F_law_number.ok sc_law_number (fun vs H Q E h => ?_) (fun cdv A outer s H vs Q E hr h => ?_)
  · obtain ⟨b, n, rfl, _⟩ := h
    rfl
  · obtain ⟨b, n, rfl, hb, hn, q⟩ := h
    refine ⟨_, pss_cons (ps_set (i := 1) sc_law_number.nd rfl (.inl rfl) (pe_call (ok_law_draw T) (hr.mono (by decide)) (by rfl) T.mg_law_draw T.F_law_draw.kp T.B_law_draw .nil pass0 (pa_cons (pv 0) (pa_cons (pe_int) (pa_nil))))) (pss_cons (ps_if (pt_cmpR op_eq (pv 1) (pe_int) (nomark _)) (pss_one (ps_ret (pe_int))) (pss_nil)) (pss_cons (ps_if (pt_cmpR op_lt (pv 1) (pe_int) (nomark _)) (pss_one (ps_ret (pe_op op_sub (pe_call (ok_law_draw T) (hr.mono (by decide)) (by rfl) T.mg_law_draw T.F_law_draw.kp T.B_law_draw .nil pass0 (pa_cons (pv 0) (pa_cons (pe_int) (pa_nil)))) (pe_int)))) (pss_nil)) (pss_cons (ps_if (pt_cmpR op_eq (pv 1) (pe_int) (nomark _)) (pss_one (ps_ret (pe_op op_sub (pe_call (ok_law_draw T) (hr.mono (by decide)) (by rfl) T.mg_law_draw T.F_law_draw.kp T.B_law_draw .nil pass0 (pa_cons (pv 0) (pa_cons (pe_int) (pa_nil)))) (pe_int)))) (pss_nil)) (pss_cons (ps_set (i := 2) sc_law_number.nd rfl (.inl rfl) (pe_op op_add (pe_int) (pe_call (ok_law_draw T) (hr.mono (by decide)) (by rfl) T.mg_law_draw T.F_law_draw.kp T.B_law_draw .nil pass0 (pa_cons (pv 0) (pa_cons (pe_int) (pa_nil)))))) (pss_cons (ps_for PassesOwn.never rfl (pi_range1 (by rfl) T.z_range (pa_cons (pe_call (ok_law_draw T) (hr.mono (by decide)) (by rfl) T.mg_law_draw T.F_law_draw.kp T.B_law_draw .nil pass0 (pa_cons (pv 0) (pa_cons (pe_int) (pa_nil)))) (pa_nil))) (pg_name (i := 3) sc_law_number.nd rfl (.inl rfl)) (pss_one (ps_set (i := 2) sc_law_number.nd rfl (.inl rfl) (pe_op op_add (pe_op op_mul (pv 2) (pe_int)) (pe_call (ok_law_draw T) (hr.mono (by decide)) (by rfl) T.mg_law_draw T.F_law_draw.kp T.B_law_draw .nil pass0 (pa_cons (pv 0) (pa_cons (pe_int) (pa_nil)))))))) (pss_one (ps_ret (pe_ifExp (pt_cmpR op_eq (pe_call (ok_law_draw T) (hr.mono (by decide)) (by rfl) T.mg_law_draw T.F_law_draw.kp T.B_law_draw .nil pass0 (pa_cons (pv 0) (pa_cons (pe_int) (pa_nil)))) (pe_int) (nomark _)) (pv 2) (pe_op op_sub (pe_int) (pv 2)))))))))), ?_⟩
    refine Z.r_start (σ' := [some (.ref b), none, none, none]) rfl ?_
    walk_at "go"
    walk_at "draw"
    intro r H1 r0 r1 t1 g1
    walk_at "go"
    refine Z.ways (fun c => ?_) (fun c => ?_)
    · walk_at "go"
      exact q 0 H1 (by decide) t1 (g1.mono (by omega))
    walk_at "go"
    refine Z.ways (fun c2 => ?_) (fun c2 => ?_)
    · walk_at "go"
      walk_at "draw"
      intro r2 H2 r20 r21 t2 g2
      walk_at "go"
      exact q _ _ (Nat.lt_of_lt_of_le (show (r2 - 4).natAbs < 10000 by omega) (by decide)) (t1.trans t2) (g2.mono (by omega))
    walk_at "go"
    refine Z.ways (fun c3 => ?_) (fun c3 => ?_)
    · walk_at "go"
      walk_at "draw"
      intro r2 H2 r20 r21 t2 g2
      walk_at "go"
      exact q _ _ (Nat.lt_of_lt_of_le (show (r2 - 2000).natAbs < 10000 by omega) (by decide)) (t1.trans t2) (g2.mono (by omega))
    walk_at "go"
    walk_at "draw"
    intro x H2 x0 x1 t2 g2
    walk_at "go"
    walk_at "draw"
    intro j H3 j0 j1 t3 g3
    walk_at "go"
    refine Z.r_rng j0 (by omega) (fun i σ' H' => ∃ (x : Int) (v : Option V), σ' = [some (.ref b), some (.int r), some (.int x), v] ∧ 0 < x ∧ x < 2 * 10 ^ (6 * (i + 1)) ∧ Z.But b H H' ∧ Bag H' b (n + 3 + i)) ?_ ?_ ?_
    · exact ⟨_, _, rfl, by omega, by omega, (t1.trans t2).trans t3, g3⟩
    · rintro i σ' H' hi ⟨x, v, rfl, hx0, hx1, t, gb⟩
      walk_at "go"
      walk_at "draw"
      intro d H4 d0 d1 t4 g4
      walk_at "go"
      refine ⟨_, _, rfl, by omega, ?_, t.trans t4, g4⟩
      have e : (10 : Int) ^ (6 * (i + 1 + 1)) = 10 ^ (6 * (i + 1)) * 1000000 := by
        rw [show 6 * (i + 1 + 1) = 6 * (i + 1) + 6 by omega, Int.pow_add]
        rfl
      rw [e]
      omega
    · rintro σ' H' ⟨x, v, rfl, hx0, hx1, t, gb⟩
      have hb2 : x < 10 ^ 246 := by
        have h2 : (10 : Int) ^ (6 * (j.toNat + 1)) ≤ 10 ^ 240 := by
          exact Z.pow10_le (by omega)
        have e : (10 : Int) ^ 246 = 10 ^ 240 * 1000000 := by decide
        omega
      have hb3 : x.natAbs < 10 ^ 246 := by
        have : ((x.natAbs : Nat) : Int) < ((10 ^ 246 : Nat) : Int) := by
          rw [Int.natAbs_of_nonneg (by omega)]
          exact hb2
        omega
      walk_at "go"
      walk_at "draw"
      intro d H4 d0 d1 t4 g4
      walk_at "go"
      refine Z.ways (fun c => ?_) (fun c => ?_)
      · walk_at "go"
        exact q _ _ hb3 (t.trans t4) (g4.mono (by omega))
      · walk_at "go"
        refine q _ _ ?_ (t.trans t4) (g4.mono (by omega))
        rw [Int.zero_sub, Int.natAbs_neg]
        exact hb3
theorem k_law_number {b : Addr} {n : Nat} {H : Hp} {Q : VK} {E : XK} (bg : Bag H b n) (hn : n < 1073741000) (q : ∀ (i : Int) (H' : Hp), i.natAbs < 10 ^ 246 → Z.But b H H' → Bag H' b (n + 60) → Q (.int i) H') :
    sp_law_number ([.ref b] ++ []) H Q E := ⟨b, n, rfl, bg, hn, q⟩
theorem sc_is_number : FnScope ["thing"] ["thing"] (defScope s_is_number) := ⟨rfl, rfl, rfl, by decide +kernel, rfl, by decide +kernel, by decide +kernel⟩
def sp_is_number (K : PySem.W.Frag) : Sp := fun vs H Q _ => ∃ (x : V) (t : Value) (bi bb : Bool), vs = [x] ∧ TyX K H x t ∧ PySem.W.kitOne K t (.type "int") = some bi ∧ PySem.W.kitOne K t (.type "bool") = some bb ∧ Q (.bl (bi && !bb)) H
theorem ok_is_number (T : Top K mg) : FnOk P w K mg base CX0 1 T.f_is_number T.fd_is_number ["thing"] (sp_is_number K) := by
  refine T.F_is_number.ok sc_is_number (fun vs H Q E h => ?_) (fun cdv A outer s H vs Q E hr h => ?_)
  · obtain ⟨x, t, bi, bb, rfl, _⟩ := h
    rfl
  · obtain ⟨x, t, bi, bb, rfl, ty, ki, kb, q⟩ := h
    refine ⟨_, pss_one (ps_ret (pe_and (pe_callB (Z.c_isi (K := K) rfl) (by rfl) T.z_isinstance (by decide +kernel) (pa_cons (pv 0) (pa_cons (pe_bltn (v := .ty "int") (by rfl) T.z_int (by decide +kernel) rfl) (pa_nil)))) (pe_one (pe_not (pe_callB (Z.c_isi (K := K) rfl) (by rfl) T.z_isinstance (by decide +kernel) (pa_cons (pv 0) (pa_cons (pe_bltn (v := .ty "bool") (by rfl) T.z_bool (by decide +kernel) rfl) (pa_nil)))))))), ?_⟩
    refine Z.r_start (σ' := [some (x)]) rfl ?_
    walk_at "go"
    cases bi with
    | true => walk_at "go"; exact q
    | false => walk_at "go"; exact q
theorem k_is_number {x : V} {t : Value} {bi bb : Bool} {H : Hp} {Q : VK} {E : XK} (ty : TyX K H x t) (ki : PySem.W.kitOne K t (.type "int") = some bi) (kb : PySem.W.kitOne K t (.type "bool") = some bb) (q : Q (.bl (bi && !bb)) H) :
    sp_is_number K ([x] ++ []) H Q E := ⟨x, t, bi, bb, rfl, ty, ki, kb, q⟩
local macro_rules | `(tactic| walk_at "call") => `(tactic| ((with_reducible refine' k_is_number ?ty ?ki ?kb ?_); (case ty => walk_at "ty"); (case ki => walk_at "ki"); (case kb => walk_at "ki")))
theorem sc_Unnumbered___init : FnScope ["self", "name"] ["self", "name"] (defScope s_Unnumbered___init) := ⟨rfl, rfl, rfl, by decide +kernel, rfl, by decide +kernel, by decide +kernel⟩
def sp_Un (C : Addr) : Sp := fun vs H Q _ => ∃ (p dx : Addr) (n : Str), vs = [.ref p, .str n] ∧ H p = some (.ins C dx []) ∧ ∀ H', Z.But p H H' → H' p = some (.ins C dx [("name", .str n)]) → Q .non H'
theorem ok_Unnumbered___init (T : Top K mg) : FnOk P w K mg base CX0 1 T.f_Unnumbered___init T.fd_Unnumbered___init ["self", "name"] (sp_Un T.C_Unnumbered) := by
  refine T.F_Unnumbered___init.ok sc_Unnumbered___init (fun vs H Q E h => ?_) (fun cdv A outer s H vs Q E hr h => ?_)
  · obtain ⟨p, dx, n, rfl, _⟩ := h
    rfl
  · obtain ⟨p, dx, n, rfl, hp, q⟩ := h
    refine ⟨_, pss_one (ps_fld (pv 0) (pv 1) rfl), ?_⟩
    refine Z.r_start (σ' := [some (.ref p), some (.str n)]) rfl ?_
    walk_at "go"
    intro H1 b1 h1
    exact q H1 b1 h1
theorem r_mkUn {C : Addr} {n : Str} {H : Hp} {Q : VK} {E : XK} (h : ∀ x dx H1, H x = none → Same H H1 → H1 x = some (.ins C dx [("name", .str n)]) → Q (.ref x) H1) : Z.mkI C (sp_Un C) [] [.str n] H Q E := by
  intro x dx nx nd ne
  refine ⟨x, dx, n, rfl, upd_same, fun H1 b1 h1 => ⟨rfl, h x dx H1 nx (fun b o e => ?_) h1⟩⟩
  exact b1 _ _ (ne_of_none e nx) (by rw [upd_ne (ne_of_none e nx), upd_ne (ne_of_none e nd)]; exact e)
local macro_rules | `(tactic| walk_at "call") => `(tactic| with_reducible refine r_mkUn ?_)
theorem sc_is_entry : FnScope ["thing"] ["thing"] (defScope s_is_entry) := ⟨rfl, rfl, rfl, by decide +kernel, rfl, by decide +kernel, by decide +kernel⟩
def sp_is_entry (K : PySem.W.Frag) (C : Addr) : Sp := fun vs H Q _ => ∃ (x : V) (t : Value) (bi bb bu : Bool), vs = [x] ∧ TyX K H x t ∧ PySem.W.kitOne K t (.type "int") = some bi ∧ PySem.W.kitOne K t (.type "bool") = some bb ∧ PySem.W.kitOne K t (.ref C) = some bu ∧ Q (.bl ((bi && !bb) || bu)) H
theorem ok_is_entry (T : Top K mg) : FnOk P w K mg base CX0 2 T.f_is_entry T.fd_is_entry ["thing"] (sp_is_entry K T.C_Unnumbered) := by
  refine T.F_is_entry.ok sc_is_entry (fun vs H Q E h => ?_) (fun cdv A outer s H vs Q E hr h => ?_)
  · obtain ⟨x, t, bi, bb, bu, rfl, _⟩ := h
    rfl
  · obtain ⟨x, t, bi, bb, bu, rfl, ty, ki, kb, ku, q⟩ := h
    refine ⟨_, pss_one (ps_ret (pe_or (pe_call (ok_is_number T) (hr.mono (by decide)) (by rfl) T.mg_is_number T.F_is_number.kp T.B_is_number .nil pass0 (pa_cons (pv 0) (pa_nil))) (pe_one (pe_callB (Z.c_isi (K := K) rfl) (by rfl) T.z_isinstance (by decide +kernel) (pa_cons (pv 0) (pa_cons (pe_glob (v := .ref T.C_Unnumbered) (by exact rfl) T.mgC_Unnumbered rfl) (pa_nil))))))), ?_⟩
    refine Z.r_start (σ' := [some (x)]) rfl ?_
    walk_at "go"
    cases bi with
    | true =>
      cases bb with
      | true => walk_at "go"; exact q
      | false => walk_at "go"; exact q
    | false => walk_at "go"; exact q
theorem k_is_entry {K : PySem.W.Frag} {C : Addr} {x : V} {t : Value} {bi bb bu : Bool} {H : Hp} {Q : VK} {E : XK} (ty : TyX K H x t) (ki : PySem.W.kitOne K t (.type "int") = some bi) (kb : PySem.W.kitOne K t (.type "bool") = some bb) (ku : PySem.W.kitOne K t (.ref C) = some bu)
    (q : Q (.bl ((bi && !bb) || bu)) H) : sp_is_entry K C ([x] ++ []) H Q E := ⟨x, t, bi, bb, bu, rfl, ty, ki, kb, ku, q⟩
local macro_rules | `(tactic| walk_at "call") => `(tactic| ((with_reducible refine' k_is_entry ?ty ?ki ?kb ?ku ?_); (case ty => walk_at "ty"); (case ki => walk_at "ki"); (case kb => walk_at "ki"); (case ku => walk_at "ki")))
theorem sc_is_value : FnScope ["thing"] ["thing"] (defScope s_is_value) := ⟨rfl, rfl, rfl, by decide +kernel, rfl, by decide +kernel, by decide +kernel⟩
def sp_is_value (C : Addr) : Sp := fun vs H Q _ => ∃ (x : V) (s : Tag), vs = [x] ∧ Rep C H x s ∧ Q (.bl true) H
theorem ok_is_value (T : Top K mg) : FnOk P w K mg base CX0 3 T.f_is_value T.fd_is_value ["thing"] (sp_is_value T.C_Unnumbered) := by
  refine T.F_is_value.ok sc_is_value (fun vs H Q E h => ?_) (fun cdv A outer s H vs Q E hr h => ?_)
  · obtain ⟨x, s, rfl, _⟩ := h
    rfl
  · obtain ⟨x, s, rfl, hx, q⟩ := h
    refine ⟨_, pss_one (ps_ret (pe_or (pe_cmpR Z.o_isN (pv 0) (pe_non) (nomark _)) (pe_one (pe_call (ok_is_entry T) (hr.mono (by decide)) (by rfl) T.mg_is_entry T.F_is_entry.kp T.B_is_entry .nil pass0 (pa_cons (pv 0) (pa_nil)))))), ?_⟩
    refine Z.r_start (σ' := [some (x)]) rfl ?_
    cases s with
    | non => cases hx; walk_at "go"; exact q
    | num i => cases hx; walk_at "go"; exact q
    | mark n => obtain ⟨a, dx, rfl, ha⟩ := hx; walk_at "go"; exact q
theorem k_is_value {C : Addr} {x : V} {s : Tag} {H : Hp} {Q : VK} {E : XK} (hx : Rep C H x s) (q : Q (.bl true) H) : sp_is_value C ([x] ++ []) H Q E := ⟨x, s, rfl, hx, q⟩
local macro_rules | `(tactic| walk_at "call") => `(tactic| ((with_reducible refine' k_is_value ?hx ?_); (case hx => walk_at "rep")))
theorem sc_Unnumbered___eq : FnScope ["self", "other"] ["self", "other"] (defScope s_Unnumbered___eq) := ⟨rfl, rfl, rfl, by decide +kernel, rfl, by decide +kernel, by decide +kernel⟩
def sp_Un_eq (K : PySem.W.Frag) (C : Addr) : Sp := fun vs H Q _ => ∃ (a dx : Addr) (n : Str) (y : V) (s : Tag), vs = [.ref a, y] ∧ H a = some (.ins C dx [("name", .str n)]) ∧ Rep C H y s ∧ Q (.bl false) H
theorem ok_Unnumbered___eq (T : Top K mg) : FnOk P w K mg base CX0 1 T.f_Unnumbered___eq T.fd_Unnumbered___eq ["self", "other"] (sp_Un_eq K T.C_Unnumbered) := by
  refine T.F_Unnumbered___eq.ok sc_Unnumbered___eq (fun vs H Q E h => ?_) (fun cdv A outer s H vs Q E hr h => ?_)
  · obtain ⟨a, dx, n, y, s, rfl, _⟩ := h
    rfl
  · obtain ⟨a, dx, n, y, s, rfl, ha, hy, q⟩ := h
    refine ⟨_, pss_one (ps_ret (pe_bl)), ?_⟩
    refine Z.r_start (σ' := [some (.ref a), some (y)]) rfl ?_
    cases s with
    | non => cases hy; walk_at "go"; exact q
    | num i => cases hy; walk_at "go"; exact q
    | mark m => obtain ⟨b, dy, rfl, hb⟩ := hy; walk_at "go"; exact q
theorem k_Un_eq {K : PySem.W.Frag} {C a dx : Addr} {n : Str} {y : V} {s : Tag} {H : Hp} {Q : VK} {E : XK} (ha : H a = some (.ins C dx [("name", .str n)])) (hy : Rep C H y s) (q : Q (.bl false) H) : sp_Un_eq K C ([.ref a, y] ++ []) H Q E := ⟨a, dx, n, y, s, rfl, ha, hy, q⟩
local macro_rules | `(tactic| walk_at "call") => `(tactic| ((with_reducible refine' k_Un_eq ?ha ?hy ?_); (case ha => walk_at "hp"); (case hy => walk_at "rep")))
theorem sc_Unnumbered___ne : FnScope ["self", "other"] ["self", "other"] (defScope s_Unnumbered___ne) := ⟨rfl, rfl, rfl, by decide +kernel, rfl, by decide +kernel, by decide +kernel⟩
def sp_Un_ne (K : PySem.W.Frag) (C : Addr) : Sp := fun vs H Q _ => ∃ (a dx : Addr) (n : Str) (y : V) (s : Tag), vs = [.ref a, y] ∧ H a = some (.ins C dx [("name", .str n)]) ∧ Rep C H y s ∧ Q (.bl true) H
theorem ok_Unnumbered___ne (T : Top K mg) : FnOk P w K mg base CX0 1 T.f_Unnumbered___ne T.fd_Unnumbered___ne ["self", "other"] (sp_Un_ne K T.C_Unnumbered) := by
  refine T.F_Unnumbered___ne.ok sc_Unnumbered___ne (fun vs H Q E h => ?_) (fun cdv A outer s H vs Q E hr h => ?_)
  · obtain ⟨a, dx, n, y, s, rfl, _⟩ := h
    rfl
  · obtain ⟨a, dx, n, y, s, rfl, ha, hy, q⟩ := h
    refine ⟨_, pss_one (ps_ret (pe_bl)), ?_⟩
    refine Z.r_start (σ' := [some (.ref a), some (y)]) rfl ?_
    cases s with
    | non => cases hy; walk_at "go"; exact q
    | num i => cases hy; walk_at "go"; exact q
    | mark m => obtain ⟨b, dy, rfl, hb⟩ := hy; walk_at "go"; exact q
theorem k_Un_ne {K : PySem.W.Frag} {C a dx : Addr} {n : Str} {y : V} {s : Tag} {H : Hp} {Q : VK} {E : XK} (ha : H a = some (.ins C dx [("name", .str n)])) (hy : Rep C H y s) (q : Q (.bl true) H) : sp_Un_ne K C ([.ref a, y] ++ []) H Q E := ⟨a, dx, n, y, s, rfl, ha, hy, q⟩
local macro_rules | `(tactic| walk_at "call") => `(tactic| ((with_reducible refine' k_Un_ne ?ha ?hy ?_); (case ha => walk_at "hp"); (case hy => walk_at "rep")))
theorem sc_Unnumbered___lt : FnScope ["self", "other"] ["self", "other"] (defScope s_Unnumbered___lt) := ⟨rfl, rfl, rfl, by decide +kernel, rfl, by decide +kernel, by decide +kernel⟩
def sp_Un_lt (K : PySem.W.Frag) (C : Addr) : Sp := fun vs H Q _ => ∃ (a dx : Addr) (n : Str) (y : V) (s : Tag), vs = [.ref a, y] ∧ H a = some (.ins C dx [("name", .str n)]) ∧ Rep C H y s ∧ Q (.bl false) H
theorem ok_Unnumbered___lt (T : Top K mg) : FnOk P w K mg base CX0 4 T.f_Unnumbered___lt T.fd_Unnumbered___lt ["self", "other"] (sp_Un_lt K T.C_Unnumbered) := by
  refine T.F_Unnumbered___lt.ok sc_Unnumbered___lt (fun vs H Q E h => ?_) (fun cdv A outer s H vs Q E hr h => ?_)
  · obtain ⟨a, dx, n, y, s, rfl, _⟩ := h
    rfl
  · obtain ⟨a, dx, n, y, s, rfl, ha, hy, q⟩ := h
    refine ⟨_, pss_cons (ps_if (pt_not (pt_val (pe_call (ok_is_value T) (hr.mono (by decide)) (by rfl) T.mg_is_value T.F_is_value.kp T.B_is_value .nil pass0 (pa_cons (pv 1) (pa_nil))))) (pss_one (ps_never)) (pss_nil)) (pss_one (ps_ret (pe_bl))), ?_⟩
    refine Z.r_start (σ' := [some (.ref a), some (y)]) rfl ?_
    cases s with
    | non => cases hy; walk_at "go"; exact q
    | num i => cases hy; walk_at "go"; exact q
    | mark m => obtain ⟨b, dy, rfl, hb⟩ := hy; walk_at "go"; exact q
theorem k_Un_lt {K : PySem.W.Frag} {C a dx : Addr} {n : Str} {y : V} {s : Tag} {H : Hp} {Q : VK} {E : XK} (ha : H a = some (.ins C dx [("name", .str n)])) (hy : Rep C H y s) (q : Q (.bl false) H) : sp_Un_lt K C ([.ref a, y] ++ []) H Q E := ⟨a, dx, n, y, s, rfl, ha, hy, q⟩
local macro_rules | `(tactic| walk_at "call") => `(tactic| ((with_reducible refine' k_Un_lt ?ha ?hy ?_); (case ha => walk_at "hp"); (case hy => walk_at "rep")))
theorem sc_Unnumbered___le : FnScope ["self", "other"] ["self", "other"] (defScope s_Unnumbered___le) := ⟨rfl, rfl, rfl, by decide +kernel, rfl, by decide +kernel, by decide +kernel⟩
def sp_Un_le (K : PySem.W.Frag) (C : Addr) : Sp := fun vs H Q _ => ∃ (a dx : Addr) (n : Str) (y : V) (s : Tag), vs = [.ref a, y] ∧ H a = some (.ins C dx [("name", .str n)]) ∧ Rep C H y s ∧ Q (.bl false) H
theorem ok_Unnumbered___le (T : Top K mg) : FnOk P w K mg base CX0 4 T.f_Unnumbered___le T.fd_Unnumbered___le ["self", "other"] (sp_Un_le K T.C_Unnumbered) := by
  refine T.F_Unnumbered___le.ok sc_Unnumbered___le (fun vs H Q E h => ?_) (fun cdv A outer s H vs Q E hr h => ?_)
  · obtain ⟨a, dx, n, y, s, rfl, _⟩ := h
    rfl
  · obtain ⟨a, dx, n, y, s, rfl, ha, hy, q⟩ := h
    refine ⟨_, pss_cons (ps_if (pt_not (pt_val (pe_call (ok_is_value T) (hr.mono (by decide)) (by rfl) T.mg_is_value T.F_is_value.kp T.B_is_value .nil pass0 (pa_cons (pv 1) (pa_nil))))) (pss_one (ps_never)) (pss_nil)) (pss_one (ps_ret (pe_bl))), ?_⟩
    refine Z.r_start (σ' := [some (.ref a), some (y)]) rfl ?_
    cases s with
    | non => cases hy; walk_at "go"; exact q
    | num i => cases hy; walk_at "go"; exact q
    | mark m => obtain ⟨b, dy, rfl, hb⟩ := hy; walk_at "go"; exact q
theorem k_Un_le {K : PySem.W.Frag} {C a dx : Addr} {n : Str} {y : V} {s : Tag} {H : Hp} {Q : VK} {E : XK} (ha : H a = some (.ins C dx [("name", .str n)])) (hy : Rep C H y s) (q : Q (.bl false) H) : sp_Un_le K C ([.ref a, y] ++ []) H Q E := ⟨a, dx, n, y, s, rfl, ha, hy, q⟩
local macro_rules | `(tactic| walk_at "call") => `(tactic| ((with_reducible refine' k_Un_le ?ha ?hy ?_); (case ha => walk_at "hp"); (case hy => walk_at "rep")))
theorem sc_Unnumbered___gt : FnScope ["self", "other"] ["self", "other"] (defScope s_Unnumbered___gt) := ⟨rfl, rfl, rfl, by decide +kernel, rfl, by decide +kernel, by decide +kernel⟩
def sp_Un_gt (K : PySem.W.Frag) (C : Addr) : Sp := fun vs H Q _ => ∃ (a dx : Addr) (n : Str) (y : V) (s : Tag), vs = [.ref a, y] ∧ H a = some (.ins C dx [("name", .str n)]) ∧ Rep C H y s ∧ Q (.bl false) H
theorem ok_Unnumbered___gt (T : Top K mg) : FnOk P w K mg base CX0 4 T.f_Unnumbered___gt T.fd_Unnumbered___gt ["self", "other"] (sp_Un_gt K T.C_Unnumbered) := by
  refine T.F_Unnumbered___gt.ok sc_Unnumbered___gt (fun vs H Q E h => ?_) (fun cdv A outer s H vs Q E hr h => ?_)
  · obtain ⟨a, dx, n, y, s, rfl, _⟩ := h
    rfl
  · obtain ⟨a, dx, n, y, s, rfl, ha, hy, q⟩ := h
    refine ⟨_, pss_cons (ps_if (pt_not (pt_val (pe_call (ok_is_value T) (hr.mono (by decide)) (by rfl) T.mg_is_value T.F_is_value.kp T.B_is_value .nil pass0 (pa_cons (pv 1) (pa_nil))))) (pss_one (ps_never)) (pss_nil)) (pss_one (ps_ret (pe_bl))), ?_⟩
    refine Z.r_start (σ' := [some (.ref a), some (y)]) rfl ?_
    cases s with
    | non => cases hy; walk_at "go"; exact q
    | num i => cases hy; walk_at "go"; exact q
    | mark m => obtain ⟨b, dy, rfl, hb⟩ := hy; walk_at "go"; exact q
theorem k_Un_gt {K : PySem.W.Frag} {C a dx : Addr} {n : Str} {y : V} {s : Tag} {H : Hp} {Q : VK} {E : XK} (ha : H a = some (.ins C dx [("name", .str n)])) (hy : Rep C H y s) (q : Q (.bl false) H) : sp_Un_gt K C ([.ref a, y] ++ []) H Q E := ⟨a, dx, n, y, s, rfl, ha, hy, q⟩
local macro_rules | `(tactic| walk_at "call") => `(tactic| ((with_reducible refine' k_Un_gt ?ha ?hy ?_); (case ha => walk_at "hp"); (case hy => walk_at "rep")))
theorem sc_Unnumbered___ge : FnScope ["self", "other"] ["self", "other"] (defScope s_Unnumbered___ge) := ⟨rfl, rfl, rfl, by decide +kernel, rfl, by decide +kernel, by decide +kernel⟩
def sp_Un_ge (K : PySem.W.Frag) (C : Addr) : Sp := fun vs H Q _ => ∃ (a dx : Addr) (n : Str) (y : V) (s : Tag), vs = [.ref a, y] ∧ H a = some (.ins C dx [("name", .str n)]) ∧ Rep C H y s ∧ Q (.bl false) H
theorem ok_Unnumbered___ge (T : Top K mg) : FnOk P w K mg base CX0 4 T.f_Unnumbered___ge T.fd_Unnumbered___ge ["self", "other"] (sp_Un_ge K T.C_Unnumbered) := by
  refine T.F_Unnumbered___ge.ok sc_Unnumbered___ge (fun vs H Q E h => ?_) (fun cdv A outer s H vs Q E hr h => ?_)
  · obtain ⟨a, dx, n, y, s, rfl, _⟩ := h
    rfl
  · obtain ⟨a, dx, n, y, s, rfl, ha, hy, q⟩ := h
    refine ⟨_, pss_cons (ps_if (pt_not (pt_val (pe_call (ok_is_value T) (hr.mono (by decide)) (by rfl) T.mg_is_value T.F_is_value.kp T.B_is_value .nil pass0 (pa_cons (pv 1) (pa_nil))))) (pss_one (ps_never)) (pss_nil)) (pss_one (ps_ret (pe_bl))), ?_⟩
    refine Z.r_start (σ' := [some (.ref a), some (y)]) rfl ?_
    cases s with
    | non => cases hy; walk_at "go"; exact q
    | num i => cases hy; walk_at "go"; exact q
    | mark m => obtain ⟨b, dy, rfl, hb⟩ := hy; walk_at "go"; exact q
theorem k_Un_ge {K : PySem.W.Frag} {C a dx : Addr} {n : Str} {y : V} {s : Tag} {H : Hp} {Q : VK} {E : XK} (ha : H a = some (.ins C dx [("name", .str n)])) (hy : Rep C H y s) (q : Q (.bl false) H) : sp_Un_ge K C ([.ref a, y] ++ []) H Q E := ⟨a, dx, n, y, s, rfl, ha, hy, q⟩
local macro_rules | `(tactic| walk_at "call") => `(tactic| ((with_reducible refine' k_Un_ge ?ha ?hy ?_); (case ha => walk_at "hp"); (case hy => walk_at "rep")))
theorem sc_Unnumbered___str : FnScope ["self"] ["self"] (defScope s_Unnumbered___str) := ⟨rfl, rfl, rfl, by decide +kernel, rfl, by decide +kernel, by decide +kernel⟩
def sp_Un_str (C : Addr) : Sp := fun vs H Q _ => ∃ (a dx : Addr) (n : Str), vs = [.ref a] ∧ H a = some (.ins C dx [("name", .str n)]) ∧ Word n ∧ Q (.str (("?" : Str) ++ n)) H
theorem ok_Unnumbered___str (T : Top K mg) : FnOk P w K mg base CX0 1 T.f_Unnumbered___str T.fd_Unnumbered___str ["self"] (sp_Un_str T.C_Unnumbered) := by
  refine T.F_Unnumbered___str.ok sc_Unnumbered___str (fun vs H Q E h => ?_) (fun cdv A outer s H vs Q E hr h => ?_)
  · obtain ⟨a, dx, n, rfl, _⟩ := h
    rfl
  · obtain ⟨a, dx, n, rfl, ha, hn, q⟩ := h
    have l8 : n.length ≤ 8 := hn.2.1
    have l1 : n.length ≤ sizeLine := Z.szle (by omega)
    have l2 : (("?" : Str) ++ n).length ≤ sizeLine := Z.szle (by rw [Str.length_append]; have : ("?" : Str).length = 1 := rfl; omega)
    refine ⟨_, pss_one (ps_ret (pe_joined (.cons (pe_str) (.cons (pe_fmt (pe_fld (pv 0) rfl)) (.nil))))), ?_⟩
    refine Z.r_start (σ' := [some (.ref a)]) rfl ?_
    walk_at "go"
    exact q
theorem k_Un_str {C a dx : Addr} {n : Str} {H : Hp} {Q : VK} {E : XK} (ha : H a = some (.ins C dx [("name", .str n)])) (hn : Word n) (q : Q (.str (("?" : Str) ++ n)) H) : sp_Un_str C ([.ref a] ++ []) H Q E := ⟨a, dx, n, rfl, ha, hn, q⟩
theorem sc_Unnumbered___repr : FnScope ["self"] ["self"] (defScope s_Unnumbered___repr) := ⟨rfl, rfl, rfl, by decide +kernel, rfl, by decide +kernel, by decide +kernel⟩
def sp_Un_repr (C : Addr) : Sp := fun vs H Q _ => ∃ (a dx : Addr) (n : Str), vs = [.ref a] ∧ H a = some (.ins C dx [("name", .str n)]) ∧ Word n ∧ Q (.str (("Unnumbered(" : Str) ++ (("'" : Str) ++ n ++ ("'" : Str)) ++ (")" : Str))) H
theorem ok_Unnumbered___repr (T : Top K mg) : FnOk P w K mg base CX0 1 T.f_Unnumbered___repr T.fd_Unnumbered___repr ["self"] (sp_Un_repr T.C_Unnumbered) := by
  refine T.F_Unnumbered___repr.ok sc_Unnumbered___repr (fun vs H Q E h => ?_) (fun cdv A outer s H vs Q E hr h => ?_)
  · obtain ⟨a, dx, n, rfl, _⟩ := h
    rfl
  · obtain ⟨a, dx, n, rfl, ha, hn, q⟩ := h
    have l8 : n.length ≤ 8 := hn.2.1
    refine ⟨_, pss_one (ps_ret (pe_joined (.cons (pe_str) (.cons (pe_fmtR (pe_fld (pv 0) rfl)) (.cons (pe_str) (.nil)))))), ?_⟩
    refine Z.r_start (σ' := [some (.ref a)]) rfl ?_
    have l3 : (("'" : Str) ++ n ++ ("'" : Str)).length ≤ 10 := by
      rw [Str.length_append, Str.length_append]
      have : ("'" : Str).length = 1 := rfl
      omega
    have l4 : (Str.empty ++ ("Unnumbered(" : Str) ++ (("'" : Str) ++ n ++ ("'" : Str))).length ≤ 30 := by
      rw [Str.length_append]
      have : (Str.empty ++ ("Unnumbered(" : Str)).length = 11 := rfl
      omega
    walk_at "go"
    refine Z.r_fmR (by rw [word_repr hn]; exact Z.szle (by omega)) ?_
    rw [word_repr hn]
    refine Z.r_jsP (Z.szle (by omega)) ?_
    walk_at "go"
    refine Z.r_jsP (Z.szle (by rw [Str.length_append]; have : (")" : Str).length = 1 := rfl; omega)) ?_
    walk_at "go"
    exact q
theorem k_Un_repr {C a dx : Addr} {n : Str} {H : Hp} {Q : VK} {E : XK} (ha : H a = some (.ins C dx [("name", .str n)])) (hn : Word n) (q : Q (.str (("Unnumbered(" : Str) ++ (("'" : Str) ++ n ++ ("'" : Str)) ++ (")" : Str))) H) : sp_Un_repr C ([.ref a] ++ []) H Q E := ⟨a, dx, n, rfl, ha, hn, q⟩
local macro_rules | `(tactic| walk_at "call") => `(tactic| first
  | ((with_reducible refine' k_Un_str ?ha ?hn ?_); (case ha => walk_at "hp"); (case hn => assumption))
  | ((with_reducible refine' k_Un_repr ?ha ?hn ?_); (case ha => walk_at "hp"); (case hn => assumption)))

theorem sc_NoKey___init : FnScope ["self", "key"] ["self", "key"] (defScope s_NoKey___init) := ⟨rfl, rfl, rfl, by decide +kernel, rfl, by decide +kernel, by decide +kernel⟩
theorem ok_NoKey___init (T : Top K mg) : FnOk P w K mg base CX0 1 T.f_NoKey___init T.fd_NoKey___init ["self", "key"] (sp_ex T.C_NoKey "key") := by
  refine T.F_NoKey___init.ok sc_NoKey___init (fun vs H Q E h => ?_) (fun cdv A outer s H vs Q E hr h => ?_)
  · obtain ⟨a, y, rfl, _⟩ := h
    rfl
  · obtain ⟨a, y, rfl, ha, q⟩ := h
    refine ⟨_, pss_one (Z.ps_xst (pv 0) (pv 1) rfl), ?_⟩
    refine Z.r_start (σ' := [some (.ref a), some (y)]) rfl ?_
    walk_at "go"
    refine Z.r_xstV T.ex_NoKey T.no_NoKey_key ha fun dx H1 n b h1 h2 => ?_
    walk_at "go"
    exact q dx H1 n b h1 h2

theorem sc_law_pick : FnScope ["_law_bag_here", "_law_some"] ["_law_bag_here", "_law_some"] (defScope s_law_pick) := ⟨rfl, rfl, rfl, by decide +kernel, rfl, by decide +kernel, by decide +kernel⟩
def sp_pick : Sp := fun vs H Q _ => ∃ (b l : Addr) (xs : List V) (n : Nat), vs = [.ref b, .ref l] ∧ Bag H b n ∧ n ≤ 1000000 ∧ H l = some (.lst xs) ∧ l ≠ b ∧ 1 ≤ xs.length ∧ xs.length ≤ 1000 ∧ ∀ x H', x ∈ xs → Z.But b H H' → Bag H' b (n + 1) → Q x H'
theorem ok_law_pick (T : Top K mg) : FnOk P w K mg base CX0 2 T.f_law_pick T.fd_law_pick ["_law_bag_here", "_law_some"] sp_pick := by
  refine T.F_law_pick.ok sc_law_pick (fun vs H Q E h => ?_) (fun cdv A outer s H vs Q E hr h => ?_)
  · obtain ⟨b, l, xs, n, rfl, _⟩ := h
    rfl
  · obtain ⟨b, l, xs, n, rfl, hb, hn, hl, nlb, l1, l2, q⟩ := h
    refine ⟨_, pss_one (ps_ret (pe_ix (Z.ix_seqG (K := K) rfl) (pv 1) (pe_call (ok_law_draw T) (hr.mono (by decide)) (by rfl) T.mg_law_draw T.F_law_draw.kp T.B_law_draw .nil pass0 (pa_cons (pv 0) (pa_cons (pe_callB Z.c_len (by rfl) T.z_len (by decide +kernel) (pa_cons (pv 1) (pa_nil))) (pa_nil)))) (fun _ _ => rfl))), ?_⟩
    refine Z.r_start (σ' := [some (.ref b), some (.ref l)]) rfl ?_
    walk_at "go"
    walk_at "draw"
    intro d H1 d0 d1 t1 g1
    obtain ⟨k, rfl⟩ := Int.eq_ofNat_of_zero_le d0
    have hk : k < xs.length := by omega
    refine Z.r_ixL (v := xs[k]) (SqL.of (t1 _ _ nlb hl)) (atI_nat (List.getElem?_eq_getElem hk)) ?_
    exact q _ _ (List.getElem_mem hk) t1 g1
theorem k_pick {b l : Addr} {xs : List V} {n : Nat} {H : Hp} {Q : VK} {E : XK} (hb : Bag H b n) (hn : n ≤ 1000000) (hl : H l = some (.lst xs)) (nlb : l ≠ b) (l1 : 1 ≤ xs.length) (l2 : xs.length ≤ 1000) (q : ∀ x H', x ∈ xs → Z.But b H H' → Bag H' b (n + 1) → Q x H') :
    sp_pick ([.ref b, .ref l] ++ []) H Q E := ⟨b, l, xs, n, rfl, hb, hn, hl, nlb, l1, l2, q⟩
theorem sc_law_keys : FnScope ["_law_bag_here", "_law_most", "_law_marks", "_law_many", "_law_found", "_law_turn", "_law_road"] ["_law_bag_here", "_law_most"] (defScope s_law_keys) := ⟨rfl, rfl, rfl, by decide +kernel, rfl, by decide +kernel, by decide +kernel⟩
def sp_keys (C : Addr) : Sp := fun vs H Q _ => ∃ (b : Addr) (most : Int) (n : Nat), vs = [.ref b, .int most] ∧ Bag H b n ∧ n ≤ 500000 ∧ 12 ≤ most ∧ most ≤ 80 ∧
  ∀ p es H', H p = none → Z.But b H H' → Bag H' b (n + 6000) → H' p = some (.lst (es.map (·.1))) → p ≠ b → (es.length : Int) ≤ most → EnsOk C H' es → TagsB es → Q (.ref p) H'
theorem ok_law_keys (T : Top K mg) : FnOk P w K mg base CX0 3 T.f_law_keys T.fd_law_keys ["_law_bag_here", "_law_most"] (sp_keys T.C_Unnumbered) := by
  refine T.F_law_keys.ok sc_law_keys (fun vs H Q E h => ?_) (fun cdv A outer s H vs Q E hr h => ?_)
  · obtain ⟨b, most, n, rfl, _⟩ := h
    rfl
  · obtain ⟨b, most, n, rfl, hb, hn, m0, m1, q⟩ := h
    refine ⟨_, pss_cons (ps_set (i := 2) sc_law_keys.nd rfl (.inl rfl) (pe_lst (pa_cons (pe_make T.mk_Unnumbered (ok_Unnumbered___init T) (hr.mono (by decide)) (by rfl) T.mgC_Unnumbered T.B_Unnumbered___init .nil pass0 (pa_cons (pe_str) (pa_nil))) (pa_cons (pe_make T.mk_Unnumbered (ok_Unnumbered___init T) (hr.mono (by decide)) (by rfl) T.mgC_Unnumbered T.B_Unnumbered___init .nil pass0 (pa_cons (pe_str) (pa_nil))) (pa_cons (pe_make T.mk_Unnumbered (ok_Unnumbered___init T) (hr.mono (by decide)) (by rfl) T.mgC_Unnumbered T.B_Unnumbered___init .nil pass0 (pa_cons (pe_str) (pa_nil))) (pa_nil)))))) (pss_cons (ps_set (i := 3) sc_law_keys.nd rfl (.inl rfl) (pe_ifExp (pt_cmpR op_eq (pe_call (ok_law_draw T) (hr.mono (by decide)) (by rfl) T.mg_law_draw T.F_law_draw.kp T.B_law_draw .nil pass0 (pa_cons (pv 0) (pa_cons (pe_int) (pa_nil)))) (pe_int) (nomark _)) (pv 1) (pe_call (ok_law_draw T) (hr.mono (by decide)) (by rfl) T.mg_law_draw T.F_law_draw.kp T.B_law_draw .nil pass0 (pa_cons (pv 0) (pa_cons (pe_op op_add (pe_callB (Z.c_min2 rfl) (by rfl) T.z_min (by decide +kernel) (pa_cons (pv 1) (pa_cons (pe_int) (pa_nil)))) (pe_int)) (pa_nil)))))) (pss_cons (ps_set (i := 4) sc_law_keys.nd rfl (.inl rfl) (pe_lst (pa_nil))) (pss_cons (ps_for PassesOwn.never rfl (pi_range1 (by rfl) T.z_range (pa_cons (pv 3) (pa_nil))) (pg_name (i := 5) sc_law_keys.nd rfl (.inl rfl)) (pss_cons (ps_set (i := 6) sc_law_keys.nd rfl (.inl rfl) (pe_call (ok_law_draw T) (hr.mono (by decide)) (by rfl) T.mg_law_draw T.F_law_draw.kp T.B_law_draw .nil pass0 (pa_cons (pv 0) (pa_cons (pe_int) (pa_nil))))) (pss_one (ps_if (pt_cmpR op_lt (pv 6) (pe_int) (nomark _)) (pss_one (ps_expr (pe_bm PySem.F.plainAttrs_list PySem.F.slot_list_append PySem.F.type_list_append mt_append (pv 4) (pa_cons (pe_call (ok_law_pick T) (hr.mono (by decide)) (by rfl) T.mg_law_pick T.F_law_pick.kp T.B_law_pick .nil pass0 (pa_cons (pv 0) (pa_cons (pv 2) (pa_nil)))) (pa_nil))))) (pss_one (ps_if (pt_cmpR op_eq (pv 6) (pe_int) (nomark _)) (pss_one (ps_expr (pe_bm PySem.F.plainAttrs_list PySem.F.slot_list_append PySem.F.type_list_append mt_append (pv 4) (pa_cons (pe_make T.mk_Unnumbered (ok_Unnumbered___init T) (hr.mono (by decide)) (by rfl) T.mgC_Unnumbered T.B_Unnumbered___init .nil pass0 (pa_cons (pe_call (ok_law_pick T) (hr.mono (by decide)) (by rfl) T.mg_law_pick T.F_law_pick.kp T.B_law_pick .nil pass0 (pa_cons (pv 0) (pa_cons (pe_lst (pa_cons (pe_str) (pa_cons (pe_str) (pa_cons (pe_str) (pa_nil))))) (pa_nil)))) (pa_nil))) (pa_nil))))) (pss_one (ps_expr (pe_bm PySem.F.plainAttrs_list PySem.F.slot_list_append PySem.F.type_list_append mt_append (pv 4) (pa_cons (pe_ifExp (pt_cmpR op_eq (pv 6) (pe_int) (nomark _)) (pe_call (ok_law_number T) (hr.mono (by decide)) (by rfl) T.mg_law_number T.F_law_number.kp T.B_law_number .nil pass0 (pa_cons (pv 0) (pa_nil))) (pe_op op_sub (pe_call (ok_law_draw T) (hr.mono (by decide)) (by rfl) T.mg_law_draw T.F_law_draw.kp T.B_law_draw .nil pass0 (pa_cons (pv 0) (pa_cons (pe_int) (pa_nil)))) (pe_int))) (pa_nil))))))))))) (pss_one (ps_ret (pv 4)))))), ?_⟩
    refine Z.r_start (σ' := [some (.ref b), some (.int most), none, none, none, none, none]) rfl ?_
    walk_at "go"
    intro u1 e1 H1 nu1 s1 hu1
    walk_at "go"
    intro u2 e2 H2 nu2 s2 hu2
    walk_at "go"
    intro u3 e3 H3 nu3 s3 hu3
    walk_at "go"
    intro ml H4 nml s4 hml
    have s04 := ((s1.trans s2).trans s3).trans s4
    have g4 := hb.same s04
    have nmb : ml ≠ b := (hb.same ((s1.trans s2).trans s3)).ne nml
    have wa : Word "a" := ⟨by decide +kernel, by decide +kernel, by decide +kernel⟩
    have wb : Word "b" := ⟨by decide +kernel, by decide +kernel, by decide +kernel⟩
    have wc : Word "cc" := ⟨by decide +kernel, by decide +kernel, by decide +kernel⟩
    have marks : ∀ H', Z.But b H4 H' → ∀ x ∈ ([.ref u1, .ref u2, .ref u3] : List V), ∃ t, Rep T.C_Unnumbered H' x t ∧ t ≠ .non ∧ tagB t := by
      intro H' t'
      obtain ⟨_, _, _, hb4, _⟩ := id g4
      have mk : ∀ {u e : Addr} {w : Str}, H4 u = some (.ins T.C_Unnumbered e [("name", .str w)]) → H' u = some (.ins T.C_Unnumbered e [("name", .str w)]) := fun h => t' _ _ (ne_of h hb4 (by intro z; cases z)) h
      simp only [List.forall_mem_cons]
      exact ⟨⟨.mark "a", ⟨u1, e1, rfl, mk (s4 _ _ (s3 _ _ (s2 _ _ hu1)))⟩, nofun, wa⟩, ⟨.mark "b", ⟨u2, e2, rfl, mk (s4 _ _ (s3 _ _ hu2))⟩, nofun, wb⟩, ⟨.mark "a", ⟨u3, e3, rfl, mk (s4 _ _ hu3)⟩, nofun, wa⟩, nofun⟩
    dsimp only
    refine Z.r_seq ?_
    refine Z.r_asg (Z.via (R := fun v H5 => ∃ j : Int, v = .int j ∧ 0 ≤ j ∧ j ≤ most ∧ Z.But b H4 H5 ∧ Bag H5 b (n + 2)) (fun M k => ?_) ?_)
    · walk_at "go"
      walk_at "draw"
      intro d H5 d0 d1 t5 g5
      walk_at "go"
      refine Z.ways (fun c => ?_) (fun c => ?_)
      · walk_at "go"
        exact k _ _ ⟨most, rfl, by omega, by omega, t5, g5.mono (by omega)⟩
      · walk_at "go"
        have e12 : (if (12 : Int) < most then 12 else most) = 12 := by split <;> omega
        rw [e12]
        walk_at "draw"
        intro j H6 j0 j1 t6 g6
        exact k _ _ ⟨j, rfl, j0, by omega, t5.trans t6, g6.mono (by omega)⟩
    rintro v H5 ⟨j, rfl, j0, j1, t5, g5⟩
    walk_at "go"
    intro p H6 np s6 hp
    have g6 := g5.same s6
    have npb := g5.ne np
    have t46 : Z.But b H4 H6 := t5.trans (Z.But.same s6)
    have hml6 := t46 _ _ nmb hml
    have npm : p ≠ ml := (ne_of_none (t5 _ _ nmb hml) np).symm
    have np0 : H p = none := ((Z.But.same s04).trans t5).free npb np
    have np4 : H4 p = none := t5.free npb np
    walk_at "go"
    refine Z.r_rng j0 (by omega) (fun i σ' H' => ∃ (es : Ens) (v1 v2 : Option V), σ' = [some (.ref b), some (.int most), some (.ref ml), some (.int j), some (.ref p), v1, v2] ∧ es.length = i ∧ H' p = some (.lst (es.map (·.1))) ∧ EnsOk T.C_Unnumbered H' es ∧ TagsB es ∧
      Bag H' b (n + 2 + 62 * i) ∧ (∀ a o, a ≠ b → a ≠ p → H6 a = some o → H' a = some o)) ?_ ?_ ?_
    · exact ⟨[], _, _, rfl, rfl, hp, (fun e he => by cases he), (fun e he => by cases he), g6.mono (by omega), fun a o _ _ h => h⟩
    · rintro i σ' H7 hi ⟨es, v1, v2, rfl, hl, hp7, hes, htb, g7, keep⟩
      have li : i < 80 := by omega
      have hml7 := keep _ _ nmb npm.symm hml6
      obtain ⟨_, _, _, hb7, _⟩ := id g7
      have b47 : ∀ a o, a ≠ b → H4 a = some o → H7 a = some o := fun a o na ha => keep _ _ na (ne_of_none ha np4) (t46 _ _ na ha)
      have done : ∀ (x : V) (t : Tag) (v : Option V) (H8 : Hp), Rep T.C_Unnumbered H8 x t → t ≠ .non → tagB t → EnsOk T.C_Unnumbered H8 es → H8 p = some (.lst (es.map (·.1))) → Bag H8 b (n + 2 + 62 * (i + 1)) → Z.But b H7 H8 →
          ∀ H9, Z.But p H8 H9 → H9 p = some (.lst (es.map (·.1) ++ [x])) → ∃ (es' : Ens) (v1 v2 : Option V), [some (V.ref b), some (.int most), some (.ref ml), some (.int j), some (.ref p), some (.int (i : Int)), v] = [some (V.ref b), some (.int most), some (.ref ml), some (.int j), some (.ref p), v1, v2] ∧ es'.length = i + 1 ∧ H9 p = some (.lst (es'.map (·.1))) ∧ EnsOk T.C_Unnumbered H9 es' ∧ TagsB es' ∧
            Bag H9 b (n + 2 + 62 * (i + 1)) ∧ (∀ a o, a ≠ b → a ≠ p → H6 a = some o → H9 a = some o) := by
        intro x t v H8 rx nt tb hes8 hp8 g8 t8 H9 b9 h9
        refine ⟨es ++ [(x, t)], _, _, rfl, by rw [List.length_append, hl]; rfl, by rw [h9, List.map_append]; rfl, fun e he => ?_, fun e he => ?_, g8.but b9 npb.symm, fun a o na np ha => b9 _ _ np (t8 _ _ na (keep _ _ na np ha))⟩
        · rcases List.mem_append.mp he with he | he
          · exact (hes8.but b9 hp8) e he
          · rw [List.mem_singleton.mp he]
            exact ⟨rx.but b9 hp8, nt⟩
        · rcases List.mem_append.mp he with he | he
          · exact htb e he
          · rw [List.mem_singleton.mp he]; exact tb
      walk_at "go"
      walk_at "draw"
      intro r H8 r0 r1 t8 g8
      have hp8 := t8 _ _ npb hp7
      have hml8 := t8 _ _ nmb hml7
      have hes8 := hes.but t8 hb7
      obtain ⟨_, _, _, hb8, _⟩ := id g8
      walk_at "go"
      refine Z.ways (fun c => ?_) (fun c => ?_)
      · walk_at "go"
        refine k_pick g8 (by omega) hml8 nmb (Nat.le_of_ble_eq_true rfl) (Nat.le_of_ble_eq_true rfl) fun x H9 hx t9 g9 => ?_
        obtain ⟨t, rx, nt, tb⟩ := marks H9 (fun a o na ha => t9 _ _ na (t8 _ _ na (b47 a o na ha))) x hx
        have hp9 := t9 _ _ npb hp8
        walk_at "go"
        refine Z.r_app hp9 (by rw [List.length_map]; omega) fun H10 b10 h10 => ?_
        walk_at "go"
        exact done x t _ H9 rx nt tb (hes8.but t9 hb8) hp9 (g9.mono (by omega)) (t8.trans t9) H10 b10 h10
      · walk_at "go"
        refine Z.ways (fun c2 => ?_) (fun c2 => ?_)
        · walk_at "go"
          intro wl H9 nwl s9 hwl
          have nwb := g8.ne nwl
          walk_at "go"
          refine k_pick (g8.same s9) (by omega) hwl nwb (Nat.le_of_ble_eq_true rfl) (Nat.le_of_ble_eq_true rfl) fun x H10 hx t10 g10 => ?_
          have ex : ∃ w, x = .str w ∧ Word w := by
            rcases List.mem_cons.mp hx with rfl | hx
            · exact ⟨_, rfl, wa⟩
            rcases List.mem_cons.mp hx with rfl | hx
            · exact ⟨_, rfl, wb⟩
            rcases List.mem_cons.mp hx with rfl | hx
            · exact ⟨_, rfl, wc⟩
            · cases hx
          obtain ⟨w, rfl, hw⟩ := ex
          obtain ⟨_, _, _, hb9, _⟩ := id (g8.same s9)
          have hp10 := t10 _ _ npb (s9 _ _ hp8)
          have hes10 := (hes8.same s9).but t10 hb9
          walk_at "go"
          intro x dx H11 nx s11 hx'
          walk_at "go"
          refine Z.r_app (s11 _ _ hp10) (by rw [List.length_map]; omega) fun H12 b12 h12 => ?_
          walk_at "go"
          exact done (.ref x) (.mark w) _ H11 ⟨x, dx, rfl, hx'⟩ nofun hw (hes10.same s11) (s11 _ _ hp10) ((g10.same s11).mono (by omega)) (((t8.trans (Z.But.same s9)).trans t10).trans (Z.But.same s11)) H12 b12 h12
        · walk_at "go"
          refine Z.join (fun v H9 => ∃ m : Int, v = .int m ∧ m.natAbs < 10 ^ 246 ∧ Z.But b H8 H9 ∧ Bag H9 b (n + 2 + 62 * (i + 1))) (fun c M k => ?_) (fun c M k => ?_) (fun v H9 hv => ?_)
          · walk_at "go"
            refine k_law_number g8 (by omega) ?_
            intro m H9 hm t9 g9
            exact k _ _ ⟨m, rfl, hm, t9, g9.mono (by omega)⟩
          · walk_at "go"
            walk_at "draw"
            intro m H9 m0 m1 t9 g9
            walk_at "go"
            exact k _ _ ⟨_, rfl, Nat.lt_of_lt_of_le (show (m - 2).natAbs < 10 by omega) (by decide), t9, g9.mono (by omega)⟩
          · obtain ⟨m, rfl, hm, t9, g9⟩ := hv
            have hp9 := t9 _ _ npb hp8
            walk_at "go"
            refine Z.r_app hp9 (by rw [List.length_map]; omega) fun H10 b10 h10 => ?_
            walk_at "go"
            exact done (.int m) (.num m) _ H9 rfl nofun hm (hes8.but t9 hb8) hp9 g9 (t8.trans t9) H10 b10 h10
    · rintro σ' H7 ⟨es, v1, v2, rfl, hl, hp7, hes, htb, g7, keep⟩
      walk_at "go"
      exact q p es H7 np0 (fun a o na ha => keep _ _ na (ne_of_none ha np0) (t46 _ _ na (s04 _ _ ha))) (g7.mono (by omega)) hp7 npb (by omega) hes htb
theorem k_keys {C b : Addr} {most : Int} {n : Nat} {H : Hp} {Q : VK} {E : XK} (hb : Bag H b n) (hn : n ≤ 500000) (m0 : 12 ≤ most) (m1 : most ≤ 80) (q : ∀ p es H', H p = none → Z.But b H H' → Bag H' b (n + 6000) → H' p = some (.lst (es.map (·.1))) → p ≠ b → (es.length : Int) ≤ most → EnsOk C H' es → TagsB es → Q (.ref p) H') :
    sp_keys C ([.ref b, .int most] ++ []) H Q E := ⟨b, most, n, rfl, hb, hn, m0, m1, q⟩

theorem sc_Keyed___init : FnScope ["self"] ["self"] (defScope s_Keyed___init) := ⟨rfl, rfl, rfl, by decide +kernel, rfl, by decide +kernel, by decide +kernel⟩
def sp_Ke (D : Addr) : Sp := fun vs H Q _ => ∃ (p dx : Addr), vs = [.ref p] ∧ H p = some (.ins D dx []) ∧ ∀ h w H', H h = none → H w = none → Z.But p H H' → TabAt D H' p h w [] [] → Q .non H'
theorem ok_Keyed___init (T : Top K mg) : FnOk P w K mg base CX0 1 T.f_Keyed___init T.fd_Keyed___init ["self"] (sp_Ke T.C_Keyed) := by
  refine T.F_Keyed___init.ok sc_Keyed___init (fun vs H Q E h => ?_) (fun cdv A outer s H vs Q E hr h => ?_)
  · obtain ⟨p, dx, rfl, _⟩ := h
    rfl
  · obtain ⟨p, dx, rfl, hp, q⟩ := h
    refine ⟨_, pss_cons (ps_fld (pv 0) (pe_lst (pa_nil)) rfl) (pss_one (ps_fld (pv 0) (pe_lst (pa_nil)) rfl)), ?_⟩
    refine Z.r_start (σ' := [some (.ref p)]) rfl ?_
    walk_at "go"
    intro l1 H1 n1 s1 h1
    have hp1 := s1 _ _ hp
    walk_at "go"
    intro H2 b2 h2
    walk_at "go"
    intro l3 H3 n3 s3 h3
    walk_at "go"
    intro H4 b4 h4
    have np3 : H3 p = _ := s3 _ _ h2
    have ne1 : l1 ≠ p := (ne_of_none hp n1).symm
    have ne3 : l3 ≠ p := (ne_of_none h2 n3).symm
    have hl1 : H2 l1 = some (.lst []) := b2 _ _ ne1 h1
    have n30 : H l3 = none := by
      cases z : H l3 with
      | none => rfl
      | some o => rw [b2 _ _ ne3 (s1 _ _ z)] at n3; cases n3
    refine q l1 l3 H4 n1 n30 (fun a o na ha => b4 _ _ na (s3 _ _ (b2 _ _ na (s1 _ _ ha)))) ⟨⟨dx, h4⟩, b4 _ _ ne1 (s3 _ _ hl1), b4 _ _ ne3 h3, ne_of_none hl1 n3, rfl⟩
theorem r_mkKe {D : Addr} {H : Hp} {Q : VK} {E : XK} (q : ∀ x h w H1, H x = none → H h = none → H w = none → Same H H1 → TabAt D H1 x h w [] [] → Q (.ref x) H1) : Z.mkI D (sp_Ke D) [] [] H Q E := by
  intro x dx nx nd ne
  have sm : Same H (L2.upd (L2.upd H dx (.own x)) x (.ins D dx [])) := fun b o e => by
    rw [upd_ne (ne_of_none e nx), upd_ne (ne_of_none e nd)]; exact e
  have fr : ∀ {a : Addr}, L2.upd (L2.upd H dx (.own x)) x (.ins D dx []) a = none → H a = none := fun {a} h => by
    cases z : H a with
    | none => rfl
    | some o => rw [sm _ _ z] at h; cases h
  refine ⟨x, dx, rfl, upd_same, fun h w H1 nh nw b1 t => ⟨rfl, q x h w H1 nx (fr nh) (fr nw) (fun b o e => b1 _ _ (ne_of_none e nx) (sm _ _ e)) t⟩⟩
theorem sc_Keyed_worths : FnScope ["self"] ["self"] (defScope s_Keyed_worths) := ⟨rfl, rfl, rfl, by decide +kernel, rfl, by decide +kernel, by decide +kernel⟩
def sp_Ke_worths (D : Addr) : Sp := fun vs H Q _ => ∃ (a h w : Addr) (ks : List V) (ws : List Int), vs = [.ref a] ∧ TabAt D H a h w ks ws ∧ ∀ p H', H p = none → Same H H' → H' p = some (.lst (ws.map V.int)) → Q (.ref p) H'
theorem ok_Keyed_worths (T : Top K mg) : FnOk P w K mg base CX0 1 T.f_Keyed_worths T.fd_Keyed_worths ["self"] (sp_Ke_worths T.C_Keyed) := by
  refine T.F_Keyed_worths.ok sc_Keyed_worths (fun vs H Q E h => ?_) (fun cdv A outer s H vs Q E hr h => ?_)
  · obtain ⟨a, h, w, ks, ws, rfl, _⟩ := h
    rfl
  · obtain ⟨a, h, w, ks, ws, rfl, ⟨⟨dx, h1⟩, h2, h3, h4, h5⟩, q⟩ := h
    refine ⟨_, pss_one (ps_ret (pe_callTy call_list_of (by rfl) T.z_list (by decide +kernel) (pa_cons (pe_fld (pv 0) rfl) (pa_nil)))), ?_⟩
    refine Z.r_start (σ' := [some (.ref a)]) rfl ?_
    walk_at "go"
    refine Z.r_fldV h1 T.cl_Keyed T.no_Keyed__worths (two2 (by decide)) ?_
    walk_at "go"
    exact Z.r_listL h3 q
theorem k_Ke_worths {D a h w : Addr} {ks : List V} {ws : List Int} {H : Hp} {Q : VK} {E : XK} (t : TabAt D H a h w ks ws) (q : ∀ p H', H p = none → Same H H' → H' p = some (.lst (ws.map V.int)) → Q (.ref p) H') : sp_Ke_worths D (.ref a :: ([] ++ [])) H Q E := ⟨a, h, w, ks, ws, rfl, t, q⟩
theorem sc_Keyed_total : FnScope ["self"] ["self"] (defScope s_Keyed_total) := ⟨rfl, rfl, rfl, by decide +kernel, rfl, by decide +kernel, by decide +kernel⟩
def sp_Ke_total (D : Addr) : Sp := fun vs H Q _ => ∃ (a h w : Addr) (ks : List V) (ws : List Int), vs = [.ref a] ∧ TabAt D H a h w ks ws ∧ Q (.int ws.sum) H
theorem ok_Keyed_total (T : Top K mg) : FnOk P w K mg base CX0 1 T.f_Keyed_total T.fd_Keyed_total ["self"] (sp_Ke_total T.C_Keyed) := by
  refine T.F_Keyed_total.ok sc_Keyed_total (fun vs H Q E h => ?_) (fun cdv A outer s H vs Q E hr h => ?_)
  · obtain ⟨a, h, w, ks, ws, rfl, _⟩ := h
    rfl
  · obtain ⟨a, h, w, ks, ws, rfl, ⟨⟨dx, h1⟩, h2, h3, h4, h5⟩, q⟩ := h
    refine ⟨_, pss_one (ps_ret (pe_callB (cr_sum rfl) (by rfl) T.z_sum (by decide +kernel) (pa_cons (pe_fld (pv 0) rfl) (pa_nil)))), ?_⟩
    refine Z.r_start (σ' := [some (.ref a)]) rfl ?_
    walk_at "go"
    refine Z.r_fldV h1 T.cl_Keyed T.no_Keyed__worths (two2 (by decide)) ?_
    walk_at "go"
    exact Z.r_sumI (SqL.of h3) q
theorem k_Ke_total {D a h w : Addr} {ks : List V} {ws : List Int} {H : Hp} {Q : VK} {E : XK} (t : TabAt D H a h w ks ws) (q : Q (.int ws.sum) H) : sp_Ke_total D (.ref a :: ([] ++ [])) H Q E := ⟨a, h, w, ks, ws, rfl, t, q⟩
theorem sc_Keyed___getitem : FnScope ["self", "at"] ["self", "at"] (defScope s_Keyed___getitem) := ⟨rfl, rfl, rfl, by decide +kernel, rfl, by decide +kernel, by decide +kernel⟩
def sp_Ke_get (C D : Addr) : Sp := fun vs H Q _ => ∃ (a h w : Addr) (ks : List V) (ws : List Int) (x : V) (v : Int), vs = [.ref a, x] ∧ TabAt D H a h w ks ws ∧ (∀ z ∈ ks, KeyAt C H z) ∧ KeyAt C H x ∧ x ∈ ks ∧ ws[idxV x ks]? = some v ∧ Q (.int v) H
/-- == of keys within a list: the very ones -/
theorem key_eqg (T : Top K mg) {H : Hp} {x z : V} (hx : KeyAt T.C_Unnumbered H x) (hz : KeyAt T.C_Unnumbered H z) : Z.EqG P w K mg base 1 z x H (decide (z = x)) := by
  obtain ⟨t, rx, nt⟩ := hx
  obtain ⟨u, rz, nu⟩ := hz
  cases u with
  | non => exact absurd rfl nu
  | num i =>
    have ez : z = .int i := rz
    subst ez
    cases t with
    | non => exact absurd rfl nt
    | num j =>
      have ex : x = .int j := rx
      subst ex
      have e : decide (V.int i = V.int j) = eqV (.int i) (.int j) := by
        by_cases h : i = j
        · subst h; simp [eqV]
        · have h2 : ¬ j = i := fun e => h e.symm
          simp [eqV, h]
      rw [e]
      exact Z.EqG.flat rfl rfl
    | mark m =>
      obtain ⟨b, dy, rfl, hb⟩ := rx
      rw [decide_eq_false (show ¬ V.int i = V.ref b from nofun)]
      exact Z.EqG.int T.me_Unnumbered___eq (ok_Unnumbered___eq T) T.B_Unnumbered___eq hb (Z.sub_kit (by walk_at "ki")) ⟨b, dy, m, .int i, .num i, rfl, hb, rfl, rfl, rfl⟩
  | mark n =>
    obtain ⟨b, dy, rfl, hb⟩ := rz
    by_cases e : V.ref b = x
    · subst e
      rw [decide_eq_true rfl]
      exact Z.EqG.same
    · rw [decide_eq_false e]
      have ty : ∃ t', TyX K H x t' ∧ PySem.W.notFirst K T.C_Unnumbered t' = true := by
        cases t with
        | non => exact absurd rfl nt
        | num j =>
          have ex : x = .int j := rx
          subst ex
          exact ⟨_, by walk_at "ty", by walk_at "nf"⟩
        | mark m =>
          obtain ⟨c, dc, rfl, hc⟩ := rx
          exact ⟨_, by walk_at "ty", by walk_at "nf"⟩
      obtain ⟨t', ty1, ty2⟩ := ty
      exact Z.EqG.own T.me_Unnumbered___eq (ok_Unnumbered___eq T) T.B_Unnumbered___eq hb ty1 ty2 (fun z => e z.symm) ⟨b, dy, n, x, t, rfl, hb, rx, rfl, rfl⟩
theorem any_mem {x : V} {ks : List V} : (ks.any fun z => decide (z = x)) = decide (x ∈ ks) := by
  by_cases h : x ∈ ks
  · rw [decide_eq_true h, List.any_eq_true]
    exact ⟨x, h, decide_eq_true rfl⟩
  · rw [decide_eq_false h, List.any_eq_false]
    intro z hz e
    exact h (of_decide_eq_true e ▸ hz)
theorem ok_Keyed___getitem (T : Top K mg) : FnOk P w K mg base CX0 3 T.f_Keyed___getitem T.fd_Keyed___getitem ["self", "at"] (sp_Ke_get T.C_Unnumbered T.C_Keyed) := by
  refine T.F_Keyed___getitem.ok sc_Keyed___getitem (fun vs H Q E h => ?_) (fun cdv A outer s H vs Q E hr h => ?_)
  · obtain ⟨a, h, wl, ks, ws, x, v, rfl, _⟩ := h
    rfl
  · obtain ⟨a, h, wl, ks, ws, x, v, rfl, ⟨⟨dx, h1⟩, h2, h3, h4, h5⟩, hk, hx, mx, hv, q⟩ := h
    refine ⟨_, pss_cons (ps_if (pt_cmpR (Z.o_notInO (P := P) (w := w) (K := K) (mg := mg) (base := base) (k := 1) rfl rfl rfl rfl rfl (hr.mono (by decide))) (pv 1) (pe_fld (pv 0) rfl) rfl) (pss_one (ps_never)) (pss_nil)) (pss_one (ps_ret (pe_ix (Z.ix_seqG (K := K) rfl) (pe_fld (pv 0) rfl) (pe_bm PySem.F.plainAttrs_list PySem.F.slot_list_index PySem.F.type_list_index (Z.mt_indexO (P := P) (w := w) (K := K) (mg := mg) (base := base) (k := 1) rfl rfl rfl rfl rfl (hr.mono (by decide))) (pe_fld (pv 0) rfl) (pa_cons (pv 1) (pa_nil))) (fun _ _ => rfl)))), ?_⟩
    refine Z.r_start (σ' := [some (.ref a), some (x)]) rfl ?_
    have lk1 : ([("_held", V.ref h), ("_worths", V.ref wl)] : List (Str × V)).lookup ("_held" : Str) = some (.ref h) := two1
    have lk2 : ([("_held", V.ref h), ("_worths", V.ref wl)] : List (Str × V)).lookup ("_worths" : Str) = some (.ref wl) := two2 (by decide)
    have li := idxV_lt mx
    have he : ∀ z ∈ ks, Z.EqG P w K mg base 1 z x H (decide (z = x)) := fun z hz => key_eqg T hx (hk z hz)
    walk_at "go"
    refine Z.r_inO (fun z => decide (z = x)) h2 he ?_
    rw [any_mem, decide_eq_true mx]
    walk_at "go"
    refine Z.r_bmG ?_
    walk_at "go"
    refine Z.r_indexO (fun z => decide (z = x)) (idxV x ks) h2 he li (decide_eq_true ?_) (fun m lm => decide_eq_false fun e => idxV_no lm ?_) ?_
    · rw [List.getD_eq_getElem?_getD, idxV_at mx]; rfl
    · rw [List.getD_eq_getElem?_getD, List.getElem?_eq_getElem (by omega : m < ks.length)] at e
      rw [List.getElem?_eq_getElem (by omega : m < ks.length)]
      exact congrArg some e
    refine Z.r_ixL (v := .int v) (SqL.of h3) (atI_nat (by rw [List.getElem?_map, hv]; rfl)) ?_
    exact q
theorem k_Ke_get {C D a h wl : Addr} {ks : List V} {ws : List Int} {x : V} {v : Int} {H : Hp} {Q : VK} {E : XK} (t : TabAt D H a h wl ks ws) (hk : ∀ z ∈ ks, KeyAt C H z) (hx : KeyAt C H x) (mx : x ∈ ks) (hv : ws[idxV x ks]? = some v) (q : Q (.int v) H) :
    sp_Ke_get C D ([.ref a, x] ++ []) H Q E := ⟨a, h, wl, ks, ws, x, v, rfl, t, hk, hx, mx, hv, q⟩
def sp_Ke_getX (C D N : Addr) : Sp := fun vs H _ E => ∃ (a h w : Addr) (ks : List V) (ws : List Int) (x : V), vs = [.ref a, x] ∧ TabAt D H a h w ks ws ∧ (∀ z ∈ ks, KeyAt C H z) ∧ KeyAt C H x ∧ x ∉ ks ∧ ∀ d H', H d = none → Same H H' → H' d = some (.xd [("key", x)]) → E (.ref N) (some d) H'
theorem ok_Keyed___getitem___x (T : Top K mg) : FnOk P w K mg base (L2N.CX P w) 3 T.f_Keyed___getitem T.fd_Keyed___getitem ["self", "at"] (sp_Ke_getX T.C_Unnumbered T.C_Keyed T.C_NoKey) := by
  refine Z.okXN T.F_Keyed___getitem sc_Keyed___getitem (fun vs H Q E h => ?_) (fun cdv A outer s H vs Q E hr h => ?_)
  · obtain ⟨a, h, wl, ks, ws, x, rfl, _⟩ := h
    rfl
  · obtain ⟨a, h, wl, ks, ws, x, rfl, ⟨⟨dx, h1⟩, h2, h3, h4, h5⟩, hk, hx, mx, q⟩ := h
    refine ⟨_, pss_cons (ps_if (pt_cmpR (Z.o_notInO (P := P) (w := w) (K := K) (mg := mg) (base := base) (k := 1) rfl rfl rfl rfl rfl (hr.mono (by decide))) (pv 1) (pe_fld (pv 0) rfl) rfl) (pss_one (L2N.ps_raise rfl (L2N.takes_of rfl rfl rfl rfl) (Z.pmk_exfN T.ex_NoKey (ok_NoKey___init T) (hr.mono (by decide)) (by rfl) T.mgC_NoKey T.B_NoKey___init (pa_cons (pv 1) (pa_nil))))) (pss_nil)) (pss_one (ps_never)), ?_⟩
    refine Z.r_start (σ' := [some (.ref a), some (x)]) rfl ?_
    have lk1 : ([("_held", V.ref h), ("_worths", V.ref wl)] : List (Str × V)).lookup ("_held" : Str) = some (.ref h) := two1
    have he : ∀ z ∈ ks, Z.EqG P w K mg base 1 z x H (decide (z = x)) := fun z hz => key_eqg T hx (hk z hz)
    walk_at "go"
    refine Z.r_inO (fun z => decide (z = x)) h2 he ?_
    rw [any_mem, decide_eq_false mx]
    walk_at "go"
    exact k_exR q
theorem k_Ke_getX {C D N a h wl : Addr} {ks : List V} {ws : List Int} {x : V} {H : Hp} {Q : VK} {E : XK} (t : TabAt D H a h wl ks ws) (hk : ∀ z ∈ ks, KeyAt C H z) (hx : KeyAt C H x) (mx : x ∉ ks) (q : ∀ d H', H d = none → Same H H' → H' d = some (.xd [("key", x)]) → E (.ref N) (some d) H') :
    sp_Ke_getX C D N ([.ref a, x] ++ []) H Q E := ⟨a, h, wl, ks, ws, x, rfl, t, hk, hx, mx, q⟩
theorem sc_Keyed___setitem : FnScope ["self", "at", "worth"] ["self", "at", "worth"] (defScope s_Keyed___setitem) := ⟨rfl, rfl, rfl, by decide +kernel, rfl, by decide +kernel, by decide +kernel⟩
def putKs (x : V) (ks : List V) : List V := if x ∈ ks then ks else ks ++ [x]
def putWs (x : V) (v : Int) (ks : List V) (ws : List Int) : List Int := if x ∈ ks then ws.set (idxV x ks) v else ws ++ [v]
def sp_Ke_set (C D : Addr) : Sp := fun vs H Q _ => ∃ (a h w : Addr) (ks : List V) (ws : List Int) (x : V) (v : Int), vs = [.ref a, x, .int v] ∧ TabAt D H a h w ks ws ∧ (∀ z ∈ ks, KeyAt C H z) ∧ KeyAt C H x ∧ ks.length ≤ 1000 ∧
  ∀ H', (∀ b o, b ≠ h → b ≠ w → H b = some o → H' b = some o) → TabAt D H' a h w (putKs x ks) (putWs x v ks ws) → Q .non H'
theorem ok_Keyed___setitem (T : Top K mg) : FnOk P w K mg base CX0 3 T.f_Keyed___setitem T.fd_Keyed___setitem ["self", "at", "worth"] (sp_Ke_set T.C_Unnumbered T.C_Keyed) := by
  refine T.F_Keyed___setitem.ok sc_Keyed___setitem (fun vs H Q E h => ?_) (fun cdv A outer s H vs Q E hr h => ?_)
  · obtain ⟨a, h, wl, ks, ws, x, v, rfl, _⟩ := h
    rfl
  · obtain ⟨a, h, wl, ks, ws, x, v, rfl, ⟨⟨dx, h1⟩, h2, h3, h4, h5⟩, hk, hx, ln, q⟩ := h
    refine ⟨_, pss_one (ps_if (pt_cmpR (Z.o_inO (P := P) (w := w) (K := K) (mg := mg) (base := base) (k := 1) rfl rfl rfl rfl rfl (hr.mono (by decide))) (pv 1) (pe_fld (pv 0) rfl) rfl) (pss_one (ps_asg (pv 2) (pg_sub (pe_fld (pv 0) rfl) (pe_bm PySem.F.plainAttrs_list PySem.F.slot_list_index PySem.F.type_list_index (Z.mt_indexO (P := P) (w := w) (K := K) (mg := mg) (base := base) (k := 1) rfl rfl rfl rfl rfl (hr.mono (by decide))) (pe_fld (pv 0) rfl) (pa_cons (pv 1) (pa_nil))) set_list))) (pss_cons (ps_expr (pe_bm PySem.F.plainAttrs_list PySem.F.slot_list_append PySem.F.type_list_append mt_append (pe_fld (pv 0) rfl) (pa_cons (pv 1) (pa_nil)))) (pss_one (ps_expr (pe_bm PySem.F.plainAttrs_list PySem.F.slot_list_append PySem.F.type_list_append mt_append (pe_fld (pv 0) rfl) (pa_cons (pv 2) (pa_nil))))))), ?_⟩
    refine Z.r_start (σ' := [some (.ref a), some (x), some (.int v)]) rfl ?_
    have lk1 : ([("_held", V.ref h), ("_worths", V.ref wl)] : List (Str × V)).lookup ("_held" : Str) = some (.ref h) := two1
    have lk2 : ([("_held", V.ref h), ("_worths", V.ref wl)] : List (Str × V)).lookup ("_worths" : Str) = some (.ref wl) := two2 (by decide)
    have he : ∀ z ∈ ks, Z.EqG P w K mg base 1 z x H (decide (z = x)) := fun z hz => key_eqg T hx (hk z hz)
    walk_at "go"
    refine Z.r_inO (fun z => decide (z = x)) h2 he ?_
    rw [any_mem]
    refine ⟨_, rfl, ?_⟩
    refine Z.ways (fun mx => ?_) (fun mx => ?_)
    · have li := idxV_lt mx
      walk_at "go"
      refine Z.r_bmG ?_
      walk_at "go"
      refine Z.r_indexO (fun z => decide (z = x)) (idxV x ks) h2 he li (decide_eq_true ?_) (fun m lm => decide_eq_false fun e => idxV_no lm ?_) ?_
      · rw [List.getD_eq_getElem?_getD, idxV_at mx]; rfl
      · rw [List.getD_eq_getElem?_getD, List.getElem?_eq_getElem (by omega : m < ks.length)] at e
        rw [List.getElem?_eq_getElem (by omega : m < ks.length)]
        exact congrArg some e
      refine Z.r_setL (m := idxV x ks) h3 (ixN_k (by rw [List.length_map]; omega)) fun H1 b1 e1 => ?_
      walk_at "go"
      have e2 : putKs x ks = ks := if_pos mx
      have e3 : putWs x v ks ws = ws.set (idxV x ks) v := if_pos mx
      refine q H1 (fun b o n1 n2 hb => b1 _ _ n2 hb) ?_
      rw [e2, e3]
      exact ⟨⟨dx, b1 _ _ (ne_of h1 h3 (by intro z; cases z)) h1⟩, b1 _ _ h4 h2, by rw [e1, List.map_set], h4, by rw [List.length_set]; exact h5⟩
    · walk_at "go"
      refine Z.r_app h2 (by omega) fun H1 b1 e1 => ?_
      have h11 := b1 _ _ (ne_of h1 h2 (by intro z; cases z)) h1
      have h31 := b1 _ _ h4.symm h3
      walk_at "go"
      refine Z.r_app h31 (by rw [List.length_map]; omega) fun H2 b2 e4 => ?_
      walk_at "go"
      have e2 : putKs x ks = ks ++ [x] := if_neg mx
      have e3 : putWs x v ks ws = ws ++ [v] := if_neg mx
      refine q H2 (fun b o n1 n2 hb => b2 _ _ n2 (b1 _ _ n1 hb)) ?_
      rw [e2, e3]
      exact ⟨⟨dx, b2 _ _ (ne_of h11 h31 (by intro z; cases z)) h11⟩, b2 _ _ h4 e1, by rw [e4, List.map_append]; rfl, h4, by rw [List.length_append, List.length_append, h5]; rfl⟩
theorem k_Ke_set {C D a h wl : Addr} {ks : List V} {ws : List Int} {x : V} {v : Int} {H : Hp} {Q : VK} {E : XK} (t : TabAt D H a h wl ks ws) (hk : ∀ z ∈ ks, KeyAt C H z) (hx : KeyAt C H x) (ln : ks.length ≤ 1000)
    (q : ∀ H', (∀ b o, b ≠ h → b ≠ wl → H b = some o → H' b = some o) → TabAt D H' a h wl (putKs x ks) (putWs x v ks ws) → Q .non H') : sp_Ke_set C D ([.ref a, x, .int v] ++ []) H Q E := ⟨a, h, wl, ks, ws, x, v, rfl, t, hk, hx, ln, q⟩
theorem sc_Keyed___contains : FnScope ["self", "x"] ["self", "x"] (defScope s_Keyed___contains) := ⟨rfl, rfl, rfl, by decide +kernel, rfl, by decide +kernel, by decide +kernel⟩
def sp_Ke_in (C D : Addr) : Sp := fun vs H Q _ => ∃ (a h w : Addr) (ks : List V) (ws : List Int) (x : V), vs = [.ref a, x] ∧ TabAt D H a h w ks ws ∧ (∀ z ∈ ks, KeyAt C H z) ∧ KeyAt C H x ∧ Q (.bl (decide (x ∈ ks))) H
theorem ok_Keyed___contains (T : Top K mg) : FnOk P w K mg base CX0 3 T.f_Keyed___contains T.fd_Keyed___contains ["self", "x"] (sp_Ke_in T.C_Unnumbered T.C_Keyed) := by
  refine T.F_Keyed___contains.ok sc_Keyed___contains (fun vs H Q E h => ?_) (fun cdv A outer s H vs Q E hr h => ?_)
  · obtain ⟨a, h, wl, ks, ws, x, rfl, _⟩ := h
    rfl
  · obtain ⟨a, h, wl, ks, ws, x, rfl, ⟨⟨dx, h1⟩, h2, h3, h4, h5⟩, hk, hx, q⟩ := h
    refine ⟨_, pss_one (ps_ret (pe_cmpR (Z.o_inO (P := P) (w := w) (K := K) (mg := mg) (base := base) (k := 1) rfl rfl rfl rfl rfl (hr.mono (by decide))) (pv 1) (pe_fld (pv 0) rfl) rfl)), ?_⟩
    refine Z.r_start (σ' := [some (.ref a), some (x)]) rfl ?_
    have lk1 : ([("_held", V.ref h), ("_worths", V.ref wl)] : List (Str × V)).lookup ("_held" : Str) = some (.ref h) := two1
    have he : ∀ z ∈ ks, Z.EqG P w K mg base 1 z x H (decide (z = x)) := fun z hz => key_eqg T hx (hk z hz)
    walk_at "go"
    refine Z.r_inO (fun z => decide (z = x)) h2 he ?_
    rw [any_mem]
    exact q
theorem k_Ke_in {C D a h wl : Addr} {ks : List V} {ws : List Int} {x : V} {H : Hp} {Q : VK} {E : XK} (t : TabAt D H a h wl ks ws) (hk : ∀ z ∈ ks, KeyAt C H z) (hx : KeyAt C H x) (q : Q (.bl (decide (x ∈ ks))) H) : sp_Ke_in C D ([.ref a, x] ++ []) H Q E := ⟨a, h, wl, ks, ws, x, rfl, t, hk, hx, q⟩
theorem sc_Keyed___len : FnScope ["self"] ["self"] (defScope s_Keyed___len) := ⟨rfl, rfl, rfl, by decide +kernel, rfl, by decide +kernel, by decide +kernel⟩
def sp_Ke_len (D : Addr) : Sp := fun vs H Q _ => ∃ (a h w : Addr) (ks : List V) (ws : List Int), vs = [.ref a] ∧ TabAt D H a h w ks ws ∧ Q (.int ks.length) H
theorem ok_Keyed___len (T : Top K mg) : FnOk P w K mg base CX0 1 T.f_Keyed___len T.fd_Keyed___len ["self"] (sp_Ke_len T.C_Keyed) := by
  refine T.F_Keyed___len.ok sc_Keyed___len (fun vs H Q E h => ?_) (fun cdv A outer s H vs Q E hr h => ?_)
  · obtain ⟨a, h, wl, ks, ws, rfl, _⟩ := h
    rfl
  · obtain ⟨a, h, wl, ks, ws, rfl, ⟨⟨dx, h1⟩, h2, h3, h4, h5⟩, q⟩ := h
    refine ⟨_, pss_one (ps_ret (pe_callB Z.c_len (by rfl) T.z_len (by decide +kernel) (pa_cons (pe_fld (pv 0) rfl) (pa_nil)))), ?_⟩
    refine Z.r_start (σ' := [some (.ref a)]) rfl ?_
    have lk1 : ([("_held", V.ref h), ("_worths", V.ref wl)] : List (Str × V)).lookup ("_held" : Str) = some (.ref h) := two1
    walk_at "go"
    exact q
theorem k_Ke_len {D a h wl : Addr} {ks : List V} {ws : List Int} {H : Hp} {Q : VK} {E : XK} (t : TabAt D H a h wl ks ws) (q : Q (.int ks.length) H) : sp_Ke_len D ([.ref a] ++ []) H Q E := ⟨a, h, wl, ks, ws, rfl, t, q⟩
theorem sc_Keyed___iter : FnScope ["self"] ["self"] (defScope s_Keyed___iter) := ⟨rfl, rfl, rfl, by decide +kernel, rfl, by decide +kernel, by decide +kernel⟩
theorem ok_Keyed___iter (T : Top K mg) : Z.IterOkL P w K mg base 1 T.f_Keyed___iter T.C_Keyed "_held" := by
  intro A outer s H a Q hr0 e0 h
  obtain ⟨dx, fs, t, zs, ha, hf, ht, q⟩ := h
  have KX : K.In s.heap := e0.mod.kin.keeps fun b o e => (e0.bs b o e).1
  refine Z.fn_at (k := 0) (us := [.ref a]) (vs := [.ref a]) T.F_Keyed___iter sc_Keyed___iter hr0 e0 (by simpa using T.B_Keyed___iter s [.ref a] KX rfl) (.cons rfl .nil) rfl fun cdv hr => ⟨_, pss_one (ps_ret (pe_callB Z.c_iterL (by rfl) T.z_iter (by decide +kernel) (pa_cons (pe_fld (pv 0) rfl) (pa_nil)))), ?_⟩
  refine Z.r_start (σ' := [some (.ref a)]) rfl ?_
  walk_at "go"
  exact Z.r_iterL ht fun it n1 n2 => q it n1 n2

theorem sc_law_is_int : FnScope ["_law_thing"] ["_law_thing"] (defScope s_law_is_int) := ⟨rfl, rfl, rfl, by decide +kernel, rfl, by decide +kernel, by decide +kernel⟩
def sp_law_is_int (C : Addr) : Sp := fun vs H Q _ => ∃ (x : V) (t : Tag), vs = [x] ∧ Rep C H x t ∧ Q (.bl (isNumT t)) H
theorem ok_law_is_int (T : Top K mg) : FnOk P w K mg base CX0 1 T.f_law_is_int T.fd_law_is_int ["_law_thing"] (sp_law_is_int T.C_Unnumbered) := by
  refine T.F_law_is_int.ok sc_law_is_int (fun vs H Q E h => ?_) (fun cdv A outer s H vs Q E hr h => ?_)
  · obtain ⟨x, t, rfl, _⟩ := h
    rfl
  · obtain ⟨x, t, rfl, hx, q⟩ := h
    refine ⟨_, pss_one (ps_ret (pe_and (pe_callB (Z.c_isi (K := K) rfl) (by rfl) T.z_isinstance (by decide +kernel) (pa_cons (pv 0) (pa_cons (pe_bltn (v := .ty "int") (by rfl) T.z_int (by decide +kernel) rfl) (pa_nil)))) (pe_one (pe_not (pe_callB (Z.c_isi (K := K) rfl) (by rfl) T.z_isinstance (by decide +kernel) (pa_cons (pv 0) (pa_cons (pe_bltn (v := .ty "bool") (by rfl) T.z_bool (by decide +kernel) rfl) (pa_nil)))))))), ?_⟩
    refine Z.r_start (σ' := [some (x)]) rfl ?_
    cases t with
    | non => cases hx; walk_at "go"; exact q
    | num i => cases hx; walk_at "go"; exact q
    | mark n => obtain ⟨a, dx, rfl, ha⟩ := hx; walk_at "go"; exact q
theorem k_law_is_int {C : Addr} {x : V} {t : Tag} {H : Hp} {Q : VK} {E : XK} (hx : Rep C H x t) (q : Q (.bl (isNumT t)) H) : sp_law_is_int C ([x] ++ []) H Q E := ⟨x, t, rfl, hx, q⟩
theorem ok_law_is_int_h (T : Top K mg) : L2H.FnH P w K mg base CX0 1 T.f_law_is_int T.fd_law_is_int ["_law_thing"] (sp_law_is_int T.C_Unnumbered) := by
  refine Z.okH T.F_law_is_int sc_law_is_int (fun vs H Q E h => ?_) (fun cdv A outer s H vs Q E ph hot hr h => ?_)
  · obtain ⟨x, t, rfl, _⟩ := h
    rfl
  · obtain ⟨x, t, rfl, hx, q⟩ := h
    refine ⟨_, pss_one (ps_ret (pe_and (pe_callB (Z.c_isi (K := K) rfl) (by rfl) T.z_isinstance (by decide +kernel) (pa_cons (pv 0) (pa_cons (pe_bltn (v := .ty "int") (by rfl) T.z_int (by decide +kernel) rfl) (pa_nil)))) (pe_one (pe_not (pe_callB (Z.c_isi (K := K) rfl) (by rfl) T.z_isinstance (by decide +kernel) (pa_cons (pv 0) (pa_cons (pe_bltn (v := .ty "bool") (by rfl) T.z_bool (by decide +kernel) rfl) (pa_nil)))))))), ?_⟩
    refine Z.r_start (σ' := [some (x)]) rfl ?_
    cases t with
    | non => cases hx; walk_at "go"; exact q
    | num i => cases hx; walk_at "go"; exact q
    | mark n => obtain ⟨a, dx, rfl, ha⟩ := hx; walk_at "go"; exact q
theorem sc_law_place : FnScope ["_law_keys_here", "_law_key", "_law_at"] ["_law_keys_here", "_law_key"] (defScope s_law_place) := ⟨rfl, rfl, rfl, by decide +kernel, rfl, by decide +kernel, by decide +kernel⟩
def placeI (x : V) (ks : List V) : Int := if x ∈ ks then (idxV x ks : Int) else -1
def sp_placeK (C : Addr) : Sp := fun vs H Q _ => ∃ (p : Addr) (x : V) (ks : List V), vs = [.ref p, x] ∧ H p = some (.lst ks) ∧ (∀ z ∈ ks, KeyAt C H z) ∧ KeyAt C H x ∧ ks.length ≤ 1000 ∧ ∀ H', Same H H' → Q (.int (placeI x ks)) H'
theorem ok_law_place (T : Top K mg) : FnOk P w K mg base CX0 3 T.f_law_place T.fd_law_place ["_law_keys_here", "_law_key"] (sp_placeK T.C_Unnumbered) := by
  refine T.F_law_place.ok sc_law_place (fun vs H Q E h => ?_) (fun cdv A outer s H vs Q E hr h => ?_)
  · obtain ⟨p, x, ks, rfl, _⟩ := h
    rfl
  · obtain ⟨p, x, ks, rfl, hp, hk, hx, ln, q⟩ := h
    refine ⟨_, pss_cons (ps_for PassesOwn.never rfl (pi_range1 (by rfl) T.z_range (pa_cons (pe_callB Z.c_len (by rfl) T.z_len (by decide +kernel) (pa_cons (pv 0) (pa_nil))) (pa_nil))) (pg_name (i := 2) sc_law_place.nd rfl (.inl rfl)) (pss_cons (ps_if ((pw_and (pt_val (pe_call (ok_law_is_int T) (hr.mono (by decide)) (by rfl) T.mg_law_is_int T.F_law_is_int.kp T.B_law_is_int .nil pass0 (pa_cons (pv 1) (pa_nil)))) (pw_and (pt_val (pe_call (ok_law_is_int T) (hr.mono (by decide)) (by rfl) T.mg_law_is_int T.F_law_is_int.kp T.B_law_is_int .nil pass0 (pa_cons (pe_ix (Z.ix_seqG (K := K) rfl) (pv 0) (pv 2) (fun _ _ => rfl)) (pa_nil)))) (pw_and1 (pt_cmpR op_eq (pv 1) (pe_ix (Z.ix_seqG (K := K) rfl) (pv 0) (pv 2) (fun _ _ => rfl)) (nomark _))))).pt) (pss_one (ps_ret (pv 2))) (pss_nil)) (pss_one (ps_if ((pw_and (pt_not (pt_val (pe_call (ok_law_is_int T) (hr.mono (by decide)) (by rfl) T.mg_law_is_int T.F_law_is_int.kp T.B_law_is_int .nil pass0 (pa_cons (pv 1) (pa_nil))))) (pw_and1 (pt_cmpR (Z.o_inO (P := P) (w := w) (K := K) (mg := mg) (base := base) (k := 1) rfl rfl rfl rfl rfl (hr.mono (by decide))) (pv 1) (pe_lst (pa_cons (pe_ix (Z.ix_seqG (K := K) rfl) (pv 0) (pv 2) (fun _ _ => rfl)) (pa_nil))) rfl))).pt) (pss_one (ps_ret (pv 2))) (pss_nil))))) (pss_one (ps_ret (pe_un un_neg (pe_int)))), ?_⟩
    refine Z.r_start (σ' := [some (.ref p), some (x), none]) rfl ?_
    walk_at "go"
    refine Z.r_rng (by omega) (by omega) (fun i σ' H' => Same H H' ∧ (∀ m, m < i → ks[m]? ≠ some x) ∧ ∃ v2, σ' = [some (.ref p), some x, v2]) ?_ ?_ ?_
    · exact ⟨Same.refl H, (fun m h => by cases h), _, rfl⟩
    · rintro i σ' H1 hi ⟨s1, no, v2, rfl⟩
      have li : i < ks.length := by omega
      have ui : ks[i]? = some ks[i] := List.getElem?_eq_getElem li
      have hp1 := s1 _ _ hp
      have ix : atI ks (i : Int) = some ks[i] := atI_nat ui
      obtain ⟨t, rx, nt⟩ := hx.same s1
      obtain ⟨u, rz, nu⟩ := (hk _ (List.getElem_mem li)).same s1
      have hit : ks[i] = x → placeI x ks = (i : Int) := fun e => by
        unfold placeI
        rw [if_pos (e ▸ List.getElem_mem li), idxV_first (m := i) (by rw [ui, e]) no]
      have miss : ks[i] ≠ x → ∀ m, m < i + 1 → ks[m]? ≠ some x := fun e m lm => by
        by_cases h : m < i
        · exact no m h
        · have : m = i := by omega
          subst this
          rw [ui]
          exact fun z => e (Option.some.inj z)
      generalize ks[i] = z at *
      walk_at "go"
      refine k_law_is_int rx ?_
      cases t with
      | non => exact absurd rfl nt
      | num j =>
        have ex : x = .int j := rx
        subst ex
        walk_at "go"
        refine k_law_is_int rz ?_
        cases u with
        | non => exact absurd rfl nu
        | num k =>
          have ez : z = .int k := rz
          subst ez
          walk_at "go"
          refine Z.ways (fun c => ?_) (fun c => ?_)
          · walk_at "go"
            have h := hit (by rw [c])
            rw [h] at q
            exact q _ s1
          · walk_at "go"
            refine k_law_is_int rx ?_
            walk_at "go"
            exact ⟨s1, miss (fun e => c (by cases e; rfl)), _, rfl⟩
        | mark n =>
          obtain ⟨b, dy, rfl, hb⟩ := rz
          walk_at "go"
          refine k_law_is_int rx ?_
          walk_at "go"
          exact ⟨s1, miss nofun, _, rfl⟩
      | mark n =>
        walk_at "go"
        refine k_law_is_int rx ?_
        walk_at "go"
        intro l H2 nl s2 hl
        have s12 := s1.trans s2
        refine Z.r_inO (fun y => decide (y = x)) hl (fun y hy => by rw [List.mem_singleton.mp hy]; exact key_eqg T (hx.same s12) ⟨u, rz.same s2, nu⟩) ?_
        rw [any_mem]
        refine ⟨_, rfl, ?_⟩
        refine Z.ways (fun c => ?_) (fun c => ?_)
        · walk_at "go"
          have h := hit (List.mem_singleton.mp c).symm
          rw [h] at q
          exact q _ s12
        · walk_at "go"
          exact ⟨s12, miss (fun e => c (by rw [e]; exact List.mem_cons_self)), _, rfl⟩
    · rintro σ' H1 ⟨s1, no, v2, rfl⟩
      walk_at "go"
      have e : placeI x ks = -1 := by
        unfold placeI
        refine if_neg fun h => ?_
        obtain ⟨m, lm⟩ := List.getElem?_of_mem h
        have := (List.getElem?_eq_some_iff.mp lm).1
        exact no m (by omega) lm
      rw [e] at q
      exact q _ s1
theorem k_placeK {C p : Addr} {x : V} {ks : List V} {H : Hp} {Q : VK} {E : XK} (hp : H p = some (.lst ks)) (hk : ∀ z ∈ ks, KeyAt C H z) (hx : KeyAt C H x) (ln : ks.length ≤ 1000) (q : ∀ H', Same H H' → Q (.int (placeI x ks)) H') : sp_placeK C ([.ref p, x] ++ []) H Q E := ⟨p, x, ks, rfl, hp, hk, hx, ln, q⟩
def sp_placeH (C : Addr) : Sp := fun vs H Q _ => ∃ (p : Addr) (x : V), vs = [.ref p, x] ∧ H p = some (.lst [x]) ∧ KeyAt C H x ∧ ∀ H', Same H H' → Q (.int 0) H'
theorem ok_law_place_h (T : Top K mg) : L2H.FnH P w K mg base CX0 2 T.f_law_place T.fd_law_place ["_law_keys_here", "_law_key"] (sp_placeH T.C_Unnumbered) := by
  refine Z.okH T.F_law_place sc_law_place (fun vs H Q E h => ?_) (fun cdv A outer s H vs Q E ph hot hr h => ?_)
  · obtain ⟨p, x, rfl, _⟩ := h
    rfl
  · obtain ⟨p, x, rfl, hp, hx, q⟩ := h
    refine ⟨_, pss_cons (L2H.ps_forH (passes_of rfl) (Z.hotH hot) (L2H.pi_range1H (by rfl) T.z_range (pa_cons (pe_callB Z.c_len (by rfl) T.z_len (by decide +kernel) (pa_cons (pv 0) (pa_nil))) (pa_nil))) (pg_name (i := 2) sc_law_place.nd rfl (.inl rfl)) (pss_cons (ps_if ((pw_and (pt_val (L2H.pe_callH (E := fun _ => E0) (ok_law_is_int_h T) (hr.mono (by decide)) (Z.hotH hot) (by rfl) T.mg_law_is_int T.F_law_is_int.kp T.B_law_is_int (fun σ => Z.passAt0 (E := fun _ => E0) σ) (pa_cons (pv 1) (pa_nil)))) (pw_and (pt_val (L2H.pe_callH (E := fun _ => E0) (ok_law_is_int_h T) (hr.mono (by decide)) (Z.hotH hot) (by rfl) T.mg_law_is_int T.F_law_is_int.kp T.B_law_is_int (fun σ => Z.passAt0 (E := fun _ => E0) σ) (pa_cons (pe_ix (Z.ix_seqG (K := K) rfl) (pv 0) (pv 2) (fun _ _ => rfl)) (pa_nil)))) (pw_and1 (pt_cmpR op_eq (pv 1) (pe_ix (Z.ix_seqG (K := K) rfl) (pv 0) (pv 2) (fun _ _ => rfl)) (nomark _))))).pt) (pss_one (ps_ret (pv 2))) (pss_nil)) (pss_one (ps_if ((pw_and (pt_not (pt_val (L2H.pe_callH (E := fun _ => E0) (ok_law_is_int_h T) (hr.mono (by decide)) (Z.hotH hot) (by rfl) T.mg_law_is_int T.F_law_is_int.kp T.B_law_is_int (fun σ => Z.passAt0 (E := fun _ => E0) σ) (pa_cons (pv 1) (pa_nil))))) (pw_and1 (pt_cmpR Z.o_inSelf (pv 1) (pe_lst (pa_cons (pe_ix (Z.ix_seqG (K := K) rfl) (pv 0) (pv 2) (fun _ _ => rfl)) (pa_nil))) rfl))).pt) (pss_one (ps_ret (pv 2))) (pss_nil))))) (pss_one (ps_ret (pe_un un_neg (pe_int)))), ?_⟩
    refine Z.r_start (σ' := [some (.ref p), some (x), none]) rfl ?_
    walk_at "go"
    refine Z.r_rng (by show (0 : Int) ≤ 1; decide) (by show (1 : Int) ≤ 100000; decide) (fun i σ' H' => H' = H ∧ i = 0 ∧ ∃ v2, σ' = [some (.ref p), some x, v2]) ?_ ?_ ?_
    · exact ⟨rfl, rfl, _, rfl⟩
    · rintro i σ' H1 hi ⟨rfl, rfl, v2, rfl⟩
      obtain ⟨t, rx, nt⟩ := id hx
      have ix : atI [x] ((0 : Nat) : Int) = some x := rfl
      walk_at "go"
      refine k_law_is_int rx ?_
      cases t with
      | non => exact absurd rfl nt
      | num j =>
        have ex : x = .int j := rx
        subst ex
        walk_at "go"
        refine k_law_is_int rx ?_
        walk_at "go"
        refine Z.yes (decide_eq_true rfl) ?_
        walk_at "go"
        exact q _ (Same.refl _)
      | mark n =>
        obtain ⟨b, dy, rfl, hb⟩ := id rx
        walk_at "go"
        refine k_law_is_int rx ?_
        walk_at "go"
        intro l H2 nl s2 hl
        walk_at "go"
        exact q _ s2
    · rintro σ' H1 ⟨rfl, h0, _⟩
      exact absurd h0 (show ¬ (1 : Nat) = 0 by decide)
theorem sc_law_missing : FnScope ["_law_table", "_law_key", "_law_told", "e"] ["_law_table", "_law_key"] (defScope s_law_missing) := ⟨rfl, rfl, rfl, by decide +kernel, rfl, by decide +kernel, by decide +kernel⟩
def sp_missing (C D : Addr) : Sp := fun vs H Q _ => ∃ (a h wl : Addr) (ks : List V) (ws : List Int) (x : V), vs = [.ref a, x] ∧ TabAt D H a h wl ks ws ∧ (∀ z ∈ ks, KeyAt C H z) ∧ KeyAt C H x ∧ x ∉ ks ∧ ∀ H', Same H H' → Q (.bl true) H'
theorem ok_law_missing (T : Top K mg) : FnOk P w K mg base CX0 5 T.f_law_missing T.fd_law_missing ["_law_table", "_law_key"] (sp_missing T.C_Unnumbered T.C_Keyed) := by
  refine T.F_law_missing.ok sc_law_missing (fun vs H Q E h => ?_) (fun cdv A outer s H vs Q E hr h => ?_)
  · obtain ⟨a, h, wl, ks, ws, x, rfl, _⟩ := h
    rfl
  · obtain ⟨a, h, wl, ks, ws, x, rfl, t, hk, hx, mx, q⟩ := h
    refine ⟨_, pss_cons (ps_set (i := 2) sc_law_missing.nd rfl (.inl rfl) (pe_non)) (pss_cons (L2N.ps_try_as (i := 3) rfl rfl sc_law_missing.nd rfl rfl ⟨rfl, by decide, .inl T.mgC_NoKey⟩ Z.takesN0 (fun W pn xe tk _ => pss_one (ps_set (i := 2) sc_law_missing.nd rfl (.inl rfl) (Z.pe_ixX (k := 3) T.me_Keyed___getitem (Z.fn_in T.F_Keyed___getitem) (ok_Keyed___getitem___x T) (hr.mono (by decide)) T.B_Keyed___getitem (fun σ => L2N.passAt tk σ) (pv 0) (pv 1)))) (fun a oe cls d pn hz hf => pss_one (ps_ret (pe_and (pe_callB (Z.c_isC (K := K) rfl hz.zc hf) (by rfl) T.z_isinstance (by decide +kernel) (pa_cons (pv 3) (pa_cons (pe_bltn (v := .ty "LookupError") (by rfl) T.z_LookupError (by decide +kernel) rfl) (pa_nil)))) (pe_and (pe_not (pe_callB (Z.c_isC (K := K) rfl hz.zc hf) (by rfl) T.z_isinstance (by decide +kernel) (pa_cons (pv 3) (pa_cons (pe_glob (v := .ref T.C_NoAnswer) (by exact rfl) T.mgC_NoAnswer rfl) (pa_nil))))) (pe_one (pe_cmpR op_eq (L2H.pe_callH (E := fun _ => E0) (ok_law_place_h T) ((Z.roomS hr).mono (by decide)) (Z.hotS hz hf) (by rfl) T.mg_law_place T.F_law_place.kp T.B_law_place (fun σ => Z.passAt0 (E := fun _ => E0) σ) (pa_cons (pe_lst (pa_cons (pe_xf ⟨T.ex_NoKey.ga, T.ex_NoKey.gt, T.ex_NoKey.sb, T.ex_NoKey.hd⟩ T.no_NoKey_key hz.zc hf (pv 3)) (pa_nil))) (pa_cons (pv 1) (pa_nil)))) (pe_int) (nomark _)))))))) (pss_one (ps_ret (pe_bl)))), ?_⟩
    refine Z.r_start (σ' := [some (.ref a), some (x), none, none]) rfl ?_
    obtain ⟨dx, ha⟩ := t.ins
    refine Z.r_seq ?_
    walk_at "go"
    refine ⟨a, dx, _, rfl, ha, k_Ke_getX t hk hx mx fun d H' n s' h => ?_⟩
    refine ⟨true, Z.exm_self T.ex_NoKey, fun _ e ne => ?_, fun z => Bool.noConfusion z⟩
    dsimp only
    walk_at "go"
    refine Z.r_isC (.ty _) T.ex_NoKey h T.ki_NoKey_LookupError ?_
    walk_at "go"
    refine Z.r_isC (.own _) T.ex_NoKey h T.ki_NoKey_NoAnswer ?_
    walk_at "go"
    intro l H2 nl s2 hl
    walk_at "go"
    refine ⟨l, x, rfl, hl, (hx.same s').same s2, fun H3 s3 => ?_⟩
    walk_at "go"
    exact q _ ((s'.trans s2).trans s3)
theorem k_missing {C D a h wl : Addr} {ks : List V} {ws : List Int} {x : V} {H : Hp} {Q : VK} {E : XK} (t : TabAt D H a h wl ks ws) (hk : ∀ z ∈ ks, KeyAt C H z) (hx : KeyAt C H x) (mx : x ∉ ks) (q : ∀ H', Same H H' → Q (.bl true) H') :
    sp_missing C D ([.ref a, x] ++ []) H Q E := ⟨a, h, wl, ks, ws, x, rfl, t, hk, hx, mx, q⟩
theorem sc_law_says : FnScope ["_law_told", "_law_due"] ["_law_told", "_law_due"] (defScope s_law_says) := ⟨rfl, rfl, rfl, by decide +kernel, rfl, by decide +kernel, by decide +kernel⟩
def sp_says : Sp := fun vs H Q _ => ∃ a b : Bool, vs = [.bl a, .bl b] ∧ Q (.bl (decide (a = b))) H
theorem ok_law_says (T : Top K mg) : FnOk P w K mg base CX0 1 T.f_law_says T.fd_law_says ["_law_told", "_law_due"] sp_says := by
  refine T.F_law_says.ok sc_law_says (fun vs H Q E h => ?_) (fun cdv A outer s H vs Q E hr h => ?_)
  · obtain ⟨a, b, rfl, _⟩ := h
    rfl
  · obtain ⟨a, b, rfl, q⟩ := h
    refine ⟨_, pss_one (ps_ret (pe_and (pe_callB (Z.c_isi (K := K) rfl) (by rfl) T.z_isinstance (by decide +kernel) (pa_cons (pv 0) (pa_cons (pe_bltn (v := .ty "bool") (by rfl) T.z_bool (by decide +kernel) rfl) (pa_nil)))) (pe_one (pe_cmpR op_eq (pv 0) (pv 1) (nomark _))))), ?_⟩
    refine Z.r_start (σ' := [some (.bl a), some (.bl b)]) rfl ?_
    walk_at "go"
    exact q
theorem k_says {a b : Bool} {H : Hp} {Q : VK} {E : XK} (q : Q (.bl (decide (a = b))) H) : sp_says ([.bl a, .bl b] ++ []) H Q E := ⟨a, b, rfl, q⟩
theorem sc_law_shows : FnScope ["_law_table", "_law_keys_here", "_law_worths", "_law_total", "_law_told", "_law_walked", "_law_key", "_law_at", "_law_worth"] ["_law_table", "_law_keys_here", "_law_worths"] (defScope s_law_shows) := ⟨rfl, rfl, rfl, by decide +kernel, rfl, by decide +kernel, by decide +kernel⟩
def sp_shows (C D : Addr) : Sp := fun vs H Q _ => ∃ (a h wl p r : Addr) (ks : List V) (ws : List Int), vs = [.ref a, .ref p, .ref r] ∧ TabAt D H a h wl ks ws ∧ (∀ z ∈ ks, KeyAt C H z) ∧ H p = some (.lst ks) ∧ H r = some (.lst (ws.map V.int)) ∧ ks.length ≤ 100 ∧ ∀ H', Same H H' → Q (.bl true) H'
theorem ok_law_shows (T : Top K mg) : FnOk P w K mg base CX0 4 T.f_law_shows T.fd_law_shows ["_law_table", "_law_keys_here", "_law_worths"] (sp_shows T.C_Unnumbered T.C_Keyed) := by
  refine T.F_law_shows.ok sc_law_shows (fun vs H Q E h => ?_) (fun cdv A outer s H vs Q E hr h => ?_)
  · obtain ⟨a, h, wl, p, r, ks, ws, rfl, _⟩ := h
    rfl
  · obtain ⟨a, h, wl, p, r, ks, ws, rfl, t, hk, hp, hrr, ln, q⟩ := h
    refine ⟨_, pss_cons (ps_asg (pe_tup (pa_cons (pe_meth0 (pv 0) T.cl_Keyed T.me_Keyed_worths (ok_Keyed_worths T) (hr.mono (by decide)) T.B_Keyed_worths .nil pass0) (pa_cons (pe_lc (own := [("_law_key", 6)]) (g := gName 6) (tt := tYes) rfl sc_law_shows.nd (Z.pi_ownL (K := K) (k := 1) rfl T.me_Keyed___iter (ok_Keyed___iter T) (hr.mono (by decide)) (pv 0)) (blkOk_by (own := [("_law_key", 6)]) (N := ["_law_table", "_law_keys_here", "_law_worths", "_law_total", "_law_told", "_law_walked", "_law_key", "_law_at", "_law_worth"]) (sc := defScope s_law_shows) (by decide +kernel)) (fun _ _ _ _ _ => pg_name (i := 6) sc_law_shows.nd rfl (.inl rfl)) (fun _ _ _ _ _ => pts_nil) (fun _ _ _ _ _ => pv 6)) (pa_nil)))) (pg_tup rfl (pgs_cons (pg_name (i := 4) sc_law_shows.nd rfl (.inl rfl)) (pgs_cons (pg_name (i := 5) sc_law_shows.nd rfl (.inr rfl)) (pgs_nil))))) (pss_cons (ps_if ((pw_or (pt_not (pt_val (pe_callB (Z.c_isi (K := K) rfl) (by rfl) T.z_isinstance (by decide +kernel) (pa_cons (pv 4) (pa_cons (pe_bltn (v := .ty "list") (by rfl) T.z_list (by decide +kernel) rfl) (pa_nil)))))) (pw_or (pt_cmpR (op_neD hr.units) (pv 4) (pv 2) (nomark _)) (pw_or1 (pt_val (pe_callB (cr_any rfl) (by rfl) T.z_any (by decide +kernel) (pa_cons (pe_lc (own := [("_law_worth", 8)]) (g := gName 8) (tt := tYes) rfl sc_law_shows.nd (pi_list (pv 4)) (blkOk_by (own := [("_law_worth", 8)]) (N := ["_law_table", "_law_keys_here", "_law_worths", "_law_total", "_law_told", "_law_walked", "_law_key", "_law_at", "_law_worth"]) (sc := defScope s_law_shows) (by decide +kernel)) (fun _ _ _ _ _ => pg_name (i := 8) sc_law_shows.nd rfl (.inl rfl)) (fun _ _ _ _ _ => pts_nil) (fun _ _ _ _ _ => pe_not (pe_call (ok_law_is_int T) (hr.mono (by decide)) (by rfl) T.mg_law_is_int T.F_law_is_int.kp T.B_law_is_int .nil pass0 (pa_cons (pv 8) (pa_nil))))) (pa_nil))))))).pt) (pss_one (ps_ret (pe_bl))) (pss_nil)) (pss_cons (ps_expr (pe_bm PySem.F.plainAttrs_list PySem.F.slot_list_append PySem.F.type_list_append mt_append (pv 4) (pa_cons (pe_int) (pa_nil)))) (pss_cons (ps_set (i := 3) sc_law_shows.nd rfl (.inl rfl) (pe_meth0 (pv 0) T.cl_Keyed T.me_Keyed_total (ok_Keyed_total T) (hr.mono (by decide)) T.B_Keyed_total .nil pass0)) (pss_cons (ps_if ((pw_or (pt_cmpR op_ne (pe_callB (Z.c_lenO (k := 1) T.me_Keyed___len (ok_Keyed___len T) (hr.mono (by decide)) T.B_Keyed___len) (by rfl) T.z_len (by decide +kernel) (pa_cons (pv 0) (pa_nil))) (pe_callB Z.c_len (by rfl) T.z_len (by decide +kernel) (pa_cons (pv 1) (pa_nil))) (nomark _)) (pw_or (pt_cmpR op_ne (pe_callB Z.c_len (by rfl) T.z_len (by decide +kernel) (pa_cons (pv 5) (pa_nil))) (pe_callB Z.c_len (by rfl) T.z_len (by decide +kernel) (pa_cons (pv 1) (pa_nil))) (nomark _)) (pw_or (pt_not (pt_val (pe_call (ok_law_is_int T) (hr.mono (by decide)) (by rfl) T.mg_law_is_int T.F_law_is_int.kp T.B_law_is_int .nil pass0 (pa_cons (pv 3) (pa_nil))))) (pw_or1 (pt_cmpR op_ne (pv 3) (pe_callB (cr_sum rfl) (by rfl) T.z_sum (by decide +kernel) (pa_cons (pv 2) (pa_nil))) (nomark _)))))).pt) (pss_one (ps_ret (pe_bl))) (pss_nil)) (pss_one (ps_ret (pe_callB (cr_all rfl) (by rfl) T.z_all (by decide +kernel) (pa_cons (pe_lc (own := [("_law_at", 7)]) (g := gName 7) (tt := tYes) rfl sc_law_shows.nd (pi_range1 (by rfl) T.z_range (pa_cons (pe_callB Z.c_len (by rfl) T.z_len (by decide +kernel) (pa_cons (pv 1) (pa_nil))) (pa_nil))) (blkOk_by (own := [("_law_at", 7)]) (N := ["_law_table", "_law_keys_here", "_law_worths", "_law_total", "_law_told", "_law_walked", "_law_key", "_law_at", "_law_worth"]) (sc := defScope s_law_shows) (by decide +kernel)) (fun _ _ _ _ _ => pg_name (i := 7) sc_law_shows.nd rfl (.inl rfl)) (fun _ _ _ _ _ => pts_nil) (fun _ _ _ _ _ => pe_cmpR op_eq (pe_call (ok_law_place T) (hr.mono (by decide)) (by rfl) T.mg_law_place T.F_law_place.kp T.B_law_place .nil pass0 (pa_cons (pe_lst (pa_cons (pe_ix (Z.ix_seqG (K := K) rfl) (pv 5) (pv 7) (fun _ _ => rfl)) (pa_nil))) (pa_cons (pe_ix (Z.ix_seqG (K := K) rfl) (pv 1) (pv 7) (fun _ _ => rfl)) (pa_nil)))) (pe_int) (nomark _))) (pa_nil))))))))), ?_⟩
    refine Z.r_start (σ' := [some (.ref a), some (.ref p), some (.ref r), none, none, none, none, none, none]) rfl ?_
    obtain ⟨dx, ha⟩ := t.ins
    have nl1 : ([("_held", V.ref h), ("_worths", V.ref wl)] : List (Str × V)).lookup ("worths" : Str) = none := two0 (by decide) (by decide)
    have nl2 : ([("_held", V.ref h), ("_worths", V.ref wl)] : List (Str × V)).lookup ("total" : Str) = none := two0 (by decide) (by decide)
    walk_at "go"
    refine k_Ke_worths t fun p1 H1 np1 s1 hp1 => ?_
    have ha1 := s1 _ _ ha
    walk_at "go"
    refine Z.r_lcOL ha1 two1 (SqL.of (s1 _ _ t.held)) (fun _ => rfl) (fun D i H' => Same H1 H' ∧ H' D = some (.lst (ks.take i))) ?_ ?_ ?_ ?_
    · intro D H2 nD s2 h2
      exact ⟨s2, h2⟩
    · rintro D i H2 nD ⟨s2, _⟩
      exact SqL.of (s2 _ _ (s1 _ _ t.held))
    · rintro D i x H2 nD hx ⟨s2, hD⟩
      walk_at "go"
      refine Z.r_ap hD (by rw [List.length_take]; omega) fun H3 b3 h3 => ⟨Z.But.back s2 nD b3, ?_⟩
      rw [h3, List.take_succ, hx]
      rfl
    rintro D H2 nD ⟨s2, hD⟩
    rw [List.take_length] at hD
    walk_at "go"
    intro tp H3 ntp s3 htp
    have s13 := s2.trans s3
    have hp3 := s13 _ _ hp1
    have hr3 := s13 _ _ (s1 _ _ hrr)
    walk_at "go"
    have F : Fine 1 (.list (ws.map PyData.int)) := .list (Fine.map fun i _ => .int i)
    have dpi : ∀ {H' : Hp}, DpAll K H' (ws.map V.int) (ws.map PyData.int) := dp_map fun i _ => .int i
    refine Z.r_neP (.lst (SqL.of hp3) dpi) (.lst (SqL.of hr3) dpi) (F.shaped (by decide)) (F.shaped (by decide)) ?_
    rw [F.same]
    walk_at "go"
    refine Z.r_lcL (SqL.of hp3) (fun _ => rfl) (fun D i H' => Same H3 H' ∧ H' D = some (.lst ((List.replicate i false).map V.bl))) ?_ ?_ ?_ ?_
    · intro D H1 nD s1 h1
      exact ⟨s1, h1⟩
    · rintro D i H1 nD ⟨s1, _⟩
      exact SqL.of (s1 _ _ hp3)
    · rintro D i x H4 nD hx ⟨s4, hD⟩
      rw [List.getElem?_map] at hx
      cases hu : ws[i]? with
      | none => rw [hu] at hx; cases hx
      | some n =>
      rw [hu] at hx
      cases hx
      have li := (List.getElem?_eq_some_iff.mp hu).1
      have := t.len
      walk_at "go"
      refine k_law_is_int (t := .num n) rfl ?_
      walk_at "go"
      refine Z.r_ap hD (by rw [List.length_map, List.length_replicate]; omega) fun H5 b5 h5 => ⟨Z.But.back s4 nD b5, ?_⟩
      rw [h5, List.replicate_succ', List.map_append]
      rfl
    rintro D4 H4 nD4 ⟨s4, hD4⟩
    walk_at "go"
    refine Z.r_anyB (SqL.of hD4) ?_
    rw [any_falses]
    have s14 := s13.trans s4
    have hp4 := s14 _ _ hp1
    have lws := t.len
    walk_at "go"
    refine Z.r_app hp4 (by rw [List.length_map]; omega) fun H5 b5 h5 => ?_
    have keep5 : Same H H5 := Z.But.back (s1.trans s14) np1 b5
    have t5 := t.same keep5
    have ha5 := keep5 _ _ ha
    have hp5 := keep5 _ _ hp
    have hr5 := keep5 _ _ hrr
    have hD5 : H5 D = some (.lst ks) := b5 _ _ (ne_of_none hp1 nD).symm (s4 _ _ (s3 _ _ hD))
    walk_at "go"
    refine k_Ke_total t5 ?_
    walk_at "go"
    refine k_Ke_len t5 (Z.r_inB (by omega) ?_)
    walk_at "go"
    refine Z.no (by simp) ?_
    walk_at "go"
    refine Z.no (by simp) ?_
    walk_at "go"
    refine k_law_is_int (t := .num ws.sum) rfl ?_
    walk_at "go"
    refine Z.r_sumI (SqL.of hr5) ?_
    walk_at "go"
    refine Z.no (by simp) ?_
    walk_at "go"
    refine Z.r_lcR (by omega) (by omega) (fun _ => rfl) (fun D i H' => Same H5 H' ∧ H' D = some (.lst ((List.replicate i true).map V.bl))) ?_ ?_ ?_
    · intro D H1 nD s1 h1
      exact ⟨s1, h1⟩
    · rintro D' i H6 nD' hi ⟨s6, hD'⟩
      have li : i < ks.length := by omega
      have ix : atI ks (i : Int) = some ks[i] := atI_nat (List.getElem?_eq_getElem li)
      have kz := hk _ (List.getElem_mem li)
      have hD6 := s6 _ _ hD5
      have hp6 := s6 _ _ hp5
      generalize ks[i] = z at *
      walk_at "go"
      intro l1 H7 nl s7 hl1
      have hp7 := s7 _ _ hp6
      walk_at "go"
      have kz7 := kz.same ((keep5.trans s6).trans s7)
      refine k_placeK hl1 (fun y hy => by rw [List.mem_singleton.mp hy]; exact kz7) kz7 (Nat.le_of_ble_eq_true rfl) fun H8 s8 => ?_
      have e0 : placeI z [z] = 0 := by unfold placeI idxV; rw [if_pos List.mem_cons_self, if_pos rfl]; rfl
      rw [e0]
      walk_at "go"
      refine Z.r_ap (s8 _ _ (s7 _ _ hD')) (by rw [List.length_map, List.length_replicate]; omega) fun H9 b9 h9 => ⟨Z.But.back ((s6.trans s7).trans s8) nD' b9, ?_⟩
      rw [h9, List.replicate_succ', List.map_append]
      rfl
    · rintro D' H6 nD' ⟨s6, hD'⟩
      walk_at "go"
      refine Z.r_allG (SqL.of hD') ?_
      rw [all_trues]
      exact q _ (keep5.trans s6)
theorem k_shows {C D a h wl p r : Addr} {ks : List V} {ws : List Int} {H : Hp} {Q : VK} {E : XK} (t : TabAt D H a h wl ks ws) (hk : ∀ z ∈ ks, KeyAt C H z) (hp : H p = some (.lst ks)) (hr : H r = some (.lst (ws.map V.int))) (ln : ks.length ≤ 100) (q : ∀ H', Same H H' → Q (.bl true) H') :
    sp_shows C D ([.ref a, .ref p, .ref r] ++ []) H Q E := ⟨a, h, wl, p, r, ks, ws, rfl, t, hk, hp, hr, ln, q⟩
theorem sc_law : FnScope ["_law_script", "_law_at", "_law_bag_here", "_law_key", "_law_k", "_law_tables", "_law_keys_here", "_law_worths", "_law_table", "_law_place_here", "_law_worth"] ["_law_script"] (defScope s_law) := ⟨rfl, rfl, rfl, by decide +kernel, rfl, by decide +kernel, by decide +kernel⟩
/-- one table and what the law holds of it -/
structure Sd where
  a : Addr
  h : Addr
  w : Addr
  p : Addr
  r : Addr
  ks : List V
  ws : List Int
structure SdAt (C D : Addr) (H : Hp) (s : Sd) : Prop where
  tab : TabAt D H s.a s.h s.w s.ks s.ws
  ps : H s.p = some (.lst s.ks)
  rs : H s.r = some (.lst (s.ws.map V.int))
  ok : ∀ z ∈ s.ks, KeyAt C H z
theorem SdAt.same {C D : Addr} {H H' : Hp} {s : Sd} (e : Same H H') (t : SdAt C D H s) : SdAt C D H' s := ⟨t.tab.same e, e _ _ t.ps, e _ _ t.rs, fun z hz => (t.ok z hz).same e⟩
/-- all stands but some lists -/
def Frm (ms : List Addr) (H H' : Hp) : Prop := ∀ z o, z ∉ ms → H z = some o → H' z = some o
def Lsts (ms : List Addr) (H : Hp) : Prop := ∀ m ∈ ms, ∃ xs, H m = some (.lst xs)
theorem lst_out {ms : List Addr} {H : Hp} {z : Addr} {o : HO} (l : Lsts ms H) (h : H z = some o) (d : ∀ xs, o ≠ .lst xs) : z ∉ ms := fun m => by
  obtain ⟨xs, e⟩ := l z m
  rw [e] at h
  cases h
  exact d _ rfl
theorem KeyAt.frm {C : Addr} {ms : List Addr} {H H' : Hp} {x : V} (f : Frm ms H H') (l : Lsts ms H) (h : KeyAt C H x) : KeyAt C H' x := by
  obtain ⟨t, r, n⟩ := h
  refine ⟨t, ?_, n⟩
  cases t with
  | non => exact r
  | num i => exact r
  | mark m =>
    obtain ⟨a, dx, e, ha⟩ := r
    exact ⟨a, dx, e, f _ _ (lst_out l ha (fun _ => nofun)) ha⟩
theorem EnsOk.frm {C : Addr} {ms : List Addr} {H H' : Hp} {es : Ens} (f : Frm ms H H') (l : Lsts ms H) (h : EnsOk C H es) : EnsOk C H' es := fun e m => by
  obtain ⟨r, n⟩ := h e m
  refine ⟨?_, n⟩
  obtain ⟨x, t⟩ := e
  cases t with
  | non => exact r
  | num i => exact r
  | mark m =>
    obtain ⟨a, dx, e, ha⟩ := r
    exact ⟨a, dx, e, f _ _ (lst_out l ha (fun _ => nofun)) ha⟩
theorem SdAt.frm {C D : Addr} {ms : List Addr} {H H' : Hp} {s : Sd} (f : Frm ms H H') (l : Lsts ms H) (n : ∀ z ∈ [s.h, s.w, s.p, s.r], z ∉ ms) (t : SdAt C D H s) : SdAt C D H' s := by
  obtain ⟨⟨⟨dx, h1⟩, h2, h3, h4, h5⟩, h6, h7, h8⟩ := t
  exact ⟨⟨⟨dx, f _ _ (lst_out l h1 (fun _ => nofun)) h1⟩, f _ _ (n _ (by simp)) h2, f _ _ (n _ (by simp)) h3, h4, h5⟩, f _ _ (n _ (by simp)) h6, f _ _ (n _ (by simp)) h7, fun z hz => (h8 z hz).frm f l⟩
def muts (b kl ol : Addr) (x y : Sd) : List Addr := [b, kl, ol, x.h, x.w, y.h, y.w]
structure S60 (C D : Addr) (H0 : Hp) (b lp tl kl ol : Addr) (es : Ens) (x y : Sd) (n N : Nat) (H : Hp) : Prop where
  keep : Same H0 H
  fresh : ∀ m ∈ muts b kl ol x y, H0 m = none
  nd : (muts b kl ol x y).Nodup
  im : ∀ z ∈ [tl, lp, x.p, x.r, y.p, y.r], z ∉ muts b kl ol x y
  tl_ : H tl = some (.lst [.ref x.a, .ref y.a])
  kl_ : H kl = some (.lst [.ref x.p, .ref y.p])
  ol_ : H ol = some (.lst [.ref x.r, .ref y.r])
  sx : SdAt C D H x
  sy : SdAt C D H y
  lx : x.ks.length ≤ n
  ly : y.ks.length ≤ n
  bag : Bag H b N
  lp_ : H lp = some (.lst (es.map (·.1)))
  es_ : EnsOk C H es
theorem S60.same {C D : Addr} {H0 H H' : Hp} {b lp tl kl ol : Addr} {es : Ens} {x y : Sd} {n N : Nat} (e : Same H H') (S : S60 C D H0 b lp tl kl ol es x y n N H) : S60 C D H0 b lp tl kl ol es x y n N H' :=
  ⟨S.keep.trans e, S.fresh, S.nd, S.im, e _ _ S.tl_, e _ _ S.kl_, e _ _ S.ol_, S.sx.same e, S.sy.same e, S.lx, S.ly, S.bag.same e, e _ _ S.lp_, S.es_.same e⟩
def sel (k : Nat) (x y : Sd) : Sd := if k = 0 then x else y
theorem S60.lsts {C D : Addr} {H0 H : Hp} {b lp tl kl ol : Addr} {es : Ens} {x y : Sd} {n N : Nat} (S : S60 C D H0 b lp tl kl ol es x y n N H) (k : Nat) : Lsts [b, kl, ol, (sel k x y).h, (sel k x y).w] H := by
  intro m hm
  simp only [List.mem_cons, List.not_mem_nil, or_false] at hm
  obtain ⟨_, _, _, hb, _⟩ := S.bag
  rcases hm with rfl | rfl | rfl | rfl | rfl
  · exact ⟨_, hb⟩
  · exact ⟨_, S.kl_⟩
  · exact ⟨_, S.ol_⟩
  · unfold sel; split
    · exact ⟨_, S.sx.tab.held⟩
    · exact ⟨_, S.sy.tab.held⟩
  · unfold sel; split
    · exact ⟨_, S.sx.tab.worths⟩
    · exact ⟨_, S.sy.tab.worths⟩
theorem S60.put {C D : Addr} {H0 H H' : Hp} {b lp tl kl ol : Addr} {es : Ens} {x y : Sd} {n N M : Nat} {k : Nat} (hk : k < 2) (S : S60 C D H0 b lp tl kl ol es x y n N H) (s' : Sd) (ea : s'.a = (sel k x y).a) (eh : s'.h = (sel k x y).h) (ew : s'.w = (sel k x y).w)
    (f : Frm [b, kl, ol, (sel k x y).h, (sel k x y).w] H H') (im : ∀ z ∈ [s'.p, s'.r], z ∉ muts b kl ol x y) (hkl : H' kl = some (.lst ([V.ref x.p, .ref y.p].set k (.ref s'.p)))) (hol : H' ol = some (.lst ([V.ref x.r, .ref y.r].set k (.ref s'.r))))
    (hs : SdAt C D H' s') (ln : s'.ks.length ≤ n + 1) (bg : Bag H' b M) : ∃ x' y', S60 C D H0 b lp tl kl ol es x' y' (n + 1) M H' ∧ sel k x' y' = s' := by
  have ls := S.lsts k
  have nd := S.nd
  have i0 := S.im
  have kp : Same H0 H' := fun z o hz => f _ _ (fun m => by
    have hm : z ∈ muts b kl ol x y := by
      unfold muts
      unfold sel at m
      simp only [List.mem_cons, List.not_mem_nil, or_false] at m ⊢
      split at m
      · rcases m with h | h | h | h | h <;> simp [h]
      · rcases m with h | h | h | h | h <;> simp [h]
    have := S.fresh z hm
    rw [hz] at this; cases this) (S.keep _ _ hz)
  have seven : ∀ {z : Addr}, z ∉ muts b kl ol x y → ¬ z = b ∧ ¬ z = kl ∧ ¬ z = ol ∧ ¬ z = x.h ∧ ¬ z = x.w ∧ ¬ z = y.h ∧ ¬ z = y.w := fun h => by
    unfold muts at h
    simpa only [List.mem_cons, List.not_mem_nil, or_false, not_or] using h
  unfold muts at nd
  simp only [List.nodup_cons, List.mem_cons, List.not_mem_nil, or_false, not_or] at nd
  have imp := seven (im s'.p (by simp))
  have imr := seven (im s'.r (by simp))
  obtain ⟨⟨n1, n2, n3, n4, n5, n6⟩, ⟨n7, n8, n9, n10, n11⟩, ⟨n12, n13, n14, n15⟩, ⟨n16, n17, n18⟩, ⟨n19, n20⟩, n21, _⟩ := nd
  obtain ⟨t1, t2, t3, t4, t5, t6, t7⟩ := seven (i0 tl (by simp))
  obtain ⟨q1, q2, q3, q4, q5, q6, q7⟩ := seven (i0 lp (by simp))
  obtain ⟨xp1, xp2, xp3, xp4, xp5, xp6, xp7⟩ := seven (i0 x.p (by simp))
  obtain ⟨xr1, xr2, xr3, xr4, xr5, xr6, xr7⟩ := seven (i0 x.r (by simp))
  obtain ⟨yp1, yp2, yp3, yp4, yp5, yp6, yp7⟩ := seven (i0 y.p (by simp))
  obtain ⟨yr1, yr2, yr3, yr4, yr5, yr6, yr7⟩ := seven (i0 y.r (by simp))
  rcases (show k = 0 ∨ k = 1 by omega) with rfl | rfl
  · have e : sel 0 x y = x := rfl
    rw [e] at ea eh ew f ls
    refine ⟨s', y, ⟨kp, ?_, ?_, ?_, ?_, hkl, hol, hs, S.sy.frm f ls ?_, ln, Nat.le_succ_of_le S.ly, bg, f _ _ ?_ S.lp_, S.es_.frm f ls⟩, rfl⟩
    · intro m hm; unfold muts at hm; rw [eh, ew] at hm; exact S.fresh m hm
    · unfold muts; rw [eh, ew]; exact S.nd
    · intro z hz
      unfold muts
      rw [eh, ew]
      simp only [List.mem_cons, List.not_mem_nil, or_false, not_or] at hz ⊢
      rcases hz with rfl | rfl | rfl | rfl | rfl | rfl
      · exact ⟨t1, t2, t3, t4, t5, t6, t7⟩
      · exact ⟨q1, q2, q3, q4, q5, q6, q7⟩
      · exact imp
      · exact imr
      · exact ⟨yp1, yp2, yp3, yp4, yp5, yp6, yp7⟩
      · exact ⟨yr1, yr2, yr3, yr4, yr5, yr6, yr7⟩
    · rw [ea]; exact f _ _ (by simp [t1, t2, t3, t4, t5]) S.tl_
    · intro z hz
      simp only [List.mem_cons, List.not_mem_nil, or_false] at hz
      rcases hz with rfl | rfl | rfl | rfl
      · simp [Ne.symm n5, Ne.symm n10, Ne.symm n14, Ne.symm n17, Ne.symm n19]
      · simp [Ne.symm n6, Ne.symm n11, Ne.symm n15, Ne.symm n18, Ne.symm n20]
      · simp [yp1, yp2, yp3, yp4, yp5]
      · simp [yr1, yr2, yr3, yr4, yr5]
    · simp [q1, q2, q3, q4, q5]
  · have e : sel 1 x y = y := rfl
    rw [e] at ea eh ew f ls
    refine ⟨x, s', ⟨kp, ?_, ?_, ?_, ?_, hkl, hol, S.sx.frm f ls ?_, hs, Nat.le_succ_of_le S.lx, ln, bg, f _ _ ?_ S.lp_, S.es_.frm f ls⟩, rfl⟩
    · intro m hm; unfold muts at hm; rw [eh, ew] at hm; exact S.fresh m hm
    · unfold muts; rw [eh, ew]; exact S.nd
    · intro z hz
      unfold muts
      rw [eh, ew]
      simp only [List.mem_cons, List.not_mem_nil, or_false, not_or] at hz ⊢
      rcases hz with rfl | rfl | rfl | rfl | rfl | rfl
      · exact ⟨t1, t2, t3, t4, t5, t6, t7⟩
      · exact ⟨q1, q2, q3, q4, q5, q6, q7⟩
      · exact ⟨xp1, xp2, xp3, xp4, xp5, xp6, xp7⟩
      · exact ⟨xr1, xr2, xr3, xr4, xr5, xr6, xr7⟩
      · exact imp
      · exact imr
    · rw [ea]; exact f _ _ (by simp [t1, t2, t3, t6, t7]) S.tl_
    · intro z hz
      simp only [List.mem_cons, List.not_mem_nil, or_false] at hz
      rcases hz with rfl | rfl | rfl | rfl
      · simp [Ne.symm n3, Ne.symm n8, Ne.symm n12, n17, n18]
      · simp [Ne.symm n4, Ne.symm n9, Ne.symm n13, n19, n20]
      · simp [xp1, xp2, xp3, xp6, xp7]
      · simp [xr1, xr2, xr3, xr6, xr7]
    · simp [q1, q2, q3, q6, q7]
theorem nn_of {H : Hp} {a : Addr} {o : HO} (h : H a = some o) : H a ≠ none := fun e => by rw [e] at h; cases h
theorem nn_same {H H' : Hp} {a : Addr} (s : Same H H') (h : H a ≠ none) : H' a ≠ none := fun e => by
  cases q : H a with
  | none => exact h q
  | some o => rw [s _ _ q] at e; cases e
theorem nn_ne {H : Hp} {a b : Addr} (n : H b = none) (h : H a ≠ none) : a ≠ b := fun e => h (e ▸ n)
local macro_rules | `(tactic| walk_at "isat") => `(tactic| first
  | assumption
  | (refine' nn_of ?nne; (case nne => assumption))
  | (refine nn_same (by assumption) ?_; walk_at "isat"))
local macro_rules | `(tactic| walk_at "dif") => `(tactic| first
  | assumption
  | (apply Ne.symm; assumption)
  | (refine' nn_ne ?dn ?dh; (case dn => assumption); (case dh => walk_at "isat"))
  | (apply Ne.symm; refine' nn_ne ?dn ?dh; (case dn => assumption); (case dh => walk_at "isat")))
theorem S60.bagged {C D : Addr} {H0 H H' : Hp} {b lp tl kl ol : Addr} {es : Ens} {x y : Sd} {n N M : Nat} (e : Z.But b H H') (bg : Bag H' b M) (S : S60 C D H0 b lp tl kl ol es x y n N H) : S60 C D H0 b lp tl kl ol es x y n M H' := by
  have nb : ∀ z ∈ [tl, lp, x.p, x.r, y.p, y.r], z ≠ b := fun z hz h => S.im z hz (by rw [h]; exact List.mem_cons_self)
  have nd := S.nd
  unfold muts at nd
  have nm : ∀ z ∈ [kl, ol, x.h, x.w, y.h, y.w], z ≠ b := fun z hz h => (List.nodup_cons.mp nd).1 (h ▸ hz)
  obtain ⟨_, _, _, hb, _⟩ := S.bag
  have f : Frm [b] H H' := fun z o hz h => e _ _ (by simpa using hz) h
  have l : Lsts [b] H := fun m hm => by rw [List.mem_singleton.mp hm]; exact ⟨_, hb⟩
  have h0 := S.fresh b List.mem_cons_self
  refine ⟨fun z o hz => e _ _ (ne_of_none hz h0) (S.keep _ _ hz), S.fresh, S.nd, S.im, e _ _ (nb _ (by simp)) S.tl_, e _ _ (nm _ (by simp)) S.kl_, e _ _ (nm _ (by simp)) S.ol_, S.sx.frm f l ?_, S.sy.frm f l ?_, S.lx, S.ly, bg, e _ _ (nb _ (by simp)) S.lp_, S.es_.frm f l⟩
  · intro z hz
    simp only [List.mem_cons, List.not_mem_nil, or_false] at hz ⊢
    rcases hz with rfl | rfl | rfl | rfl
    · exact nm _ (by simp)
    · exact nm _ (by simp)
    · exact nb _ (by simp)
    · exact nb _ (by simp)
  · intro z hz
    simp only [List.mem_cons, List.not_mem_nil, or_false] at hz ⊢
    rcases hz with rfl | rfl | rfl | rfl
    · exact nm _ (by simp)
    · exact nm _ (by simp)
    · exact nb _ (by simp)
    · exact nb _ (by simp)
theorem S60.sel_ {C D : Addr} {H0 H : Hp} {b lp tl kl ol : Addr} {es : Ens} {x y : Sd} {n N : Nat} (k : Nat) (S : S60 C D H0 b lp tl kl ol es x y n N H) : SdAt C D H (sel k x y) ∧ (sel k x y).ks.length ≤ n := by
  unfold sel; split
  · exact ⟨S.sx, S.lx⟩
  · exact ⟨S.sy, S.ly⟩
theorem sel_at (f : Sd → Addr) {k : Nat} (hk : k < 2) (x y : Sd) : atI [V.ref (f x), .ref (f y)] (k : Int) = some (.ref (f (sel k x y))) := by
  rcases (show k = 0 ∨ k = 1 by omega) with rfl | rfl <;> rfl
theorem S60.mono {C D : Addr} {H0 H : Hp} {b lp tl kl ol : Addr} {es : Ens} {x y : Sd} {n N m M : Nat} (h1 : n ≤ m) (h2 : N ≤ M) (S : S60 C D H0 b lp tl kl ol es x y n N H) : S60 C D H0 b lp tl kl ol es x y m M H :=
  ⟨S.keep, S.fresh, S.nd, S.im, S.tl_, S.kl_, S.ol_, S.sx, S.sy, Nat.le_trans S.lx h1, Nat.le_trans S.ly h1, S.bag.mono h2, S.lp_, S.es_⟩
theorem sel_set (f : Sd → Addr) {k : Nat} (hk : k < 2) (x y : Sd) : [V.ref (f x), .ref (f y)].set k (.ref (f (sel k x y))) = [V.ref (f x), .ref (f y)] := by
  rcases (show k = 0 ∨ k = 1 by omega) with rfl | rfl <;> rfl
theorem idxV_app {x : V} : ∀ {ks : List V}, x ∉ ks → idxV x (ks ++ [x]) = ks.length
  | [], _ => if_pos rfl
  | y :: r, h => by
    have e : y ≠ x := fun e => h (e ▸ List.mem_cons_self)
    show (if y = x then 0 else idxV x (r ++ [x]) + 1) = r.length + 1
    rw [if_neg e, idxV_app fun m => h (List.mem_cons_of_mem _ m)]
theorem put_at {x : V} {v : Int} {ks : List V} {ws : List Int} (l : ws.length = ks.length) : (putWs x v ks ws)[idxV x (putKs x ks)]? = some v ∧ x ∈ putKs x ks := by
  unfold putWs putKs
  by_cases h : x ∈ ks
  · rw [if_pos h, if_pos h]
    have := idxV_lt h
    exact ⟨by rw [List.getElem?_set_self (by omega)], h⟩
  · rw [if_neg h, if_neg h, idxV_app h, ← l, List.getElem?_append_right (Nat.le_refl _), Nat.sub_self]
    exact ⟨rfl, by simp⟩
theorem cut_lo60 {xs : List V} {i : Nat} (h : i ≤ xs.length) : cutV xs none (some (i : Int)) = xs.take i := by
  unfold cutV
  rw [HT.sIx_none, HT.sIx_nat, List.drop_zero, Nat.sub_zero, Nat.min_eq_left h]
theorem cut_hi60 {xs : List V} {i : Nat} (h : i ≤ xs.length) : cutV xs (some (i : Int)) none = xs.drop i := by
  unfold cutV
  rw [HT.sIx_none, HT.sIx_nat, Nat.min_eq_left h, List.take_of_length_le (by rw [List.length_drop]; exact Nat.le_refl _)]
theorem cut_set60 {ws : List Int} {i : Nat} {v : Int} (h : i < ws.length) : cutV (ws.map V.int) none (some (i : Int)) ++ [V.int v] ++ cutV (ws.map V.int) (some ((i : Int) + 1)) none = (ws.set i v).map V.int := by
  rw [show (i : Int) + 1 = ((i + 1 : Nat) : Int) by omega, cut_lo60 (by rw [List.length_map]; omega), cut_hi60 (by rw [List.length_map]; omega), List.map_set, List.set_eq_take_append_cons_drop, if_pos (by rw [List.length_map]; exact h)]
  simp
theorem placeI_ge (x : V) (ks : List V) : decide (placeI x ks ≥ 0) = decide (x ∈ ks) := by
  unfold placeI
  by_cases h : x ∈ ks
  · rw [if_pos h, decide_eq_true h]; exact decide_eq_true (by omega)
  · rw [if_neg h, decide_eq_false h]; rfl
theorem placeI_lt (x : V) (ks : List V) : decide (placeI x ks < 0) = !decide (x ∈ ks) := by
  unfold placeI
  by_cases h : x ∈ ks
  · rw [if_pos h, decide_eq_true h]; exact decide_eq_false (by omega)
  · rw [if_neg h, decide_eq_false h]; rfl
def sp_law (K : PySem.W.Frag) : Sp := fun vs H Q _ => ∃ (a : Addr) (ns : List Int), vs = [.ref a] ∧ SqL K H a (ns.map V.int) ∧ ns.length ≤ 63 ∧ ∀ H', Q (.bl true) H'
theorem ok_law (T : Top K mg) : FnOk P w K mg base CX0 6 T.f_law T.fd_law ["_law_script"] (sp_law K) := by
  refine T.F_law.ok sc_law (fun vs H Q E h => ?_) (fun cdv A outer s H vs Q E hr h => ?_)
  · obtain ⟨a, ns, rfl, _⟩ := h
    rfl
  · obtain ⟨a, ns, rfl, hS, hlen, q⟩ := h
    refine ⟨_, pss_cons (ps_for PassesOwn.never rfl (pi_range1 (by rfl) T.z_range (pa_cons (pe_callB (Z.c_max2 rfl) (by rfl) T.z_max (by decide +kernel) (pa_cons (pe_int) (pa_cons (pe_callB (Z.c_min2 rfl) (by rfl) T.z_min (by decide +kernel) (pa_cons (pe_int) (pa_cons (pe_callB Z.c_len (by rfl) T.z_len (by decide +kernel) (pa_cons (pv 0) (pa_nil))) (pa_nil)))) (pa_nil)))) (pa_nil))) (pg_name (i := 1) sc_law.nd rfl (.inl rfl)) (pss_cons (ps_set (i := 2) sc_law.nd rfl (.inl rfl) (pe_call (ok_law_bag T) (hr.mono (by decide)) (by rfl) T.mg_law_bag T.F_law_bag.kp T.B_law_bag .nil pass0 (pa_cons (pv 0) (pa_cons (pv 1) (pa_nil))))) (pss_cons (ps_asg (pe_tup (pa_cons (pe_lst (pa_cons (pe_make0 T.mk_Keyed (ok_Keyed___init T) (hr.mono (by decide)) (by rfl) T.mgC_Keyed T.B_Keyed___init .nil pass0) (pa_cons (pe_make0 T.mk_Keyed (ok_Keyed___init T) (hr.mono (by decide)) (by rfl) T.mgC_Keyed T.B_Keyed___init .nil pass0) (pa_nil)))) (pa_cons (pe_lst (pa_cons (pe_lst (pa_nil)) (pa_cons (pe_lst (pa_nil)) (pa_nil)))) (pa_cons (pe_lst (pa_cons (pe_lst (pa_nil)) (pa_cons (pe_lst (pa_nil)) (pa_nil)))) (pa_nil))))) (pg_tup rfl (pgs_cons (pg_name (i := 5) sc_law.nd rfl (.inr rfl)) (pgs_cons (pg_name (i := 6) sc_law.nd rfl (.inl rfl)) (pgs_cons (pg_name (i := 7) sc_law.nd rfl (.inl rfl)) (pgs_nil)))))) (pss_cons (ps_if (pt_not (pt_val (pe_call (ok_law_shows T) (hr.mono (by decide)) (by rfl) T.mg_law_shows T.F_law_shows.kp T.B_law_shows .nil pass0 (pa_cons (pe_ix (Z.ix_seqG (K := K) rfl) (pv 5) (pe_int) (fun _ _ => rfl)) (pa_cons (pe_lst (pa_nil)) (pa_cons (pe_lst (pa_nil)) (pa_nil))))))) (pss_one (ps_ret (pe_bl))) (pss_nil)) (pss_cons (ps_for PassesOwn.never rfl (pi_list (pe_call (ok_law_keys T) (hr.mono (by decide)) (by rfl) T.mg_law_keys T.F_law_keys.kp T.B_law_keys .nil pass0 (pa_cons (pv 2) (pa_cons (pe_int) (pa_nil))))) (pg_name (i := 3) sc_law.nd rfl (.inl rfl)) (pss_cons (ps_set (i := 4) sc_law.nd rfl (.inr rfl) (pe_call (ok_law_draw T) (hr.mono (by decide)) (by rfl) T.mg_law_draw T.F_law_draw.kp T.B_law_draw .nil pass0 (pa_cons (pv 2) (pa_cons (pe_int) (pa_nil))))) (pss_cons (ps_set (i := 8) sc_law.nd rfl (.inl rfl) (pe_ix (Z.ix_seqG (K := K) rfl) (pv 5) (pv 4) (fun _ _ => rfl))) (pss_cons (ps_set (i := 9) sc_law.nd rfl (.inl rfl) (pe_call (ok_law_place T) (hr.mono (by decide)) (by rfl) T.mg_law_place T.F_law_place.kp T.B_law_place .nil pass0 (pa_cons (pe_ix (Z.ix_seqG (K := K) rfl) (pv 6) (pv 4) (fun _ _ => rfl)) (pa_cons (pv 3) (pa_nil))))) (pss_cons (ps_if (pt_not (pt_val (pe_call (ok_law_says T) (hr.mono (by decide)) (by rfl) T.mg_law_says T.F_law_says.kp T.B_law_says .nil pass0 (pa_cons (pe_cmpR (Z.o_inI (k := 3) T.me_Keyed___contains (ok_Keyed___contains T) (hr.mono (by decide)) T.B_Keyed___contains) (pv 3) (pv 8) rfl) (pa_cons (pe_cmpR op_ge (pv 9) (pe_int) (nomark _)) (pa_nil)))))) (pss_one (ps_ret (pe_bl))) (pss_nil)) (pss_cons (ps_if ((pw_and (pt_cmpR op_lt (pv 9) (pe_int) (nomark _)) (pw_and1 (pt_not (pt_val (pe_call (ok_law_missing T) (hr.mono (by decide)) (by rfl) T.mg_law_missing T.F_law_missing.kp T.B_law_missing .nil pass0 (pa_cons (pv 8) (pa_cons (pv 3) (pa_nil)))))))).pt) (pss_one (ps_ret (pe_bl))) (pss_nil)) (pss_cons (ps_if ((pw_and (pt_cmpR op_ge (pv 9) (pe_int) (nomark _)) (pw_and1 (pt_cmpR op_ne (Z.pe_ixO (k := 3) T.me_Keyed___getitem (Z.fn_in T.F_Keyed___getitem) (ok_Keyed___getitem T) (hr.mono (by decide)) T.B_Keyed___getitem (pv 8) (pv 3)) (pe_ix (Z.ix_seqG (K := K) rfl) (pe_ix (Z.ix_seqG (K := K) rfl) (pv 7) (pv 4) (fun _ _ => rfl)) (pv 9) (fun _ _ => rfl)) (nomark _)))).pt) (pss_one (ps_ret (pe_bl))) (pss_nil)) (pss_cons (ps_if (pt_cmpR op_gt (pe_call (ok_law_draw T) (hr.mono (by decide)) (by rfl) T.mg_law_draw T.F_law_draw.kp T.B_law_draw .nil pass0 (pa_cons (pv 2) (pa_cons (pe_int) (pa_nil)))) (pe_int) (nomark _)) (pss_cons (ps_set (i := 10) sc_law.nd rfl (.inl rfl) (pe_call (ok_law_number T) (hr.mono (by decide)) (by rfl) T.mg_law_number T.F_law_number.kp T.B_law_number .nil pass0 (pa_cons (pv 2) (pa_nil)))) (pss_cons (ps_asg (pv 10) (pg_sub (pv 8) (pv 3) (Z.set_own (k := 3) T.me_Keyed___setitem (ok_Keyed___setitem T) (hr.mono (by decide)) T.B_Keyed___setitem T.nq_Keyed))) (pss_cons (ps_if (pt_cmpR op_lt (pv 9) (pe_int) (nomark _)) (pss_cons (ps_asg (pe_op op_cat (pe_ix (Z.ix_seqG (K := K) rfl) (pv 6) (pv 4) (fun _ _ => rfl)) (pe_lst (pa_cons (pv 3) (pa_nil)))) (pg_sub (pv 6) (pv 4) set_list)) (pss_one (ps_asg (pe_op op_cat (pe_ix (Z.ix_seqG (K := K) rfl) (pv 7) (pv 4) (fun _ _ => rfl)) (pe_lst (pa_cons (pv 10) (pa_nil)))) (pg_sub (pv 7) (pv 4) set_list)))) (pss_one (ps_asg (pe_op op_cat (pe_op op_cat (pe_slice sl_list (pe_ix (Z.ix_seqG (K := K) rfl) (pv 7) (pv 4) (fun _ _ => rfl)) po_none (po_some (pv 9))) (pe_lst (pa_cons (pv 10) (pa_nil)))) (pe_slice sl_list (pe_ix (Z.ix_seqG (K := K) rfl) (pv 7) (pv 4) (fun _ _ => rfl)) (po_some (pe_op op_add (pv 9) (pe_int))) po_none)) (pg_sub (pv 7) (pv 4) set_list)))) (pss_one (ps_if ((pw_or (pt_cmpR op_ne (Z.pe_ixO (k := 3) T.me_Keyed___getitem (Z.fn_in T.F_Keyed___getitem) (ok_Keyed___getitem T) (hr.mono (by decide)) T.B_Keyed___getitem (pv 8) (pv 3)) (pv 10) (nomark _)) (pw_or (pt_cmpR (Z.o_notInI (k := 3) T.me_Keyed___contains (ok_Keyed___contains T) (hr.mono (by decide)) T.B_Keyed___contains) (pv 3) (pv 8) rfl) (pw_or1 (pt_not (pt_val (pe_call (ok_law_is_int T) (hr.mono (by decide)) (by rfl) T.mg_law_is_int T.F_law_is_int.kp T.B_law_is_int .nil pass0 (pa_cons (Z.pe_ixO (k := 3) T.me_Keyed___getitem (Z.fn_in T.F_Keyed___getitem) (ok_Keyed___getitem T) (hr.mono (by decide)) T.B_Keyed___getitem (pv 8) (pv 3)) (pa_nil)))))))).pt) (pss_one (ps_ret (pe_bl))) (pss_nil)))))) (pss_nil)) (pss_one (ps_if (pt_not (pt_val (pe_call (ok_law_shows T) (hr.mono (by decide)) (by rfl) T.mg_law_shows T.F_law_shows.kp T.B_law_shows .nil pass0 (pa_cons (pv 8) (pa_cons (pe_ix (Z.ix_seqG (K := K) rfl) (pv 6) (pv 4) (fun _ _ => rfl)) (pa_cons (pe_ix (Z.ix_seqG (K := K) rfl) (pv 7) (pv 4) (fun _ _ => rfl)) (pa_nil))))))) (pss_one (ps_ret (pe_bl))) (pss_nil))))))))))) (pss_one (ps_for PassesOwn.never rfl (pi_range1 (by rfl) T.z_range (pa_cons (pe_int) (pa_nil))) (pg_name (i := 4) sc_law.nd rfl (.inr rfl)) (pss_cons (ps_if ((pw_or (pt_not (pt_val (pe_call (ok_law_shows T) (hr.mono (by decide)) (by rfl) T.mg_law_shows T.F_law_shows.kp T.B_law_shows .nil pass0 (pa_cons (pe_ix (Z.ix_seqG (K := K) rfl) (pv 5) (pv 4) (fun _ _ => rfl)) (pa_cons (pe_ix (Z.ix_seqG (K := K) rfl) (pv 6) (pv 4) (fun _ _ => rfl)) (pa_cons (pe_ix (Z.ix_seqG (K := K) rfl) (pv 7) (pv 4) (fun _ _ => rfl)) (pa_nil))))))) (pw_or1 (pt_cmpR (Z.o_inI (k := 3) T.me_Keyed___contains (ok_Keyed___contains T) (hr.mono (by decide)) T.B_Keyed___contains) (pe_make T.mk_Unnumbered (ok_Unnumbered___init T) (hr.mono (by decide)) (by rfl) T.mgC_Unnumbered T.B_Unnumbered___init .nil pass0 (pa_cons (pe_str) (pa_nil))) (pe_ix (Z.ix_seqG (K := K) rfl) (pv 5) (pv 4) (fun _ _ => rfl)) rfl))).pt) (pss_one (ps_ret (pe_bl))) (pss_nil)) (pss_one (ps_if (pt_not (pt_val (pe_callB (cr_all rfl) (by rfl) T.z_all (by decide +kernel) (pa_cons (pe_lc (own := [("_law_key", 3)]) (g := gName 3) (tt := tYes) rfl sc_law.nd (pi_list (pe_ix (Z.ix_seqG (K := K) rfl) (pv 6) (pv 4) (fun _ _ => rfl))) (blkOk_by (own := [("_law_key", 3)]) (N := ["_law_script", "_law_at", "_law_bag_here", "_law_key", "_law_k", "_law_tables", "_law_keys_here", "_law_worths", "_law_table", "_law_place_here", "_law_worth"]) (sc := defScope s_law) (by decide +kernel)) (fun _ _ _ _ _ => pg_name (i := 3) sc_law.nd rfl (.inl rfl)) (fun _ _ _ _ _ => pts_nil) (fun _ _ _ _ _ => pe_cmpR (Z.o_inI (k := 3) T.me_Keyed___contains (ok_Keyed___contains T) (hr.mono (by decide)) T.B_Keyed___contains) (pv 3) (pe_ix (Z.ix_seqG (K := K) rfl) (pv 5) (pv 4) (fun _ _ => rfl)) rfl)) (pa_nil))))) (pss_one (ps_ret (pe_bl))) (pss_nil))))))))))) (pss_one (ps_ret (pe_bl))), ?_⟩
    refine Z.r_start (σ' := [some (.ref a), none, none, none, none, none, none, none, none, none, none]) rfl ?_
    walk_at "go"
    refine Z.r_rng (Z.turns _ 2 (by decide) (by decide)).1 (Z.turns _ 2 (by decide) (by decide)).2 (fun i σ' H' => Same H H' ∧ ∃ v1 v2 v3 v4 v5 v6 v7 v8 v9 v10, σ' = [some (.ref a), v1, v2, v3, v4, v5, v6, v7, v8, v9, v10]) ?_ ?_ ?_
    · exact ⟨Same.refl H, _, _, _, _, _, _, _, _, _, _, rfl⟩
    · rintro i σ' H0 hi ⟨s0, v1, v2, v3, v4, v5, v6, v7, v8, v9, v10, rfl⟩
      have hi5 := Int.lt_of_lt_of_le hi (Z.turns_le _ 2 (by decide))
      walk_at "go"
      refine k_law_bag (s0.seq hS) (by omega) ?_
      intro b H1 s1 nb g1
      walk_at "go"
      refine r_mkKe fun x0 h0 w0 H2 nx0 nh0 nw0 s2 t0 => ?_
      walk_at "go"
      refine r_mkKe fun x1 h1 w1 H3 nx1 nh1 nw1 s3 t1 => ?_
      walk_at "go"
      intro tl H4 ntl s4 htl
      walk_at "go"
      intro p0 H5 np0 s5 hp0
      walk_at "go"
      intro p1 H6 np1 s6 hp1
      walk_at "go"
      intro kl H7 nkl s7 hkl
      walk_at "go"
      intro r0 H8 nr0 s8 hr0
      walk_at "go"
      intro r1 H9 nr1 s9 hr1
      walk_at "go"
      intro ol H10 nol s10 hol
      walk_at "go"
      intro tp H11 ntp s11 htp
      walk_at "go"
      intro e0 H12 ne0 s12 he0
      walk_at "go"
      intro e1 H13 ne1 s13 he1
      have s1213 := s12.trans s13
      have s1113 := s11.trans s1213
      have s1013 := s10.trans s1113
      have s913 := s9.trans s1013
      have s813 := s8.trans s913
      have s713 := s7.trans s813
      have s613 := s6.trans s713
      have s513 := s5.trans s613
      have s413 := s4.trans s513
      have s313 := s3.trans s413
      walk_at "go"
      refine k_shows (t0.same s313) (fun z hz => by cases hz) (s13 _ _ he0) he1 (by decide) fun H14 s14 => ?_
      walk_at "go"
      have g14 := g1.same (s2.trans (s313.trans s14))
      refine k_keys g14 (by omega) (by decide) (by decide) fun lp es H15 nlp t15 g15 hlp nlpb hnl hes htg => ?_
      obtain ⟨_, _, _, hb14, _⟩ := id g14
      have nH0 : ∀ {z : Addr} {Hx : Hp}, Same H0 Hx → Hx z = none → H0 z = none := fun {z Hx} e h => by
        cases q : H0 z with
        | none => rfl
        | some o => rw [e _ _ q] at h; cases h
      have hb1 : ∃ o, H1 b = some o := by
        obtain ⟨_, _, _, h, _⟩ := g1
        exact ⟨_, h⟩
      obtain ⟨ob1, hb1⟩ := hb1
      have hh0 := t0.held
      have hw0 := t0.worths
      have hh1 := t1.held
      have hw1 := t1.worths
      have hne0 := t0.ne
      have hne1 := t1.ne
      have S : S60 T.C_Unnumbered T.C_Keyed H0 b lp tl kl ol es ⟨x0, h0, w0, p0, r0, [], []⟩ ⟨x1, h1, w1, p1, r1, [], []⟩ 0 (0 + 6000) H15 := by
        have s114' : Same H1 H14 ∧ Same H2 H13 := ⟨s2.trans (s313.trans s14), s313⟩
        clear s1213 s1113 s1013 s913 s813 s713 s613 s513 s413 s313
        have db : ∀ z ∈ [kl, ol, h0, w0, h1, w1, tl, lp, p0, r0, p1, r1, x0, x1], z ≠ b := by
          simp only [List.forall_mem_cons]
          refine ⟨?_, ?_, ?_, ?_, ?_, ?_, ?_, ?_, ?_, ?_, ?_, ?_, ?_, ?_, nofun⟩
          all_goals walk_at "dif"
        simp only [List.forall_mem_cons] at db
        obtain ⟨dkl, dol, dh0, dw0, dh1, dw1, dtl, dlp, dp0, dr0, dp1, dr1, dx0, dx1, _⟩ := db
        have nd : (muts b kl ol ⟨x0, h0, w0, p0, r0, [], []⟩ ⟨x1, h1, w1, p1, r1, [], []⟩).Nodup := by
          simp only [muts, List.nodup_cons, List.mem_cons, List.not_mem_nil, or_false, not_or, List.nodup_nil, and_true, not_false_eq_true]
          refine ⟨⟨?_, ?_, ?_, ?_, ?_, ?_⟩, ⟨?_, ?_, ?_, ?_, ?_⟩, ⟨?_, ?_, ?_, ?_⟩, ⟨?_, ?_, ?_⟩, ⟨?_, ?_⟩, ?_⟩
          all_goals (refine (?_ : _ ≠ _); walk_at "dif")
        have im : ∀ z ∈ [tl, lp, p0, r0, p1, r1], z ∉ muts b kl ol ⟨x0, h0, w0, p0, r0, [], []⟩ ⟨x1, h1, w1, p1, r1, [], []⟩ := by
          intro z hz
          simp only [List.mem_cons, List.not_mem_nil, or_false] at hz
          simp only [muts, List.mem_cons, List.not_mem_nil, or_false, not_or]
          rcases hz with rfl | rfl | rfl | rfl | rfl | rfl
          all_goals
            refine ⟨?_, ?_, ?_, ?_, ?_, ?_, ?_⟩
            all_goals (refine (?_ : _ ≠ _); walk_at "dif")
        obtain ⟨s114, s313⟩ := s114'
        have s06 : Same H0 H6 := ((((s1.trans s2).trans s3).trans s4).trans s5).trans s6
        have s09 : Same H0 H9 := ((s06.trans s7).trans s8).trans s9
        have at15 : ∀ {z o} {Hx : Hp}, Same Hx H14 → z ≠ b → Hx z = some o → H15 z = some o := fun e n h => t15 _ _ n (e _ _ h)
        have f : Frm [b] H14 H15 := fun z o hz h => t15 _ _ (by simpa using hz) h
        obtain ⟨_, _, _, hb14, _⟩ := id g14
        have l : Lsts [b] H14 := fun m hm => by rw [List.mem_singleton.mp hm]; exact ⟨_, hb14⟩
        have s914 := (s10.trans (s11.trans (s12.trans s13))).trans s14
        have s614 := (s7.trans (s8.trans s9)).trans s914
        have s414 := (s5.trans s6).trans s614
        refine ⟨Z.But.back (s1.trans s114) nb t15, ?_, ?_, ?_, at15 s414 dtl htl, at15 ((s8.trans s9).trans s914) dkl hkl, at15 ((s11.trans (s12.trans s13)).trans s14) dol hol, SdAt.frm f l ?_ ⟨t0.same (s313.trans s14), (s6.trans s614) _ _ hp0, (s9.trans s914) _ _ hr0, fun z h => by cases h⟩,
          SdAt.frm f l ?_ ⟨t1.same ((s4.trans s414)), s614 _ _ hp1, s914 _ _ hr1, fun z h => by cases h⟩, Nat.le_refl _, Nat.le_refl _, g15, hlp, hes⟩
        · intro m hm
          simp only [muts, List.mem_cons, List.not_mem_nil, or_false] at hm
          rcases hm with rfl | rfl | rfl | rfl | rfl | rfl | rfl
          · exact nb
          · exact nH0 s06 nkl
          · exact nH0 s09 nol
          · exact nH0 s1 nh0
          · exact nH0 s1 nw0
          · exact nH0 (s1.trans s2) nh1
          · exact nH0 (s1.trans s2) nw1
        · exact nd
        · exact im
        · simp only [List.forall_mem_cons]
          simp [dh0, dw0, dp0, dr0]
        · simp only [List.forall_mem_cons]
          simp [dh1, dw1, dp1, dr1]
      refine Z.r_lst_by (SqL.of S.lp_) (fun n σ' H' => ∃ x y v3 v4 v8 v9 v10, σ' = [some (.ref a), some (.int i), some (.ref b), v3, v4, some (.ref tl), some (.ref kl), some (.ref ol), v8, v9, v10] ∧ S60 T.C_Unnumbered T.C_Keyed H0 b lp tl kl ol es x y n (6000 + 100 * n) H') ?_ ?_ ?_ ?_
      · exact ⟨_, _, _, _, _, _, _, rfl, S⟩
      · rintro n σ' H' ⟨x, y, v3, v4, v8, v9, v10, rfl, S⟩
        exact SqL.of S.lp_
      · rintro n ky σ' H16 hx' ⟨x, y, v3, v4, v8, v9, v10, rfl, S⟩
        rw [List.getElem?_map] at hx'
        cases hu : es[n]? with
        | none => rw [hu] at hx'; cases hx'
        | some e =>
        rw [hu] at hx'
        have hx' : e.1 = ky := Option.some.inj hx'
        have ln : n < es.length := (List.getElem?_eq_some_iff.mp hu).1
        have ke : ∀ {x' y' n' N' Hx}, S60 T.C_Unnumbered T.C_Keyed H0 b lp tl kl ol es x' y' n' N' Hx → KeyAt T.C_Unnumbered Hx ky := fun S' => by
          obtain ⟨r, ne⟩ := S'.es_ e (List.mem_of_getElem? hu)
          rw [hx'] at r
          exact ⟨e.2, r, ne⟩
        have gb := S.bag
        walk_at "go"
        walk_at "draw"
        intro d H17 d0 d1 t17 g17
        obtain ⟨k, rfl⟩ := Int.eq_ofNat_of_zero_le d0
        have hk : k < 2 := by omega
        have S17 := S.bagged t17 g17
        have tl17 := S17.tl_
        have kl17 := S17.kl_
        have ixA := sel_at Sd.a hk x y
        have ixP := sel_at Sd.p hk x y
        have ixR := sel_at Sd.r hk x y
        obtain ⟨sd17, lk⟩ := S17.sel_ k
        have ky17 := ke S17
        walk_at "go"
        refine k_placeK sd17.ps sd17.ok ky17 (by omega) fun H18 s18 => ?_
        have S18 := S17.same s18
        obtain ⟨sd18, _⟩ := S18.sel_ k
        obtain ⟨dx, ha18⟩ := sd18.tab.ins
        have ky18 := ke S18
        walk_at "go"
        refine Z.r_inI ha18 (k_Ke_in sd18.tab sd18.ok ky18 ⟨_, rfl, ?_⟩)
        walk_at "go"
        refine k_says ?_
        rw [placeI_ge, decide_eq_true rfl]
        walk_at "toseq"
        refine Z.viaS (R := fun σ' H' => σ' = [some (.ref a), some (.int i), some (.ref b), some ky, some (.int (k : Int)), some (.ref tl), some (.ref kl), some (.ref ol), some (.ref (sel k x y).a), some (.int (placeI ky (sel k x y).ks)), v10] ∧ Same H18 H') (fun D' kd => ?_) ?_
        · walk_at "go"
          rw [placeI_lt]
          by_cases mx : ky ∈ (sel k x y).ks
          · rw [decide_eq_true mx]
            walk_at "go"
            exact kd _ _ ⟨rfl, Same.refl _⟩
          · rw [decide_eq_false mx]
            walk_at "go"
            refine k_missing sd18.tab sd18.ok ky18 mx fun H' s' => ?_
            walk_at "go"
            exact kd _ _ ⟨rfl, s'⟩
        rintro σ' H19 ⟨rfl, s19⟩
        have S19 := S18.same s19
        have sd19 := sd18.same s19
        have ky19 := ke S19
        walk_at "toseq"
        refine Z.viaS (R := fun σ' H' => σ' = [some (.ref a), some (.int i), some (.ref b), some ky, some (.int (k : Int)), some (.ref tl), some (.ref kl), some (.ref ol), some (.ref (sel k x y).a), some (.int (placeI ky (sel k x y).ks)), v10] ∧ Same H19 H') (fun D' kd => ?_) ?_
        · walk_at "go"
          rw [placeI_ge]
          by_cases mx : ky ∈ (sel k x y).ks
          · rw [decide_eq_true mx]
            have li := idxV_lt mx
            have lw := sd19.tab.len
            obtain ⟨v, hv⟩ : ∃ v, (sel k x y).ws[idxV ky (sel k x y).ks]? = some v := ⟨_, List.getElem?_eq_getElem (by omega)⟩
            have ep : placeI ky (sel k x y).ks = (idxV ky (sel k x y).ks : Int) := if_pos mx
            have ixv : atI ((sel k x y).ws.map V.int) (placeI ky (sel k x y).ks) = some (.int v) := by
              rw [ep]
              exact atI_nat (by rw [List.getElem?_map, hv]; rfl)
            have ol19 := S19.ol_
            have rs19 := sd19.rs
            obtain ⟨dx, ha19⟩ := sd19.tab.ins
            walk_at "go"
            refine Z.r_ixO ha19 (k_Ke_get sd19.tab sd19.ok ky19 mx hv ?_)
            walk_at "go"
            refine Z.no (by simp) ?_
            walk_at "go"
            exact kd _ _ ⟨rfl, Same.refl _⟩
          · rw [decide_eq_false mx]
            walk_at "go"
            exact kd _ _ ⟨rfl, Same.refl _⟩
        rintro σ' H20 ⟨rfl, s20⟩
        have S20 := S19.same s20
        have g20 := S20.bag
        walk_at "toseq"
        refine Z.viaS (R := fun σ' H' => ∃ x' y' v10', σ' = [some (.ref a), some (.int i), some (.ref b), some ky, some (.int (k : Int)), some (.ref tl), some (.ref kl), some (.ref ol), some (.ref (sel k x' y').a), some (.int (placeI ky (sel k x y).ks)), v10'] ∧ S60 T.C_Unnumbered T.C_Keyed H0 b lp tl kl ol es x' y' (n + 1) (6000 + 100 * (n + 1)) H') (fun D' kd => ?_) ?_
        · walk_at "go"
          walk_at "draw"
          intro d2 H21 d20 d21 t21 g21
          have S21 := S20.bagged t21 g21
          walk_at "go"
          refine Z.ways (fun c => ?_) (fun c => ?_)
          · walk_at "go"
            refine k_law_number g21 (by omega) ?_
            intro v H22 hv t22 g22
            have S22 := S21.bagged t22 g22
            obtain ⟨sd22, lk22⟩ := S22.sel_ k
            have ky22 := ke S22
            obtain ⟨dx, ha22⟩ := sd22.tab.ins
            walk_at "go"
            refine Z.r_setO ha22 (k_Ke_set sd22.tab sd22.ok ky22 (by omega) fun H23 f23 tab23 => ?_)
            -- the lists of the law beside the table's own
            have seven : ∀ {z : Addr}, z ∉ muts b kl ol x y → ¬ z = b ∧ ¬ z = kl ∧ ¬ z = ol ∧ ¬ z = x.h ∧ ¬ z = x.w ∧ ¬ z = y.h ∧ ¬ z = y.w := fun h => by
              unfold muts at h
              simpa only [List.mem_cons, List.not_mem_nil, or_false, not_or] using h
            have out : ∀ {z : Addr}, z ∉ muts b kl ol x y → z ≠ (sel k x y).h ∧ z ≠ (sel k x y).w := fun h => by
              obtain ⟨_, _, _, h1, h2, h3, h4⟩ := seven h
              unfold sel; split
              · exact ⟨h1, h2⟩
              · exact ⟨h3, h4⟩
            have lists : (b ≠ kl ∧ b ≠ ol ∧ b ≠ (sel k x y).h ∧ b ≠ (sel k x y).w) ∧ (kl ≠ ol ∧ kl ≠ (sel k x y).h ∧ kl ≠ (sel k x y).w) ∧ ol ≠ (sel k x y).h ∧ ol ≠ (sel k x y).w := by
              have nd := S22.nd
              unfold muts at nd
              simp only [List.nodup_cons, List.mem_cons, List.not_mem_nil, or_false, not_or] at nd
              obtain ⟨⟨n1, n2, n3, n4, n5, n6⟩, ⟨n7, n8, n9, n10, n11⟩, ⟨n12, n13, n14, n15⟩, _⟩ := nd
              unfold sel; split
              · exact ⟨⟨n1, n2, n3, n4⟩, ⟨n7, n8, n9⟩, n12, n13⟩
              · exact ⟨⟨n1, n2, n5, n6⟩, ⟨n7, n10, n11⟩, n14, n15⟩
            obtain ⟨⟨b1, b2, b3, b4⟩, ⟨b5, b6, b7⟩, b8, b9⟩ := lists
            have selp : (sel k x y).p ∉ muts b kl ol x y ∧ (sel k x y).r ∉ muts b kl ol x y := by
              unfold sel; split
              · exact ⟨S22.im _ (by simp), S22.im _ (by simp)⟩
              · exact ⟨S22.im _ (by simp), S22.im _ (by simp)⟩
            have kl23 := f23 _ _ b6 b7 S22.kl_
            have ol23 := f23 _ _ b8 b9 S22.ol_
            have ps23 := f23 _ _ (out selp.1).1 (out selp.1).2 sd22.ps
            have rs23 := f23 _ _ (out selp.2).1 (out selp.2).2 sd22.rs
            obtain ⟨_, _, _, hb22, _⟩ := id S22.bag
            have g23 : Bag H23 b (6000 + 100 * n + 1 + 1 + 60) := by
              obtain ⟨g, sd, kk, h1, h2⟩ := S22.bag
              exact ⟨g, sd, kk, f23 _ _ b3 b4 h1, h2⟩
            have old23 : ∀ {z : Addr}, H23 z = none → z ∉ muts b kl ol x y := fun {z} h m => by
              have : ∃ o, H22 z = some o := by
                unfold muts at m
                simp only [List.mem_cons, List.not_mem_nil, or_false] at m
                rcases m with rfl | rfl | rfl | rfl | rfl | rfl | rfl
                · exact ⟨_, hb22⟩
                · exact ⟨_, S22.kl_⟩
                · exact ⟨_, S22.ol_⟩
                · exact ⟨_, S22.sx.tab.held⟩
                · exact ⟨_, S22.sx.tab.worths⟩
                · exact ⟨_, S22.sy.tab.held⟩
                · exact ⟨_, S22.sy.tab.worths⟩
              obtain ⟨o, ho⟩ := this
              by_cases e1 : z = (sel k x y).h
              · rw [e1, tab23.held] at h; cases h
              · by_cases e2 : z = (sel k x y).w
                · rw [e2, tab23.worths] at h; cases h
                · rw [f23 _ _ e1 e2 ho] at h; cases h
            walk_at "toseq"
            refine Z.viaS (R := fun σ' H' => σ' = [some (.ref a), some (.int i), some (.ref b), some ky, some (.int (k : Int)), some (.ref tl), some (.ref kl), some (.ref ol), some (.ref (sel k x y).a), some (.int (placeI ky (sel k x y).ks)), some (.int v)] ∧
              ∃ p' r', Frm [kl, ol] H23 H' ∧ (∀ z ∈ [p', r'], z ∉ muts b kl ol x y) ∧ H' kl = some (.lst ([V.ref x.p, .ref y.p].set k (.ref p'))) ∧ H' ol = some (.lst ([V.ref x.r, .ref y.r].set k (.ref r'))) ∧ H' p' = some (.lst (putKs ky (sel k x y).ks)) ∧ H' r' = some (.lst ((putWs ky v (sel k x y).ks (sel k x y).ws).map V.int))) (fun D2 kd2 => ?_) ?_
            · have ixN := ixN_k (n := 2) (j := k) hk
              have lw := sd22.tab.len
              walk_at "go"
              rw [placeI_lt]
              by_cases mx : ky ∈ (sel k x y).ks
              · have li := idxV_lt mx
                have ep : placeI ky (sel k x y).ks = (idxV ky (sel k x y).ks : Int) := if_pos mx
                have ek : putKs ky (sel k x y).ks = (sel k x y).ks := if_pos mx
                have ew : putWs ky v (sel k x y).ks (sel k x y).ws = (sel k x y).ws.set (idxV ky (sel k x y).ks) v := if_pos mx
                rw [decide_eq_true mx, ep]
                walk_at "go"
                refine Z.r_slL rs23 fun q1 H24 nq1 s24 hq1 => ?_
                walk_at "go"
                intro l2 H25 nl2 s25 hl2
                have lc := cutV_length ((sel k x y).ws.map V.int) none (some (idxV ky (sel k x y).ks : Int))
                have lc2 := cutV_length ((sel k x y).ws.map V.int) (some ((idxV ky (sel k x y).ks : Int) + 1)) none
                rw [List.length_map] at lc lc2
                refine Z.r_cat (s25 _ _ hq1) hl2 (by show _ + 1 ≤ _; omega) fun q3 H26 nq3 s26 hq3 => ?_
                have s236 := (s24.trans s25).trans s26
                have ol26 := s236 _ _ ol23
                have rs26 := s236 _ _ rs23
                walk_at "go"
                refine Z.r_slL rs26 fun q4 H27 nq4 s27 hq4 => ?_
                walk_at "go"
                refine Z.r_cat (s27 _ _ hq3) hq4 (by rw [List.length_append]; show _ + 1 + _ ≤ _; omega) fun q5 H28 nq5 s28 hq5 => ?_
                have s237 := s236.trans s27
                have s238 := s237.trans s28
                have ol28 := s238 _ _ ol23
                walk_at "go"
                refine Z.r_setL (m := k) ol28 ixN fun H29 b29 h29 => ?_
                walk_at "go"
                have n23 : H23 q5 = none := by
                  cases z : H23 q5 with
                  | none => rfl
                  | some o => rw [s237 _ _ z] at nq5; cases nq5
                have nq : q5 ≠ ol := (ne_of_none ol23 n23).symm
                refine kd2 _ _ ⟨by rw [ep]; rfl, (sel k x y).p, q5, fun z o hz h => b29 _ _ (fun e => hz (by rw [e]; simp)) (s238 _ _ h), ?_, ?_, h29, ?_, ?_⟩
                · simp only [List.forall_mem_cons]
                  exact ⟨selp.1, old23 n23, nofun⟩
                · rw [sel_set Sd.p hk]
                  exact b29 _ _ b5 (s238 _ _ kl23)
                · rw [ek]
                  exact b29 _ _ (seven selp.1).2.2.1 (s238 _ _ ps23)
                · rw [b29 _ _ nq hq5, ew, cut_set60 (by omega)]
              · have ek : putKs ky (sel k x y).ks = (sel k x y).ks ++ [ky] := if_neg mx
                have ew : putWs ky v (sel k x y).ks (sel k x y).ws = (sel k x y).ws ++ [v] := if_neg mx
                rw [decide_eq_false mx]
                walk_at "go"
                intro l1 H24 nl1 s24 hl1
                refine Z.r_cat (s24 _ _ ps23) hl1 (by show _ + 1 ≤ _; omega) fun q1 H25 nq1 s25 hq1 => ?_
                have s235 := s24.trans s25
                have kl25 := s235 _ _ kl23
                walk_at "go"
                refine Z.r_setL (m := k) kl25 ixN fun H26 b26 h26 => ?_
                have ol26 := b26 _ _ b5.symm (s235 _ _ ol23)
                have rs26 := b26 _ _ (seven selp.2).2.1 (s235 _ _ rs23)
                walk_at "go"
                intro l2 H27 nl2 s27 hl2
                refine Z.r_cat (s27 _ _ rs26) hl2 (by rw [List.length_map]; show _ + 1 ≤ _; omega) fun q2 H28 nq2 s28 hq2 => ?_
                have s268 := s27.trans s28
                have ol28 := s268 _ _ ol26
                walk_at "go"
                refine Z.r_setL (m := k) ol28 ixN fun H29 b29 h29 => ?_
                walk_at "go"
                have n23 : H23 q1 = none := by
                  cases z : H23 q1 with
                  | none => rfl
                  | some o => rw [s24 _ _ z] at nq1; cases nq1
                have nq1k : q1 ≠ kl := (ne_of_none kl23 n23).symm
                have nq1o : q1 ≠ ol := (ne_of_none ol23 n23).symm
                have nq2o : q2 ≠ ol := (ne_of_none (s27 _ _ ol26) nq2).symm
                have nq2k : q2 ≠ kl := (ne_of_none (s27 _ _ h26) nq2).symm
                have n23' : H23 q2 = none := by
                  cases z : H23 q2 with
                  | none => rfl
                  | some o => rw [s27 _ _ (b26 _ _ nq2k (s235 _ _ z))] at nq2; cases nq2
                refine kd2 _ _ ⟨rfl, q1, q2, fun z o hz h => b29 _ _ (fun e => hz (by rw [e]; simp)) (s268 _ _ (b26 _ _ (fun e => hz (by rw [e]; simp)) (s235 _ _ h))), ?_, ?_, h29, ?_, ?_⟩
                · simp only [List.forall_mem_cons]
                  exact ⟨old23 n23, old23 n23', nofun⟩
                · exact b29 _ _ b5 (s268 _ _ h26)
                · rw [ek]
                  exact b29 _ _ nq1o (s268 _ _ (b26 _ _ nq1k hq1))
                · rw [b29 _ _ nq2o hq2, ew, List.map_append]
                  rfl
            rintro σ' H24 ⟨rfl, p', r', f24, im24, kl24, ol24, hp24, hr24⟩
            have f224 : Frm [b, kl, ol, (sel k x y).h, (sel k x y).w] H22 H24 := fun z o hz h => by
              simp only [List.mem_cons, List.not_mem_nil, or_false, not_or] at hz
              exact f24 _ _ (by simp [hz.2.1, hz.2.2.1]) (f23 _ _ hz.2.2.2.1 hz.2.2.2.2 h)
            have ls := S22.lsts k
            have ky24 := ky22.frm f224 ls
            obtain ⟨⟨dx', ha23⟩, hh23, hw23, hne23, hlen23⟩ := tab23
            have l2 : Lsts [kl, ol] H23 := fun m hm => by
              simp only [List.mem_cons, List.not_mem_nil, or_false] at hm
              rcases hm with rfl | rfl
              · exact ⟨_, kl23⟩
              · exact ⟨_, ol23⟩
            have ha24 := f24 _ _ (lst_out l2 ha23 (fun _ => nofun)) ha23
            have tab24 : TabAt T.C_Keyed H24 (sel k x y).a (sel k x y).h (sel k x y).w (putKs ky (sel k x y).ks) (putWs ky v (sel k x y).ks (sel k x y).ws) :=
              ⟨⟨dx', ha24⟩, f24 _ _ (by simp [b6.symm, b8.symm]) hh23, f24 _ _ (by simp [b7.symm, b9.symm]) hw23, hne23, hlen23⟩
            have ok24 : ∀ z ∈ putKs ky (sel k x y).ks, KeyAt T.C_Unnumbered H24 z := fun z hz => by
              unfold putKs at hz
              split at hz
              · exact (sd22.ok z hz).frm f224 ls
              · rcases List.mem_append.mp hz with hz | hz
                · exact (sd22.ok z hz).frm f224 ls
                · rw [List.mem_singleton.mp hz]; exact ky24
            have ln24 : (putKs ky (sel k x y).ks).length ≤ n + 1 := by
              unfold putKs
              split
              · omega
              · rw [List.length_append]; exact Nat.succ_le_succ lk22
            have g24 : Bag H24 b (6000 + 100 * n + 1 + 1 + 60) := by
              obtain ⟨g, sd, kk, h1, h2⟩ := g23
              exact ⟨g, sd, kk, f24 _ _ (by simp [b1, b2]) h1, h2⟩
            obtain ⟨x', y', S24, esel⟩ := S22.put hk ⟨(sel k x y).a, (sel k x y).h, (sel k x y).w, p', r', putKs ky (sel k x y).ks, putWs ky v (sel k x y).ks (sel k x y).ws⟩ rfl rfl rfl f224 im24 kl24 ol24 ⟨tab24, hp24, hr24, ok24⟩ ln24 g24
            obtain ⟨pv, pm⟩ := put_at (x := ky) (v := v) sd22.tab.len
            walk_at "go"
            refine Z.r_ixO ha24 (k_Ke_get tab24 ok24 ky24 pm pv ?_)
            walk_at "go"
            refine Z.no (by simp) ?_
            walk_at "go"
            refine Z.r_notInI ha24 (k_Ke_in tab24 ok24 ky24 ⟨_, rfl, ?_⟩)
            rw [decide_eq_true pm]
            walk_at "go"
            refine Z.r_ixO ha24 (k_Ke_get tab24 ok24 ky24 pm pv ?_)
            walk_at "go"
            refine k_law_is_int (t := .num v) rfl ?_
            walk_at "go"
            exact kd _ _ ⟨x', y', _, by rw [esel], S24.mono (Nat.le_refl _) (by omega)⟩
          · walk_at "go"
            exact kd _ _ ⟨x, y, _, rfl, (S21.mono (by omega) (by omega))⟩
        rintro σ' H21 ⟨x', y', v10', rfl, S21⟩
        obtain ⟨sd21, lk21⟩ := S21.sel_ k
        have kl21 := S21.kl_
        have ol21 := S21.ol_
        have ixP := sel_at Sd.p hk x' y'
        have ixR := sel_at Sd.r hk x' y'
        walk_at "go"
        refine k_shows sd21.tab sd21.ok sd21.ps sd21.rs (by omega) fun H22 s22 => ?_
        walk_at "go"
        exact ⟨x', y', _, _, _, _, _, rfl, S21.same s22⟩
      · rintro σ' H16 ⟨x, y, v3, v4, v8, v9, v10, rfl, S⟩
        walk_at "go"
        refine Z.r_rng (by decide) (by decide) (fun k σ' H' => Same H16 H' ∧ ∃ v3 v4, σ' = [some (.ref a), some (.int i), some (.ref b), v3, v4, some (.ref tl), some (.ref kl), some (.ref ol), v8, v9, v10]) ?_ ?_ ?_
        · exact ⟨Same.refl _, _, _, rfl⟩
        · rintro k σ' H17 hk' ⟨s17, v3, v4, rfl⟩
          have hk : k < 2 := by omega
          have S17 := S.same s17
          have tl17 := S17.tl_
          have kl17 := S17.kl_
          have ol17 := S17.ol_
          have ixA := sel_at Sd.a hk x y
          have ixP := sel_at Sd.p hk x y
          have ixR := sel_at Sd.r hk x y
          obtain ⟨sd17, lk⟩ := S17.sel_ k
          rw [List.length_map] at lk
          walk_at "go"
          refine k_shows sd17.tab sd17.ok sd17.ps sd17.rs (by omega) fun H18 s18 => ?_
          walk_at "go"
          intro u du H19 nu s19 hu
          have sd19 := (sd17.same s18).same s19
          obtain ⟨dx, ha19⟩ := sd19.tab.ins
          have tl19 := s19 _ _ (s18 _ _ tl17)
          walk_at "go"
          have nin : V.ref u ∉ (sel k x y).ks := fun hm => by
            obtain ⟨t, r, nt⟩ := (sd17.same s18).ok _ hm
            cases t with
            | non => exact absurd rfl nt
            | num j => exact absurd (show V.ref u = V.int j from r) nofun
            | mark m =>
              obtain ⟨c, dc, e, hc⟩ := r
              cases e
              rw [nu] at hc; cases hc
          refine Z.r_inI ha19 (k_Ke_in sd19.tab sd19.ok ⟨.mark "a", ⟨u, du, rfl, hu⟩, nofun⟩ ⟨_, rfl, ?_⟩)
          rw [decide_eq_false nin]
          have kl19 := s19 _ _ (s18 _ _ kl17)
          walk_at "go"
          refine Z.r_lcL (SqL.of sd19.ps) (fun _ => rfl) (fun D i H' => Same H19 H' ∧ H' D = some (.lst ((List.replicate i true).map V.bl))) ?_ ?_ ?_ ?_
          · intro D H1 nD s1 h1
            exact ⟨s1, h1⟩
          · rintro D i H1 nD ⟨s1, _⟩
            exact SqL.of (s1 _ _ sd19.ps)
          · rintro D m z H20 nD hz ⟨s20, hD⟩
            have hm := List.mem_of_getElem? hz
            have lm := (List.getElem?_eq_some_iff.mp hz).1
            have sd20 := sd19.same s20
            have tl20 := s20 _ _ tl19
            have ha20 := s20 _ _ ha19
            walk_at "go"
            refine Z.r_inI ha20 (k_Ke_in sd20.tab sd20.ok (sd20.ok z hm) ⟨_, rfl, ?_⟩)
            rw [decide_eq_true hm]
            refine Z.r_ap hD (by rw [List.length_map, List.length_replicate]; omega) fun H21 b21 h21 => ⟨Z.But.back s20 nD b21, ?_⟩
            rw [h21, List.replicate_succ', List.map_append]
            rfl
          · rintro D H20 nD ⟨s20, hD⟩
            walk_at "go"
            refine Z.r_allG (SqL.of hD) ?_
            rw [all_trues]
            walk_at "go"
            exact ⟨((s17.trans s18).trans s19).trans s20, _, _, rfl⟩
        · rintro σ' H17 ⟨s17, v3, v4, rfl⟩
          walk_at "go"
          exact ⟨s0.trans (S.keep.trans s17), _, _, _, _, _, _, _, _, _, _, rfl⟩
    · rintro σ' H1 ⟨s1, v1, v2, v3, v4, v5, v6, v7, v8, v9, v10, rfl⟩
      walk_at "go"
      exact q _

end
theorem all_mk {l : PySem.W.OpenLaw} {w : World} {K : PySem.W.Frag} {h : Heap} {mg : Str → Option Value} {fa : Addr} (X : K.In h) (G : h.Ns mainGlobals mg) (hfa : mg "law" = some (.ref fa)) {C_Keyed C_NoAnswer C_NoKey C_Unnumbered f_law_draw f_law_bag f_law_number f_is_number f_Unnumbered___init f_is_entry f_is_value f_Unnumbered___eq f_Unnumbered___ne f_Unnumbered___lt f_Unnumbered___le f_Unnumbered___gt f_Unnumbered___ge f_Unnumbered___str f_Unnumbered___repr f_NoKey___init f_law_pick f_law_keys f_Keyed___init f_Keyed_worths f_Keyed_total f_Keyed___getitem f_Keyed___setitem f_Keyed___contains f_Keyed___len f_Keyed___iter f_law_is_int f_law_place f_law_missing f_law_says f_law_shows f_law : Addr}
    {od_law_draw an_law_draw : Option Addr} {sl_law_draw : Array (Option Value)} {oc_law_draw kV_law_draw dc_law_draw pm_law_draw cd_law_draw ct_law_draw : Value}
    {od_law_bag an_law_bag : Option Addr} {sl_law_bag : Array (Option Value)} {oc_law_bag kV_law_bag dc_law_bag pm_law_bag cd_law_bag ct_law_bag : Value}
    {od_law_number an_law_number : Option Addr} {sl_law_number : Array (Option Value)} {oc_law_number kV_law_number dc_law_number pm_law_number cd_law_number ct_law_number : Value}
    {od_is_number an_is_number : Option Addr} {sl_is_number : Array (Option Value)} {oc_is_number kV_is_number dc_is_number pm_is_number cd_is_number ct_is_number : Value}
    {od_Unnumbered___init an_Unnumbered___init : Option Addr} {sl_Unnumbered___init : Array (Option Value)} {oc_Unnumbered___init kV_Unnumbered___init dc_Unnumbered___init pm_Unnumbered___init cd_Unnumbered___init ct_Unnumbered___init : Value}
    {od_is_entry an_is_entry : Option Addr} {sl_is_entry : Array (Option Value)} {oc_is_entry kV_is_entry dc_is_entry pm_is_entry cd_is_entry ct_is_entry : Value}
    {od_is_value an_is_value : Option Addr} {sl_is_value : Array (Option Value)} {oc_is_value kV_is_value dc_is_value pm_is_value cd_is_value ct_is_value : Value}
    {od_Unnumbered___eq an_Unnumbered___eq : Option Addr} {sl_Unnumbered___eq : Array (Option Value)} {oc_Unnumbered___eq kV_Unnumbered___eq dc_Unnumbered___eq pm_Unnumbered___eq cd_Unnumbered___eq ct_Unnumbered___eq : Value}
    {od_Unnumbered___ne an_Unnumbered___ne : Option Addr} {sl_Unnumbered___ne : Array (Option Value)} {oc_Unnumbered___ne kV_Unnumbered___ne dc_Unnumbered___ne pm_Unnumbered___ne cd_Unnumbered___ne ct_Unnumbered___ne : Value}
    {od_Unnumbered___lt an_Unnumbered___lt : Option Addr} {sl_Unnumbered___lt : Array (Option Value)} {oc_Unnumbered___lt kV_Unnumbered___lt dc_Unnumbered___lt pm_Unnumbered___lt cd_Unnumbered___lt ct_Unnumbered___lt : Value}
    {od_Unnumbered___le an_Unnumbered___le : Option Addr} {sl_Unnumbered___le : Array (Option Value)} {oc_Unnumbered___le kV_Unnumbered___le dc_Unnumbered___le pm_Unnumbered___le cd_Unnumbered___le ct_Unnumbered___le : Value}
    {od_Unnumbered___gt an_Unnumbered___gt : Option Addr} {sl_Unnumbered___gt : Array (Option Value)} {oc_Unnumbered___gt kV_Unnumbered___gt dc_Unnumbered___gt pm_Unnumbered___gt cd_Unnumbered___gt ct_Unnumbered___gt : Value}
    {od_Unnumbered___ge an_Unnumbered___ge : Option Addr} {sl_Unnumbered___ge : Array (Option Value)} {oc_Unnumbered___ge kV_Unnumbered___ge dc_Unnumbered___ge pm_Unnumbered___ge cd_Unnumbered___ge ct_Unnumbered___ge : Value}
    {od_Unnumbered___str an_Unnumbered___str : Option Addr} {sl_Unnumbered___str : Array (Option Value)} {oc_Unnumbered___str kV_Unnumbered___str dc_Unnumbered___str pm_Unnumbered___str cd_Unnumbered___str ct_Unnumbered___str : Value}
    {od_Unnumbered___repr an_Unnumbered___repr : Option Addr} {sl_Unnumbered___repr : Array (Option Value)} {oc_Unnumbered___repr kV_Unnumbered___repr dc_Unnumbered___repr pm_Unnumbered___repr cd_Unnumbered___repr ct_Unnumbered___repr : Value}
    {od_NoKey___init an_NoKey___init : Option Addr} {sl_NoKey___init : Array (Option Value)} {oc_NoKey___init kV_NoKey___init dc_NoKey___init pm_NoKey___init cd_NoKey___init ct_NoKey___init : Value}
    {od_law_pick an_law_pick : Option Addr} {sl_law_pick : Array (Option Value)} {oc_law_pick kV_law_pick dc_law_pick pm_law_pick cd_law_pick ct_law_pick : Value}
    {od_law_keys an_law_keys : Option Addr} {sl_law_keys : Array (Option Value)} {oc_law_keys kV_law_keys dc_law_keys pm_law_keys cd_law_keys ct_law_keys : Value}
    {od_Keyed___init an_Keyed___init : Option Addr} {sl_Keyed___init : Array (Option Value)} {oc_Keyed___init kV_Keyed___init dc_Keyed___init pm_Keyed___init cd_Keyed___init ct_Keyed___init : Value}
    {od_Keyed_worths an_Keyed_worths : Option Addr} {sl_Keyed_worths : Array (Option Value)} {oc_Keyed_worths kV_Keyed_worths dc_Keyed_worths pm_Keyed_worths cd_Keyed_worths ct_Keyed_worths : Value}
    {od_Keyed_total an_Keyed_total : Option Addr} {sl_Keyed_total : Array (Option Value)} {oc_Keyed_total kV_Keyed_total dc_Keyed_total pm_Keyed_total cd_Keyed_total ct_Keyed_total : Value}
    {od_Keyed___getitem an_Keyed___getitem : Option Addr} {sl_Keyed___getitem : Array (Option Value)} {oc_Keyed___getitem kV_Keyed___getitem dc_Keyed___getitem pm_Keyed___getitem cd_Keyed___getitem ct_Keyed___getitem : Value}
    {od_Keyed___setitem an_Keyed___setitem : Option Addr} {sl_Keyed___setitem : Array (Option Value)} {oc_Keyed___setitem kV_Keyed___setitem dc_Keyed___setitem pm_Keyed___setitem cd_Keyed___setitem ct_Keyed___setitem : Value}
    {od_Keyed___contains an_Keyed___contains : Option Addr} {sl_Keyed___contains : Array (Option Value)} {oc_Keyed___contains kV_Keyed___contains dc_Keyed___contains pm_Keyed___contains cd_Keyed___contains ct_Keyed___contains : Value}
    {od_Keyed___len an_Keyed___len : Option Addr} {sl_Keyed___len : Array (Option Value)} {oc_Keyed___len kV_Keyed___len dc_Keyed___len pm_Keyed___len cd_Keyed___len ct_Keyed___len : Value}
    {od_Keyed___iter an_Keyed___iter : Option Addr} {sl_Keyed___iter : Array (Option Value)} {oc_Keyed___iter kV_Keyed___iter dc_Keyed___iter pm_Keyed___iter cd_Keyed___iter ct_Keyed___iter : Value}
    {od_law_is_int an_law_is_int : Option Addr} {sl_law_is_int : Array (Option Value)} {oc_law_is_int kV_law_is_int dc_law_is_int pm_law_is_int cd_law_is_int ct_law_is_int : Value}
    {od_law_place an_law_place : Option Addr} {sl_law_place : Array (Option Value)} {oc_law_place kV_law_place dc_law_place pm_law_place cd_law_place ct_law_place : Value}
    {od_law_missing an_law_missing : Option Addr} {sl_law_missing : Array (Option Value)} {oc_law_missing kV_law_missing dc_law_missing pm_law_missing cd_law_missing ct_law_missing : Value}
    {od_law_says an_law_says : Option Addr} {sl_law_says : Array (Option Value)} {oc_law_says kV_law_says dc_law_says pm_law_says cd_law_says ct_law_says : Value}
    {od_law_shows an_law_shows : Option Addr} {sl_law_shows : Array (Option Value)} {oc_law_shows kV_law_shows dc_law_shows pm_law_shows cd_law_shows ct_law_shows : Value}
    {od_law an_law : Option Addr} {sl_law : Array (Option Value)} {oc_law kV_law dc_law pm_law cd_law ct_law : Value}
    (aC_Keyed : PySem.W.nsIn K mainGlobals "Keyed" = some (some (.ref C_Keyed)))
    (aC_NoAnswer : PySem.W.nsIn K mainGlobals "NoAnswer" = some (some (.ref C_NoAnswer)))
    (aC_NoKey : PySem.W.nsIn K mainGlobals "NoKey" = some (some (.ref C_NoKey)))
    (aC_Unnumbered : PySem.W.nsIn K mainGlobals "Unnumbered" = some (some (.ref C_Unnumbered)))
    (a_law_draw : PySem.W.nsIn K mainGlobals "_law_draw" = some (some (.ref f_law_draw)))
    (l_law_draw : K.lookup f_law_draw = some ⟨oc_law_draw, od_law_draw, .func (PySem.W.fnOf "_law_draw" "_law_draw" (defArgs s_law_draw) (defBody s_law_draw) (defScope s_law_draw) .none kV_law_draw dc_law_draw pm_law_draw an_law_draw cd_law_draw ct_law_draw), sl_law_draw⟩)
    (c_law_draw : PySem.W.codeIn K cd_law_draw "_law_draw" = true)
    (k_law_draw : PySem.W.keepIn K (.ref f_law_draw) = true)
    (a_law_bag : PySem.W.nsIn K mainGlobals "_law_bag" = some (some (.ref f_law_bag)))
    (l_law_bag : K.lookup f_law_bag = some ⟨oc_law_bag, od_law_bag, .func (PySem.W.fnOf "_law_bag" "_law_bag" (defArgs s_law_bag) (defBody s_law_bag) (defScope s_law_bag) .none kV_law_bag dc_law_bag pm_law_bag an_law_bag cd_law_bag ct_law_bag), sl_law_bag⟩)
    (c_law_bag : PySem.W.codeIn K cd_law_bag "_law_bag" = true)
    (k_law_bag : PySem.W.keepIn K (.ref f_law_bag) = true)
    (a_law_number : PySem.W.nsIn K mainGlobals "_law_number" = some (some (.ref f_law_number)))
    (l_law_number : K.lookup f_law_number = some ⟨oc_law_number, od_law_number, .func (PySem.W.fnOf "_law_number" "_law_number" (defArgs s_law_number) (defBody s_law_number) (defScope s_law_number) .none kV_law_number dc_law_number pm_law_number an_law_number cd_law_number ct_law_number), sl_law_number⟩)
    (c_law_number : PySem.W.codeIn K cd_law_number "_law_number" = true)
    (k_law_number : PySem.W.keepIn K (.ref f_law_number) = true)
    (a_is_number : PySem.W.nsIn K mainGlobals "is_number" = some (some (.ref f_is_number)))
    (l_is_number : K.lookup f_is_number = some ⟨oc_is_number, od_is_number, .func (PySem.W.fnOf "is_number" "is_number" (defArgs s_is_number) (defBody s_is_number) (defScope s_is_number) .none kV_is_number dc_is_number pm_is_number an_is_number cd_is_number ct_is_number), sl_is_number⟩)
    (c_is_number : PySem.W.codeIn K cd_is_number "is_number" = true)
    (k_is_number : PySem.W.keepIn K (.ref f_is_number) = true)
    (a_Unnumbered___init : PySem.W.findIn K (.ref C_Unnumbered) "__init__" = some (some (.ref f_Unnumbered___init)))
    (i_Unnumbered___init : PySem.W.isFn K (.ref f_Unnumbered___init) = true)
    (l_Unnumbered___init : K.lookup f_Unnumbered___init = some ⟨oc_Unnumbered___init, od_Unnumbered___init, .func (PySem.W.fnOf "__init__" "Unnumbered.__init__" (defArgs s_Unnumbered___init) (defBody s_Unnumbered___init) (defScope s_Unnumbered___init) .none kV_Unnumbered___init dc_Unnumbered___init pm_Unnumbered___init an_Unnumbered___init cd_Unnumbered___init ct_Unnumbered___init), sl_Unnumbered___init⟩)
    (c_Unnumbered___init : PySem.W.codeIn K cd_Unnumbered___init "Unnumbered.__init__" = true)
    (k_Unnumbered___init : PySem.W.keepIn K (.ref f_Unnumbered___init) = true)
    (a_is_entry : PySem.W.nsIn K mainGlobals "is_entry" = some (some (.ref f_is_entry)))
    (l_is_entry : K.lookup f_is_entry = some ⟨oc_is_entry, od_is_entry, .func (PySem.W.fnOf "is_entry" "is_entry" (defArgs s_is_entry) (defBody s_is_entry) (defScope s_is_entry) .none kV_is_entry dc_is_entry pm_is_entry an_is_entry cd_is_entry ct_is_entry), sl_is_entry⟩)
    (c_is_entry : PySem.W.codeIn K cd_is_entry "is_entry" = true)
    (k_is_entry : PySem.W.keepIn K (.ref f_is_entry) = true)
    (a_is_value : PySem.W.nsIn K mainGlobals "_is_value" = some (some (.ref f_is_value)))
    (l_is_value : K.lookup f_is_value = some ⟨oc_is_value, od_is_value, .func (PySem.W.fnOf "_is_value" "_is_value" (defArgs s_is_value) (defBody s_is_value) (defScope s_is_value) .none kV_is_value dc_is_value pm_is_value an_is_value cd_is_value ct_is_value), sl_is_value⟩)
    (c_is_value : PySem.W.codeIn K cd_is_value "_is_value" = true)
    (k_is_value : PySem.W.keepIn K (.ref f_is_value) = true)
    (a_Unnumbered___eq : PySem.W.findIn K (.ref C_Unnumbered) "__eq__" = some (some (.ref f_Unnumbered___eq)))
    (i_Unnumbered___eq : PySem.W.isFn K (.ref f_Unnumbered___eq) = true)
    (l_Unnumbered___eq : K.lookup f_Unnumbered___eq = some ⟨oc_Unnumbered___eq, od_Unnumbered___eq, .func (PySem.W.fnOf "__eq__" "Unnumbered.__eq__" (defArgs s_Unnumbered___eq) (defBody s_Unnumbered___eq) (defScope s_Unnumbered___eq) .none kV_Unnumbered___eq dc_Unnumbered___eq pm_Unnumbered___eq an_Unnumbered___eq cd_Unnumbered___eq ct_Unnumbered___eq), sl_Unnumbered___eq⟩)
    (c_Unnumbered___eq : PySem.W.codeIn K cd_Unnumbered___eq "Unnumbered.__eq__" = true)
    (k_Unnumbered___eq : PySem.W.keepIn K (.ref f_Unnumbered___eq) = true)
    (a_Unnumbered___ne : PySem.W.findIn K (.ref C_Unnumbered) "__ne__" = some (some (.ref f_Unnumbered___ne)))
    (i_Unnumbered___ne : PySem.W.isFn K (.ref f_Unnumbered___ne) = true)
    (l_Unnumbered___ne : K.lookup f_Unnumbered___ne = some ⟨oc_Unnumbered___ne, od_Unnumbered___ne, .func (PySem.W.fnOf "__ne__" "Unnumbered.__ne__" (defArgs s_Unnumbered___ne) (defBody s_Unnumbered___ne) (defScope s_Unnumbered___ne) .none kV_Unnumbered___ne dc_Unnumbered___ne pm_Unnumbered___ne an_Unnumbered___ne cd_Unnumbered___ne ct_Unnumbered___ne), sl_Unnumbered___ne⟩)
    (c_Unnumbered___ne : PySem.W.codeIn K cd_Unnumbered___ne "Unnumbered.__ne__" = true)
    (k_Unnumbered___ne : PySem.W.keepIn K (.ref f_Unnumbered___ne) = true)
    (a_Unnumbered___lt : PySem.W.findIn K (.ref C_Unnumbered) "__lt__" = some (some (.ref f_Unnumbered___lt)))
    (i_Unnumbered___lt : PySem.W.isFn K (.ref f_Unnumbered___lt) = true)
    (l_Unnumbered___lt : K.lookup f_Unnumbered___lt = some ⟨oc_Unnumbered___lt, od_Unnumbered___lt, .func (PySem.W.fnOf "__lt__" "Unnumbered.__lt__" (defArgs s_Unnumbered___lt) (defBody s_Unnumbered___lt) (defScope s_Unnumbered___lt) .none kV_Unnumbered___lt dc_Unnumbered___lt pm_Unnumbered___lt an_Unnumbered___lt cd_Unnumbered___lt ct_Unnumbered___lt), sl_Unnumbered___lt⟩)
    (c_Unnumbered___lt : PySem.W.codeIn K cd_Unnumbered___lt "Unnumbered.__lt__" = true)
    (k_Unnumbered___lt : PySem.W.keepIn K (.ref f_Unnumbered___lt) = true)
    (a_Unnumbered___le : PySem.W.findIn K (.ref C_Unnumbered) "__le__" = some (some (.ref f_Unnumbered___le)))
    (i_Unnumbered___le : PySem.W.isFn K (.ref f_Unnumbered___le) = true)
    (l_Unnumbered___le : K.lookup f_Unnumbered___le = some ⟨oc_Unnumbered___le, od_Unnumbered___le, .func (PySem.W.fnOf "__le__" "Unnumbered.__le__" (defArgs s_Unnumbered___le) (defBody s_Unnumbered___le) (defScope s_Unnumbered___le) .none kV_Unnumbered___le dc_Unnumbered___le pm_Unnumbered___le an_Unnumbered___le cd_Unnumbered___le ct_Unnumbered___le), sl_Unnumbered___le⟩)
    (c_Unnumbered___le : PySem.W.codeIn K cd_Unnumbered___le "Unnumbered.__le__" = true)
    (k_Unnumbered___le : PySem.W.keepIn K (.ref f_Unnumbered___le) = true)
    (a_Unnumbered___gt : PySem.W.findIn K (.ref C_Unnumbered) "__gt__" = some (some (.ref f_Unnumbered___gt)))
    (i_Unnumbered___gt : PySem.W.isFn K (.ref f_Unnumbered___gt) = true)
    (l_Unnumbered___gt : K.lookup f_Unnumbered___gt = some ⟨oc_Unnumbered___gt, od_Unnumbered___gt, .func (PySem.W.fnOf "__gt__" "Unnumbered.__gt__" (defArgs s_Unnumbered___gt) (defBody s_Unnumbered___gt) (defScope s_Unnumbered___gt) .none kV_Unnumbered___gt dc_Unnumbered___gt pm_Unnumbered___gt an_Unnumbered___gt cd_Unnumbered___gt ct_Unnumbered___gt), sl_Unnumbered___gt⟩)
    (c_Unnumbered___gt : PySem.W.codeIn K cd_Unnumbered___gt "Unnumbered.__gt__" = true)
    (k_Unnumbered___gt : PySem.W.keepIn K (.ref f_Unnumbered___gt) = true)
    (a_Unnumbered___ge : PySem.W.findIn K (.ref C_Unnumbered) "__ge__" = some (some (.ref f_Unnumbered___ge)))
    (i_Unnumbered___ge : PySem.W.isFn K (.ref f_Unnumbered___ge) = true)
    (l_Unnumbered___ge : K.lookup f_Unnumbered___ge = some ⟨oc_Unnumbered___ge, od_Unnumbered___ge, .func (PySem.W.fnOf "__ge__" "Unnumbered.__ge__" (defArgs s_Unnumbered___ge) (defBody s_Unnumbered___ge) (defScope s_Unnumbered___ge) .none kV_Unnumbered___ge dc_Unnumbered___ge pm_Unnumbered___ge an_Unnumbered___ge cd_Unnumbered___ge ct_Unnumbered___ge), sl_Unnumbered___ge⟩)
    (c_Unnumbered___ge : PySem.W.codeIn K cd_Unnumbered___ge "Unnumbered.__ge__" = true)
    (k_Unnumbered___ge : PySem.W.keepIn K (.ref f_Unnumbered___ge) = true)
    (a_Unnumbered___str : PySem.W.findIn K (.ref C_Unnumbered) "__str__" = some (some (.ref f_Unnumbered___str)))
    (i_Unnumbered___str : PySem.W.isFn K (.ref f_Unnumbered___str) = true)
    (l_Unnumbered___str : K.lookup f_Unnumbered___str = some ⟨oc_Unnumbered___str, od_Unnumbered___str, .func (PySem.W.fnOf "__str__" "Unnumbered.__str__" (defArgs s_Unnumbered___str) (defBody s_Unnumbered___str) (defScope s_Unnumbered___str) .none kV_Unnumbered___str dc_Unnumbered___str pm_Unnumbered___str an_Unnumbered___str cd_Unnumbered___str ct_Unnumbered___str), sl_Unnumbered___str⟩)
    (c_Unnumbered___str : PySem.W.codeIn K cd_Unnumbered___str "Unnumbered.__str__" = true)
    (k_Unnumbered___str : PySem.W.keepIn K (.ref f_Unnumbered___str) = true)
    (a_Unnumbered___repr : PySem.W.findIn K (.ref C_Unnumbered) "__repr__" = some (some (.ref f_Unnumbered___repr)))
    (i_Unnumbered___repr : PySem.W.isFn K (.ref f_Unnumbered___repr) = true)
    (l_Unnumbered___repr : K.lookup f_Unnumbered___repr = some ⟨oc_Unnumbered___repr, od_Unnumbered___repr, .func (PySem.W.fnOf "__repr__" "Unnumbered.__repr__" (defArgs s_Unnumbered___repr) (defBody s_Unnumbered___repr) (defScope s_Unnumbered___repr) .none kV_Unnumbered___repr dc_Unnumbered___repr pm_Unnumbered___repr an_Unnumbered___repr cd_Unnumbered___repr ct_Unnumbered___repr), sl_Unnumbered___repr⟩)
    (c_Unnumbered___repr : PySem.W.codeIn K cd_Unnumbered___repr "Unnumbered.__repr__" = true)
    (k_Unnumbered___repr : PySem.W.keepIn K (.ref f_Unnumbered___repr) = true)
    (a_NoKey___init : PySem.W.findIn K (.ref C_NoKey) "__init__" = some (some (.ref f_NoKey___init)))
    (i_NoKey___init : PySem.W.isFn K (.ref f_NoKey___init) = true)
    (l_NoKey___init : K.lookup f_NoKey___init = some ⟨oc_NoKey___init, od_NoKey___init, .func (PySem.W.fnOf "__init__" "NoKey.__init__" (defArgs s_NoKey___init) (defBody s_NoKey___init) (defScope s_NoKey___init) .none kV_NoKey___init dc_NoKey___init pm_NoKey___init an_NoKey___init cd_NoKey___init ct_NoKey___init), sl_NoKey___init⟩)
    (c_NoKey___init : PySem.W.codeIn K cd_NoKey___init "NoKey.__init__" = true)
    (k_NoKey___init : PySem.W.keepIn K (.ref f_NoKey___init) = true)
    (a_law_pick : PySem.W.nsIn K mainGlobals "_law_pick" = some (some (.ref f_law_pick)))
    (l_law_pick : K.lookup f_law_pick = some ⟨oc_law_pick, od_law_pick, .func (PySem.W.fnOf "_law_pick" "_law_pick" (defArgs s_law_pick) (defBody s_law_pick) (defScope s_law_pick) .none kV_law_pick dc_law_pick pm_law_pick an_law_pick cd_law_pick ct_law_pick), sl_law_pick⟩)
    (c_law_pick : PySem.W.codeIn K cd_law_pick "_law_pick" = true)
    (k_law_pick : PySem.W.keepIn K (.ref f_law_pick) = true)
    (a_law_keys : PySem.W.nsIn K mainGlobals "_law_keys" = some (some (.ref f_law_keys)))
    (l_law_keys : K.lookup f_law_keys = some ⟨oc_law_keys, od_law_keys, .func (PySem.W.fnOf "_law_keys" "_law_keys" (defArgs s_law_keys) (defBody s_law_keys) (defScope s_law_keys) .none kV_law_keys dc_law_keys pm_law_keys an_law_keys cd_law_keys ct_law_keys), sl_law_keys⟩)
    (c_law_keys : PySem.W.codeIn K cd_law_keys "_law_keys" = true)
    (k_law_keys : PySem.W.keepIn K (.ref f_law_keys) = true)
    (a_Keyed___init : PySem.W.findIn K (.ref C_Keyed) "__init__" = some (some (.ref f_Keyed___init)))
    (i_Keyed___init : PySem.W.isFn K (.ref f_Keyed___init) = true)
    (l_Keyed___init : K.lookup f_Keyed___init = some ⟨oc_Keyed___init, od_Keyed___init, .func (PySem.W.fnOf "__init__" "Keyed.__init__" (defArgs s_Keyed___init) (defBody s_Keyed___init) (defScope s_Keyed___init) .none kV_Keyed___init dc_Keyed___init pm_Keyed___init an_Keyed___init cd_Keyed___init ct_Keyed___init), sl_Keyed___init⟩)
    (c_Keyed___init : PySem.W.codeIn K cd_Keyed___init "Keyed.__init__" = true)
    (k_Keyed___init : PySem.W.keepIn K (.ref f_Keyed___init) = true)
    (a_Keyed_worths : PySem.W.findIn K (.ref C_Keyed) "worths" = some (some (.ref f_Keyed_worths)))
    (i_Keyed_worths : PySem.W.isFn K (.ref f_Keyed_worths) = true)
    (l_Keyed_worths : K.lookup f_Keyed_worths = some ⟨oc_Keyed_worths, od_Keyed_worths, .func (PySem.W.fnOf "worths" "Keyed.worths" (defArgs s_Keyed_worths) (defBody s_Keyed_worths) (defScope s_Keyed_worths) .none kV_Keyed_worths dc_Keyed_worths pm_Keyed_worths an_Keyed_worths cd_Keyed_worths ct_Keyed_worths), sl_Keyed_worths⟩)
    (c_Keyed_worths : PySem.W.codeIn K cd_Keyed_worths "Keyed.worths" = true)
    (k_Keyed_worths : PySem.W.keepIn K (.ref f_Keyed_worths) = true)
    (a_Keyed_total : PySem.W.findIn K (.ref C_Keyed) "total" = some (some (.ref f_Keyed_total)))
    (i_Keyed_total : PySem.W.isFn K (.ref f_Keyed_total) = true)
    (l_Keyed_total : K.lookup f_Keyed_total = some ⟨oc_Keyed_total, od_Keyed_total, .func (PySem.W.fnOf "total" "Keyed.total" (defArgs s_Keyed_total) (defBody s_Keyed_total) (defScope s_Keyed_total) .none kV_Keyed_total dc_Keyed_total pm_Keyed_total an_Keyed_total cd_Keyed_total ct_Keyed_total), sl_Keyed_total⟩)
    (c_Keyed_total : PySem.W.codeIn K cd_Keyed_total "Keyed.total" = true)
    (k_Keyed_total : PySem.W.keepIn K (.ref f_Keyed_total) = true)
    (a_Keyed___getitem : PySem.W.findIn K (.ref C_Keyed) "__getitem__" = some (some (.ref f_Keyed___getitem)))
    (i_Keyed___getitem : PySem.W.isFn K (.ref f_Keyed___getitem) = true)
    (l_Keyed___getitem : K.lookup f_Keyed___getitem = some ⟨oc_Keyed___getitem, od_Keyed___getitem, .func (PySem.W.fnOf "__getitem__" "Keyed.__getitem__" (defArgs s_Keyed___getitem) (defBody s_Keyed___getitem) (defScope s_Keyed___getitem) .none kV_Keyed___getitem dc_Keyed___getitem pm_Keyed___getitem an_Keyed___getitem cd_Keyed___getitem ct_Keyed___getitem), sl_Keyed___getitem⟩)
    (c_Keyed___getitem : PySem.W.codeIn K cd_Keyed___getitem "Keyed.__getitem__" = true)
    (k_Keyed___getitem : PySem.W.keepIn K (.ref f_Keyed___getitem) = true)
    (a_Keyed___setitem : PySem.W.findIn K (.ref C_Keyed) "__setitem__" = some (some (.ref f_Keyed___setitem)))
    (i_Keyed___setitem : PySem.W.isFn K (.ref f_Keyed___setitem) = true)
    (l_Keyed___setitem : K.lookup f_Keyed___setitem = some ⟨oc_Keyed___setitem, od_Keyed___setitem, .func (PySem.W.fnOf "__setitem__" "Keyed.__setitem__" (defArgs s_Keyed___setitem) (defBody s_Keyed___setitem) (defScope s_Keyed___setitem) .none kV_Keyed___setitem dc_Keyed___setitem pm_Keyed___setitem an_Keyed___setitem cd_Keyed___setitem ct_Keyed___setitem), sl_Keyed___setitem⟩)
    (c_Keyed___setitem : PySem.W.codeIn K cd_Keyed___setitem "Keyed.__setitem__" = true)
    (k_Keyed___setitem : PySem.W.keepIn K (.ref f_Keyed___setitem) = true)
    (a_Keyed___contains : PySem.W.findIn K (.ref C_Keyed) "__contains__" = some (some (.ref f_Keyed___contains)))
    (i_Keyed___contains : PySem.W.isFn K (.ref f_Keyed___contains) = true)
    (l_Keyed___contains : K.lookup f_Keyed___contains = some ⟨oc_Keyed___contains, od_Keyed___contains, .func (PySem.W.fnOf "__contains__" "Keyed.__contains__" (defArgs s_Keyed___contains) (defBody s_Keyed___contains) (defScope s_Keyed___contains) .none kV_Keyed___contains dc_Keyed___contains pm_Keyed___contains an_Keyed___contains cd_Keyed___contains ct_Keyed___contains), sl_Keyed___contains⟩)
    (c_Keyed___contains : PySem.W.codeIn K cd_Keyed___contains "Keyed.__contains__" = true)
    (k_Keyed___contains : PySem.W.keepIn K (.ref f_Keyed___contains) = true)
    (a_Keyed___len : PySem.W.findIn K (.ref C_Keyed) "__len__" = some (some (.ref f_Keyed___len)))
    (i_Keyed___len : PySem.W.isFn K (.ref f_Keyed___len) = true)
    (l_Keyed___len : K.lookup f_Keyed___len = some ⟨oc_Keyed___len, od_Keyed___len, .func (PySem.W.fnOf "__len__" "Keyed.__len__" (defArgs s_Keyed___len) (defBody s_Keyed___len) (defScope s_Keyed___len) .none kV_Keyed___len dc_Keyed___len pm_Keyed___len an_Keyed___len cd_Keyed___len ct_Keyed___len), sl_Keyed___len⟩)
    (c_Keyed___len : PySem.W.codeIn K cd_Keyed___len "Keyed.__len__" = true)
    (k_Keyed___len : PySem.W.keepIn K (.ref f_Keyed___len) = true)
    (a_Keyed___iter : PySem.W.findIn K (.ref C_Keyed) "__iter__" = some (some (.ref f_Keyed___iter)))
    (i_Keyed___iter : PySem.W.isFn K (.ref f_Keyed___iter) = true)
    (l_Keyed___iter : K.lookup f_Keyed___iter = some ⟨oc_Keyed___iter, od_Keyed___iter, .func (PySem.W.fnOf "__iter__" "Keyed.__iter__" (defArgs s_Keyed___iter) (defBody s_Keyed___iter) (defScope s_Keyed___iter) .none kV_Keyed___iter dc_Keyed___iter pm_Keyed___iter an_Keyed___iter cd_Keyed___iter ct_Keyed___iter), sl_Keyed___iter⟩)
    (c_Keyed___iter : PySem.W.codeIn K cd_Keyed___iter "Keyed.__iter__" = true)
    (k_Keyed___iter : PySem.W.keepIn K (.ref f_Keyed___iter) = true)
    (a_law_is_int : PySem.W.nsIn K mainGlobals "_law_is_int" = some (some (.ref f_law_is_int)))
    (l_law_is_int : K.lookup f_law_is_int = some ⟨oc_law_is_int, od_law_is_int, .func (PySem.W.fnOf "_law_is_int" "_law_is_int" (defArgs s_law_is_int) (defBody s_law_is_int) (defScope s_law_is_int) .none kV_law_is_int dc_law_is_int pm_law_is_int an_law_is_int cd_law_is_int ct_law_is_int), sl_law_is_int⟩)
    (c_law_is_int : PySem.W.codeIn K cd_law_is_int "_law_is_int" = true)
    (k_law_is_int : PySem.W.keepIn K (.ref f_law_is_int) = true)
    (a_law_place : PySem.W.nsIn K mainGlobals "_law_place" = some (some (.ref f_law_place)))
    (l_law_place : K.lookup f_law_place = some ⟨oc_law_place, od_law_place, .func (PySem.W.fnOf "_law_place" "_law_place" (defArgs s_law_place) (defBody s_law_place) (defScope s_law_place) .none kV_law_place dc_law_place pm_law_place an_law_place cd_law_place ct_law_place), sl_law_place⟩)
    (c_law_place : PySem.W.codeIn K cd_law_place "_law_place" = true)
    (k_law_place : PySem.W.keepIn K (.ref f_law_place) = true)
    (a_law_missing : PySem.W.nsIn K mainGlobals "_law_missing" = some (some (.ref f_law_missing)))
    (l_law_missing : K.lookup f_law_missing = some ⟨oc_law_missing, od_law_missing, .func (PySem.W.fnOf "_law_missing" "_law_missing" (defArgs s_law_missing) (defBody s_law_missing) (defScope s_law_missing) .none kV_law_missing dc_law_missing pm_law_missing an_law_missing cd_law_missing ct_law_missing), sl_law_missing⟩)
    (c_law_missing : PySem.W.codeIn K cd_law_missing "_law_missing" = true)
    (k_law_missing : PySem.W.keepIn K (.ref f_law_missing) = true)
    (a_law_says : PySem.W.nsIn K mainGlobals "_law_says" = some (some (.ref f_law_says)))
    (l_law_says : K.lookup f_law_says = some ⟨oc_law_says, od_law_says, .func (PySem.W.fnOf "_law_says" "_law_says" (defArgs s_law_says) (defBody s_law_says) (defScope s_law_says) .none kV_law_says dc_law_says pm_law_says an_law_says cd_law_says ct_law_says), sl_law_says⟩)
    (c_law_says : PySem.W.codeIn K cd_law_says "_law_says" = true)
    (k_law_says : PySem.W.keepIn K (.ref f_law_says) = true)
    (a_law_shows : PySem.W.nsIn K mainGlobals "_law_shows" = some (some (.ref f_law_shows)))
    (l_law_shows : K.lookup f_law_shows = some ⟨oc_law_shows, od_law_shows, .func (PySem.W.fnOf "_law_shows" "_law_shows" (defArgs s_law_shows) (defBody s_law_shows) (defScope s_law_shows) .none kV_law_shows dc_law_shows pm_law_shows an_law_shows cd_law_shows ct_law_shows), sl_law_shows⟩)
    (c_law_shows : PySem.W.codeIn K cd_law_shows "_law_shows" = true)
    (k_law_shows : PySem.W.keepIn K (.ref f_law_shows) = true)
    (a_law : PySem.W.nsIn K mainGlobals "law" = some (some (.ref f_law)))
    (l_law : K.lookup f_law = some ⟨oc_law, od_law, .func (PySem.W.fnOf "law" "law" (defArgs s_law) (defBody s_law) (defScope s_law) .none kV_law dc_law pm_law an_law cd_law ct_law), sl_law⟩)
    (c_law : PySem.W.codeIn K cd_law "law" = true)
    (k_law : PySem.W.keepIn K (.ref f_law) = true)
    (pg_Keyed : PySem.W.plainGet K C_Keyed Str.empty = true)
    (hd_Keyed : PySem.W.hasDictIn K C_Keyed = true)
    (po_Keyed : PySem.W.plainOver K C_Keyed = true)
    (sa_Keyed : PySem.W.findIn K (.ref C_Keyed) "__setattr__" = some (some (.builtin "object.__setattr__")))
    (ca_Keyed : PySem.W.findIn K (.ref C_Keyed) "__class__" = some (some (.builtin "object.__class__")))
    (cm_Keyed : PySem.W.mroIn K C_Keyed (.type "object") = some true)
    (mk_Keyed : PySem.W.makesIn K C_Keyed = true)
    (kc_Keyed : PySem.W.keepIn K (.ref C_Keyed) = true)
    (xi_NoKey : PySem.W.excInitIn K C_NoKey [.type "LookupError", .type "Exception", .type "BaseException", .type "object"] "LookupError.__new__" = true)
    (xo_NoKey : PySem.W.excOver K C_NoKey [.type "LookupError", .type "Exception", .type "BaseException", .type "object"] = true)
    (xs_NoKey : PySem.W.findIn K (.ref C_NoKey) "__setattr__" = some (some (.builtin "object.__setattr__")))
    (xh_NoKey : PySem.W.hasDictIn K C_NoKey = true)
    (xg_NoKey : PySem.W.findIn K (.ref C_NoKey) "__getattribute__" = some (some (.builtin "BaseException.__getattribute__")))
    (xt_NoKey : PySem.W.findIn K (.ref C_NoKey) "__getattr__" = some none)
    (xb_NoKey : PySem.W.subIn K (.ref C_NoKey) (.type "BaseException") = some true)
    (xz_NoKey : PySem.W.subIn K (.ref C_NoKey) (.ref C_NoKey) = some true)
    (xy_NoKey : PySem.W.typeIn K (.ref C_NoKey) = some (.type "type"))
    (xk_NoKey : PySem.W.keepIn K (.ref C_NoKey) = true)
    (xc_NoKey : PySem.W.findIn K (.ref C_NoKey) "__class__" = some (some (.builtin "object.__class__")))
    (xm_NoKey : PySem.W.mroIn K C_NoKey (.type "object") = some true)
    (pg_Unnumbered : PySem.W.plainGet K C_Unnumbered Str.empty = true)
    (hd_Unnumbered : PySem.W.hasDictIn K C_Unnumbered = true)
    (po_Unnumbered : PySem.W.plainOver K C_Unnumbered = true)
    (sa_Unnumbered : PySem.W.findIn K (.ref C_Unnumbered) "__setattr__" = some (some (.builtin "object.__setattr__")))
    (ca_Unnumbered : PySem.W.findIn K (.ref C_Unnumbered) "__class__" = some (some (.builtin "object.__class__")))
    (cm_Unnumbered : PySem.W.mroIn K C_Unnumbered (.type "object") = some true)
    (mk_Unnumbered : PySem.W.makesIn K C_Unnumbered = true)
    (kc_Unnumbered : PySem.W.keepIn K (.ref C_Unnumbered) = true)
    (nq_Keyed : PySem.W.noSeq K C_Keyed = true)
    (ocn : PySem.W.specialIn K (.builtin "object.__class__") "__get__" = some (some (.builtin "getset_descriptor.__get__")))
    (oct : PySem.W.takesIn K (.builtin "object.__class__") = some true)
    (no_Keyed__held : PySem.W.findIn K (.ref C_Keyed) "_held" = some none)
    (no_Keyed__worths : PySem.W.findIn K (.ref C_Keyed) "_worths" = some none)
    (no_NoKey_key : PySem.W.findIn K (.ref C_NoKey) "key" = some none)
    (no_Unnumbered_name : PySem.W.findIn K (.ref C_Unnumbered) "name" = some none)
    (z_LookupError : PySem.W.nsIn K mainGlobals "LookupError" = some none)
    (z_abs : PySem.W.nsIn K mainGlobals "abs" = some none)
    (z_all : PySem.W.nsIn K mainGlobals "all" = some none)
    (z_any : PySem.W.nsIn K mainGlobals "any" = some none)
    (z_bool : PySem.W.nsIn K mainGlobals "bool" = some none)
    (z_int : PySem.W.nsIn K mainGlobals "int" = some none)
    (z_isinstance : PySem.W.nsIn K mainGlobals "isinstance" = some none)
    (z_iter : PySem.W.nsIn K mainGlobals "iter" = some none)
    (z_len : PySem.W.nsIn K mainGlobals "len" = some none)
    (z_list : PySem.W.nsIn K mainGlobals "list" = some none)
    (z_max : PySem.W.nsIn K mainGlobals "max" = some none)
    (z_min : PySem.W.nsIn K mainGlobals "min" = some none)
    (z_range : PySem.W.nsIn K mainGlobals "range" = some none)
    (z_sum : PySem.W.nsIn K mainGlobals "sum" = some none)
    (ki_NoKey_LookupError : PySem.W.kitOne K (.ref C_NoKey) (.type "LookupError") = some true)
    (ki_NoKey_NoAnswer : PySem.W.kitOne K (.ref C_NoKey) (.ref C_NoAnswer) = some false)
    (ki_NoneType_Unnumbered : PySem.W.kitOne K (.type "NoneType") (.ref C_Unnumbered) = some false)
    (ki_bool_Unnumbered : PySem.W.kitOne K (.type "bool") (.ref C_Unnumbered) = some false)
    (ki_int_Unnumbered : PySem.W.kitOne K (.type "int") (.ref C_Unnumbered) = some false)
    (ki_str_Unnumbered : PySem.W.kitOne K (.type "str") (.ref C_Unnumbered) = some false)
    (ki_list_Unnumbered : PySem.W.kitOne K (.type "list") (.ref C_Unnumbered) = some false)
    (ki_tuple_Unnumbered : PySem.W.kitOne K (.type "tuple") (.ref C_Unnumbered) = some false)
    (ki_Keyed_Unnumbered : PySem.W.kitOne K (.ref C_Keyed) (.ref C_Unnumbered) = some false)
    (ki_Unnumbered_Unnumbered : PySem.W.kitOne K (.ref C_Unnumbered) (.ref C_Unnumbered) = some true)
    (ki_Keyed_bool : PySem.W.kitOne K (.ref C_Keyed) (.type "bool") = some false)
    (ki_Unnumbered_bool : PySem.W.kitOne K (.ref C_Unnumbered) (.type "bool") = some false)
    (ki_Keyed_int : PySem.W.kitOne K (.ref C_Keyed) (.type "int") = some false)
    (ki_Unnumbered_int : PySem.W.kitOne K (.ref C_Unnumbered) (.type "int") = some false)
    (ki_Keyed_list : PySem.W.kitOne K (.ref C_Keyed) (.type "list") = some false)
    (ki_Unnumbered_list : PySem.W.kitOne K (.ref C_Unnumbered) (.type "list") = some false)
    : ∃ fd : FuncData, (∀ (s : Shared) (v : Value), BindsTo s fd ⟨[v], []⟩ [("_law_script", v)]) ∧ ∀ base : Heap, K.In base → base.Ns mainGlobals mg → FnOk l.prog w K mg base CX0 6 fa fd ["_law_script"] (sp_law K) := by
  have e := hfa.symm.trans (PySem.W.mg_of X G a_law)
  cases e
  have F_law_draw := fun_mk (st := s_law_draw) l_law_draw c_law_draw k_law_draw
  have B_law_draw := F_law_draw.binds (ps := ["_law_bag_here", "_law_many"]) fun _ _ _ _ _ _ us hl => match us, hl with | [_, _], _ => rfl
  have F_law_bag := fun_mk (st := s_law_bag) l_law_bag c_law_bag k_law_bag
  have B_law_bag := F_law_bag.binds (ps := ["_law_script", "_law_at"]) fun _ _ _ _ _ _ us hl => match us, hl with | [_, _], _ => rfl
  have F_law_number := fun_mk (st := s_law_number) l_law_number c_law_number k_law_number
  have B_law_number := F_law_number.binds (ps := ["_law_bag_here"]) fun _ _ _ _ _ _ us hl => match us, hl with | [_], _ => rfl
  have F_is_number := fun_mk (st := s_is_number) l_is_number c_is_number k_is_number
  have B_is_number := F_is_number.binds (ps := ["thing"]) fun _ _ _ _ _ _ us hl => match us, hl with | [_], _ => rfl
  have F_Unnumbered___init := fun_mk (st := s_Unnumbered___init) l_Unnumbered___init c_Unnumbered___init k_Unnumbered___init
  have B_Unnumbered___init := F_Unnumbered___init.binds (ps := ["self", "name"]) fun _ _ _ _ _ _ us hl => match us, hl with | [_, _], _ => rfl
  have F_is_entry := fun_mk (st := s_is_entry) l_is_entry c_is_entry k_is_entry
  have B_is_entry := F_is_entry.binds (ps := ["thing"]) fun _ _ _ _ _ _ us hl => match us, hl with | [_], _ => rfl
  have F_is_value := fun_mk (st := s_is_value) l_is_value c_is_value k_is_value
  have B_is_value := F_is_value.binds (ps := ["thing"]) fun _ _ _ _ _ _ us hl => match us, hl with | [_], _ => rfl
  have F_Unnumbered___eq := fun_mk (st := s_Unnumbered___eq) l_Unnumbered___eq c_Unnumbered___eq k_Unnumbered___eq
  have B_Unnumbered___eq := F_Unnumbered___eq.binds (ps := ["self", "other"]) fun _ _ _ _ _ _ us hl => match us, hl with | [_, _], _ => rfl
  have F_Unnumbered___ne := fun_mk (st := s_Unnumbered___ne) l_Unnumbered___ne c_Unnumbered___ne k_Unnumbered___ne
  have B_Unnumbered___ne := F_Unnumbered___ne.binds (ps := ["self", "other"]) fun _ _ _ _ _ _ us hl => match us, hl with | [_, _], _ => rfl
  have F_Unnumbered___lt := fun_mk (st := s_Unnumbered___lt) l_Unnumbered___lt c_Unnumbered___lt k_Unnumbered___lt
  have B_Unnumbered___lt := F_Unnumbered___lt.binds (ps := ["self", "other"]) fun _ _ _ _ _ _ us hl => match us, hl with | [_, _], _ => rfl
  have F_Unnumbered___le := fun_mk (st := s_Unnumbered___le) l_Unnumbered___le c_Unnumbered___le k_Unnumbered___le
  have B_Unnumbered___le := F_Unnumbered___le.binds (ps := ["self", "other"]) fun _ _ _ _ _ _ us hl => match us, hl with | [_, _], _ => rfl
  have F_Unnumbered___gt := fun_mk (st := s_Unnumbered___gt) l_Unnumbered___gt c_Unnumbered___gt k_Unnumbered___gt
  have B_Unnumbered___gt := F_Unnumbered___gt.binds (ps := ["self", "other"]) fun _ _ _ _ _ _ us hl => match us, hl with | [_, _], _ => rfl
  have F_Unnumbered___ge := fun_mk (st := s_Unnumbered___ge) l_Unnumbered___ge c_Unnumbered___ge k_Unnumbered___ge
  have B_Unnumbered___ge := F_Unnumbered___ge.binds (ps := ["self", "other"]) fun _ _ _ _ _ _ us hl => match us, hl with | [_, _], _ => rfl
  have F_Unnumbered___str := fun_mk (st := s_Unnumbered___str) l_Unnumbered___str c_Unnumbered___str k_Unnumbered___str
  have B_Unnumbered___str := F_Unnumbered___str.binds (ps := ["self"]) fun _ _ _ _ _ _ us hl => match us, hl with | [_], _ => rfl
  have F_Unnumbered___repr := fun_mk (st := s_Unnumbered___repr) l_Unnumbered___repr c_Unnumbered___repr k_Unnumbered___repr
  have B_Unnumbered___repr := F_Unnumbered___repr.binds (ps := ["self"]) fun _ _ _ _ _ _ us hl => match us, hl with | [_], _ => rfl
  have F_NoKey___init := fun_mk (st := s_NoKey___init) l_NoKey___init c_NoKey___init k_NoKey___init
  have B_NoKey___init := F_NoKey___init.binds (ps := ["self", "key"]) fun _ _ _ _ _ _ us hl => match us, hl with | [_, _], _ => rfl
  have F_law_pick := fun_mk (st := s_law_pick) l_law_pick c_law_pick k_law_pick
  have B_law_pick := F_law_pick.binds (ps := ["_law_bag_here", "_law_some"]) fun _ _ _ _ _ _ us hl => match us, hl with | [_, _], _ => rfl
  have F_law_keys := fun_mk (st := s_law_keys) l_law_keys c_law_keys k_law_keys
  have B_law_keys := F_law_keys.binds (ps := ["_law_bag_here", "_law_most"]) fun _ _ _ _ _ _ us hl => match us, hl with | [_, _], _ => rfl
  have F_Keyed___init := fun_mk (st := s_Keyed___init) l_Keyed___init c_Keyed___init k_Keyed___init
  have B_Keyed___init := F_Keyed___init.binds (ps := ["self"]) fun _ _ _ _ _ _ us hl => match us, hl with | [_], _ => rfl
  have F_Keyed_worths := fun_mk (st := s_Keyed_worths) l_Keyed_worths c_Keyed_worths k_Keyed_worths
  have B_Keyed_worths := F_Keyed_worths.binds (ps := ["self"]) fun _ _ _ _ _ _ us hl => match us, hl with | [_], _ => rfl
  have F_Keyed_total := fun_mk (st := s_Keyed_total) l_Keyed_total c_Keyed_total k_Keyed_total
  have B_Keyed_total := F_Keyed_total.binds (ps := ["self"]) fun _ _ _ _ _ _ us hl => match us, hl with | [_], _ => rfl
  have F_Keyed___getitem := fun_mk (st := s_Keyed___getitem) l_Keyed___getitem c_Keyed___getitem k_Keyed___getitem
  have B_Keyed___getitem := F_Keyed___getitem.binds (ps := ["self", "at"]) fun _ _ _ _ _ _ us hl => match us, hl with | [_, _], _ => rfl
  have F_Keyed___setitem := fun_mk (st := s_Keyed___setitem) l_Keyed___setitem c_Keyed___setitem k_Keyed___setitem
  have B_Keyed___setitem := F_Keyed___setitem.binds (ps := ["self", "at", "worth"]) fun _ _ _ _ _ _ us hl => match us, hl with | [_, _, _], _ => rfl
  have F_Keyed___contains := fun_mk (st := s_Keyed___contains) l_Keyed___contains c_Keyed___contains k_Keyed___contains
  have B_Keyed___contains := F_Keyed___contains.binds (ps := ["self", "x"]) fun _ _ _ _ _ _ us hl => match us, hl with | [_, _], _ => rfl
  have F_Keyed___len := fun_mk (st := s_Keyed___len) l_Keyed___len c_Keyed___len k_Keyed___len
  have B_Keyed___len := F_Keyed___len.binds (ps := ["self"]) fun _ _ _ _ _ _ us hl => match us, hl with | [_], _ => rfl
  have F_Keyed___iter := fun_mk (st := s_Keyed___iter) l_Keyed___iter c_Keyed___iter k_Keyed___iter
  have B_Keyed___iter := F_Keyed___iter.binds (ps := ["self"]) fun _ _ _ _ _ _ us hl => match us, hl with | [_], _ => rfl
  have F_law_is_int := fun_mk (st := s_law_is_int) l_law_is_int c_law_is_int k_law_is_int
  have B_law_is_int := F_law_is_int.binds (ps := ["_law_thing"]) fun _ _ _ _ _ _ us hl => match us, hl with | [_], _ => rfl
  have F_law_place := fun_mk (st := s_law_place) l_law_place c_law_place k_law_place
  have B_law_place := F_law_place.binds (ps := ["_law_keys_here", "_law_key"]) fun _ _ _ _ _ _ us hl => match us, hl with | [_, _], _ => rfl
  have F_law_missing := fun_mk (st := s_law_missing) l_law_missing c_law_missing k_law_missing
  have B_law_missing := F_law_missing.binds (ps := ["_law_table", "_law_key"]) fun _ _ _ _ _ _ us hl => match us, hl with | [_, _], _ => rfl
  have F_law_says := fun_mk (st := s_law_says) l_law_says c_law_says k_law_says
  have B_law_says := F_law_says.binds (ps := ["_law_told", "_law_due"]) fun _ _ _ _ _ _ us hl => match us, hl with | [_, _], _ => rfl
  have F_law_shows := fun_mk (st := s_law_shows) l_law_shows c_law_shows k_law_shows
  have B_law_shows := F_law_shows.binds (ps := ["_law_table", "_law_keys_here", "_law_worths"]) fun _ _ _ _ _ _ us hl => match us, hl with | [_, _, _], _ => rfl
  have F_law := fun_mk (st := s_law) l_law c_law k_law
  have B_law := F_law.binds (ps := ["_law_script"]) fun _ _ _ _ _ _ us hl => match us, hl with | [_], _ => rfl
  let T : Top K mg := { C_Keyed := C_Keyed, C_NoAnswer := C_NoAnswer, C_NoKey := C_NoKey, C_Unnumbered := C_Unnumbered, f_law_draw := f_law_draw, fd_law_draw := _, F_law_draw := F_law_draw, B_law_draw := B_law_draw, mg_law_draw := PySem.W.mg_of X G a_law_draw, f_law_bag := f_law_bag, fd_law_bag := _, F_law_bag := F_law_bag, B_law_bag := B_law_bag, mg_law_bag := PySem.W.mg_of X G a_law_bag, f_law_number := f_law_number, fd_law_number := _, F_law_number := F_law_number, B_law_number := B_law_number, mg_law_number := PySem.W.mg_of X G a_law_number, f_is_number := f_is_number, fd_is_number := _, F_is_number := F_is_number, B_is_number := B_is_number, mg_is_number := PySem.W.mg_of X G a_is_number, f_Unnumbered___init := f_Unnumbered___init, fd_Unnumbered___init := _, F_Unnumbered___init := F_Unnumbered___init, B_Unnumbered___init := B_Unnumbered___init, f_is_entry := f_is_entry, fd_is_entry := _, F_is_entry := F_is_entry, B_is_entry := B_is_entry, mg_is_entry := PySem.W.mg_of X G a_is_entry, f_is_value := f_is_value, fd_is_value := _, F_is_value := F_is_value, B_is_value := B_is_value, mg_is_value := PySem.W.mg_of X G a_is_value, f_Unnumbered___eq := f_Unnumbered___eq, fd_Unnumbered___eq := _, F_Unnumbered___eq := F_Unnumbered___eq, B_Unnumbered___eq := B_Unnumbered___eq, f_Unnumbered___ne := f_Unnumbered___ne, fd_Unnumbered___ne := _, F_Unnumbered___ne := F_Unnumbered___ne, B_Unnumbered___ne := B_Unnumbered___ne, f_Unnumbered___lt := f_Unnumbered___lt, fd_Unnumbered___lt := _, F_Unnumbered___lt := F_Unnumbered___lt, B_Unnumbered___lt := B_Unnumbered___lt, f_Unnumbered___le := f_Unnumbered___le, fd_Unnumbered___le := _, F_Unnumbered___le := F_Unnumbered___le, B_Unnumbered___le := B_Unnumbered___le, f_Unnumbered___gt := f_Unnumbered___gt, fd_Unnumbered___gt := _, F_Unnumbered___gt := F_Unnumbered___gt, B_Unnumbered___gt := B_Unnumbered___gt, f_Unnumbered___ge := f_Unnumbered___ge, fd_Unnumbered___ge := _, F_Unnumbered___ge := F_Unnumbered___ge, B_Unnumbered___ge := B_Unnumbered___ge, f_Unnumbered___str := f_Unnumbered___str, fd_Unnumbered___str := _, F_Unnumbered___str := F_Unnumbered___str, B_Unnumbered___str := B_Unnumbered___str, f_Unnumbered___repr := f_Unnumbered___repr, fd_Unnumbered___repr := _, F_Unnumbered___repr := F_Unnumbered___repr, B_Unnumbered___repr := B_Unnumbered___repr, f_NoKey___init := f_NoKey___init, fd_NoKey___init := _, F_NoKey___init := F_NoKey___init, B_NoKey___init := B_NoKey___init, f_law_pick := f_law_pick, fd_law_pick := _, F_law_pick := F_law_pick, B_law_pick := B_law_pick, mg_law_pick := PySem.W.mg_of X G a_law_pick, f_law_keys := f_law_keys, fd_law_keys := _, F_law_keys := F_law_keys, B_law_keys := B_law_keys, mg_law_keys := PySem.W.mg_of X G a_law_keys, f_Keyed___init := f_Keyed___init, fd_Keyed___init := _, F_Keyed___init := F_Keyed___init, B_Keyed___init := B_Keyed___init, f_Keyed_worths := f_Keyed_worths, fd_Keyed_worths := _, F_Keyed_worths := F_Keyed_worths, B_Keyed_worths := B_Keyed_worths, f_Keyed_total := f_Keyed_total, fd_Keyed_total := _, F_Keyed_total := F_Keyed_total, B_Keyed_total := B_Keyed_total, f_Keyed___getitem := f_Keyed___getitem, fd_Keyed___getitem := _, F_Keyed___getitem := F_Keyed___getitem, B_Keyed___getitem := B_Keyed___getitem, f_Keyed___setitem := f_Keyed___setitem, fd_Keyed___setitem := _, F_Keyed___setitem := F_Keyed___setitem, B_Keyed___setitem := B_Keyed___setitem, f_Keyed___contains := f_Keyed___contains, fd_Keyed___contains := _, F_Keyed___contains := F_Keyed___contains, B_Keyed___contains := B_Keyed___contains, f_Keyed___len := f_Keyed___len, fd_Keyed___len := _, F_Keyed___len := F_Keyed___len, B_Keyed___len := B_Keyed___len, f_Keyed___iter := f_Keyed___iter, fd_Keyed___iter := _, F_Keyed___iter := F_Keyed___iter, B_Keyed___iter := B_Keyed___iter, f_law_is_int := f_law_is_int, fd_law_is_int := _, F_law_is_int := F_law_is_int, B_law_is_int := B_law_is_int, mg_law_is_int := PySem.W.mg_of X G a_law_is_int, f_law_place := f_law_place, fd_law_place := _, F_law_place := F_law_place, B_law_place := B_law_place, mg_law_place := PySem.W.mg_of X G a_law_place, f_law_missing := f_law_missing, fd_law_missing := _, F_law_missing := F_law_missing, B_law_missing := B_law_missing, mg_law_missing := PySem.W.mg_of X G a_law_missing, f_law_says := f_law_says, fd_law_says := _, F_law_says := F_law_says, B_law_says := B_law_says, mg_law_says := PySem.W.mg_of X G a_law_says, f_law_shows := f_law_shows, fd_law_shows := _, F_law_shows := F_law_shows, B_law_shows := B_law_shows, mg_law_shows := PySem.W.mg_of X G a_law_shows, f_law := fa, fd_law := _, F_law := F_law, B_law := B_law, mg_law := PySem.W.mg_of X G a_law, mgC_Keyed := PySem.W.mg_of X G aC_Keyed, cl_Keyed := ⟨pg_Keyed, hd_Keyed, po_Keyed, sa_Keyed⟩, in_Keyed := ⟨ca_Keyed, cm_Keyed, ocn, oct⟩, mk_Keyed := ⟨mk_Keyed, a_Keyed___init, i_Keyed___init, kc_Keyed⟩, mgC_NoAnswer := PySem.W.mg_of X G aC_NoAnswer, mgC_NoKey := PySem.W.mg_of X G aC_NoKey, ex_NoKey := ⟨⟨_, _, _, _, PySem.F.excBase_LookupError, xi_NoKey⟩, ⟨_, _, PySem.F.store_LookupError, xo_NoKey⟩, a_NoKey___init, i_NoKey___init, xs_NoKey, xh_NoKey, xg_NoKey, xt_NoKey, xb_NoKey, xz_NoKey, xy_NoKey, xk_NoKey, xc_NoKey, xm_NoKey, ocn, oct⟩, mgC_Unnumbered := PySem.W.mg_of X G aC_Unnumbered, cl_Unnumbered := ⟨pg_Unnumbered, hd_Unnumbered, po_Unnumbered, sa_Unnumbered⟩, in_Unnumbered := ⟨ca_Unnumbered, cm_Unnumbered, ocn, oct⟩, mk_Unnumbered := ⟨mk_Unnumbered, a_Unnumbered___init, i_Unnumbered___init, kc_Unnumbered⟩, me_Keyed___contains := ⟨a_Keyed___contains, i_Keyed___contains, k_Keyed___contains⟩, me_Keyed___getitem := ⟨a_Keyed___getitem, i_Keyed___getitem, k_Keyed___getitem⟩, me_Keyed___iter := ⟨a_Keyed___iter, i_Keyed___iter, k_Keyed___iter⟩, me_Keyed___len := ⟨a_Keyed___len, i_Keyed___len, k_Keyed___len⟩, me_Keyed___setitem := ⟨a_Keyed___setitem, i_Keyed___setitem, k_Keyed___setitem⟩, me_Keyed_total := ⟨a_Keyed_total, i_Keyed_total, k_Keyed_total⟩, me_Keyed_worths := ⟨a_Keyed_worths, i_Keyed_worths, k_Keyed_worths⟩, me_Unnumbered___eq := ⟨a_Unnumbered___eq, i_Unnumbered___eq, k_Unnumbered___eq⟩, nq_Keyed := nq_Keyed, no_Keyed__held := no_Keyed__held, no_Keyed__worths := no_Keyed__worths, no_NoKey_key := no_NoKey_key, no_Unnumbered_name := no_Unnumbered_name, z_LookupError := PySem.W.mg_none_of X G z_LookupError, z_abs := PySem.W.mg_none_of X G z_abs, z_all := PySem.W.mg_none_of X G z_all, z_any := PySem.W.mg_none_of X G z_any, z_bool := PySem.W.mg_none_of X G z_bool, z_int := PySem.W.mg_none_of X G z_int, z_isinstance := PySem.W.mg_none_of X G z_isinstance, z_iter := PySem.W.mg_none_of X G z_iter, z_len := PySem.W.mg_none_of X G z_len, z_list := PySem.W.mg_none_of X G z_list, z_max := PySem.W.mg_none_of X G z_max, z_min := PySem.W.mg_none_of X G z_min, z_range := PySem.W.mg_none_of X G z_range, z_sum := PySem.W.mg_none_of X G z_sum, ki_NoKey_LookupError := ki_NoKey_LookupError, ki_NoKey_NoAnswer := ki_NoKey_NoAnswer, ki_NoneType_Unnumbered := ki_NoneType_Unnumbered, ki_bool_Unnumbered := ki_bool_Unnumbered, ki_int_Unnumbered := ki_int_Unnumbered, ki_str_Unnumbered := ki_str_Unnumbered, ki_list_Unnumbered := ki_list_Unnumbered, ki_tuple_Unnumbered := ki_tuple_Unnumbered, ki_Keyed_Unnumbered := ki_Keyed_Unnumbered, ki_Unnumbered_Unnumbered := ki_Unnumbered_Unnumbered, ki_Keyed_bool := ki_Keyed_bool, ki_Unnumbered_bool := ki_Unnumbered_bool, ki_Keyed_int := ki_Keyed_int, ki_Unnumbered_int := ki_Unnumbered_int, ki_Keyed_list := ki_Keyed_list, ki_Unnumbered_list := ki_Unnumbered_list }
  exact ⟨PySem.W.fnOf "law" "law" (defArgs s_law) (defBody s_law) (defScope s_law) .none kV_law dc_law pm_law an_law cd_law ct_law, fun s v => .of_eq rfl, fun base _ _ => ok_law T⟩
theorem walk {l : PySem.W.OpenLaw} {q : Program} {loose : List Str} {XP : (Str → Option Value) → Heap → Prop} {YP : World → Heap → Prop} {d : DefRec} {K : Params → PySem.W.Frag} (hn : l.most = some 63) (hdf : d.params.defaults = [])
    (hY : ∀ (w : World) (h : Heap), YP w h → (K w.params).In h)
    (F : ∀ (w : World) (mg : Str → Option Value) (fa : Addr) (h : Heap), (K w.params).In h → h.Ns mainGlobals mg → mg d.name = some (.ref fa) →
      ∃ fd : FuncData, (∀ (s : Shared) (u : Value), BindsTo s fd ⟨[u], []⟩ [("_law_script", u)]) ∧ ∀ base : Heap, (K w.params).In base → base.Ns mainGlobals mg → FnOk l.prog w (K w.params) mg base CX0 6 fa fd ["_law_script"] (sp_law (K w.params))) :
    PySem.W.WalkO q loose XP YP l.row.toRowW d [] (fun f vs => PySem.call f vs) :=
  L2.walk_of (n := 63) (k := 6) (x := "_law_script") (CX := fun _ => CX0) (sp := fun w => sp_law (K w.params)) hn (by decide) hdf ⟨rfl, by decide, by decide⟩ hY F (fun _ _ a ns hl _ hS => ⟨a, ns, rfl, hS, hl, fun _ => rfl⟩) fun _ _ _ _ _ z => z
end My

open PySem PySem.W PyProof.Rows in
set_option maxRecDepth 100000 in
set_option maxHeartbeats 0 in
theorem PySem.Challenge.cw_unnumbered_k60_tables_by_keys_holds : PySem.Challenge.rw_unnumbered_k60_tables_by_keys.Holds := by
  w_on; o_law; k_head; (case hw => w_witness2)
  k_fill
  refine My.walk (l := PySem.Challenge.rw_unnumbered_k60_tables_by_keys) rfl rfl (fun w h Y => PySem.W.kIn_of Y) ?F
  case F =>
    intro w mg fa h KX G hmg
    refine' My.all_mk KX G hmg ?aC_Keyed ?aC_NoAnswer ?aC_NoKey ?aC_Unnumbered ?a_law_draw ?l_law_draw ?c_law_draw ?k_law_draw ?a_law_bag ?l_law_bag ?c_law_bag ?k_law_bag ?a_law_number ?l_law_number ?c_law_number ?k_law_number ?a_is_number ?l_is_number ?c_is_number ?k_is_number ?a_Unnumbered___init ?i_Unnumbered___init ?l_Unnumbered___init ?c_Unnumbered___init ?k_Unnumbered___init ?a_is_entry ?l_is_entry ?c_is_entry ?k_is_entry ?a_is_value ?l_is_value ?c_is_value ?k_is_value ?a_Unnumbered___eq ?i_Unnumbered___eq ?l_Unnumbered___eq ?c_Unnumbered___eq ?k_Unnumbered___eq ?a_Unnumbered___ne ?i_Unnumbered___ne ?l_Unnumbered___ne ?c_Unnumbered___ne ?k_Unnumbered___ne ?a_Unnumbered___lt ?i_Unnumbered___lt ?l_Unnumbered___lt ?c_Unnumbered___lt ?k_Unnumbered___lt ?a_Unnumbered___le ?i_Unnumbered___le ?l_Unnumbered___le ?c_Unnumbered___le ?k_Unnumbered___le ?a_Unnumbered___gt ?i_Unnumbered___gt ?l_Unnumbered___gt ?c_Unnumbered___gt ?k_Unnumbered___gt ?a_Unnumbered___ge ?i_Unnumbered___ge ?l_Unnumbered___ge ?c_Unnumbered___ge ?k_Unnumbered___ge ?a_Unnumbered___str ?i_Unnumbered___str ?l_Unnumbered___str ?c_Unnumbered___str ?k_Unnumbered___str ?a_Unnumbered___repr ?i_Unnumbered___repr ?l_Unnumbered___repr ?c_Unnumbered___repr ?k_Unnumbered___repr ?a_NoKey___init ?i_NoKey___init ?l_NoKey___init ?c_NoKey___init ?k_NoKey___init ?a_law_pick ?l_law_pick ?c_law_pick ?k_law_pick ?a_law_keys ?l_law_keys ?c_law_keys ?k_law_keys ?a_Keyed___init ?i_Keyed___init ?l_Keyed___init ?c_Keyed___init ?k_Keyed___init ?a_Keyed_worths ?i_Keyed_worths ?l_Keyed_worths ?c_Keyed_worths ?k_Keyed_worths ?a_Keyed_total ?i_Keyed_total ?l_Keyed_total ?c_Keyed_total ?k_Keyed_total ?a_Keyed___getitem ?i_Keyed___getitem ?l_Keyed___getitem ?c_Keyed___getitem ?k_Keyed___getitem ?a_Keyed___setitem ?i_Keyed___setitem ?l_Keyed___setitem ?c_Keyed___setitem ?k_Keyed___setitem ?a_Keyed___contains ?i_Keyed___contains ?l_Keyed___contains ?c_Keyed___contains ?k_Keyed___contains ?a_Keyed___len ?i_Keyed___len ?l_Keyed___len ?c_Keyed___len ?k_Keyed___len ?a_Keyed___iter ?i_Keyed___iter ?l_Keyed___iter ?c_Keyed___iter ?k_Keyed___iter ?a_law_is_int ?l_law_is_int ?c_law_is_int ?k_law_is_int ?a_law_place ?l_law_place ?c_law_place ?k_law_place ?a_law_missing ?l_law_missing ?c_law_missing ?k_law_missing ?a_law_says ?l_law_says ?c_law_says ?k_law_says ?a_law_shows ?l_law_shows ?c_law_shows ?k_law_shows ?a_law ?l_law ?c_law ?k_law ?pg_Keyed ?hd_Keyed ?po_Keyed ?sa_Keyed ?ca_Keyed ?cm_Keyed ?mk_Keyed ?kc_Keyed ?xi_NoKey ?xo_NoKey ?xs_NoKey ?xh_NoKey ?xg_NoKey ?xt_NoKey ?xb_NoKey ?xz_NoKey ?xy_NoKey ?xk_NoKey ?xc_NoKey ?xm_NoKey ?pg_Unnumbered ?hd_Unnumbered ?po_Unnumbered ?sa_Unnumbered ?ca_Unnumbered ?cm_Unnumbered ?mk_Unnumbered ?kc_Unnumbered ?nq_Keyed ?ocn ?oct ?no_Keyed__held ?no_Keyed__worths ?no_NoKey_key ?no_Unnumbered_name ?z_LookupError ?z_abs ?z_all ?z_any ?z_bool ?z_int ?z_isinstance ?z_iter ?z_len ?z_list ?z_max ?z_min ?z_range ?z_sum ?ki_NoKey_LookupError ?ki_NoKey_NoAnswer ?ki_NoneType_Unnumbered ?ki_bool_Unnumbered ?ki_int_Unnumbered ?ki_str_Unnumbered ?ki_list_Unnumbered ?ki_tuple_Unnumbered ?ki_Keyed_Unnumbered ?ki_Unnumbered_Unnumbered ?ki_Keyed_bool ?ki_Unnumbered_bool ?ki_Keyed_int ?ki_Unnumbered_int ?ki_Keyed_list ?ki_Unnumbered_list
    (case aC_Keyed => k_is)
    (case aC_NoAnswer => k_is)
    (case aC_NoKey => k_is)
    (case aC_Unnumbered => k_is)
    (case a_law_draw => k_is)
    (case l_law_draw => k_is)
    (case c_law_draw => k_is)
    (case k_law_draw => k_is)
    (case a_law_bag => k_is)
    (case l_law_bag => k_is)
    (case c_law_bag => k_is)
    (case k_law_bag => k_is)
    (case a_law_number => k_is)
    (case l_law_number => k_is)
    (case c_law_number => k_is)
    (case k_law_number => k_is)
    (case a_is_number => k_is)
    (case l_is_number => k_is)
    (case c_is_number => k_is)
    (case k_is_number => k_is)
    (case a_Unnumbered___init => k_is)
    (case i_Unnumbered___init => k_is)
    (case l_Unnumbered___init => k_is)
    (case c_Unnumbered___init => k_is)
    (case k_Unnumbered___init => k_is)
    (case a_is_entry => k_is)
    (case l_is_entry => k_is)
    (case c_is_entry => k_is)
    (case k_is_entry => k_is)
    (case a_is_value => k_is)
    (case l_is_value => k_is)
    (case c_is_value => k_is)
    (case k_is_value => k_is)
    (case a_Unnumbered___eq => k_is)
    (case i_Unnumbered___eq => k_is)
    (case l_Unnumbered___eq => k_is)
    (case c_Unnumbered___eq => k_is)
    (case k_Unnumbered___eq => k_is)
    (case a_Unnumbered___ne => k_is)
    (case i_Unnumbered___ne => k_is)
    (case l_Unnumbered___ne => k_is)
    (case c_Unnumbered___ne => k_is)
    (case k_Unnumbered___ne => k_is)
    (case a_Unnumbered___lt => k_is)
    (case i_Unnumbered___lt => k_is)
    (case l_Unnumbered___lt => k_is)
    (case c_Unnumbered___lt => k_is)
    (case k_Unnumbered___lt => k_is)
    (case a_Unnumbered___le => k_is)
    (case i_Unnumbered___le => k_is)
    (case l_Unnumbered___le => k_is)
    (case c_Unnumbered___le => k_is)
    (case k_Unnumbered___le => k_is)
    (case a_Unnumbered___gt => k_is)
    (case i_Unnumbered___gt => k_is)
    (case l_Unnumbered___gt => k_is)
    (case c_Unnumbered___gt => k_is)
    (case k_Unnumbered___gt => k_is)
    (case a_Unnumbered___ge => k_is)
    (case i_Unnumbered___ge => k_is)
    (case l_Unnumbered___ge => k_is)
    (case c_Unnumbered___ge => k_is)
    (case k_Unnumbered___ge => k_is)
    (case a_Unnumbered___str => k_is)
    (case i_Unnumbered___str => k_is)
    (case l_Unnumbered___str => k_is)
    (case c_Unnumbered___str => k_is)
    (case k_Unnumbered___str => k_is)
    (case a_Unnumbered___repr => k_is)
    (case i_Unnumbered___repr => k_is)
    (case l_Unnumbered___repr => k_is)
    (case c_Unnumbered___repr => k_is)
    (case k_Unnumbered___repr => k_is)
    (case a_NoKey___init => k_is)
    (case i_NoKey___init => k_is)
    (case l_NoKey___init => k_is)
    (case c_NoKey___init => k_is)
    (case k_NoKey___init => k_is)
    (case a_law_pick => k_is)
    (case l_law_pick => k_is)
    (case c_law_pick => k_is)
    (case k_law_pick => k_is)
    (case a_law_keys => k_is)
    (case l_law_keys => k_is)
    (case c_law_keys => k_is)
    (case k_law_keys => k_is)
    (case a_Keyed___init => k_is)
    (case i_Keyed___init => k_is)
    (case l_Keyed___init => k_is)
    (case c_Keyed___init => k_is)
    (case k_Keyed___init => k_is)
    (case a_Keyed_worths => k_is)
    (case i_Keyed_worths => k_is)
    (case l_Keyed_worths => k_is)
    (case c_Keyed_worths => k_is)
    (case k_Keyed_worths => k_is)
    (case a_Keyed_total => k_is)
    (case i_Keyed_total => k_is)
    (case l_Keyed_total => k_is)
    (case c_Keyed_total => k_is)
    (case k_Keyed_total => k_is)
    (case a_Keyed___getitem => k_is)
    (case i_Keyed___getitem => k_is)
    (case l_Keyed___getitem => k_is)
    (case c_Keyed___getitem => k_is)
    (case k_Keyed___getitem => k_is)
    (case a_Keyed___setitem => k_is)
    (case i_Keyed___setitem => k_is)
    (case l_Keyed___setitem => k_is)
    (case c_Keyed___setitem => k_is)
    (case k_Keyed___setitem => k_is)
    (case a_Keyed___contains => k_is)
    (case i_Keyed___contains => k_is)
    (case l_Keyed___contains => k_is)
    (case c_Keyed___contains => k_is)
    (case k_Keyed___contains => k_is)
    (case a_Keyed___len => k_is)
    (case i_Keyed___len => k_is)
    (case l_Keyed___len => k_is)
    (case c_Keyed___len => k_is)
    (case k_Keyed___len => k_is)
    (case a_Keyed___iter => k_is)
    (case i_Keyed___iter => k_is)
    (case l_Keyed___iter => k_is)
    (case c_Keyed___iter => k_is)
    (case k_Keyed___iter => k_is)
    (case a_law_is_int => k_is)
    (case l_law_is_int => k_is)
    (case c_law_is_int => k_is)
    (case k_law_is_int => k_is)
    (case a_law_place => k_is)
    (case l_law_place => k_is)
    (case c_law_place => k_is)
    (case k_law_place => k_is)
    (case a_law_missing => k_is)
    (case l_law_missing => k_is)
    (case c_law_missing => k_is)
    (case k_law_missing => k_is)
    (case a_law_says => k_is)
    (case l_law_says => k_is)
    (case c_law_says => k_is)
    (case k_law_says => k_is)
    (case a_law_shows => k_is)
    (case l_law_shows => k_is)
    (case c_law_shows => k_is)
    (case k_law_shows => k_is)
    (case a_law => k_is)
    (case l_law => k_is)
    (case c_law => k_is)
    (case k_law => k_is)
    (case pg_Keyed => k_is)
    (case hd_Keyed => k_is)
    (case po_Keyed => k_is)
    (case sa_Keyed => k_is)
    (case ca_Keyed => k_is)
    (case cm_Keyed => k_is)
    (case mk_Keyed => k_is)
    (case kc_Keyed => k_is)
    (case xi_NoKey => kx_is)
    (case xo_NoKey => kx_is)
    (case xs_NoKey => k_is)
    (case xh_NoKey => k_is)
    (case xg_NoKey => k_is)
    (case xt_NoKey => k_is)
    (case xb_NoKey => k_is)
    (case xz_NoKey => k_is)
    (case xy_NoKey => k_is)
    (case xk_NoKey => k_is)
    (case xc_NoKey => k_is)
    (case xm_NoKey => k_is)
    (case pg_Unnumbered => k_is)
    (case hd_Unnumbered => k_is)
    (case po_Unnumbered => k_is)
    (case sa_Unnumbered => k_is)
    (case ca_Unnumbered => k_is)
    (case cm_Unnumbered => k_is)
    (case mk_Unnumbered => k_is)
    (case kc_Unnumbered => k_is)
    (case nq_Keyed => k_is)
    (case ocn => k_is)
    (case oct => k_is)
    (case no_Keyed__held => k_is)
    (case no_Keyed__worths => k_is)
    (case no_NoKey_key => k_is)
    (case no_Unnumbered_name => k_is)
    (case z_LookupError => k_is)
    (case z_abs => k_is)
    (case z_all => k_is)
    (case z_any => k_is)
    (case z_bool => k_is)
    (case z_int => k_is)
    (case z_isinstance => k_is)
    (case z_iter => k_is)
    (case z_len => k_is)
    (case z_list => k_is)
    (case z_max => k_is)
    (case z_min => k_is)
    (case z_range => k_is)
    (case z_sum => k_is)
    (case ki_NoKey_LookupError => kit_is)
    (case ki_NoKey_NoAnswer => kit_is)
    (case ki_NoneType_Unnumbered => kit_is)
    (case ki_bool_Unnumbered => kit_is)
    (case ki_int_Unnumbered => kit_is)
    (case ki_str_Unnumbered => kit_is)
    (case ki_list_Unnumbered => kit_is)
    (case ki_tuple_Unnumbered => kit_is)
    (case ki_Keyed_Unnumbered => kit_is)
    (case ki_Unnumbered_Unnumbered => kit_is)
    (case ki_Keyed_bool => kit_is)
    (case ki_Unnumbered_bool => kit_is)
    (case ki_Keyed_int => kit_is)
    (case ki_Unnumbered_int => kit_is)
    (case ki_Keyed_list => kit_is)
    (case ki_Unnumbered_list => kit_is)
#print axioms PySem.Challenge.cw_unnumbered_k60_tables_by_keys_holds
