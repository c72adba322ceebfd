import PyProof.Rows.All
import Wide.All
import OpenK.AllK
import Wide.FinOn
import HandS.ForMost
import HandS.IsInst
import HandS.Style
import HandS.OwnEq
import HandS.SlotsOwn
import KE.RegKIsAll
import KE.KOpsOwn
import HandS.Wide
import HandS.FStr
import HandS.ExcInit
import KE.KExcInit
import KE.KExcLine
import KE.KExcIs
import PySem.Challenge.RW_unnumbered_k89_errors_made
set_option Elab.async false
set_option linter.all false
set_option maxRecDepth 100000
set_option maxHeartbeats 4000000
set_option autoImplicit false
namespace My
open PySem PySem.Spec PyProof.Rows L2
/-! the text by its places -/
def topS (i : Nat) : Stmt := PySem.Challenge.pw_unnumbered_k89_errors_made.main.body.getD i (.Pass ⟨0, 0, 0, 0⟩)
abbrev s_law_draw : Stmt := topS 22
abbrev s_law_bag : Stmt := topS 21
abbrev s_law_number : Stmt := topS 23
abbrev s_law_word : Stmt := topS 24
abbrev s_Unnumbered___init : Stmt := inClass (topS 19) 0
abbrev s_BadSeries___init : Stmt := inClass (topS 2) 0
abbrev s_BadProgram___init : Stmt := inClass (topS 3) 0
abbrev s_BadMerge___init : Stmt := inClass (topS 4) 0
abbrev s_BadRule___init : Stmt := inClass (topS 5) 0
abbrev s_BadWish___init : Stmt := inClass (topS 6) 0
abbrev s_BadEntry___init : Stmt := inClass (topS 7) 0
abbrev s_BadWay___init : Stmt := inClass (topS 8) 0
abbrev s_Unlike___init : Stmt := inClass (topS 9) 0
abbrev s_NoMend___init : Stmt := inClass (topS 10) 0
abbrev s_NoMatch___init : Stmt := inClass (topS 11) 0
abbrev s_TooMany___init : Stmt := inClass (topS 12) 0
abbrev s_NoKey___init : Stmt := inClass (topS 13) 0
abbrev s_NoAnswer___init : Stmt := inClass (topS 14) 0
abbrev s_law_first : Stmt := topS 25
abbrev s_law_error : Stmt := topS 26
abbrev s_law_kinds : Stmt := topS 27
abbrev s_law_thing : Stmt := topS 28
abbrev s_law : Stmt := topS 29
/-! readings, step by step; heaps; short words -/
namespace Z
structure Inst (K : PySem.W.Frag) (C : Addr) : Prop where
  ca : PySem.W.findIn K (.ref C) "__class__" = some (some (.builtin "object.__class__"))
  cm : PySem.W.mroIn K C (.type "object") = some true
  cn : PySem.W.specialIn K (.builtin "object.__class__") "__get__" = some (some (.builtin "getset_descriptor.__get__"))
  ct : PySem.W.takesIn K (.builtin "object.__class__") = some true
/-- all but b stands -/
def But (b : Addr) (H H' : Hp) : Prop := ∀ a o, a ≠ b → H a = some o → H' a = some o
theorem But.refl {b : Addr} (H : Hp) : But b H H := fun _ _ _ h => h
theorem But.trans {b : Addr} {H H1 H2 : Hp} (x : But b H H1) (y : But b H1 H2) : But b H H2 := fun a o n h => y a o n (x a o n h)
theorem But.same {b : Addr} {H H1 : Hp} (x : Same H H1) : But b H H1 := fun a o _ h => x a o h
theorem But.upd {b : Addr} {H : Hp} {o : HO} : But b H (upd H b o) := fun a u n h => by
  rw [upd_ne n]; exact h
theorem same_upd {H : Hp} {p : Addr} {o : HO} (h : H p = none) : Same H (upd H p o) := fun b x e => by
  rw [upd_ne (ne_of_none e h)]; exact e
theorem But.free {b p : Addr} {H H1 : Hp} (e : But b H H1) (n : p ≠ b) (h : H1 p = none) : H p = none := by
  cases q : H p with
  | none => rfl
  | some o => rw [e p o n q] at h; cases h
/-- what was fresh may change: all the old stands -/
theorem But.back {b : Addr} {H H1 H2 : Hp} (s : Same H H1) (n : H b = none) (e : But b H1 H2) : Same H H2 := fun a o h => e a o (ne_of_none h n) (s a o h)
theorem But.seq {K : PySem.W.Frag} {b a : Addr} {H H' : Hp} {xs : List V} (e : But b H H') (n : a ≠ b) (h : SqL K H a xs) : SqL K H' a xs := by
  rcases h with (h | ⟨o, h⟩) | h
  · exact .inl (.inl (e _ _ n h))
  · exact .inl (.inr ⟨o, e _ _ n h⟩)
  · exact .inr h
section
variable {K : PySem.W.Frag} {σ : L2.St} {H : Hp} {Q : VK} {D : Ends} {t u : TS} {ta tb te tc : TE} {tt tu : TT} {i j : Nat} {v x y : V} {r : R2} {A : TA} {sp : Sp} {E : XK}
theorem r_start {σ' : L2.St} (e : σ = σ') (h : t D σ' H) : t D σ H := e ▸ h
theorem r_seq (h : t { D with nx := u D } σ H) : tSeq t u D σ H := h
theorem r_next (h : D.nx σ H) : tNext D σ H := h
theorem r_asg (h : te σ H fun x H1 => D.nx (σ.set i (some x)) H1) : tAsg te (gName i) D σ H := h
theorem r_asgG {g : TG} (h : te σ H fun x H1 => g x σ H1 D.nx) : tAsg te g D σ H := h
theorem r_gName {N : L2.St → Hp → Prop} (h : N (σ.set i (some v)) H) : gName i v σ H N := h
theorem r_ret (h : te σ H D.rt) : tRet te D σ H := h
theorem r_retN (h : D.rt .non H) : tRetN D σ H := h
theorem r_drop (h : te σ H fun _ H1 => D.nx σ H1) : tDrop te D σ H := h
theorem r_if (h : tt σ H fun b H1 => if b = true then t D σ H1 else u D σ H1) : tIfS tt t u D σ H := h
theorem r_par (h : A σ H fun vs H1 => ∃ v w, vs = [v, w] ∧ D.nx ((σ.set i (some v)).set j (some w)) H1) : tPar i j A D σ H := h
theorem r_aug {ti : TIp} (e : σ[i]? = some (some x)) (h : te σ H fun y H1 => ti x y H1 fun z H2 => D.nx (σ.set i (some z)) H2) : tAug i te ti D σ H := ⟨x, e, h⟩
theorem r_par3 {l : Nat} (h : A σ H fun vs H1 => ∃ u v w, vs = [u, v, w] ∧ D.nx (((σ.set i (some u)).set j (some v)).set l (some w)) H1) : tPar3 i j l A D σ H := h
theorem r_gTup {n : Nat} {w : TGs} {a : Addr} {xs : List V} {N : L2.St → Hp → Prop} (e : H a = some (.tup xs)) (hn : xs.length = n) (h : w xs σ H N) : gTup K n w (.ref a) σ H N := ⟨a, xs, rfl, SqT.of e, hn, h⟩
theorem r_gCons {g : TG} {w : TGs} {xs : List V} {N : L2.St → Hp → Prop} (h : g v σ H fun σ1 H1 => w xs σ1 H1 N) : gCons g w (v :: xs) σ H N := ⟨v, xs, rfl, h⟩
theorem r_gNil {N : L2.St → Hp → Prop} (h : N σ H) : gNil [] σ H N := ⟨rfl, h⟩
theorem r_vs2 {N : V → V → Prop} (h : N x y) : ∃ v w, [x, y] = [v, w] ∧ N v w := ⟨x, y, rfl, h⟩
theorem r_vs3 {z : V} {N : V → V → V → Prop} (h : N x y z) : ∃ u v w, [x, y, z] = [u, v, w] ∧ N u v w := ⟨x, y, z, rfl, h⟩
theorem r_var (e : σ[i]? = some (some v)) (h : Q v H) : tVar i σ H Q := ⟨v, e, h⟩
theorem r_c (h : Q v H) : tC v σ H Q := h
theorem r_op (h : ta σ H fun x H1 => tb σ H1 fun y H2 => r x y H2 Q) : tOp r ta tb σ H Q := h
theorem r_un {r : V → Hp → VK → Prop} (h : ta σ H fun x H1 => r x H1 Q) : tUn r ta σ H Q := h
theorem r_test {N : Bool → Hp → Prop} (h : te σ H fun x H' => ∃ k, x = .bl k ∧ N k H') : tTest te σ H N := h
theorem r_tB {N : Bool → Hp → Prop} (h : te σ H fun x H1 => ∃ c, x = .bl c ∧ N c H1) : tB te σ H N := h
theorem r_bl {k : Bool} {N : Bool → Prop} (h : N k) : ∃ c, V.bl k = .bl c ∧ N c := ⟨k, rfl, h⟩
theorem r_and {N : Bool → Hp → Prop} (h : tt σ H fun c H1 => if c = true then tu σ H1 N else N false H1) : tAnd tt tu σ H N := h
theorem r_or {N : Bool → Hp → Prop} (h : tt σ H fun c H1 => if c = true then N true H1 else tu σ H1 N) : tOr tt tu σ H N := h
theorem r_not {N : Bool → Hp → Prop} (h : tt σ H fun c H1 => N (!c) H1) : tNot tt σ H N := h
theorem r_andV (h : ta σ H fun x H1 => ∃ c, x = .bl c ∧ if c = true then tb σ H1 Q else Q (.bl false) H1) : tAndV ta tb σ H Q := h
theorem r_orV (h : ta σ H fun x H1 => ∃ c, x = .bl c ∧ if c = true then Q (.bl true) H1 else tb σ H1 Q) : tOrV ta tb σ H Q := h
theorem r_notV (h : ta σ H fun x H1 => ∃ c, x = .bl c ∧ Q (.bl (!c)) H1) : tNotV ta σ H Q := h
theorem r_ifE (h : tt σ H fun c H1 => if c = true then ta σ H1 Q else tb σ H1 Q) : tIf tt ta tb σ H Q := h
theorem via (R : V → Hp → Prop) (h : ∀ M : VK, (∀ v H', R v H' → M v H') → te σ H M) (k : ∀ v H', R v H' → Q v H') : te σ H Q := h Q k
theorem r_nil {N : List V → Hp → Prop} (h : N [] H) : tNil σ H N := h
theorem r_cons {N : List V → Hp → Prop} (h : te σ H fun x H1 => A σ H1 fun xs H2 => N (x :: xs) H2) : tCons te A σ H N := h
theorem r_call {ds : List V} (h : A σ H fun vs H1 => sp (vs ++ ds) H1 Q E) : tCall sp ds E A σ H Q := h
theorem r_cb {r : List V → Hp → VK → Prop} (h : A σ H fun vs H1 => r vs H1 Q) : tCB r A σ H Q := h
/-- a new list, a new tuple -/
def nwL (xs : List V) (H : Hp) (Q : VK) : Prop := xs.length ≤ sizeLine ∧ ∀ p, H p = none → Q (.ref p) (upd H p (.lst xs))
def nwT (xs : List V) (H : Hp) (Q : VK) : Prop := xs.length ≤ sizeLine ∧ ∀ p, H p = none → Q (.ref p) (upd H p (.tup xs))
theorem r_tup (h : A σ H fun xs H1 => nwT xs H1 Q) : tTup A σ H Q := h
theorem r_lst (h : A σ H fun xs H1 => nwL xs H1 Q) : tLst A σ H Q := h
theorem r_nwL {xs : List V} (z : xs.length ≤ 1000) (h : ∀ p H1, H p = none → Same H H1 → H1 p = some (.lst xs) → Q (.ref p) H1) : nwL xs H Q := ⟨Nat.le_trans z (by decide), fun p np => h p _ np (same_upd np) upd_same⟩
theorem r_nwT {xs : List V} (z : xs.length ≤ 1000) (h : ∀ p H1, H p = none → Same H H1 → H1 p = some (.tup xs) → Q (.ref p) H1) : nwT xs H Q := ⟨Nat.le_trans z (by decide), fun p np => h p _ np (same_upd np) upd_same⟩
def fldR (K : PySem.W.Frag) (f : Str) (x : V) (H : Hp) (Q : VK) : Prop := ∃ a C dx fs v, x = .ref a ∧ H a = some (.ins C dx fs) ∧ Cls K C ∧ NoAttr K C f ∧ fs.lookup f = some v ∧ Q v H
theorem r_fld {f : Str} (h : ta σ H fun x H1 => fldR K f x H1 Q) : tFld K ta f σ H Q := h
theorem r_fldV {f : Str} {a C dx : Addr} {fs : List (Str × V)} (e : H a = some (.ins C dx fs)) (c : Cls K C) (n : NoAttr K C f) (l : fs.lookup f = some v) (h : Q v H) : fldR K f (.ref a) H Q := ⟨a, C, dx, fs, v, rfl, e, c, n, l, h⟩
/-! operators on values that are known -/
theorem r_I0 {g : Int → Int → V} {a b : Int} (h : Q (g a b) H) : rI0 g (.int a) (.int b) H Q := ⟨a, b, rfl, rfl, h⟩
theorem r_I {C : Int → Int → Prop} {g : Int → Int → V} {a b : Int} (c : C a b) (h : Q (g a b) H) : rI C g (.int a) (.int b) H Q := ⟨a, b, rfl, rfl, c, h⟩
theorem r_U {g : Int → V} {a : Int} (h : Q (g a) H) : rU g (.int a) H Q := ⟨a, rfl, h⟩
theorem r_eqI {a b : Int} (h : Q (.bl (decide (a = b))) H) : rEq (.int a) (.int b) H Q := ⟨rfl, by
  have e : decide (V.int a = V.int b) = decide (a = b) := by
    by_cases q : a = b <;> simp [q]
  rw [e]; exact h⟩
theorem r_eqB {a b : Bool} (h : Q (.bl (decide (a = b))) H) : rEq (.bl a) (.bl b) H Q := ⟨rfl, by
  have e : decide (V.bl a = V.bl b) = decide (a = b) := by
    by_cases q : a = b <;> simp [q]
  rw [e]; exact h⟩
theorem r_eqS {a b : Str} (h : Q (.bl (decide (a = b))) H) : rEq (.str a) (.str b) H Q := ⟨rfl, by
  have e : decide (V.str a = V.str b) = decide (a = b) := by
    by_cases q : a = b <;> simp [q]
  rw [e]; exact h⟩
theorem r_neI {a b : Int} (h : Q (.bl (!decide (a = b))) H) : rNe (.int a) (.int b) H Q := ⟨rfl, by
  have e : decide (V.int a = V.int b) = decide (a = b) := by
    by_cases q : a = b <;> simp [q]
  rw [e]; exact h⟩
theorem r_neB {a b : Bool} (h : Q (.bl (!decide (a = b))) H) : rNe (.bl a) (.bl b) H Q := ⟨rfl, by
  have e : decide (V.bl a = V.bl b) = decide (a = b) := by
    by_cases q : a = b <;> simp [q]
  rw [e]; exact h⟩
theorem r_neS {a b : Str} (h : Q (.bl (!decide (a = b))) H) : rNe (.str a) (.str b) H Q := ⟨rfl, by
  have e : decide (V.str a = V.str b) = decide (a = b) := by
    by_cases q : a = b <;> simp [q]
  rw [e]; exact h⟩
theorem r_ixL {p : Addr} {xs : List V} {a : Int} (h : SqL K H p xs) (e : atI xs a = some v) (k : Q v H) : rIx K (.ref p) (.int a) H Q := .inl ⟨p, xs, a, v, rfl, rfl, h, e, k⟩
theorem r_ixT {p : Addr} {xs : List V} {a : Int} (h : SqT K H p xs) (e : atI xs a = some v) (k : Q v H) : rIx K (.ref p) (.int a) H Q := .inr (.inl ⟨p, xs, a, v, rfl, rfl, h, e, k⟩)
theorem r_ixS {z : Str} {a : Int} {c : Nat} (l : z.length ≤ sizeLine) (e : atI z.cps.toList a = some c) (k : Q (.str ⟨#[c]⟩) H) : rIx K (.str z) (.int a) H Q := .inr (.inr ⟨z, a, c, rfl, rfl, l, e, k⟩)
theorem r_setL {p : Addr} {xs : List V} {a : Int} {m : Nat} {N : Hp → Prop} (h : H p = some (.lst xs)) (e : ixN xs.length a = some m) (k : ∀ H1, But p H H1 → H1 p = some (.lst (xs.set m v)) → N H1) : rSetL (.ref p) (.int a) v H N :=
  ⟨p, xs, a, m, rfl, rfl, h, e, k _ But.upd upd_same⟩
theorem r_gSub {to ti : TE} {s : TSet} {N : L2.St → Hp → Prop} (h : to σ H fun o H1 => ti σ H1 fun i H2 => s o i v H2 fun H3 => N σ H3) : gSub to ti s v σ H N := h
theorem yes {c : Bool} {P1 P2 : Prop} (h : c = true) (k : P1) : if c = true then P1 else P2 := by
  rw [h, if_pos rfl]; exact k
theorem no {c : Bool} {P1 P2 : Prop} (h : c = false) (k : P2) : if c = true then P1 else P2 := by
  rw [h, if_neg Bool.false_ne_true]; exact k
theorem ways {c P1 P2 : Prop} [Decidable c] (h : c → P1) (k : ¬ c → P2) : if decide c = true then P1 else P2 := by
  by_cases q : c
  · rw [decide_eq_true q, if_pos rfl]; exact h q
  · rw [decide_eq_false q, if_neg Bool.false_ne_true]; exact k q
theorem waysN {c P1 P2 : Prop} [Decidable c] (h : ¬ c → P1) (k : c → P2) : if (!decide c) = true then P1 else P2 := by
  by_cases q : c
  · rw [decide_eq_true q]; exact k q
  · rw [decide_eq_false q]; exact h q
theorem waysB {c : Bool} {P1 P2 : Prop} (h : c = true → P1) (k : c = false → P2) : if c = true then P1 else P2 := by
  cases c with
  | true => rw [if_pos rfl]; exact h rfl
  | false => rw [if_neg Bool.false_ne_true]; exact k rfl
/-! calls of built-ins, their readings by name -/
def rInt1 : List V → Hp → VK → Prop := fun xs H Q => (∃ i, xs = [.int i] ∧ Q (.int i) H) ∨ ∃ k, xs = [.bl k] ∧ Q (.int (if k then 1 else 0)) H
def rAbs : List V → Hp → VK → Prop := fun xs H Q => ∃ i, xs = [.int i] ∧ Q (.int (if i < 0 then -i else i)) H
def rMax2 : List V → Hp → VK → Prop := fun xs H Q => ∃ i j, xs = [.int i, .int j] ∧ Q (.int (if j > i then j else i)) H
def rMin2 : List V → Hp → VK → Prop := fun xs H Q => ∃ i j, xs = [.int i, .int j] ∧ Q (.int (if j < i then j else i)) H
def rLen (K : PySem.W.Frag) : List V → Hp → VK → Prop := fun xs H Q => ∃ p ys, xs = [.ref p] ∧ (SqL K H p ys ∨ SqT K H p ys) ∧ Q (.int ys.length) H
def rLenS : List V → Hp → VK → Prop := fun xs H Q => ∃ z, xs = [.str z] ∧ z.length ≤ sizeLine ∧ Q (.int z.length) H
def rStrI : List V → Hp → VK → Prop := fun xs H Q => ∃ i, xs = [.int i] ∧ i.natAbs.log2 < 1920 ∧ Q (.str (toString i)) H
def rAddS : R2 := fun x y H Q => ∃ i j, x = .str i ∧ y = .str j ∧ i.length + j.length ≤ sizeLine ∧ Q (.str (i ++ j)) H
theorem c_int1 {X : Cx} : CallR X (.type "int") rInt1 := call_int1
theorem c_abs {X : Cx} : CallR X (.builtin "abs") rAbs := call_abs
theorem c_max2 {X : Cx} (hc : X.calm = true) : CallR X (.builtin "max") rMax2 := call_max2 hc
theorem c_min2 {X : Cx} (hc : X.calm = true) : CallR X (.builtin "min") rMin2 := call_min2 hc
theorem c_len {X : Cx} : CallR X (.builtin "len") (rLen X.K) := call_len_seq
theorem c_lenS {X : Cx} : CallR X (.builtin "len") rLenS := call_len_str
theorem c_strI {X : Cx} : CallR X (.type "str") rStrI := call_str_int
theorem o_addS {X : Cx} : OpR X (binaryOp .Add) rAddS := op_add_str
theorem r_int1 {a : Int} (h : Q (.int a) H) : rInt1 [.int a] H Q := .inl ⟨a, rfl, h⟩
theorem r_abs {a : Int} (h : Q (.int (if a < 0 then -a else a)) H) : rAbs [.int a] H Q := ⟨a, rfl, h⟩
theorem r_max2 {a b : Int} (h : Q (.int (if b > a then b else a)) H) : rMax2 [.int a, .int b] H Q := ⟨a, b, rfl, h⟩
theorem r_min2 {a b : Int} (h : Q (.int (if b < a then b else a)) H) : rMin2 [.int a, .int b] H Q := ⟨a, b, rfl, h⟩
theorem r_lenL {p : Addr} {ys : List V} (e : SqL K H p ys) (h : Q (.int ys.length) H) : rLen K [.ref p] H Q := ⟨p, ys, rfl, .inl e, h⟩
theorem r_lenT {p : Addr} {ys : List V} (e : SqT K H p ys) (h : Q (.int ys.length) H) : rLen K [.ref p] H Q := ⟨p, ys, rfl, .inr e, h⟩
theorem r_strI {a : Int} (e : a.natAbs.log2 < 1920) (h : Q (.str (toString a)) H) : rStrI [.int a] H Q := ⟨a, rfl, e, h⟩
theorem r_addS {a b : Str} (e : a.length + b.length ≤ sizeLine) (h : Q (.str (a ++ b)) H) : rAddS (.str a) (.str b) H Q := ⟨a, b, rfl, rfl, e, h⟩
/-! loops, comprehensions -/
theorem r_rng {tb : TS} {k : Nat} {j : Int} (h0 : 0 ≤ j) (h1 : j ≤ 100000) (Pv : Nat → L2.St → Hp → Prop) (hp : Pv 0 σ H)
    (ht : ∀ (i : Nat) σ' H', (i : Int) < j → Pv i σ' H' → tb { D with nx := Pv (i + 1), ct := Pv (i + 1), bk := D.nx } (σ'.set k (some (.int (i : Int)))) H') (hd : ∀ σ' H', Pv j.toNat σ' H' → D.nx σ' H') :
    ∃ j' : Int, [V.int j] = [V.int j'] ∧ -(2 ^ 62) ≤ j' ∧ j' < 2 ^ 62 ∧ ∃ W : Nat → Nat → L2.St → Hp → Prop, (∃ m, W 0 m σ H) ∧ ∀ i m σ H, W i m σ H →
      (((Itr 0 j'.toNat).stop i H ∧ D.nx σ H) ∨ ((Itr 0 j'.toNat).go i H ∧ ∃ N : L2.St → Hp → Prop, (∀ σ' H', N σ' H' → ∃ m', m' < m ∧ W (i + 1) m' σ' H') ∧ ∀ x H', (Itr 0 j'.toNat).yld i H x H' → gName k x σ H' fun σ2 H2 => tb { D with nx := N, ct := N, bk := D.nx } σ2 H2)) := by
  refine ⟨j, rfl, by omega, by omega, for_range (lo := 0) (n := j.toNat) Pv hp (fun i σ' H' hi p => ?_) hd⟩
  have e : (0 : Int) + (i : Int) = (i : Int) := Int.zero_add _
  show tb _ (σ'.set k (some (.int ((0 : Int) + (i : Int))))) H'
  rw [e]
  exact ht i σ' H' (by omega) p
theorem r_forRng {A : TA} {tb : TS} {k : Nat} (h : A σ H fun vs H1 => ∃ j : Int, vs = [.int j] ∧ -(2 ^ 62) ≤ j ∧ j < 2 ^ 62 ∧ ∃ W : Nat → Nat → L2.St → Hp → Prop, (∃ m, W 0 m σ H1) ∧ ∀ i m σ H, W i m σ H →
      (((Itr 0 j.toNat).stop i H ∧ D.nx σ H) ∨ ((Itr 0 j.toNat).go i H ∧ ∃ N : L2.St → Hp → Prop, (∀ σ' H', N σ' H' → ∃ m', m' < m ∧ W (i + 1) m' σ' H') ∧ ∀ x H', (Itr 0 j.toNat).yld i H x H' → gName k x σ H' fun σ2 H2 => tb { D with nx := N, ct := N, bk := D.nx } σ2 H2))) :
    tFor (iRng1 A) (gName k) tb D σ H := h
theorem r_forL0 {tl : TE} {g : TG} {tb : TS} (h : tl σ H fun x H1 => ∃ a, x = .ref a ∧ (∃ xs, SqL K H1 a xs) ∧ ∃ W : Nat → Nat → L2.St → Hp → Prop, (∃ m, W 0 m σ H1) ∧ ∀ i m σ H, W i m σ H →
      (((Itl K a).stop i H ∧ D.nx σ H) ∨ ((Itl K a).go i H ∧ ∃ N : L2.St → Hp → Prop, (∀ σ' H', N σ' H' → ∃ m', m' < m ∧ W (i + 1) m' σ' H') ∧ ∀ x H', (Itl K a).yld i H x H' → g x σ H' fun σ2 H2 => tb { D with nx := N, ct := N, bk := D.nx } σ2 H2))) :
    tFor (iList K tl) g tb D σ H := h
theorem r_lst_by {g : TG} {tb : TS} {a : Addr} {xs : List V} (hs : SqL K H a xs) (Pv : Nat → L2.St → Hp → Prop) (h0 : Pv 0 σ H) (hl : ∀ i σ' H', Pv i σ' H' → SqL K H' a xs)
    (ht : ∀ i x σ' H', xs[i]? = some x → Pv i σ' H' → g x σ' H' fun σ2 H2 => tb { D with nx := Pv (i + 1), ct := Pv (i + 1), bk := D.nx } σ2 H2) (hd : ∀ σ' H', Pv xs.length σ' H' → D.nx σ' H') :
    ∃ a', V.ref a = .ref a' ∧ (∃ xs, SqL K H a' xs) ∧ ∃ W : Nat → Nat → L2.St → Hp → Prop, (∃ m, W 0 m σ H) ∧ ∀ i m σ H, W i m σ H →
      (((Itl K a').stop i H ∧ D.nx σ H) ∨ ((Itl K a').go i H ∧ ∃ N : L2.St → Hp → Prop, (∀ σ' H', N σ' H' → ∃ m', m' < m ∧ W (i + 1) m' σ' H') ∧ ∀ x H', (Itl K a').yld i H x H' → g x σ H' fun σ2 H2 => tb { D with nx := N, ct := N, bk := D.nx } σ2 H2)) :=
  ⟨a, rfl, ⟨xs, hs⟩, for_list (xs := xs) Pv h0 (fun i σ' H' _ p => hl i σ' H' p) ht hd⟩
theorem r_eqD {d e : PyData} (hd : Dp K H x d) (he : Dp K H y e) (sd : SeqAt.shaped d = true) (se : SeqAt.shaped e = true) (h : Q (.bl (PyData.eqv d e)) H) : rEqD K x y H Q := ⟨d, e, hd, he, sd, se, h⟩
theorem r_cat {p q : Addr} {xs zs : List V} (h1 : H p = some (.lst xs)) (h2 : H q = some (.lst zs)) (l : xs.length + zs.length ≤ 100000) (k : ∀ p H1, H p = none → Same H H1 → H1 p = some (.lst (xs ++ zs)) → Q (.ref p) H1) : rCat (.ref p) (.ref q) H Q :=
  ⟨p, q, xs, zs, rfl, rfl, h1, h2, Nat.le_trans l (by decide), fun p np => k p _ np (same_upd np) upd_same⟩
theorem turns (z m : Int) (hm : 1 ≤ m) (hm2 : m ≤ 100000) : 0 ≤ (if (if z < m then z else m) > 1 then (if z < m then z else m) else 1) ∧ (if (if z < m then z else m) > 1 then (if z < m then z else m) else 1) ≤ 100000 := by
  constructor <;> (split <;> split <;> omega)
theorem turns_le (z m : Int) (hm : 1 ≤ m) : (if (if z < m then z else m) > 1 then (if z < m then z else m) else 1) ≤ m := by
  split <;> split <;> omega
/-- two ways that meet -/
theorem join {c : Prop} [Decidable c] {A B : VK → Prop} {N : VK} (R : V → Hp → Prop) (ha : c → ∀ M : VK, (∀ v H', R v H' → M v H') → A M) (hb : ¬ c → ∀ M : VK, (∀ v H', R v H' → M v H') → B M) (k : ∀ v H', R v H' → N v H') :
    if decide c = true then A N else B N := by
  by_cases q : c
  · rw [decide_eq_true q, if_pos rfl]; exact ha q N k
  · rw [decide_eq_false q, if_neg Bool.false_ne_true]; exact hb q N k
theorem get_int {ns : List Int} {i : Nat} (h : i < ns.length) : ∃ c, atI (ns.map V.int) (i : Int) = some (.int c) := by
  refine ⟨ns[i], atI_nat ?_⟩
  rw [List.getElem?_map, List.getElem?_eq_getElem h]; rfl
/-- [e for name in range(j)], [e for name in a list] -/
def lcR (j : Int) (k : Nat) (te : TE) (vs : List Nat) (σ : L2.St) (H : Hp) (Q : VK) : Prop := -(2 ^ 62) ≤ j ∧ j < 2 ^ 62 ∧ ∀ D, H D = none → ∃ W : Nat → Nat → Hp → Prop, (∃ m, W 0 m (L2.upd H D (.lst []))) ∧ ∀ i m H, W i m H →
  ((Itr 0 j.toNat).stop i H ∧ Q (.ref D) H) ∨ ((Itr 0 j.toNat).go i H ∧ ∃ Nx : Hp → Prop, (∀ H', Nx H' → ∃ m', m' < m ∧ W (i + 1) m' H') ∧ ∀ x H', (Itr 0 j.toNat).yld i H x H' → gName k x (wipe σ vs) H' fun σ2 H2 => wipe σ2 vs = wipe σ vs ∧ tYes σ2 H2 fun b H3 =>
    if b = true then te σ2 H3 fun y H4 => ∃ acc, H4 D = some (.lst acc) ∧ acc.length < sizeLine ∧ Nx (L2.upd H4 D (.lst (acc ++ [y]))) else Nx H3)
theorem r_lcRng {k : Nat} {vs : List Nat} (h : A σ H fun ws H1 => ∃ j : Int, ws = [.int j] ∧ lcR j k te vs σ H1 Q) : tLc (iRng1 A) (gName k) tYes te vs σ H Q := h
/-- what is made is put behind the list at Dl -/
def apR (Dl : Addr) (N : Hp → Prop) (y : V) (H : Hp) : Prop := ∃ acc, H Dl = some (.lst acc) ∧ acc.length < sizeLine ∧ N (L2.upd H Dl (.lst (acc ++ [y])))
theorem r_ap {Dl : Addr} {N : Hp → Prop} {acc : List V} (h : H Dl = some (.lst acc)) (l : acc.length ≤ 100000) (k : ∀ H1, But Dl H H1 → H1 Dl = some (.lst (acc ++ [y])) → N H1) : apR Dl N y H :=
  ⟨acc, h, Nat.lt_of_le_of_lt l (by decide), k _ But.upd upd_same⟩
theorem r_lcR {J : Int} {k : Nat} {vs : List Nat} (h0 : 0 ≤ J) (h1 : J ≤ 100000) (hw : ∀ x, wipe ((wipe σ vs).set k (some x)) vs = wipe σ vs) (Pv : Addr → Nat → Hp → Prop)
    (hs : ∀ Dl H1, H Dl = none → Same H H1 → H1 Dl = some (.lst []) → Pv Dl 0 H1)
    (ht : ∀ Dl (i : Nat) H', H Dl = none → (i : Int) < J → Pv Dl i H' → te ((wipe σ vs).set k (some (.int (i : Int)))) H' (apR Dl (Pv Dl (i + 1))))
    (hd : ∀ Dl H', H Dl = none → Pv Dl J.toNat H' → Q (.ref Dl) H') : ∃ j' : Int, [V.int J] = [V.int j'] ∧ lcR j' k te vs σ H Q := by
  refine ⟨J, rfl, by omega, by omega, fun Dl hD => ?_⟩
  refine lc_range (lo := 0) (n := J.toNat) (tt := tYes) (Pv Dl) (hs Dl _ hD (same_upd hD) upd_same) (fun i H' hi p => ?_) (fun H' p => hd Dl H' hD p)
  have e : (0 : Int) + (i : Int) = (i : Int) := Int.zero_add _
  show wipe ((wipe σ vs).set k (some (.int ((0 : Int) + (i : Int))))) vs = wipe σ vs ∧ (if true = true then te ((wipe σ vs).set k (some (.int ((0 : Int) + (i : Int))))) H' (apR Dl (Pv Dl (i + 1))) else Pv Dl (i + 1) H')
  rw [e, if_pos rfl]
  exact ⟨hw _, ht Dl i H' hD (by omega) p⟩
def lcL (K : PySem.W.Frag) (a : Addr) (k : Nat) (te : TE) (vs : List Nat) (σ : L2.St) (H : Hp) (Q : VK) : Prop := (∃ xs, SqL K H a xs) ∧ ∀ D, H D = none → ∃ W : Nat → Nat → Hp → Prop, (∃ m, W 0 m (L2.upd H D (.lst []))) ∧ ∀ i m H, W i m H →
  ((Itl K a).stop i H ∧ Q (.ref D) H) ∨ ((Itl K a).go i H ∧ ∃ Nx : Hp → Prop, (∀ H', Nx H' → ∃ m', m' < m ∧ W (i + 1) m' H') ∧ ∀ x H', (Itl K a).yld i H x H' → gName k x (wipe σ vs) H' fun σ2 H2 => wipe σ2 vs = wipe σ vs ∧ tYes σ2 H2 fun b H3 =>
    if b = true then te σ2 H3 fun y H4 => ∃ acc, H4 D = some (.lst acc) ∧ acc.length < sizeLine ∧ Nx (L2.upd H4 D (.lst (acc ++ [y]))) else Nx H3)
theorem r_lcLst {k : Nat} {vs : List Nat} {tl : TE} (h : tl σ H fun x H1 => ∃ a, x = .ref a ∧ lcL K a k te vs σ H1 Q) : tLc (iList K tl) (gName k) tYes te vs σ H Q := h
theorem r_lcL {a : Addr} {xs : List V} {k : Nat} {vs : List Nat} (hx : SqL K H a xs) (hw : ∀ x, wipe ((wipe σ vs).set k (some x)) vs = wipe σ vs) (Pv : Addr → Nat → Hp → Prop)
    (hs : ∀ Dl H1, H Dl = none → Same H H1 → H1 Dl = some (.lst []) → Pv Dl 0 H1) (hl : ∀ Dl i H', H Dl = none → Pv Dl i H' → SqL K H' a xs)
    (ht : ∀ Dl (i : Nat) x H', H Dl = none → xs[i]? = some x → Pv Dl i H' → te ((wipe σ vs).set k (some x)) H' (apR Dl (Pv Dl (i + 1))))
    (hd : ∀ Dl H', H Dl = none → Pv Dl xs.length H' → Q (.ref Dl) H') : ∃ a', V.ref a = .ref a' ∧ lcL K a' k te vs σ H Q := by
  refine ⟨a, rfl, ⟨xs, hx⟩, fun Dl hD => ?_⟩
  refine lc_list (xs := xs) (tt := tYes) (Pv Dl) (hs Dl _ hD (same_upd hD) upd_same) (fun i H' _ p => hl Dl i H' hD p) (fun i x H' hi p => ?_) (fun H' p => hd Dl H' hD p)
  show wipe ((wipe σ vs).set k (some x)) vs = wipe σ vs ∧ (if true = true then te ((wipe σ vs).set k (some x)) H' (apR Dl (Pv Dl (i + 1))) else Pv Dl (i + 1) H')
  rw [if_pos rfl]
  exact ⟨hw _, ht Dl i x H' hD hi p⟩
def lcF (K : PySem.W.Frag) (a : Addr) (k : Nat) (tt : TT) (te : TE) (vs : List Nat) (σ : L2.St) (H : Hp) (Q : VK) : Prop := (∃ xs, SqL K H a xs) ∧ ∀ D, H D = none → ∃ W : Nat → Nat → Hp → Prop, (∃ m, W 0 m (L2.upd H D (.lst []))) ∧ ∀ i m H, W i m H →
  ((Itl K a).stop i H ∧ Q (.ref D) H) ∨ ((Itl K a).go i H ∧ ∃ Nx : Hp → Prop, (∀ H', Nx H' → ∃ m', m' < m ∧ W (i + 1) m' H') ∧ ∀ x H', (Itl K a).yld i H x H' → gName k x (wipe σ vs) H' fun σ2 H2 => wipe σ2 vs = wipe σ vs ∧ tt σ2 H2 fun b H3 =>
    if b = true then te σ2 H3 fun y H4 => ∃ acc, H4 D = some (.lst acc) ∧ acc.length < sizeLine ∧ Nx (L2.upd H4 D (.lst (acc ++ [y]))) else Nx H3)
theorem r_lcFLst {k : Nat} {vs : List Nat} {tl : TE} {tt : TT} (h : tl σ H fun x H1 => ∃ a, x = .ref a ∧ lcF K a k tt te vs σ H1 Q) : tLc (iList K tl) (gName k) tt te vs σ H Q := h
theorem r_lcF {a : Addr} {xs : List V} {k : Nat} {vs : List Nat} {tt : TT} (hx : SqL K H a xs) (hw : ∀ x, wipe ((wipe σ vs).set k (some x)) vs = wipe σ vs) (Pv : Addr → Nat → Hp → Prop)
    (hs : ∀ Dl H1, H Dl = none → Same H H1 → H1 Dl = some (.lst []) → Pv Dl 0 H1) (hl : ∀ Dl i H', H Dl = none → Pv Dl i H' → SqL K H' a xs)
    (ht : ∀ Dl (i : Nat) x H', H Dl = none → xs[i]? = some x → Pv Dl i H' → tt ((wipe σ vs).set k (some x)) H' fun b H3 => if b = true then te ((wipe σ vs).set k (some x)) H3 (apR Dl (Pv Dl (i + 1))) else Pv Dl (i + 1) H3)
    (hd : ∀ Dl H', H Dl = none → Pv Dl xs.length H' → Q (.ref Dl) H') : ∃ a', V.ref a = .ref a' ∧ lcF K a' k tt te vs σ H Q := by
  refine ⟨a, rfl, ⟨xs, hx⟩, fun Dl hD => ?_⟩
  exact lc_list (xs := xs) (tt := tt) (Pv Dl) (hs Dl _ hD (same_upd hD) upd_same) (fun i H' _ p => hl Dl i H' hD p) (fun i x H' hi p => ⟨hw _, ht Dl i x H' hD hi p⟩) (fun H' p => hd Dl H' hD p)
theorem r_bmA {to : TE} {t : TA} (h : to σ H fun x H1 => tyV K "list" x H1 ∧ t σ H1 fun xs H2 => rAppend x xs H2 Q) : tBM K "list" rAppend to t σ H Q := h
theorem r_tyL {l : Addr} {xs : List V} {G : Prop} (e : H l = some (.lst xs)) (h : G) : tyV K "list" (.ref l) H ∧ G := ⟨.inl ⟨rfl, xs, SqL.of e⟩, h⟩
theorem r_app {l : Addr} {xs : List V} (e : H l = some (.lst xs)) (n : xs.length ≤ 100000) (k : ∀ H1, But l H H1 → H1 l = some (.lst (xs ++ [y])) → Q .non H1) : rAppend (.ref l) [y] H Q :=
  ⟨l, xs, y, rfl, rfl, e, Nat.lt_of_le_of_lt n (by decide), k _ But.upd upd_same⟩
theorem r_rep {l : Addr} {n : Int} {xs : List V} (e : H l = some (.lst xs)) (h0 : 0 ≤ n) (h1 : n ≤ 1000) (hl : xs.length * n.toNat ≤ 100000) (k : ∀ p H1, H p = none → Same H H1 → H1 p = some (.lst (List.replicate n.toNat xs).flatten) → Q (.ref p) H1) : rRep (.ref l) (.int n) H Q :=
  ⟨l, n, xs, rfl, rfl, e, by omega, by omega, Nat.le_trans hl (by decide), fun p np => k p _ np (same_upd np) upd_same⟩
theorem r_sl {te : TE} {tl th : TO} {r : V → Option Int → Option Int → Hp → VK → Prop} (h : te σ H fun x H1 => tl σ H1 fun l H2 => th σ H2 fun u H3 => r x l u H3 Q) : tSl r te tl th σ H Q := h
def prt (Q : Option Int → Hp → Prop) : VK := fun x H => ∃ i : Int, x = .int i ∧ Q (some i) H
theorem r_part {Q : Option Int → Hp → Prop} (h : te σ H (prt Q)) : tPart te σ H Q := h
theorem r_prt {Q : Option Int → Hp → Prop} {i : Int} (h : Q (some i) H) : prt Q (.int i) H := ⟨i, rfl, h⟩
theorem r_nopart {Q : Option Int → Hp → Prop} (h : Q none H) : tNoPart σ H Q := h
theorem r_slL {a : Addr} {xs : List V} {lo hi : Option Int} (e : H a = some (.lst xs)) (k : ∀ p H1, H p = none → Same H H1 → H1 p = some (.lst (cutV xs lo hi)) → Q (.ref p) H1) : rSlL K (.ref a) lo hi H Q :=
  ⟨a, xs, rfl, SqL.of e, fun p np => k p _ np (same_upd np) upd_same⟩
theorem r_anyB {a : Addr} {bs : List Bool} (hs : SqL K H a (bs.map V.bl)) (h : Q (.bl (bs.any id)) H) : rAny K [.ref a] H Q := ⟨a, bs, rfl, hs, h⟩
/-! dicts with keys that are texts -/
def dgR (x y : V) (H : Hp) (Q : VK) : Prop := ∃ a v, x = .ref a ∧ DGet H a y (some v) ∧ Q v H
theorem r_dget (h : ta σ H fun x H1 => tb σ H1 fun y H2 => dgR x y H2 Q) : tDGet ta tb σ H Q := h
theorem r_dgS {a : Addr} {g : Str} {kvs : List (Key × V)} (e : H a = some (.dK kvs)) (l : valV kvs (.inr g) = some v) (k : Q v H) : dgR (.ref a) (.str g) H Q := ⟨a, v, rfl, by
  have z := DGet.k (H := H) (a := a) (kvs := kvs) (k := .inr g) e
  rw [l] at z
  exact z, k⟩
def dpR (x y v : V) (H : Hp) (N : Hp → Prop) : Prop := ∃ a H1, x = .ref a ∧ DPut H a y v H1 ∧ N H1
theorem r_dput (h : tc σ H fun v H1 => ta σ H1 fun x H2 => tb σ H2 fun y H3 => dpR x y v H3 (D.nx σ)) : sDPut ta tb tc D σ H := h
theorem r_dpS {a : Addr} {g : Str} {kvs : List (Key × V)} {N : Hp → Prop} (e : H a = some (.dK kvs)) (l : kvs.length ≤ 1000) (k : ∀ H1, But a H H1 → H1 a = some (.dK (putK kvs (.inr g) v)) → N H1) : dpR (.ref a) (.str g) v H N :=
  ⟨a, _, rfl, DPut.k (k := .inr g) e (Nat.lt_of_le_of_lt l (by decide)), k _ But.upd upd_same⟩
def dspR (p : Addr) (ps : List (V × V)) (H : Hp) (Q : VK) : Prop := H p = some (.dK []) ∧ ∃ kvs : List (Key × V), ps = kvs.map (fun kv => (kV kv.1, kv.2)) ∧ kvs.length ≤ 15 ∧ Q (.ref p) (L2.upd H p (.dK (mergeK [] kvs)))
theorem r_disp {trs : List (TE × TE)} (h : ∀ p H1, H p = none → Same H H1 → H1 p = some (.dK []) → tPairs trs σ H1 fun ps H2 => dspR p ps H2 Q) : tDisp trs σ H Q := fun p np => h p _ np (same_upd np) upd_same
theorem r_pnil {N : List (V × V) → Hp → Prop} (h : N [] H) : tPairs [] σ H N := h
theorem r_pcons {trs : List (TE × TE)} {N : List (V × V) → Hp → Prop} (h : ta σ H fun x H1 => tb σ H1 fun y H2 => tPairs trs σ H2 fun ps H3 => N ((x, y) :: ps) H3) : tPairs ((ta, tb) :: trs) σ H N := h
theorem r_dsp {p : Addr} {ps : List (V × V)} (kvs : List (Key × V)) (e : H p = some (.dK [])) (hps : ps = kvs.map (fun kv => (kV kv.1, kv.2))) (l : kvs.length ≤ 15) (k : ∀ H1, But p H H1 → H1 p = some (.dK (mergeK [] kvs)) → Q (.ref p) H1) : dspR p ps H Q :=
  ⟨e, kvs, hps, l, k _ But.upd upd_same⟩
theorem pow10_le {a b : Nat} (h : a ≤ b) : (10 : Int) ^ a ≤ 10 ^ b := by
  have e : ∀ k : Nat, (10 : Int) ^ k = ((10 ^ k : Nat) : Int) := fun k => by rw [Int.natCast_pow]; rfl
  rw [e, e]
  exact Int.ofNat_le.mpr (Nat.pow_le_pow_right (by decide) h)
theorem letters {n : Nat} (h : n < 26) : ∃ c, ("abcdefghijklmnopqrstuvwxyz" : Str).cps.toList[n]? = some c ∧ 97 ≤ c ∧ c ≤ 122 := by
  have e : ("abcdefghijklmnopqrstuvwxyz" : Str).cps.toList = List.range' 97 26 := by decide +kernel
  refine ⟨97 + n, ?_, by omega, by omega⟩
  rw [e, List.getElem?_range' (by omega)]
  simp
theorem ty_ins {a C dx : Addr} {fs : List (Str × V)} (c : Cls K C) (i : Inst K C) (e : H a = some (.ins C dx fs)) : TyX K H (.ref a) (.ref C) := .base (.ins e c i.ca i.cn i.ct i.cm)
theorem ix_seqG {X : Cx} {K : PySem.W.Frag} (e : X.K = K) : IxR X (rIx K) := e ▸ ix_seq
theorem c_isi {X : Cx} {K : PySem.W.Frag} (e : X.K = K) : CallR X (.builtin "isinstance") (rIsi K) := e ▸ call_isi
theorem r_isiT {t : Value} {n : String} {b : Bool} (ty : TyX K H x t) (k : PySem.W.kitOne K t (.type n) = some b) (h : Q (.bl b) H) : rIsi K [x, .ty n] H Q := ⟨x, .ty n, t, .type n, b, rfl, .ty n, ty, k, h⟩
theorem r_isiC {t : Value} {C : Addr} {b : Bool} (ty : TyX K H x t) (k : PySem.W.kitOne K t (.ref C) = some b) (h : Q (.bl b) H) : rIsi K [x, .ref C] H Q := ⟨x, .ref C, t, .ref C, b, rfl, .own C, ty, k, h⟩
/-- a new instance, its dict made, its __init__ asked -/
def mkI (C : Addr) (sp : Sp) (ds vs : List V) (H : Hp) (Q : VK) (E : XK) : Prop := ∀ x dx, H x = none → H dx = none → dx ≠ x →
  sp (.ref x :: (vs ++ ds)) (L2.upd (L2.upd H dx (.own x)) x (.ins C dx [])) (fun v H2 => v = .non ∧ Q (.ref x) H2) E
theorem r_make {C : Addr} {ds : List V} (h : A σ H fun vs H1 => mkI C sp ds vs H1 Q E) : tMake C sp ds E A σ H Q := h
theorem look1 {f : Str} : ([(f, v)] : List (Str × V)).lookup f = some v := by simp [List.lookup]
/-- o.f = value -/
def stF (K : PySem.W.Frag) (f : Str) (y x : V) (H : Hp) (N : Hp → Prop) : Prop := ∃ a C dx fs, x = .ref a ∧ H a = some (.ins C dx fs) ∧ Cls K C ∧ NoAttr K C f ∧ fs.length < 1000 ∧ N (L2.upd H a (.ins C dx (putF f y fs)))
theorem r_sfld {f : Str} {tv : TE} (h : tv σ H fun y H1 => ta σ H1 fun x H2 => stF K f y x H2 (D.nx σ)) : sFld K ta tv f D σ H := h
theorem r_stF {f : Str} {a C dx : Addr} {fs : List (Str × V)} {N : Hp → Prop} (e : H a = some (.ins C dx fs)) (c : Cls K C) (n : NoAttr K C f) (l : fs.length ≤ 900) (h : ∀ H1, But a H H1 → H1 a = some (.ins C dx (putF f y fs)) → N H1) :
    stF K f y (.ref a) H N := ⟨a, C, dx, fs, rfl, e, c, n, by omega, h _ But.upd upd_same⟩
def rIsN : R2 := fun x y H Q => y = .non ∧ Q (.bl (decide (x = .non))) H
def rNotN : R2 := fun x y H Q => y = .non ∧ Q (.bl (!decide (x = .non))) H
theorem o_isN {X : Cx} : OpR X (compareOp .Is) rIsN := op_isN
theorem o_notN {X : Cx} : OpR X (compareOp .IsNot) rNotN := op_notN
theorem r_isN (h : Q (.bl (decide (x = .non))) H) : rIsN x .non H Q := ⟨rfl, h⟩
theorem r_notN (h : Q (.bl (!decide (x = .non))) H) : rNotN x .non H Q := ⟨rfl, h⟩
theorem z4 : (4 : Nat) ≤ sizeLine := by decide
theorem szle {n : Nat} (h : n ≤ 1000) : n ≤ sizeLine := Nat.le_trans h (by decide)
end
end Z
namespace Z
open PySem PySem.Spec PyProof.Rows L2
/-- what of the text an own operator leans on, the class of instances over object alone -/
structure BinF (K : PySem.W.Frag) (C : Addr) (nm : String) (f g : Addr) : Prop where
  sf : PySem.W.selfFirst K C = true
  at_ : PySem.W.findIn K (.ref C) (PySem.dunder nm) = some (some (.ref f))
  fn : PySem.W.isFn K (.ref f) = true
  rat : PySem.W.findIn K (.ref C) (PySem.dunderR nm) = some (some (.ref g))
  rfn : PySem.W.isFn K (.ref g) = true
  fo : ∃ fo, PySem.W.findIn K (.type "int") (PySem.dunder nm) = some fo
  ro : ∃ ro, PySem.W.findIn K (.type "int") (PySem.dunderR nm) = some ro
  sub : PySem.W.subIn K (.ref C) (.type "int") = some false
  isub : PySem.W.subIn K (.type "int") (.ref C) = some false
  cls : ∃ cd, PySem.W.clsIn K C = some cd ∧ cd.mro = [.ref C, .type "object"]
  ni : PySem.W.findIn K (.ref C) (PySem.dunderI nm) = some none
  noi : PySem.W.findIn K (.type "object") (PySem.dunderI nm) = some none
/-- what the formatting of an own object leans on -/
structure TxF (K : PySem.W.Frag) (C : Addr) : Prop where
  fm : PySem.W.findIn K (.ref C) "__format__" = some (some (.builtin "object.__format__"))
  mo : PySem.W.mroIn K C (.type "object") = some true
/-- != of an own class is the one of all objects -/
structure NeD (K : PySem.W.Frag) (C : Addr) : Prop where
  ne : PySem.W.findIn K (.ref C) "__ne__" = some (some (.builtin "object.__ne__"))
  mo : PySem.W.mroIn K C (.type "object") = some true
end Z

namespace Z
open PySem PySem.Spec PyProof.Rows L2
/-! exceptions of own classes, whose __init__ stores one field, as values -/
/-- what such a class, over a built-in one, leans on; f its __init__ -/
structure ExF (K : PySem.W.Frag) (C f : Addr) : Prop where
  mk_ : ∃ (B newId initId : String) (bmB : List Value), ExcBaseFacts B newId initId bmB ∧ PySem.W.excInitIn K C bmB newId = true
  st : ∃ (B : String) (bmB : List Value), StoreFacts B bmB "object.__setattr__" "object" ∧ PySem.W.excOver K C bmB = true
  ini : PySem.W.findIn K (.ref C) "__init__" = some (some (.ref f))
  fn : PySem.W.isFn K (.ref f) = true
  sa : PySem.W.findIn K (.ref C) "__setattr__" = some (some (.builtin "object.__setattr__"))
  hd : PySem.W.hasDictIn K C = true
  ga : PySem.W.findIn K (.ref C) "__getattribute__" = some (some (.builtin "BaseException.__getattribute__"))
  gt : PySem.W.findIn K (.ref C) "__getattr__" = some none
  sb : PySem.W.subIn K (.ref C) (.type "BaseException") = some true
  ty : PySem.W.typeIn K (.ref C) = some (.type "type")
  kp : PySem.W.keepIn K (.ref C) = true
  ca : PySem.W.findIn K (.ref C) "__class__" = some (some (.builtin "object.__class__"))
  cm : PySem.W.mroIn K C (.type "object") = some true
  cn : PySem.W.specialIn K (.builtin "object.__class__") "__get__" = some (some (.builtin "getset_descriptor.__get__"))
  ct : PySem.W.takesIn K (.builtin "object.__class__") = some true
section
open Builtin Builtin.ObjectAttr PySem.HandSPX
variable {prog : Program} {w : World} {A : Around} {R : Result → Shared → Prop} {s : Shared} {K : PySem.W.Frag} {a C f : Addr} {fv : Array Value} {name : Str} {tk : Tok} {v : Value}
theorem osa_first (T : ExF K C f) (X : K.In s.heap) (hx : s.heap.get? a = some { cls := .ref C, data := .fields fv }) (hn : PySem.W.findIn K (.ref C) name = some none)
    (hq : ∀ h' tk' dx, (∀ b o, b ≠ a → s.heap.get? b = some o → h'.get? b = some o) → s.heap.objs.size ≤ dx → dx ≠ a → h'.get? a = some { cls := .ref C, dict := some dx, data := .fields fv } → h'.Ns1 dx (fun y => if y = name then some v else none) →
      R (.ok (.ret .none)) { s with heap := h', toks := tk' }) : codeAny (model prog w) A (.call (.builtin "object.__setattr__") ⟨[.ref a, .str name tk, v], []⟩) R s := by
  obtain ⟨B, bmB, SF, ho⟩ := T.st
  have J : PySem.W.InstAt s.heap a { cls := .ref C, data := .fields fv } C none := ⟨hx, rfl, rfl, trivial⟩
  refine PySem.W.osa_openX SF X J ho (r := none) (by unfold PySem.W.takerIn; rw [hn]; rfl) fun b => ?_
  obtain ⟨cd, hcd, hdct⟩ := PySem.W.any_some T.hd
  have lc : PySem.W.Looks (model prog w) s.heap (classData C) cd := PySem.W.looks_clsIn X hcd
  have ne : a ≠ s.heap.objs.size := Nat.ne_of_lt (Heap.lt_size hx)
  obtain ⟨hp, g, d, t, os⟩ := s
  obtain ⟨nm, bs, mro, ns, qn, hd, sn, sb, ab, col, del⟩ := cd
  dsimp only at hdct
  subst hdct
  show wpAny _ _ (storeInOwnDict (.ref a) (.ref C) (.str name tk) name v b) _ _ _
  unfold storeInOwnDict ownDictForStores
  repeat (first | with_reducible refine store_in_new ?new ?stored | with_reducible refine wpAny_loadPart_at hx ?_ | with_reducible refine lc.at ?_ | wp_step)
  case new => exact ⟨_, #[], _, (Heap.get?_update_ne _ _ _ _ ne.symm).trans (Heap.get?_push_at rfl rfl), rfl, (fun e he => absurd he (by simp)), fun _ => rfl⟩
  case stored =>
    intro h' t' n1 sbut
    have ha : (hp.push { cls := .type "dict", data := .dict #[] }).get? a = some { cls := .ref C, data := .fields fv } := Heap.get?_push_of_some _ hx
    refine hq h' t' hp.objs.size (fun c o hc hco => ?_) (Nat.le_refl _) ne.symm ?_ n1
    · exact (sbut.2 c (Nat.ne_of_lt (Heap.lt_size hco))).trans ((Heap.get?_update_ne _ _ _ _ hc).trans (Heap.get?_push_of_some _ hco))
    · exact (sbut.2 a ne).trans (Heap.get?_update_self _ ha rfl)
end
section
variable {X : Cx} {pins : List (Addr × Obj)} {σ : L2.St} {H : Hp} {s : Shared} {a C f : Addr} {fl : Str} {y : V} {u : Value}
/-- self.fl = y in such an __init__ -/
theorem set_first {Q : Unit → Shared → Prop} {E : Value → Shared → Prop} {A : Around} (T : ExF X.K C f) (I : Inv X pins σ H s) (e : H a = some (exo a C none)) (hn : PySem.W.findIn X.K (.ref C) fl = some none) (ry : RelV y u)
    (h : ∀ dx s', H dx = none → dx ≠ a → Inv X pins σ (L2.upd (L2.upd H dx (exd dx [(fl, y)])) a (exo a C (some dx))) s' → Q () s') : wpAny (model X.prog X.w) A (setAttr (.ref a) fl u) Q E s := by
  obtain ⟨t1, ho⟩ := exo_at I.hok e
  refine PySem.W.set_plain I.kIn (ox := { cls := .ref C, dict := none, data := .fields #[.ref t1, .none, .none, .none, .bool false, .none] }) (od := none) ⟨ho, rfl, rfl, trivial⟩ T.sa ?_
  refine osa_first (s := { s with toks := s.toks + 1 }) T I.kIn ho hn fun h' tk' dx keep dn dne hx n1 => ?_
  have free : H dx = none := I.hok.fresh dn
  have away : ∀ {b : Addr}, H b = none → b ≠ a := fun z q => by
    rw [q, e] at z; cases z
  have older : ∀ {b : Addr} {o : Obj}, s.heap.get? b = some o → b ≠ dx := fun q => Nat.ne_of_lt (Nat.lt_of_lt_of_le (Heap.lt_size q) dn)
  have other : ∀ {b : Addr} {o : HO}, H b = some o → o ≠ exo a C none → b ≠ a := fun q z r => by
    rw [r, e] at q; exact z (Option.some.inj q).symm
  have U : Un X.fs [] H (L2.upd (L2.upd H dx (exd dx [(fl, y)])) a (exo a C (some dx))) s.heap h' := by
    constructor
    · exact fun b o q z _ _ => keep b o (away z) q
    · exact fun b o q z _ _ => ⟨_, keep b o (away z) q⟩
    · intro b o q z _
      rw [upd_ne (away z), upd_ne (older q)]; exact z
    · intro b o q _
      by_cases r : b = a
      · subst r; exact ⟨_, hx⟩
      · exact ⟨_, keep b o r q⟩
    · intro b xs q
      rw [upd_ne (other q fun z => exo_tup z.symm), upd_ne (ne_of_none q free)]; exact q
    · intro b o v q
      rw [upd_ne (other q fun z => exo_frz z.symm), upd_ne (ne_of_none q free)]; exact q
    · intro b ps q
      refine ⟨#[], ?_⟩
      rw [upd_ne (other q fun z => exo_tbl z.symm), upd_ne (ne_of_none q free), q]; simp
  refine h dx _ free dne (I.un (t' := tk') U fun b o q => ?_)
  by_cases r : b = a
  · subst r
    rw [upd_same] at q
    cases q
    exact exo_ok hx
  rw [upd_ne r] at q
  by_cases r2 : b = dx
  · subst r2
    rw [upd_same] at q
    cases q
    exact exd_ok n1 (relO_put (fs := []) ry fun g => True.intro)
  rw [upd_ne r2] at q
  refine (I.hok b o q).stay (fun c v hc z => keep c v ?_ z) (fun c hc => ?_) fun c xs hc => ?_
  · rcases hc with hc | hc
    · rw [hc]; exact r
    · exact other hc fun z => exo_own z.symm
  · rw [upd_ne (other hc fun z => exo_own z.symm), upd_ne (ne_of_none hc free)]; exact hc
  · rw [upd_ne (other hc fun z => exo_tup z.symm), upd_ne (ne_of_none hc free)]; exact hc
/-- such an exception, read -/
theorem exv_at (T : ExF X.K C f) (I : Inv X pins σ H s) {d : Addr} {fs : List (Str × V)} (ea : H a = some (exo a C (some d))) (ed : H d = some (exd d fs)) :
    ∃ ox od, PySem.W.InstAt s.heap a ox C (some od) ∧ ∀ n v, fs.lookup n = some v → ∃ u, PySem.W.lookIn n od = some (some u) ∧ RelV v u := by
  obtain ⟨t1, ho⟩ := exo_at I.hok ea
  obtain ⟨mA, hns, hr⟩ := exd_at I.hok ed
  obtain ⟨od, hod, hl⟩ := lookIn_ns hns
  refine ⟨_, od, ⟨ho, rfl, rfl, hod⟩, fun n v l => ?_⟩
  obtain ⟨u, hu, ru⟩ := RelO.some_of (v := v) (o := mA n) (by rw [← l]; exact hr n)
  exact ⟨u, by rw [hl, hu], ru⟩
end
def xstR (K : PySem.W.Frag) (fl : Str) (y x : V) (H : Hp) (N : Hp → Prop) : Prop := ∃ a C f, x = .ref a ∧ ExF K C f ∧ PySem.W.findIn K (.ref C) fl = some none ∧ H a = some (exo a C none) ∧
  ∀ dx, H dx = none → dx ≠ a → N (L2.upd (L2.upd H dx (exd dx [(fl, y)])) a (exo a C (some dx)))
def tXst (K : PySem.W.Frag) (fl : Str) (to te : TE) : TS := fun D σ H => te σ H fun y H1 => to σ H1 fun x H2 => xstR K fl y x H2 (D.nx σ)
def xvR (K : PySem.W.Frag) (n : Str) (x : V) (H : Hp) (Q : VK) : Prop := ∃ a C f d fs v, x = .ref a ∧ ExF K C f ∧ PySem.W.findIn K (.ref C) n = some none ∧ H a = some (exo a C (some d)) ∧ H d = some (exd d fs) ∧ fs.lookup n = some v ∧ Q v H
def tXv (K : PySem.W.Frag) (n : Str) (te : TE) : TE := fun σ H Q => te σ H fun x H1 => xvR K n x H1 Q
/-- C(e, ..), a new exception -/
def exI (C : Addr) (sp : Sp) (vs : List V) (H : Hp) (Q : VK) : Prop := vs.length ≤ 1000 ∧ ∀ a, H a = none → sp (.ref a :: vs) (L2.upd H a (exo a C none)) (fun v H2 => v = .non ∧ Q (.ref a) H2) E0
def tExv (C : Addr) (sp : Sp) (t : TA) : TE := fun σ H Q => t σ H fun vs H1 => exI C sp vs H1 Q
def rIsX (K : PySem.W.Frag) : List V → Hp → VK → Prop := fun xs H Q => ∃ a C f d fs c u b, xs = [.ref a, c] ∧ ClsV c u ∧ ExF K C f ∧ H a = some (exo a C (some d)) ∧ H d = some (exd d fs) ∧ PySem.W.kitOne K (.ref C) u = some b ∧ Q (.bl b) H
section
variable {X : Cx} {o e : Expr} {es : List Expr} {to te : TE} {ta : TA} {fl n x : Str} {p p' pos : Pos} {k : Nat} {C f : Addr} {fd : FuncData} {ps : List Str} {sp : Sp}
theorem ps_xst (ho : PE X o to) (he : PE X e te) (hs : swapsWith e (some (.Attribute o fl p')) pos.line X.env = pure false := by rfl) : PS X (.Assign [.Attribute o fl p'] e pos) (tXst X.K fl to te) := by
  refine ⟨fun pins s σ H D I h => ?_⟩
  refine plainObj_wpAny_Assign_Attribute (thn (he.run pins s σ H _ I h) fun v s1 ⟨y, H1, I1, r1, q1⟩ => thn (ho.run pins s1 σ H1 _ I1 q1) fun u s2 z => ?_) hs
  obtain ⟨x, H2, I2, r2, a, C, f, rfl, T, hn, ea, q⟩ := z
  cases (show u = Value.ref a from r2)
  exact set_first T I2 ea hn r1 fun dx s' n1 n2 J => ⟨σ, _, J, q dx n1 n2⟩
theorem pe_xv (he : PE X e te) (hb : attributeBase e n X.env (eval e X.env) = eval e X.env := by rfl) : PE X (.Attribute e n pos) (tXv X.K n te) := by
  refine ⟨fun pins s σ H Q I h => ?_⟩
  refine attr_of hb (thn (he.run pins s σ H _ I h) fun u s1 z => ?_)
  obtain ⟨x, H1, I1, rx, a, C, f, d, fs, v, rfl, T, hn, ea, ed, l, q⟩ := z
  cases (show u = Value.ref a from rx)
  obtain ⟨ox, od, J, look⟩ := exv_at T I1 ea ed
  obtain ⟨u, hu, ru⟩ := look n v l
  exact HandSPX.exc_get I1.kIn J T.ga T.gt T.sb (PySem.W.findObj_own T.hd hn rfl hu) (handed_of ru) ⟨v, H1, I1.tok _, ru, q⟩
theorem pe_exv (T : ExF X.K C f) (F : FnOk X.prog X.w X.K X.mg X.base CX0 k f fd ps sp) (hr : Room (k + 1) X.A) (hg : Gl X x) (hm : X.mg x = some (.ref C)) (hb : Binds X.K fd ps []) (ha : PA X (e :: es) ta)
    (hdb : (x == ("__debug__" : Str)) = false := by decide) (he : starEach (e :: es) X.env = (false, eval e X.env) :: starEach es X.env := by rfl) (hpl : (backTo pos (starEach es X.env)).any (·.1) = false := by rfl) :
    PE X (.Call (.Name x p) (e :: es) [] pos) (tExv C sp ta) := by
  refine ⟨fun pins s σ H Q I h => ?_⟩
  refine wpAny_Call_Name_kw (ld_glob I hg hm ?_ hdb)
  refine PySem.W.callWith_K (h₀ := X.base) I.ok.mod.kin T.kp (thn (ha.run pos pins s σ H _ I h) fun us s1 z => ?_) he hpl
  obtain ⟨vs, H1, I1, r1, hz, q1⟩ := z
  refine ⟨I1.kIn, ?_⟩
  obtain ⟨B, newId, initId, bmB, FB, hin⟩ := T.mk_
  obtain ⟨nm, N, qn, bs, bm, hdct, sn, sub, ab, col, dd, k0, k1, k2, k3, k5, hC, hT⟩ := PySem.W.excInit_of I1.kIn hin
  show wpAny _ _ (call (.ref C) us) _ _ _
  obtain ⟨hp, g, dr, tk, os⟩ := s1
  have up : hp.objs.size ≤ hp.objs.size + 1 := Nat.le_succ _
  have hq := q1 (hp.objs.size + 1) (I1.hok.fresh up)
  have keep : ∀ b o, hp.get? b = some o → ((hp.push (PySem.W.kdv_tup us)).push (PySem.HandSPX.excO C hp.objs.size)).get? b = some o := fun b o z => Heap.get?_push_of_some _ (Heap.get?_push_of_some _ z)
  have there : ((hp.push (PySem.W.kdv_tup us)).push (PySem.HandSPX.excO C hp.objs.size)).get? (hp.objs.size + 1) = some (PySem.HandSPX.excO C hp.objs.size) := by heap_get
  have I2 : Inv X pins σ (L2.upd H1 (hp.objs.size + 1) (exo (hp.objs.size + 1) C none)) ⟨(hp.push (PySem.W.kdv_tup us)).push (PySem.HandSPX.excO C hp.objs.size), g, dr, tk, os⟩ := I1.laid (t' := tk) keep up (exo_ok there)
  have r2 : Vals (V.ref (hp.objs.size + 1) :: vs) (Value.ref (hp.objs.size + 1) :: us) := .cons rfl r1
  have lus : us.length ≤ sizeLine := by
    rw [← Paired.length r1, sizeLine_eq]; omega
  have lps : (Value.ref (hp.objs.size + 1) :: us ++ []).length = ps.length := by
    have z := r2.length
    rw [F.len _ _ _ _ hq] at z
    rw [List.append_nil]; exact z.symm
  refine wpAny_call (PySem.HandSPX.call_own FB hT hC (PySem.W.looks_findIn I1.kIn T.ini) (fun self => PySem.W.bind_fn I1.kIn self (beq_iff_eq.mp T.fn)) lus
    (codeAny_mono (F.run _ X.stack _ _ ⟨Value.ref (hp.objs.size + 1) :: us, []⟩ (Value.ref (hp.objs.size + 1) :: us) _ _ E0 (hr.make C us []) (I2.env0.make C us []) (by
      have z := hb _ (Value.ref (hp.objs.size + 1) :: us) I2.kIn lps
      rw [List.append_nil] at z
      exact z) r2 hq) fun r s' z => ?_))
  cases r with
  | error x => exact z.elim
  | ok fl =>
    cases fl with
    | next => exact False.elim z
    | brk => exact False.elim z
    | cont => exact False.elim z
    | ret u =>
      obtain ⟨v, H', I3, rv, rfl, q3⟩ := I2.after z
      exact ⟨rv, ⟨V.ref (hp.objs.size + 1), H', I3, rfl, q3⟩⟩
theorem c_isX {K : PySem.W.Frag} (e : X.K = K) : CallR X (.builtin "isinstance") (rIsX K) := by
  subst e
  intro pins s σ H xs us Q I r h
  obtain ⟨a, C, f, d, fs, c, u, b, rfl, k, T, ea, ed, ek, q⟩ := h
  obtain ⟨u1, u2, rfl, r1, r2⟩ := vals2 r
  cases (show u1 = Value.ref a from r1)
  have e2 := k.eq r2
  subst e2
  obtain ⟨ox, od, J, _⟩ := exv_at T I ea ed
  exact PySem.W.kia_one (PySem.W.kitx_exc (by obtain ⟨cd, z, _⟩ := PySem.W.any_some T.hd; rw [z]; rfl) T.ga T.gt T.sb T.ca T.cn T.ct T.cm) I.kIn J ek (fun z => nomatch z) fun tk => ⟨.bl b, H, I.kept (t' := tk) fun _ _ z => z, rfl, q⟩
end
section
variable {K : PySem.W.Frag} {σ : L2.St} {H : Hp} {Q : VK} {D : Ends} {to te : TE} {ta : TA} {fl n : Str} {y v : V} {a C f d : Addr} {fs : List (Str × V)} {sp : Sp} {vs : List V}
theorem r_xst (h : te σ H fun y H1 => to σ H1 fun x H2 => xstR K fl y x H2 (D.nx σ)) : tXst K fl to te D σ H := h
theorem r_xstV {N : Hp → Prop} (T : ExF K C f) (hn : PySem.W.findIn K (.ref C) fl = some none) (e : H a = some (exo a C none))
    (h : ∀ dx H1, H dx = none → But a H H1 → H1 a = some (exo a C (some dx)) → H1 dx = some (exd dx [(fl, y)]) → N H1) : xstR K fl y (.ref a) H N :=
  ⟨a, C, f, rfl, T, hn, e, fun dx n1 n2 => h dx _ n1 (fun b o nb q => by rw [upd_ne nb, upd_ne (ne_of_none q n1)]; exact q) upd_same (by rw [upd_ne n2, upd_same])⟩
theorem r_xv (h : te σ H fun x H1 => xvR K n x H1 Q) : tXv K n te σ H Q := h
theorem r_xvV (T : ExF K C f) (hn : PySem.W.findIn K (.ref C) n = some none) (ea : H a = some (exo a C (some d))) (ed : H d = some (exd d fs)) (l : fs.lookup n = some v) (q : Q v H) : xvR K n (.ref a) H Q := ⟨a, C, f, d, fs, v, rfl, T, hn, ea, ed, l, q⟩
theorem r_exv (h : ta σ H fun vs H1 => exI C sp vs H1 Q) : tExv C sp ta σ H Q := h
theorem r_isX {u : Value} {c : V} {b : Bool} (k : ClsV c u) (T : ExF K C f) (ea : H a = some (exo a C (some d))) (ed : H d = some (exd d fs)) (ek : PySem.W.kitOne K (.ref C) u = some b) (q : Q (.bl b) H) : rIsX K [.ref a, c] H Q := ⟨a, C, f, d, fs, c, u, b, rfl, k, T, ea, ed, ek, q⟩
end
end Z
structure Top (K : PySem.W.Frag) (mg : Str → Option Value) where
  C_BadEntry : Addr
  C_BadMerge : Addr
  C_BadProgram : Addr
  C_BadRule : Addr
  C_BadSeries : Addr
  C_BadWay : Addr
  C_BadWish : Addr
  C_NoAnswer : Addr
  C_NoKey : Addr
  C_NoMatch : Addr
  C_NoMend : Addr
  C_TooMany : Addr
  C_Unlike : Addr
  C_Unnumbered : Addr
  C_UnnumberedError : Addr
  f_law_draw : Addr
  fd_law_draw : FuncData
  F_law_draw : Fun K "_law_draw" "_law_draw" s_law_draw f_law_draw fd_law_draw
  B_law_draw : Binds K fd_law_draw ["_law_bag_here", "_law_many"] []
  f_law_bag : Addr
  fd_law_bag : FuncData
  F_law_bag : Fun K "_law_bag" "_law_bag" s_law_bag f_law_bag fd_law_bag
  B_law_bag : Binds K fd_law_bag ["_law_script", "_law_at"] []
  f_law_number : Addr
  fd_law_number : FuncData
  F_law_number : Fun K "_law_number" "_law_number" s_law_number f_law_number fd_law_number
  B_law_number : Binds K fd_law_number ["_law_bag_here"] []
  f_law_word : Addr
  fd_law_word : FuncData
  F_law_word : Fun K "_law_word" "_law_word" s_law_word f_law_word fd_law_word
  B_law_word : Binds K fd_law_word ["_law_bag_here"] []
  f_Unnumbered___init : Addr
  fd_Unnumbered___init : FuncData
  F_Unnumbered___init : Fun K "__init__" "Unnumbered.__init__" s_Unnumbered___init f_Unnumbered___init fd_Unnumbered___init
  B_Unnumbered___init : Binds K fd_Unnumbered___init ["self", "name"] []
  f_BadSeries___init : Addr
  fd_BadSeries___init : FuncData
  F_BadSeries___init : Fun K "__init__" "BadSeries.__init__" s_BadSeries___init f_BadSeries___init fd_BadSeries___init
  B_BadSeries___init : Binds K fd_BadSeries___init ["self", "at"] []
  f_BadProgram___init : Addr
  fd_BadProgram___init : FuncData
  F_BadProgram___init : Fun K "__init__" "BadProgram.__init__" s_BadProgram___init f_BadProgram___init fd_BadProgram___init
  B_BadProgram___init : Binds K fd_BadProgram___init ["self", "line"] []
  f_BadMerge___init : Addr
  fd_BadMerge___init : FuncData
  F_BadMerge___init : Fun K "__init__" "BadMerge.__init__" s_BadMerge___init f_BadMerge___init fd_BadMerge___init
  B_BadMerge___init : Binds K fd_BadMerge___init ["self", "line"] []
  f_BadRule___init : Addr
  fd_BadRule___init : FuncData
  F_BadRule___init : Fun K "__init__" "BadRule.__init__" s_BadRule___init f_BadRule___init fd_BadRule___init
  B_BadRule___init : Binds K fd_BadRule___init ["self", "side"] []
  f_BadWish___init : Addr
  fd_BadWish___init : FuncData
  F_BadWish___init : Fun K "__init__" "BadWish.__init__" s_BadWish___init f_BadWish___init fd_BadWish___init
  B_BadWish___init : Binds K fd_BadWish___init ["self", "name"] []
  f_BadEntry___init : Addr
  fd_BadEntry___init : FuncData
  F_BadEntry___init : Fun K "__init__" "BadEntry.__init__" s_BadEntry___init f_BadEntry___init fd_BadEntry___init
  B_BadEntry___init : Binds K fd_BadEntry___init ["self", "entry"] []
  f_BadWay___init : Addr
  fd_BadWay___init : FuncData
  F_BadWay___init : Fun K "__init__" "BadWay.__init__" s_BadWay___init f_BadWay___init fd_BadWay___init
  B_BadWay___init : Binds K fd_BadWay___init ["self", "way"] []
  f_Unlike___init : Addr
  fd_Unlike___init : FuncData
  F_Unlike___init : Fun K "__init__" "Unlike.__init__" s_Unlike___init f_Unlike___init fd_Unlike___init
  B_Unlike___init : Binds K fd_Unlike___init ["self", "name"] []
  f_NoMend___init : Addr
  fd_NoMend___init : FuncData
  F_NoMend___init : Fun K "__init__" "NoMend.__init__" s_NoMend___init f_NoMend___init fd_NoMend___init
  B_NoMend___init : Binds K fd_NoMend___init ["self", "mend"] []
  f_NoMatch___init : Addr
  fd_NoMatch___init : FuncData
  F_NoMatch___init : Fun K "__init__" "NoMatch.__init__" s_NoMatch___init f_NoMatch___init fd_NoMatch___init
  B_NoMatch___init : Binds K fd_NoMatch___init ["self", "number"] []
  f_TooMany___init : Addr
  fd_TooMany___init : FuncData
  F_TooMany___init : Fun K "__init__" "TooMany.__init__" s_TooMany___init f_TooMany___init fd_TooMany___init
  B_TooMany___init : Binds K fd_TooMany___init ["self", "what"] []
  f_NoKey___init : Addr
  fd_NoKey___init : FuncData
  F_NoKey___init : Fun K "__init__" "NoKey.__init__" s_NoKey___init f_NoKey___init fd_NoKey___init
  B_NoKey___init : Binds K fd_NoKey___init ["self", "key"] []
  f_NoAnswer___init : Addr
  fd_NoAnswer___init : FuncData
  F_NoAnswer___init : Fun K "__init__" "NoAnswer.__init__" s_NoAnswer___init f_NoAnswer___init fd_NoAnswer___init
  B_NoAnswer___init : Binds K fd_NoAnswer___init ["self", "name"] []
  f_law_first : Addr
  fd_law_first : FuncData
  F_law_first : Fun K "_law_first" "_law_first" s_law_first f_law_first fd_law_first
  B_law_first : Binds K fd_law_first ["_law_kind", "_law_thing_here"] []
  f_law_error : Addr
  fd_law_error : FuncData
  F_law_error : Fun K "_law_error" "_law_error" s_law_error f_law_error fd_law_error
  B_law_error : Binds K fd_law_error ["_law_kind", "_law_thing_here"] []
  f_law_kinds : Addr
  fd_law_kinds : FuncData
  F_law_kinds : Fun K "_law_kinds" "_law_kinds" s_law_kinds f_law_kinds fd_law_kinds
  B_law_kinds : Binds K fd_law_kinds ["_law_made"] []
  f_law_thing : Addr
  fd_law_thing : FuncData
  F_law_thing : Fun K "_law_thing" "_law_thing" s_law_thing f_law_thing fd_law_thing
  B_law_thing : Binds K fd_law_thing ["_law_bag_here"] []
  f_law : Addr
  fd_law : FuncData
  F_law : Fun K "law" "law" s_law f_law fd_law
  B_law : Binds K fd_law ["_law_script"] []
  mgC_BadEntry : mg "BadEntry" = some (.ref C_BadEntry)
  ex_BadEntry : Z.ExF K C_BadEntry f_BadEntry___init
  mgC_BadMerge : mg "BadMerge" = some (.ref C_BadMerge)
  ex_BadMerge : Z.ExF K C_BadMerge f_BadMerge___init
  mgC_BadProgram : mg "BadProgram" = some (.ref C_BadProgram)
  ex_BadProgram : Z.ExF K C_BadProgram f_BadProgram___init
  mgC_BadRule : mg "BadRule" = some (.ref C_BadRule)
  ex_BadRule : Z.ExF K C_BadRule f_BadRule___init
  mgC_BadSeries : mg "BadSeries" = some (.ref C_BadSeries)
  ex_BadSeries : Z.ExF K C_BadSeries f_BadSeries___init
  mgC_BadWay : mg "BadWay" = some (.ref C_BadWay)
  ex_BadWay : Z.ExF K C_BadWay f_BadWay___init
  mgC_BadWish : mg "BadWish" = some (.ref C_BadWish)
  ex_BadWish : Z.ExF K C_BadWish f_BadWish___init
  mgC_NoAnswer : mg "NoAnswer" = some (.ref C_NoAnswer)
  ex_NoAnswer : Z.ExF K C_NoAnswer f_NoAnswer___init
  mgC_NoKey : mg "NoKey" = some (.ref C_NoKey)
  ex_NoKey : Z.ExF K C_NoKey f_NoKey___init
  mgC_NoMatch : mg "NoMatch" = some (.ref C_NoMatch)
  ex_NoMatch : Z.ExF K C_NoMatch f_NoMatch___init
  mgC_NoMend : mg "NoMend" = some (.ref C_NoMend)
  ex_NoMend : Z.ExF K C_NoMend f_NoMend___init
  mgC_TooMany : mg "TooMany" = some (.ref C_TooMany)
  ex_TooMany : Z.ExF K C_TooMany f_TooMany___init
  mgC_Unlike : mg "Unlike" = some (.ref C_Unlike)
  ex_Unlike : Z.ExF K C_Unlike f_Unlike___init
  mgC_Unnumbered : mg "Unnumbered" = some (.ref C_Unnumbered)
  cl_Unnumbered : Cls K C_Unnumbered
  in_Unnumbered : Z.Inst K C_Unnumbered
  mk_Unnumbered : Mk K C_Unnumbered f_Unnumbered___init
  mgC_UnnumberedError : mg "UnnumberedError" = some (.ref C_UnnumberedError)
  no_BadEntry_entry : NoAttr K C_BadEntry "entry"
  no_BadMerge_line : NoAttr K C_BadMerge "line"
  no_BadProgram_line : NoAttr K C_BadProgram "line"
  no_BadRule_side : NoAttr K C_BadRule "side"
  no_BadSeries_at : NoAttr K C_BadSeries "at"
  no_BadWay_way : NoAttr K C_BadWay "way"
  no_BadWish_name : NoAttr K C_BadWish "name"
  no_NoAnswer_name : NoAttr K C_NoAnswer "name"
  no_NoKey_key : NoAttr K C_NoKey "key"
  no_NoMatch_number : NoAttr K C_NoMatch "number"
  no_NoMend_mend : NoAttr K C_NoMend "mend"
  no_TooMany_what : NoAttr K C_TooMany "what"
  no_Unlike_name : NoAttr K C_Unlike "name"
  no_Unnumbered_name : NoAttr K C_Unnumbered "name"
  mg_law_draw : mg "_law_draw" = some (.ref f_law_draw)
  mg_law_bag : mg "_law_bag" = some (.ref f_law_bag)
  mg_law_number : mg "_law_number" = some (.ref f_law_number)
  mg_law_word : mg "_law_word" = some (.ref f_law_word)
  mg_law_first : mg "_law_first" = some (.ref f_law_first)
  mg_law_error : mg "_law_error" = some (.ref f_law_error)
  mg_law_kinds : mg "_law_kinds" = some (.ref f_law_kinds)
  mg_law_thing : mg "_law_thing" = some (.ref f_law_thing)
  mg_law : mg "law" = some (.ref f_law)
  z_KeyError : mg "KeyError" = none
  z_LookupError : mg "LookupError" = none
  z_ValueError : mg "ValueError" = none
  z_abs : mg "abs" = none
  z_bool : mg "bool" = none
  z_int : mg "int" = none
  z_isinstance : mg "isinstance" = none
  z_len : mg "len" = none
  z_max : mg "max" = none
  z_min : mg "min" = none
  z_range : mg "range" = none
  ki_BadSeries_BadSeries : PySem.W.kitOne K (.ref C_BadSeries) (.ref C_BadSeries) = some true
  ki_BadSeries_BadProgram : PySem.W.kitOne K (.ref C_BadSeries) (.ref C_BadProgram) = some false
  ki_BadSeries_BadMerge : PySem.W.kitOne K (.ref C_BadSeries) (.ref C_BadMerge) = some false
  ki_BadSeries_BadRule : PySem.W.kitOne K (.ref C_BadSeries) (.ref C_BadRule) = some false
  ki_BadSeries_BadWish : PySem.W.kitOne K (.ref C_BadSeries) (.ref C_BadWish) = some false
  ki_BadSeries_BadEntry : PySem.W.kitOne K (.ref C_BadSeries) (.ref C_BadEntry) = some false
  ki_BadSeries_BadWay : PySem.W.kitOne K (.ref C_BadSeries) (.ref C_BadWay) = some false
  ki_BadSeries_Unlike : PySem.W.kitOne K (.ref C_BadSeries) (.ref C_Unlike) = some false
  ki_BadSeries_NoMend : PySem.W.kitOne K (.ref C_BadSeries) (.ref C_NoMend) = some false
  ki_BadSeries_NoMatch : PySem.W.kitOne K (.ref C_BadSeries) (.ref C_NoMatch) = some false
  ki_BadSeries_TooMany : PySem.W.kitOne K (.ref C_BadSeries) (.ref C_TooMany) = some false
  ki_BadSeries_NoKey : PySem.W.kitOne K (.ref C_BadSeries) (.ref C_NoKey) = some false
  ki_BadSeries_NoAnswer : PySem.W.kitOne K (.ref C_BadSeries) (.ref C_NoAnswer) = some false
  ki_BadSeries_UnnumberedError : PySem.W.kitOne K (.ref C_BadSeries) (.ref C_UnnumberedError) = some true
  ki_BadSeries_ValueError : PySem.W.kitOne K (.ref C_BadSeries) (.type "ValueError") = some true
  ki_BadSeries_LookupError : PySem.W.kitOne K (.ref C_BadSeries) (.type "LookupError") = some false
  ki_BadSeries_KeyError : PySem.W.kitOne K (.ref C_BadSeries) (.type "KeyError") = some false
  ki_BadProgram_BadSeries : PySem.W.kitOne K (.ref C_BadProgram) (.ref C_BadSeries) = some false
  ki_BadProgram_BadProgram : PySem.W.kitOne K (.ref C_BadProgram) (.ref C_BadProgram) = some true
  ki_BadProgram_BadMerge : PySem.W.kitOne K (.ref C_BadProgram) (.ref C_BadMerge) = some false
  ki_BadProgram_BadRule : PySem.W.kitOne K (.ref C_BadProgram) (.ref C_BadRule) = some false
  ki_BadProgram_BadWish : PySem.W.kitOne K (.ref C_BadProgram) (.ref C_BadWish) = some false
  ki_BadProgram_BadEntry : PySem.W.kitOne K (.ref C_BadProgram) (.ref C_BadEntry) = some false
  ki_BadProgram_BadWay : PySem.W.kitOne K (.ref C_BadProgram) (.ref C_BadWay) = some false
  ki_BadProgram_Unlike : PySem.W.kitOne K (.ref C_BadProgram) (.ref C_Unlike) = some false
  ki_BadProgram_NoMend : PySem.W.kitOne K (.ref C_BadProgram) (.ref C_NoMend) = some false
  ki_BadProgram_NoMatch : PySem.W.kitOne K (.ref C_BadProgram) (.ref C_NoMatch) = some false
  ki_BadProgram_TooMany : PySem.W.kitOne K (.ref C_BadProgram) (.ref C_TooMany) = some false
  ki_BadProgram_NoKey : PySem.W.kitOne K (.ref C_BadProgram) (.ref C_NoKey) = some false
  ki_BadProgram_NoAnswer : PySem.W.kitOne K (.ref C_BadProgram) (.ref C_NoAnswer) = some false
  ki_BadProgram_UnnumberedError : PySem.W.kitOne K (.ref C_BadProgram) (.ref C_UnnumberedError) = some true
  ki_BadProgram_ValueError : PySem.W.kitOne K (.ref C_BadProgram) (.type "ValueError") = some true
  ki_BadProgram_LookupError : PySem.W.kitOne K (.ref C_BadProgram) (.type "LookupError") = some false
  ki_BadProgram_KeyError : PySem.W.kitOne K (.ref C_BadProgram) (.type "KeyError") = some false
  ki_BadMerge_BadSeries : PySem.W.kitOne K (.ref C_BadMerge) (.ref C_BadSeries) = some false
  ki_BadMerge_BadProgram : PySem.W.kitOne K (.ref C_BadMerge) (.ref C_BadProgram) = some false
  ki_BadMerge_BadMerge : PySem.W.kitOne K (.ref C_BadMerge) (.ref C_BadMerge) = some true
  ki_BadMerge_BadRule : PySem.W.kitOne K (.ref C_BadMerge) (.ref C_BadRule) = some false
  ki_BadMerge_BadWish : PySem.W.kitOne K (.ref C_BadMerge) (.ref C_BadWish) = some false
  ki_BadMerge_BadEntry : PySem.W.kitOne K (.ref C_BadMerge) (.ref C_BadEntry) = some false
  ki_BadMerge_BadWay : PySem.W.kitOne K (.ref C_BadMerge) (.ref C_BadWay) = some false
  ki_BadMerge_Unlike : PySem.W.kitOne K (.ref C_BadMerge) (.ref C_Unlike) = some false
  ki_BadMerge_NoMend : PySem.W.kitOne K (.ref C_BadMerge) (.ref C_NoMend) = some false
  ki_BadMerge_NoMatch : PySem.W.kitOne K (.ref C_BadMerge) (.ref C_NoMatch) = some false
  ki_BadMerge_TooMany : PySem.W.kitOne K (.ref C_BadMerge) (.ref C_TooMany) = some false
  ki_BadMerge_NoKey : PySem.W.kitOne K (.ref C_BadMerge) (.ref C_NoKey) = some false
  ki_BadMerge_NoAnswer : PySem.W.kitOne K (.ref C_BadMerge) (.ref C_NoAnswer) = some false
  ki_BadMerge_UnnumberedError : PySem.W.kitOne K (.ref C_BadMerge) (.ref C_UnnumberedError) = some true
  ki_BadMerge_ValueError : PySem.W.kitOne K (.ref C_BadMerge) (.type "ValueError") = some true
  ki_BadMerge_LookupError : PySem.W.kitOne K (.ref C_BadMerge) (.type "LookupError") = some false
  ki_BadMerge_KeyError : PySem.W.kitOne K (.ref C_BadMerge) (.type "KeyError") = some false
  ki_BadRule_BadSeries : PySem.W.kitOne K (.ref C_BadRule) (.ref C_BadSeries) = some false
  ki_BadRule_BadProgram : PySem.W.kitOne K (.ref C_BadRule) (.ref C_BadProgram) = some false
  ki_BadRule_BadMerge : PySem.W.kitOne K (.ref C_BadRule) (.ref C_BadMerge) = some false
  ki_BadRule_BadRule : PySem.W.kitOne K (.ref C_BadRule) (.ref C_BadRule) = some true
  ki_BadRule_BadWish : PySem.W.kitOne K (.ref C_BadRule) (.ref C_BadWish) = some false
  ki_BadRule_BadEntry : PySem.W.kitOne K (.ref C_BadRule) (.ref C_BadEntry) = some false
  ki_BadRule_BadWay : PySem.W.kitOne K (.ref C_BadRule) (.ref C_BadWay) = some false
  ki_BadRule_Unlike : PySem.W.kitOne K (.ref C_BadRule) (.ref C_Unlike) = some false
  ki_BadRule_NoMend : PySem.W.kitOne K (.ref C_BadRule) (.ref C_NoMend) = some false
  ki_BadRule_NoMatch : PySem.W.kitOne K (.ref C_BadRule) (.ref C_NoMatch) = some false
  ki_BadRule_TooMany : PySem.W.kitOne K (.ref C_BadRule) (.ref C_TooMany) = some false
  ki_BadRule_NoKey : PySem.W.kitOne K (.ref C_BadRule) (.ref C_NoKey) = some false
  ki_BadRule_NoAnswer : PySem.W.kitOne K (.ref C_BadRule) (.ref C_NoAnswer) = some false
  ki_BadRule_UnnumberedError : PySem.W.kitOne K (.ref C_BadRule) (.ref C_UnnumberedError) = some true
  ki_BadRule_ValueError : PySem.W.kitOne K (.ref C_BadRule) (.type "ValueError") = some true
  ki_BadRule_LookupError : PySem.W.kitOne K (.ref C_BadRule) (.type "LookupError") = some false
  ki_BadRule_KeyError : PySem.W.kitOne K (.ref C_BadRule) (.type "KeyError") = some false
  ki_BadWish_BadSeries : PySem.W.kitOne K (.ref C_BadWish) (.ref C_BadSeries) = some false
  ki_BadWish_BadProgram : PySem.W.kitOne K (.ref C_BadWish) (.ref C_BadProgram) = some false
  ki_BadWish_BadMerge : PySem.W.kitOne K (.ref C_BadWish) (.ref C_BadMerge) = some false
  ki_BadWish_BadRule : PySem.W.kitOne K (.ref C_BadWish) (.ref C_BadRule) = some false
  ki_BadWish_BadWish : PySem.W.kitOne K (.ref C_BadWish) (.ref C_BadWish) = some true
  ki_BadWish_BadEntry : PySem.W.kitOne K (.ref C_BadWish) (.ref C_BadEntry) = some false
  ki_BadWish_BadWay : PySem.W.kitOne K (.ref C_BadWish) (.ref C_BadWay) = some false
  ki_BadWish_Unlike : PySem.W.kitOne K (.ref C_BadWish) (.ref C_Unlike) = some false
  ki_BadWish_NoMend : PySem.W.kitOne K (.ref C_BadWish) (.ref C_NoMend) = some false
  ki_BadWish_NoMatch : PySem.W.kitOne K (.ref C_BadWish) (.ref C_NoMatch) = some false
  ki_BadWish_TooMany : PySem.W.kitOne K (.ref C_BadWish) (.ref C_TooMany) = some false
  ki_BadWish_NoKey : PySem.W.kitOne K (.ref C_BadWish) (.ref C_NoKey) = some false
  ki_BadWish_NoAnswer : PySem.W.kitOne K (.ref C_BadWish) (.ref C_NoAnswer) = some false
  ki_BadWish_UnnumberedError : PySem.W.kitOne K (.ref C_BadWish) (.ref C_UnnumberedError) = some true
  ki_BadWish_ValueError : PySem.W.kitOne K (.ref C_BadWish) (.type "ValueError") = some true
  ki_BadWish_LookupError : PySem.W.kitOne K (.ref C_BadWish) (.type "LookupError") = some false
  ki_BadWish_KeyError : PySem.W.kitOne K (.ref C_BadWish) (.type "KeyError") = some false
  ki_BadEntry_BadSeries : PySem.W.kitOne K (.ref C_BadEntry) (.ref C_BadSeries) = some false
  ki_BadEntry_BadProgram : PySem.W.kitOne K (.ref C_BadEntry) (.ref C_BadProgram) = some false
  ki_BadEntry_BadMerge : PySem.W.kitOne K (.ref C_BadEntry) (.ref C_BadMerge) = some false
  ki_BadEntry_BadRule : PySem.W.kitOne K (.ref C_BadEntry) (.ref C_BadRule) = some false
  ki_BadEntry_BadWish : PySem.W.kitOne K (.ref C_BadEntry) (.ref C_BadWish) = some false
  ki_BadEntry_BadEntry : PySem.W.kitOne K (.ref C_BadEntry) (.ref C_BadEntry) = some true
  ki_BadEntry_BadWay : PySem.W.kitOne K (.ref C_BadEntry) (.ref C_BadWay) = some false
  ki_BadEntry_Unlike : PySem.W.kitOne K (.ref C_BadEntry) (.ref C_Unlike) = some false
  ki_BadEntry_NoMend : PySem.W.kitOne K (.ref C_BadEntry) (.ref C_NoMend) = some false
  ki_BadEntry_NoMatch : PySem.W.kitOne K (.ref C_BadEntry) (.ref C_NoMatch) = some false
  ki_BadEntry_TooMany : PySem.W.kitOne K (.ref C_BadEntry) (.ref C_TooMany) = some false
  ki_BadEntry_NoKey : PySem.W.kitOne K (.ref C_BadEntry) (.ref C_NoKey) = some false
  ki_BadEntry_NoAnswer : PySem.W.kitOne K (.ref C_BadEntry) (.ref C_NoAnswer) = some false
  ki_BadEntry_UnnumberedError : PySem.W.kitOne K (.ref C_BadEntry) (.ref C_UnnumberedError) = some true
  ki_BadEntry_ValueError : PySem.W.kitOne K (.ref C_BadEntry) (.type "ValueError") = some true
  ki_BadEntry_LookupError : PySem.W.kitOne K (.ref C_BadEntry) (.type "LookupError") = some false
  ki_BadEntry_KeyError : PySem.W.kitOne K (.ref C_BadEntry) (.type "KeyError") = some false
  ki_BadWay_BadSeries : PySem.W.kitOne K (.ref C_BadWay) (.ref C_BadSeries) = some false
  ki_BadWay_BadProgram : PySem.W.kitOne K (.ref C_BadWay) (.ref C_BadProgram) = some false
  ki_BadWay_BadMerge : PySem.W.kitOne K (.ref C_BadWay) (.ref C_BadMerge) = some false
  ki_BadWay_BadRule : PySem.W.kitOne K (.ref C_BadWay) (.ref C_BadRule) = some false
  ki_BadWay_BadWish : PySem.W.kitOne K (.ref C_BadWay) (.ref C_BadWish) = some false
  ki_BadWay_BadEntry : PySem.W.kitOne K (.ref C_BadWay) (.ref C_BadEntry) = some false
  ki_BadWay_BadWay : PySem.W.kitOne K (.ref C_BadWay) (.ref C_BadWay) = some true
  ki_BadWay_Unlike : PySem.W.kitOne K (.ref C_BadWay) (.ref C_Unlike) = some false
  ki_BadWay_NoMend : PySem.W.kitOne K (.ref C_BadWay) (.ref C_NoMend) = some false
  ki_BadWay_NoMatch : PySem.W.kitOne K (.ref C_BadWay) (.ref C_NoMatch) = some false
  ki_BadWay_TooMany : PySem.W.kitOne K (.ref C_BadWay) (.ref C_TooMany) = some false
  ki_BadWay_NoKey : PySem.W.kitOne K (.ref C_BadWay) (.ref C_NoKey) = some false
  ki_BadWay_NoAnswer : PySem.W.kitOne K (.ref C_BadWay) (.ref C_NoAnswer) = some false
  ki_BadWay_UnnumberedError : PySem.W.kitOne K (.ref C_BadWay) (.ref C_UnnumberedError) = some true
  ki_BadWay_ValueError : PySem.W.kitOne K (.ref C_BadWay) (.type "ValueError") = some true
  ki_BadWay_LookupError : PySem.W.kitOne K (.ref C_BadWay) (.type "LookupError") = some false
  ki_BadWay_KeyError : PySem.W.kitOne K (.ref C_BadWay) (.type "KeyError") = some false
  ki_Unlike_BadSeries : PySem.W.kitOne K (.ref C_Unlike) (.ref C_BadSeries) = some false
  ki_Unlike_BadProgram : PySem.W.kitOne K (.ref C_Unlike) (.ref C_BadProgram) = some false
  ki_Unlike_BadMerge : PySem.W.kitOne K (.ref C_Unlike) (.ref C_BadMerge) = some false
  ki_Unlike_BadRule : PySem.W.kitOne K (.ref C_Unlike) (.ref C_BadRule) = some false
  ki_Unlike_BadWish : PySem.W.kitOne K (.ref C_Unlike) (.ref C_BadWish) = some false
  ki_Unlike_BadEntry : PySem.W.kitOne K (.ref C_Unlike) (.ref C_BadEntry) = some false
  ki_Unlike_BadWay : PySem.W.kitOne K (.ref C_Unlike) (.ref C_BadWay) = some false
  ki_Unlike_Unlike : PySem.W.kitOne K (.ref C_Unlike) (.ref C_Unlike) = some true
  ki_Unlike_NoMend : PySem.W.kitOne K (.ref C_Unlike) (.ref C_NoMend) = some false
  ki_Unlike_NoMatch : PySem.W.kitOne K (.ref C_Unlike) (.ref C_NoMatch) = some false
  ki_Unlike_TooMany : PySem.W.kitOne K (.ref C_Unlike) (.ref C_TooMany) = some false
  ki_Unlike_NoKey : PySem.W.kitOne K (.ref C_Unlike) (.ref C_NoKey) = some false
  ki_Unlike_NoAnswer : PySem.W.kitOne K (.ref C_Unlike) (.ref C_NoAnswer) = some false
  ki_Unlike_UnnumberedError : PySem.W.kitOne K (.ref C_Unlike) (.ref C_UnnumberedError) = some true
  ki_Unlike_ValueError : PySem.W.kitOne K (.ref C_Unlike) (.type "ValueError") = some true
  ki_Unlike_LookupError : PySem.W.kitOne K (.ref C_Unlike) (.type "LookupError") = some false
  ki_Unlike_KeyError : PySem.W.kitOne K (.ref C_Unlike) (.type "KeyError") = some false
  ki_NoMend_BadSeries : PySem.W.kitOne K (.ref C_NoMend) (.ref C_BadSeries) = some false
  ki_NoMend_BadProgram : PySem.W.kitOne K (.ref C_NoMend) (.ref C_BadProgram) = some false
  ki_NoMend_BadMerge : PySem.W.kitOne K (.ref C_NoMend) (.ref C_BadMerge) = some false
  ki_NoMend_BadRule : PySem.W.kitOne K (.ref C_NoMend) (.ref C_BadRule) = some false
  ki_NoMend_BadWish : PySem.W.kitOne K (.ref C_NoMend) (.ref C_BadWish) = some false
  ki_NoMend_BadEntry : PySem.W.kitOne K (.ref C_NoMend) (.ref C_BadEntry) = some false
  ki_NoMend_BadWay : PySem.W.kitOne K (.ref C_NoMend) (.ref C_BadWay) = some false
  ki_NoMend_Unlike : PySem.W.kitOne K (.ref C_NoMend) (.ref C_Unlike) = some false
  ki_NoMend_NoMend : PySem.W.kitOne K (.ref C_NoMend) (.ref C_NoMend) = some true
  ki_NoMend_NoMatch : PySem.W.kitOne K (.ref C_NoMend) (.ref C_NoMatch) = some false
  ki_NoMend_TooMany : PySem.W.kitOne K (.ref C_NoMend) (.ref C_TooMany) = some false
  ki_NoMend_NoKey : PySem.W.kitOne K (.ref C_NoMend) (.ref C_NoKey) = some false
  ki_NoMend_NoAnswer : PySem.W.kitOne K (.ref C_NoMend) (.ref C_NoAnswer) = some false
  ki_NoMend_UnnumberedError : PySem.W.kitOne K (.ref C_NoMend) (.ref C_UnnumberedError) = some true
  ki_NoMend_ValueError : PySem.W.kitOne K (.ref C_NoMend) (.type "ValueError") = some true
  ki_NoMend_LookupError : PySem.W.kitOne K (.ref C_NoMend) (.type "LookupError") = some false
  ki_NoMend_KeyError : PySem.W.kitOne K (.ref C_NoMend) (.type "KeyError") = some false
  ki_NoMatch_BadSeries : PySem.W.kitOne K (.ref C_NoMatch) (.ref C_BadSeries) = some false
  ki_NoMatch_BadProgram : PySem.W.kitOne K (.ref C_NoMatch) (.ref C_BadProgram) = some false
  ki_NoMatch_BadMerge : PySem.W.kitOne K (.ref C_NoMatch) (.ref C_BadMerge) = some false
  ki_NoMatch_BadRule : PySem.W.kitOne K (.ref C_NoMatch) (.ref C_BadRule) = some false
  ki_NoMatch_BadWish : PySem.W.kitOne K (.ref C_NoMatch) (.ref C_BadWish) = some false
  ki_NoMatch_BadEntry : PySem.W.kitOne K (.ref C_NoMatch) (.ref C_BadEntry) = some false
  ki_NoMatch_BadWay : PySem.W.kitOne K (.ref C_NoMatch) (.ref C_BadWay) = some false
  ki_NoMatch_Unlike : PySem.W.kitOne K (.ref C_NoMatch) (.ref C_Unlike) = some false
  ki_NoMatch_NoMend : PySem.W.kitOne K (.ref C_NoMatch) (.ref C_NoMend) = some false
  ki_NoMatch_NoMatch : PySem.W.kitOne K (.ref C_NoMatch) (.ref C_NoMatch) = some true
  ki_NoMatch_TooMany : PySem.W.kitOne K (.ref C_NoMatch) (.ref C_TooMany) = some false
  ki_NoMatch_NoKey : PySem.W.kitOne K (.ref C_NoMatch) (.ref C_NoKey) = some false
  ki_NoMatch_NoAnswer : PySem.W.kitOne K (.ref C_NoMatch) (.ref C_NoAnswer) = some false
  ki_NoMatch_UnnumberedError : PySem.W.kitOne K (.ref C_NoMatch) (.ref C_UnnumberedError) = some true
  ki_NoMatch_ValueError : PySem.W.kitOne K (.ref C_NoMatch) (.type "ValueError") = some true
  ki_NoMatch_LookupError : PySem.W.kitOne K (.ref C_NoMatch) (.type "LookupError") = some false
  ki_NoMatch_KeyError : PySem.W.kitOne K (.ref C_NoMatch) (.type "KeyError") = some false
  ki_TooMany_BadSeries : PySem.W.kitOne K (.ref C_TooMany) (.ref C_BadSeries) = some false
  ki_TooMany_BadProgram : PySem.W.kitOne K (.ref C_TooMany) (.ref C_BadProgram) = some false
  ki_TooMany_BadMerge : PySem.W.kitOne K (.ref C_TooMany) (.ref C_BadMerge) = some false
  ki_TooMany_BadRule : PySem.W.kitOne K (.ref C_TooMany) (.ref C_BadRule) = some false
  ki_TooMany_BadWish : PySem.W.kitOne K (.ref C_TooMany) (.ref C_BadWish) = some false
  ki_TooMany_BadEntry : PySem.W.kitOne K (.ref C_TooMany) (.ref C_BadEntry) = some false
  ki_TooMany_BadWay : PySem.W.kitOne K (.ref C_TooMany) (.ref C_BadWay) = some false
  ki_TooMany_Unlike : PySem.W.kitOne K (.ref C_TooMany) (.ref C_Unlike) = some false
  ki_TooMany_NoMend : PySem.W.kitOne K (.ref C_TooMany) (.ref C_NoMend) = some false
  ki_TooMany_NoMatch : PySem.W.kitOne K (.ref C_TooMany) (.ref C_NoMatch) = some false
  ki_TooMany_TooMany : PySem.W.kitOne K (.ref C_TooMany) (.ref C_TooMany) = some true
  ki_TooMany_NoKey : PySem.W.kitOne K (.ref C_TooMany) (.ref C_NoKey) = some false
  ki_TooMany_NoAnswer : PySem.W.kitOne K (.ref C_TooMany) (.ref C_NoAnswer) = some false
  ki_TooMany_UnnumberedError : PySem.W.kitOne K (.ref C_TooMany) (.ref C_UnnumberedError) = some true
  ki_TooMany_ValueError : PySem.W.kitOne K (.ref C_TooMany) (.type "ValueError") = some true
  ki_TooMany_LookupError : PySem.W.kitOne K (.ref C_TooMany) (.type "LookupError") = some false
  ki_TooMany_KeyError : PySem.W.kitOne K (.ref C_TooMany) (.type "KeyError") = some false
  ki_NoKey_BadSeries : PySem.W.kitOne K (.ref C_NoKey) (.ref C_BadSeries) = some false
  ki_NoKey_BadProgram : PySem.W.kitOne K (.ref C_NoKey) (.ref C_BadProgram) = some false
  ki_NoKey_BadMerge : PySem.W.kitOne K (.ref C_NoKey) (.ref C_BadMerge) = some false
  ki_NoKey_BadRule : PySem.W.kitOne K (.ref C_NoKey) (.ref C_BadRule) = some false
  ki_NoKey_BadWish : PySem.W.kitOne K (.ref C_NoKey) (.ref C_BadWish) = some false
  ki_NoKey_BadEntry : PySem.W.kitOne K (.ref C_NoKey) (.ref C_BadEntry) = some false
  ki_NoKey_BadWay : PySem.W.kitOne K (.ref C_NoKey) (.ref C_BadWay) = some false
  ki_NoKey_Unlike : PySem.W.kitOne K (.ref C_NoKey) (.ref C_Unlike) = some false
  ki_NoKey_NoMend : PySem.W.kitOne K (.ref C_NoKey) (.ref C_NoMend) = some false
  ki_NoKey_NoMatch : PySem.W.kitOne K (.ref C_NoKey) (.ref C_NoMatch) = some false
  ki_NoKey_TooMany : PySem.W.kitOne K (.ref C_NoKey) (.ref C_TooMany) = some false
  ki_NoKey_NoKey : PySem.W.kitOne K (.ref C_NoKey) (.ref C_NoKey) = some true
  ki_NoKey_NoAnswer : PySem.W.kitOne K (.ref C_NoKey) (.ref C_NoAnswer) = some false
  ki_NoKey_UnnumberedError : PySem.W.kitOne K (.ref C_NoKey) (.ref C_UnnumberedError) = some false
  ki_NoKey_ValueError : PySem.W.kitOne K (.ref C_NoKey) (.type "ValueError") = some false
  ki_NoKey_LookupError : PySem.W.kitOne K (.ref C_NoKey) (.type "LookupError") = some true
  ki_NoKey_KeyError : PySem.W.kitOne K (.ref C_NoKey) (.type "KeyError") = some false
  ki_NoAnswer_BadSeries : PySem.W.kitOne K (.ref C_NoAnswer) (.ref C_BadSeries) = some false
  ki_NoAnswer_BadProgram : PySem.W.kitOne K (.ref C_NoAnswer) (.ref C_BadProgram) = some false
  ki_NoAnswer_BadMerge : PySem.W.kitOne K (.ref C_NoAnswer) (.ref C_BadMerge) = some false
  ki_NoAnswer_BadRule : PySem.W.kitOne K (.ref C_NoAnswer) (.ref C_BadRule) = some false
  ki_NoAnswer_BadWish : PySem.W.kitOne K (.ref C_NoAnswer) (.ref C_BadWish) = some false
  ki_NoAnswer_BadEntry : PySem.W.kitOne K (.ref C_NoAnswer) (.ref C_BadEntry) = some false
  ki_NoAnswer_BadWay : PySem.W.kitOne K (.ref C_NoAnswer) (.ref C_BadWay) = some false
  ki_NoAnswer_Unlike : PySem.W.kitOne K (.ref C_NoAnswer) (.ref C_Unlike) = some false
  ki_NoAnswer_NoMend : PySem.W.kitOne K (.ref C_NoAnswer) (.ref C_NoMend) = some false
  ki_NoAnswer_NoMatch : PySem.W.kitOne K (.ref C_NoAnswer) (.ref C_NoMatch) = some false
  ki_NoAnswer_TooMany : PySem.W.kitOne K (.ref C_NoAnswer) (.ref C_TooMany) = some false
  ki_NoAnswer_NoKey : PySem.W.kitOne K (.ref C_NoAnswer) (.ref C_NoKey) = some false
  ki_NoAnswer_NoAnswer : PySem.W.kitOne K (.ref C_NoAnswer) (.ref C_NoAnswer) = some true
  ki_NoAnswer_UnnumberedError : PySem.W.kitOne K (.ref C_NoAnswer) (.ref C_UnnumberedError) = some false
  ki_NoAnswer_ValueError : PySem.W.kitOne K (.ref C_NoAnswer) (.type "ValueError") = some false
  ki_NoAnswer_LookupError : PySem.W.kitOne K (.ref C_NoAnswer) (.type "LookupError") = some true
  ki_NoAnswer_KeyError : PySem.W.kitOne K (.ref C_NoAnswer) (.type "KeyError") = some false
  ki_Unnumbered_bool : PySem.W.kitOne K (.ref C_Unnumbered) (.type "bool") = some false
theorem kb_NoneType_bool : kitB "NoneType" "bool" = some false := by decide +kernel
theorem kb_bool_bool : kitB "bool" "bool" = some true := by decide +kernel
theorem kb_int_bool : kitB "int" "bool" = some false := by decide +kernel
theorem kb_str_bool : kitB "str" "bool" = some false := by decide +kernel
theorem kb_list_bool : kitB "list" "bool" = some false := by decide +kernel
theorem kb_tuple_bool : kitB "tuple" "bool" = some false := by decide +kernel
local macro_rules | `(tactic| walk_at "ki") => `(tactic| first
  | assumption
  | exact kit_ty kb_NoneType_bool
  | exact kit_ty kb_bool_bool
  | exact kit_ty kb_int_bool
  | exact kit_ty kb_str_bool
  | exact kit_ty kb_list_bool
  | exact kit_ty kb_tuple_bool
  | exact Top.ki_Unnumbered_bool (by assumption))
local macro_rules | `(tactic| walk_at "no") => `(tactic| first
  | exact Top.no_BadEntry_entry (by assumption)
  | exact Top.no_BadMerge_line (by assumption)
  | exact Top.no_BadProgram_line (by assumption)
  | exact Top.no_BadRule_side (by assumption)
  | exact Top.no_BadSeries_at (by assumption)
  | exact Top.no_BadWay_way (by assumption)
  | exact Top.no_BadWish_name (by assumption)
  | exact Top.no_NoAnswer_name (by assumption)
  | exact Top.no_NoKey_key (by assumption)
  | exact Top.no_NoMatch_number (by assumption)
  | exact Top.no_NoMend_mend (by assumption)
  | exact Top.no_TooMany_what (by assumption)
  | exact Top.no_Unlike_name (by assumption)
  | exact Top.no_Unnumbered_name (by assumption)
  | assumption)
local macro_rules | `(tactic| walk_at "cl") => `(tactic| first
  | exact Top.cl_Unnumbered (by assumption)
  | assumption)
local macro_rules | `(tactic| walk_at "ty") => `(tactic| first
  | assumption
  | exact .base (.int _)
  | exact .base .non
  | exact .base (.bl _)
  | exact .base (.str _)
  | exact .base (.lst (by walk_at "hp"))
  | exact .base (.tup (by walk_at "hp"))
  | exact Z.ty_ins (Top.cl_Unnumbered (by assumption)) (Top.in_Unnumbered (by assumption)) (by walk_at "hp"))

/-! what stands at an address; which way a test goes; one step; as many as go -/
local macro_rules | `(tactic| walk_at "hp") => `(tactic| first
  | assumption
  | exact upd_same
  | (refine (‹Same _ _› : Same _ _) _ _ ?_; walk_at "hp")
  | (refine (‹Z.But _ _ _› : Z.But _ _ _) _ _ ?_ ?_; (first | assumption | (apply Ne.symm; assumption) | exact ne_of_none (by assumption) (by assumption)); walk_at "hp"))
local macro_rules | `(tactic| walk_at "sq") => `(tactic| first
  | assumption
  | exact SqL.of (by walk_at "hp")
  | (refine Same.seq (by assumption) ?_; walk_at "sq")
  | (refine Z.But.seq (by assumption) (by assumption) ?_; walk_at "sq"))
local macro_rules | `(tactic| walk_at "look") => `(tactic| first | assumption | exact Z.look1 | (simp [List.lookup]; done))
local macro_rules | `(tactic| walk_at "side") => `(tactic| first
  | (show (0 : Int) < _; omega)
  | (show CDiv _ _; exact ⟨by omega, by omega⟩)
  | (show CMul _ _; first | exact .inl ⟨by omega, by omega⟩ | exact .inr ⟨by omega, by omega⟩)
  | (show CPow _ _; exact ⟨by omega, by omega, by omega⟩))
local macro_rules | `(tactic| walk_at "st") => `(tactic| first
  | ((with_reducible refine' Z.r_var ?e ?_); (case e => exact rfl))
  | with_reducible refine Z.r_op ?_
  | with_reducible refine Z.r_c ?_
  | with_reducible refine Z.r_cons ?_
  | with_reducible refine Z.r_nil ?_
  | with_reducible refine Z.r_seq ?_
  | with_reducible refine Z.r_asg ?_
  | with_reducible refine Z.r_call ?_
  | with_reducible refine Z.r_cb ?_
  | with_reducible refine Z.r_asgG ?_
  | with_reducible refine Z.r_gName ?_
  | with_reducible refine Z.r_gSub ?_
  | with_reducible refine Z.r_ret ?_
  | with_reducible refine Z.r_retN ?_
  | with_reducible refine Z.r_next ?_
  | with_reducible refine Z.r_drop ?_
  | with_reducible refine Z.r_if ?_
  | with_reducible refine Z.r_par ?_
  | with_reducible refine Z.r_par3 ?_
  | with_reducible refine Z.r_vs3 ?_
  | with_reducible refine Z.r_gCons ?_
  | with_reducible refine Z.r_gNil ?_
  | ((with_reducible refine' Z.r_gTup ?e ?hn ?_); (case e => walk_at "hp"); (case hn => exact rfl))
  | with_reducible refine Z.r_vs2 ?_
  | ((with_reducible refine' Z.r_aug ?e ?_); (case e => exact rfl))
  | with_reducible refine Z.r_un ?_
  | with_reducible refine Z.r_test ?_
  | with_reducible refine Z.r_tB ?_
  | with_reducible refine Z.r_bl ?_
  | with_reducible refine Z.r_and ?_
  | with_reducible refine Z.r_or ?_
  | with_reducible refine Z.r_not ?_
  | with_reducible refine Z.r_andV ?_
  | with_reducible refine Z.r_orV ?_
  | with_reducible refine Z.r_notV ?_
  | with_reducible refine Z.r_ifE ?_
  | with_reducible refine Z.r_tup ?_
  | with_reducible refine Z.r_lst ?_
  | with_reducible refine Z.r_fld ?_
  | ((with_reducible refine' Z.r_fldV ?e ?c ?n ?l ?_); (case e => walk_at "hp"); (case c => walk_at "cl"); (case n => walk_at "no"); (case l => walk_at "look"))
  | ((with_reducible refine' Z.r_isiT ?ty ?k ?_); (case ty => walk_at "ty"); (case k => walk_at "ki"))
  | ((with_reducible refine' Z.r_isiC ?ty ?k ?_); (case ty => walk_at "ty"); (case k => walk_at "ki"))
  | with_reducible refine Z.r_make ?_
  | with_reducible refine Z.r_dget ?_
  | with_reducible refine Z.r_dput ?_
  | with_reducible refine Z.r_disp ?_
  | with_reducible refine Z.r_pnil ?_
  | with_reducible refine Z.r_pcons ?_
  | with_reducible refine Z.r_sfld ?_
  | ((with_reducible refine' Z.r_stF ?e ?c ?n ?l ?_); (case e => walk_at "hp"); (case c => walk_at "cl"); (case n => walk_at "no"); (case l => exact Nat.le_of_ble_eq_true rfl))
  | ((with_reducible refine' Z.r_nwL ?z ?_); (case z => exact Nat.le_of_ble_eq_true rfl))
  | ((with_reducible refine' Z.r_nwT ?z ?_); (case z => exact Nat.le_of_ble_eq_true rfl))
  | with_reducible refine Z.r_I0 ?_
  | with_reducible refine Z.r_U ?_
  | with_reducible refine Z.r_forRng ?_
  | with_reducible refine Z.r_forL0 ?_
  | with_reducible refine Z.r_lcRng ?_
  | with_reducible refine Z.r_lcLst ?_
  | with_reducible refine Z.r_sl ?_
  | with_reducible refine Z.r_part ?_
  | with_reducible refine Z.r_prt ?_
  | with_reducible refine Z.r_nopart ?_
  | with_reducible refine Z.r_bmA ?_
  | ((with_reducible refine' Z.r_tyL ?e ?_); (case e => walk_at "hp"))
  | with_reducible refine Z.r_lcFLst ?_
  | ((with_reducible refine' Z.r_I ?c ?_); (case c => walk_at "side"))
  | with_reducible refine Z.r_int1 ?_
  | with_reducible refine Z.r_abs ?_
  | with_reducible refine Z.r_max2 ?_
  | with_reducible refine Z.r_min2 ?_
  | ((with_reducible refine' Z.r_lenL ?e ?_); (case e => walk_at "sq"))
  | with_reducible refine Z.r_isN ?_
  | with_reducible refine Z.r_notN ?_
  | with_reducible refine Z.r_eqI ?_
  | with_reducible refine Z.r_eqB ?_
  | with_reducible refine Z.r_eqS ?_
  | with_reducible refine Z.r_neI ?_
  | with_reducible refine Z.r_neB ?_
  | with_reducible refine Z.r_neS ?_
  | ((with_reducible refine' Z.r_ixL ?h ?e ?_); (case h => walk_at "sq"); (case e => first | assumption | exact rfl))
  | ((with_reducible refine' Z.r_ixT ?h ?e ?_); (case h => exact SqT.of (by walk_at "hp")); (case e => first | assumption | exact rfl))
  | ((with_reducible refine' Z.r_setL ?h ?e ?_); (case h => walk_at "hp"); (case e => exact rfl))
  | ((with_reducible refine Z.yes ?_ ?_); (first | exact rfl | decide +kernel))
  | ((with_reducible refine Z.no ?_ ?_); (first | exact rfl | decide +kernel))
  | walk_at "call")
local macro_rules | `(tactic| walk_at "go") => `(tactic| repeat (first
  | ((with_reducible refine' Z.r_var ?e ?_); (case e => exact rfl))
  | with_reducible refine Z.r_op ?_
  | with_reducible refine Z.r_c ?_
  | with_reducible refine Z.r_cons ?_
  | with_reducible refine Z.r_nil ?_
  | with_reducible refine Z.r_seq ?_
  | with_reducible refine Z.r_asg ?_
  | with_reducible refine Z.r_call ?_
  | with_reducible refine Z.r_cb ?_
  | with_reducible refine Z.r_asgG ?_
  | with_reducible refine Z.r_gName ?_
  | with_reducible refine Z.r_gSub ?_
  | with_reducible refine Z.r_ret ?_
  | with_reducible refine Z.r_retN ?_
  | with_reducible refine Z.r_next ?_
  | with_reducible refine Z.r_drop ?_
  | with_reducible refine Z.r_if ?_
  | with_reducible refine Z.r_par ?_
  | with_reducible refine Z.r_par3 ?_
  | with_reducible refine Z.r_vs3 ?_
  | with_reducible refine Z.r_gCons ?_
  | with_reducible refine Z.r_gNil ?_
  | ((with_reducible refine' Z.r_gTup ?e ?hn ?_); (case e => walk_at "hp"); (case hn => exact rfl))
  | with_reducible refine Z.r_vs2 ?_
  | ((with_reducible refine' Z.r_aug ?e ?_); (case e => exact rfl))
  | with_reducible refine Z.r_un ?_
  | with_reducible refine Z.r_test ?_
  | with_reducible refine Z.r_tB ?_
  | with_reducible refine Z.r_bl ?_
  | with_reducible refine Z.r_and ?_
  | with_reducible refine Z.r_or ?_
  | with_reducible refine Z.r_not ?_
  | with_reducible refine Z.r_andV ?_
  | with_reducible refine Z.r_orV ?_
  | with_reducible refine Z.r_notV ?_
  | with_reducible refine Z.r_ifE ?_
  | with_reducible refine Z.r_tup ?_
  | with_reducible refine Z.r_lst ?_
  | with_reducible refine Z.r_fld ?_
  | ((with_reducible refine' Z.r_fldV ?e ?c ?n ?l ?_); (case e => walk_at "hp"); (case c => walk_at "cl"); (case n => walk_at "no"); (case l => walk_at "look"))
  | ((with_reducible refine' Z.r_isiT ?ty ?k ?_); (case ty => walk_at "ty"); (case k => walk_at "ki"))
  | ((with_reducible refine' Z.r_isiC ?ty ?k ?_); (case ty => walk_at "ty"); (case k => walk_at "ki"))
  | with_reducible refine Z.r_make ?_
  | with_reducible refine Z.r_dget ?_
  | with_reducible refine Z.r_dput ?_
  | with_reducible refine Z.r_disp ?_
  | with_reducible refine Z.r_pnil ?_
  | with_reducible refine Z.r_pcons ?_
  | with_reducible refine Z.r_sfld ?_
  | ((with_reducible refine' Z.r_stF ?e ?c ?n ?l ?_); (case e => walk_at "hp"); (case c => walk_at "cl"); (case n => walk_at "no"); (case l => exact Nat.le_of_ble_eq_true rfl))
  | ((with_reducible refine' Z.r_nwL ?z ?_); (case z => exact Nat.le_of_ble_eq_true rfl))
  | ((with_reducible refine' Z.r_nwT ?z ?_); (case z => exact Nat.le_of_ble_eq_true rfl))
  | with_reducible refine Z.r_I0 ?_
  | with_reducible refine Z.r_U ?_
  | with_reducible refine Z.r_forRng ?_
  | with_reducible refine Z.r_forL0 ?_
  | with_reducible refine Z.r_lcRng ?_
  | with_reducible refine Z.r_lcLst ?_
  | with_reducible refine Z.r_sl ?_
  | with_reducible refine Z.r_part ?_
  | with_reducible refine Z.r_prt ?_
  | with_reducible refine Z.r_nopart ?_
  | with_reducible refine Z.r_bmA ?_
  | ((with_reducible refine' Z.r_tyL ?e ?_); (case e => walk_at "hp"))
  | with_reducible refine Z.r_lcFLst ?_
  | ((with_reducible refine' Z.r_I ?c ?_); (case c => walk_at "side"))
  | with_reducible refine Z.r_int1 ?_
  | with_reducible refine Z.r_abs ?_
  | with_reducible refine Z.r_max2 ?_
  | with_reducible refine Z.r_min2 ?_
  | ((with_reducible refine' Z.r_lenL ?e ?_); (case e => walk_at "sq"))
  | with_reducible refine Z.r_isN ?_
  | with_reducible refine Z.r_notN ?_
  | with_reducible refine Z.r_eqI ?_
  | with_reducible refine Z.r_eqB ?_
  | with_reducible refine Z.r_eqS ?_
  | with_reducible refine Z.r_neI ?_
  | with_reducible refine Z.r_neB ?_
  | with_reducible refine Z.r_neS ?_
  | ((with_reducible refine' Z.r_ixL ?h ?e ?_); (case h => walk_at "sq"); (case e => first | assumption | exact rfl))
  | ((with_reducible refine' Z.r_ixT ?h ?e ?_); (case h => exact SqT.of (by walk_at "hp")); (case e => first | assumption | exact rfl))
  | ((with_reducible refine' Z.r_setL ?h ?e ?_); (case h => walk_at "hp"); (case e => exact rfl))
  | ((with_reducible refine Z.yes ?_ ?_); (first | exact rfl | decide +kernel))
  | ((with_reducible refine Z.no ?_ ?_); (first | exact rfl | decide +kernel))
  | walk_at "call"))
local macro_rules | `(tactic| walk_at "bag") => `(tactic| first
  | assumption
  | (refine Bag.mono (by omega) ?_; assumption)
  | (refine Bag.same (by assumption) ?_; walk_at "bag")
  | (refine Bag.but (by assumption) (by first | assumption | (apply Ne.symm; assumption)) ?_; walk_at "bag"))
local macro_rules | `(tactic| walk_at "len") => `(tactic| exact Z.szle (Nat.le_of_ble_eq_true rfl))
local macro_rules | `(tactic| walk_at "draw") => `(tactic| (refine' ⟨_, _, _, rfl, ?bg, ?m0, ?m1, ?n1, ?_⟩; (case bg => walk_at "bag"); (case m0 => omega); (case m1 => omega); (case n1 => omega)))
/-! the bag of a script's cell, its draws -/
/-- a bag: what is left of the digits, the seed, the number of draws (at most n) -/
def Bag (H : Hp) (b : Addr) (n : Nat) : Prop := ∃ g s k : Int, H b = some (.lst [.int g, .int s, .int k]) ∧ 0 ≤ g ∧ 0 ≤ s ∧ s < 1099511627776 ∧ 0 ≤ k ∧ k ≤ n
theorem Bag.mono {H : Hp} {b : Addr} {n m : Nat} (h : n ≤ m) (x : Bag H b n) : Bag H b m := by
  obtain ⟨g, s, k, h1, h2, h3, h4, h5, h6⟩ := x
  exact ⟨g, s, k, h1, h2, h3, h4, h5, by omega⟩
theorem Bag.same {H H' : Hp} {b : Addr} {n : Nat} (e : Same H H') (x : Bag H b n) : Bag H' b n := by
  obtain ⟨g, s, k, h1, h2⟩ := x
  exact ⟨g, s, k, e _ _ h1, h2⟩
theorem Bag.ne {H : Hp} {b p : Addr} {n : Nat} (x : Bag H b n) (h : H p = none) : p ≠ b := fun e => by
  obtain ⟨g, s, k, h1, _⟩ := x
  rw [e, h1] at h; cases h
theorem Bag.ne' {H : Hp} {b p : Addr} {n : Nat} {o : HO} (x : Bag H b n) (h : H p = some o) (d : ∀ xs, o ≠ .lst xs) : p ≠ b := fun e => by
  obtain ⟨g, s, k, h1, _⟩ := x
  rw [e, h1] at h; cases h; exact d _ rfl
theorem Bag.but {H H' : Hp} {b c : Addr} {n : Nat} (e : Z.But c H H') (ne : b ≠ c) (x : Bag H b n) : Bag H' b n := by
  obtain ⟨g, s, k, h1, h2⟩ := x
  exact ⟨g, s, k, e _ _ ne h1, h2⟩
local macro_rules | `(tactic| walk_at "bag") => `(tactic| first
  | assumption
  | (refine Bag.same (by assumption) ?_; walk_at "bag")
  | (refine Bag.but (by assumption) (by first | assumption | (apply Ne.symm; assumption)) ?_; walk_at "bag")
  | (refine Bag.mono (by omega) ?_; assumption))
/-- a word of one to eight small letters -/
def Word (x : Str) : Prop := 1 ≤ x.length ∧ x.length ≤ 8 ∧ ∀ c ∈ x.cps.toList, 97 ≤ c ∧ c ≤ 122
theorem Word.ok {x : Str} (h : Word x) : PyData.strOk x = true := by
  unfold PyData.strOk
  rw [Array.all_eq_true']
  intro c hc
  have := (h.2.2 c (Array.mem_toList_iff.mpr hc)).2
  exact decide_eq_true (by omega)
/-- a beginning of a word, of at most n letters -/
def Wd (n : Nat) (x : Str) : Prop := x.length = n ∧ ∀ c ∈ x.cps.toList, 97 ≤ c ∧ c ≤ 122
theorem Wd.add {n c : Nat} {x : Str} (h : Wd n x) (h1 : 97 ≤ c) (h2 : c ≤ 122) : Wd (n + 1) (x ++ (⟨#[c]⟩ : Str)) := by
  obtain ⟨h3, h4⟩ := h
  have e : (x ++ (⟨#[c]⟩ : Str)).cps = x.cps ++ #[c] := rfl
  constructor
  · show (x ++ (⟨#[c]⟩ : Str)).cps.size = n + 1
    rw [e, Array.size_append]
    have : x.cps.size = n := h3
    rw [this]; rfl
  · intro d hd
    rw [e, Array.toList_append, List.mem_append] at hd
    rcases hd with hd | hd
    · exact h4 d hd
    · have : d = c := by simpa using hd
      omega

/-- a value of the law's: nothing, an unnumbered value (an instance of the class at C) of this name, a number -/
inductive Tag where
  | non | mark (n : Str) | num (i : Int)
  deriving DecidableEq
def Rep (C : Addr) (H : Hp) (x : V) : Tag → Prop
  | .non => x = .non
  | .num i => x = .int i
  | .mark n => ∃ a dx, x = .ref a ∧ H a = some (.ins C dx [("name", .str n)])
theorem Rep.same {C : Addr} {H H' : Hp} {x : V} {t : Tag} (e : Same H H') (h : Rep C H x t) : Rep C H' x t := by
  cases t with
  | non => exact h
  | num i => exact h
  | mark n =>
    obtain ⟨a, dx, h1, h2⟩ := h
    exact ⟨a, dx, h1, e _ _ h2⟩
theorem Rep.but {C b : Addr} {H H' : Hp} {x : V} {t : Tag} {xs : List V} (e : Z.But b H H') (hb : H b = some (.lst xs)) (h : Rep C H x t) : Rep C H' x t := by
  cases t with
  | non => exact h
  | num i => exact h
  | mark n =>
    obtain ⟨a, dx, h1, h2⟩ := h
    exact ⟨a, dx, h1, e _ _ (ne_of h2 hb (by intro z; cases z)) h2⟩
/-! operators and comparisons of instances of an own class -/
namespace Z
open PySem PySem.Spec PyProof.Rows L2
section
variable {prog : Program} {w : World} {A : Around} {E : Value → Shared → Prop} {s : Shared} {x : Addr} {o : Obj} {a : Int} {t : Tok}
/-- what a built-in's operation on ints says of an instance -/
def Declines (B : Builtin) : Prop := ∀ (prog : Program) (w : World) (A : Around) (E : Value → Shared → Prop) (s : Shared) (x : Addr) (o : Obj) (a : Int) (t : Tok) (Q : Fin → Shared → Prop),
  s.heap.get? x = some o → o.data = .plain → Q (.done (.ret .notImplemented)) s → wpAny (model prog w) A (B ⟨[.int a t, .ref x], []⟩) Q E s
theorem dec_lt : Declines Builtin.«int.__lt__» := fun prog w A E s x o a t Q hx hd h => by
  obtain ⟨oc, od, data, sl⟩ := o
  simp only at hd
  subst hd
  obtain ⟨hp, g, d, tk, os⟩ := s
  wp_walk using AutoSeq1.wpAny_loadPart' hx
  exact h
theorem dec_le : Declines Builtin.«int.__le__» := fun prog w A E s x o a t Q hx hd h => by
  obtain ⟨oc, od, data, sl⟩ := o
  simp only at hd
  subst hd
  obtain ⟨hp, g, d, tk, os⟩ := s
  wp_walk using AutoSeq1.wpAny_loadPart' hx
  exact h
theorem dec_gt : Declines Builtin.«int.__gt__» := fun prog w A E s x o a t Q hx hd h => by
  obtain ⟨oc, od, data, sl⟩ := o
  simp only at hd
  subst hd
  obtain ⟨hp, g, d, tk, os⟩ := s
  wp_walk using AutoSeq1.wpAny_loadPart' hx
  exact h
theorem dec_ge : Declines Builtin.«int.__ge__» := fun prog w A E s x o a t Q hx hd h => by
  obtain ⟨oc, od, data, sl⟩ := o
  simp only at hd
  subst hd
  obtain ⟨hp, g, d, tk, os⟩ := s
  wp_walk using AutoSeq1.wpAny_loadPart' hx
  exact h
theorem dec_eq : Declines Builtin.«int.__eq__» := fun prog w A E s x o a t Q hx hd h => by
  obtain ⟨oc, od, data, sl⟩ := o
  simp only at hd
  subst hd
  obtain ⟨hp, g, d, tk, os⟩ := s
  wp_walk using AutoSeq1.wpAny_loadPart' hx
  exact h
theorem dec_ne : Declines Builtin.«int.__ne__» := fun prog w A E s x o a t Q hx hd h => by
  obtain ⟨oc, od, data, sl⟩ := o
  simp only at hd
  subst hd
  obtain ⟨hp, g, d, tk, os⟩ := s
  wp_walk using AutoSeq1.wpAny_loadPart' hx
  exact h
theorem dec_call {T : String} {name : Str} {id : String} {B : Builtin} (slot : Slot "int" name id) (entry : entryFor table id = some B) (args : ∀ a b, argsOk id ⟨[a, b], []⟩) (D : Declines B) {Q : Value → Shared → Prop}
    (hx : s.heap.get? x = some o) (hd : o.data = .plain) (h : Q .notImplemented s) : wpAny (model prog w) A (call (.builtin id) [.int a t, .ref x]) Q E s :=
  GQ.call_here slot (typeIs_int s a t) entry (args _ _) (D _ _ _ _ _ _ _ _ _ _ hx hd h)
/-- an int, a comparison, an instance: the instance's reflected def is asked -/
theorem cmp_int {K : PySem.W.Frag} {C f : Addr} {od : Option Obj} {op : CmpOp} {id : String} {B : Builtin} {Q : Value → Shared → Prop} (hu : A.units < cLine) (X : K.In s.heap) (I : PySem.W.InstAt s.heap x o C od) (hd : o.data = .plain)
    (slot : Slot "int" (cmpInfo op).2.1 id) (entry : entryFor table id = some B) (args : ∀ a b, argsOk id ⟨[a, b], []⟩) (D : Declines B)
    (sub : PySem.W.subIn K (.ref C) (.type "int") = some false) (hs : PySem.W.findIn K (.ref C) (cmpInfo op).2.2 = some (some (.ref f))) (hf : PySem.W.isFn K (.ref f) = true)
    (h : wpAny (model prog w) A (call (.ref f) [.ref x, .int a t]) (PySem.W.CmpBack Q) E s) : wpAny (model prog w) A (richCompare op (.int a t) (.ref x)) Q E s := by
  rcases hi : cmpInfo op with ⟨sym, nf, nr⟩
  rw [hi] at slot hs
  dsimp only at slot hs
  have one : wpAny (model prog w) A (tryCompare (.ref x) nr (.int a t)) (fun r s' => ∃ v, r = some v ∧ Q v s') E s := by
    unfold tryCompare
    refine wpAny_bind (PySem.W.ifBound_K X I hs hf (wpAny_mono h (fun v s' hv => ?_) fun _ _ e => e))
    cases v <;> first | exact hv.elim | exact wpAny_pure ⟨_, rfl, hv⟩
  simp only [richCompare, hi, (typeIs_int s a t).oneThing_none]
  refine wpAny_holding (wpAny_bind (wpAny_cRoomFor hu ?_))
  refine wpAny_bind (wpAny_typeOf (typeIs_int s a t) (wpAny_bind (I.type.here ?_)))
  have hne : (Value.type "int" != Value.ref C) = true := by simp
  simp only [hne, if_true]
  refine wpAny_bind ((PySem.W.looks_subIn X sub).here ?_)
  simp only [Bool.false_eq_true, if_false, Bool.not_false, if_true]
  refine wpAny_bind (m := tryCompare (.int a t) _ (.ref x)) (wpAny_tryCompare_declines (typeIs_int s a t) slot (dec_call (T := "int") slot entry args D I.at_ hd ⟨rfl, ?_⟩))
  refine wpAny_bind (m := tryCompare (.ref x) _ (.int a t)) (wpAny_mono one (fun r s' z => ?_) fun _ _ e => e)
  obtain ⟨v, rfl, hq⟩ := z
  exact wpAny_pure hq
end
section
variable {X : Cx} {C f : Addr} {fd : FuncData} {k : Nat} {ps : List Str} {sp : Sp} {op : CmpOp}
/-- x op y, x an instance of the class at C whose def for op keeps sp -/
def rCmpL (K : PySem.W.Frag) (C : Addr) (sp : Sp) : R2 := fun x y H Q => ∃ a dx fs t, x = .ref a ∧ H a = some (.ins C dx fs) ∧ TyX K H y t ∧ PySem.W.notFirst K C t = true ∧ sp ([x, y] ++ []) H Q E0
theorem o_cmpL (hop : ∀ a b, compareOp op a b = richCompare op a b) (M : Meth X.K C (cmpInfo op).2.1 f) (F : FnOk X.prog X.w X.K X.mg X.base CX0 k f fd ps sp) (hr : Room k X.A) (hb : Binds X.K fd ps []) : OpR X (compareOp op) (rCmpL X.K C sp) := by
  intro pins s σ H x y v u Q I rx ry h
  obtain ⟨a, dx, fs, t, rfl, ha, ty, hn, q⟩ := h
  cases (show v = Value.ref a from rx)
  obtain ⟨mA, O, _⟩ := ins_get I.hok ha
  obtain ⟨od, J, _⟩ := O.look
  obtain ⟨P, Z, p, _⟩ := kit_of I ry ty
  obtain ⟨m, hF⟩ := I.fr
  rw [hop]
  refine PySem.W.cmp_K (op := op) (tb := t) hr.units0 hF I.ok.mod.kin J (Z.ty _ _ I.kIn p) hn M.at_ M.fn ?_
  refine wpAny_mono (run_fn (us := [.ref a, u]) (vs := [.ref a, y]) F hr hb .nil pass0 I (.cons rfl (.cons ry .nil)) q) (fun w s' z => ?_) fun _ _ x => x
  obtain ⟨z', H', I', rz, qz⟩ := z
  exact SlX.cmpback rz ⟨z', H', I', rz, qz⟩
def rCmpR (K : PySem.W.Frag) (C : Addr) (sp : Sp) : R2 := fun x y H Q => ∃ i b dx fs, x = .int i ∧ y = .ref b ∧ H b = some (.ins C dx fs) ∧ PySem.W.subIn K (.ref C) (.type "int") = some false ∧ sp ([y, x] ++ []) H Q E0
theorem o_cmpR {id : String} {B : Builtin} (hop : ∀ a b, compareOp op a b = richCompare op a b) (slot : Slot "int" (cmpInfo op).2.1 id) (entry : entryFor table id = some B) (args : ∀ a b, argsOk id ⟨[a, b], []⟩) (D : Declines B)
    (M : Meth X.K C (cmpInfo op).2.2 f) (F : FnOk X.prog X.w X.K X.mg X.base CX0 k f fd ps sp) (hr : Room k X.A) (hb : Binds X.K fd ps []) : OpR X (compareOp op) (rCmpR X.K C sp) := by
  intro pins s σ H x y v u Q I rx ry h
  obtain ⟨i, b, dx, fs, rfl, rfl, hB, sub, q⟩ := h
  obtain ⟨t, rfl⟩ := (show ∃ t, v = Value.int i t from rx)
  cases (show u = Value.ref b from ry)
  obtain ⟨mA, O, _⟩ := ins_get I.hok hB
  obtain ⟨od, J, _⟩ := O.look
  rw [hop]
  refine cmp_int hr.units0 I.kIn J rfl slot entry args D sub M.at_ M.fn ?_
  refine wpAny_mono (run_fn (us := [.ref b, .int i t]) (vs := [.ref b, .int i]) F hr hb .nil pass0 I (.cons rfl (.cons ⟨t, rfl⟩ .nil)) q) (fun w s' z => ?_) fun _ _ x => x
  obtain ⟨z', H', I', rz, qz⟩ := z
  exact SlX.cmpback rz ⟨z', H', I', rz, qz⟩
/-- x in [x], the very object -/
def rInSelf : R2 := fun x y H Q => ∃ a p, x = .ref a ∧ y = .ref p ∧ H p = some (.lst [.ref a]) ∧ Q (.bl true) H
theorem o_inSelf : OpR X (compareOp .In) rInSelf := by
  intro pins s σ H x y v u Q I rx ry h
  obtain ⟨a, p, rfl, rfl, hp, q⟩ := h
  cases (show v = Value.ref a from rx)
  cases (show u = Value.ref p from ry)
  obtain ⟨its, r, pl, hz⟩ := I.list (SqL.of hp)
  have e : its = [Value.ref a] := by
    cases r with
    | cons r1 r2 =>
      cases r2
      cases r1
      rfl
  subst e
  refine SeqAt.in_listAt (fun _ => true) pl.isList (fun w hw => ?_) ⟨.bl true, H, I, (show Value.bool (#[Value.ref a].any fun _ => true) = Value.bool true by simp), q⟩
  have : w = Value.ref a := by simpa using hw
  subst this
  exact SeqAt.EqAt.same (.ref a)
/-- three kinds of one operator -/
def rAny3 (r1 r2 r3 : R2) : R2 := fun x y H Q => r1 x y H Q ∨ r2 x y H Q ∨ r3 x y H Q
theorem o_any3 {f : Value → Value → Sem Value} {r1 r2 r3 : R2} (h1 : OpR X f r1) (h2 : OpR X f r2) (h3 : OpR X f r3) : OpR X f (rAny3 r1 r2 r3) := OpR.or h1 (OpR.or h2 h3)
end
section
variable {K : PySem.W.Frag} {H : Hp} {Q : VK} {r1 r2 r3 : R2} {x y : V} {a b C dx : Addr} {fs : List (Str × V)} {t : Value} {sp : Sp} {i j : Int}
theorem r_anyII (h : r1 (.int i) (.int j) H Q) : rAny3 r1 r2 r3 (.int i) (.int j) H Q := .inl h
theorem r_anyR (h : r2 (.ref a) y H Q) : rAny3 r1 r2 r3 (.ref a) y H Q := .inr (.inl h)
theorem r_anyIR (h : r3 (.int i) (.ref b) H Q) : rAny3 r1 r2 r3 (.int i) (.ref b) H Q := .inr (.inr h)
theorem nf_self : PySem.W.notFirst K C (.ref C) = true := by
  unfold PySem.W.notFirst
  rw [beq_self_eq_true]; rfl
theorem nf_kit (h : PySem.W.kitOne K t (.ref C) = some false) : PySem.W.notFirst K C t = true := by
  unfold PySem.W.kitOne PySem.W.kitCls at h
  unfold PySem.W.notFirst
  split at h
  · cases h
  · split at h
    · rename_i C' he
      cases he
      split at h
      · rw [h]; simp
      · cases h
    · rename_i he; cases he
    · rename_i h1 h2; exact absurd rfl (h1 _)
theorem sub_kit {n : String} (h : PySem.W.kitOne K (.ref C) (.type n) = some false) : PySem.W.subIn K (.ref C) (.type n) = some false := by
  unfold PySem.W.kitOne PySem.W.kitCls at h
  split at h
  · cases h
  · split at h
    · rename_i he; cases he
    · rename_i T he
      cases he
      split at h
      · exact h
      · cases h
    · rename_i h1 h2; exact absurd rfl (h2 _)
theorem r_inSelf (e : H b = some (.lst [.ref a])) (h : Q (.bl true) H) : rInSelf (.ref a) (.ref b) H Q := ⟨a, b, rfl, rfl, e, h⟩
theorem r_cmpL (e : H a = some (.ins C dx fs)) (ty : TyX K H y t) (nf : PySem.W.notFirst K C t = true) (h : sp ([.ref a, y] ++ []) H Q E0) : rCmpL K C sp (.ref a) y H Q := ⟨a, dx, fs, t, rfl, e, ty, nf, h⟩
theorem r_cmpR (e : H b = some (.ins C dx fs)) (k : PySem.W.kitOne K (.ref C) (.type "int") = some false) (h : sp ([.ref b, .int i] ++ []) H Q E0) : rCmpR K C sp (.int i) (.ref b) H Q := ⟨i, b, dx, fs, rfl, rfl, e, sub_kit k, h⟩
end
end Z
local macro_rules | `(tactic| walk_at "nf") => `(tactic| first | exact Z.nf_self | exact Z.nf_kit (by walk_at "ki"))
local macro_rules | `(tactic| walk_at "call") => `(tactic| first
  | with_reducible refine Z.r_anyII ?_
  | ((with_reducible refine' Z.r_inSelf ?e ?_); (case e => walk_at "hp"))
  | with_reducible refine Z.r_anyR ?_
  | with_reducible refine Z.r_anyIR ?_
  | ((with_reducible refine' Z.r_cmpL ?e ?ty ?nf ?_); (case e => walk_at "hp"); (case ty => walk_at "ty"); (case nf => walk_at "nf"))
  | ((with_reducible refine' Z.r_cmpR ?e ?k ?_); (case e => walk_at "hp"); (case k => walk_at "ki")))
namespace Z
open PySem PySem.Spec PyProof.Rows L2 PySem.SeqAt
open MeetsSeq MeetsSeq2 MeetsSeq3 SeqRoads2
section
variable {prog : Program} {w : World} {A : Around} {R : Result → Shared → Prop}
def anyFrom (e : Nat → Bool) : Nat → Nat → Bool
  | _, 0 => false
  | i, k + 1 => e i || anyFrom e (i + 1) k
/-- at each turn the list is read anew; its i-th item's == with x tells e i -/
def Reads1 (prog : Program) (w : World) (A : Around) (R : Result → Shared → Prop) (l : Addr) (x : Value) (N : Nat) (e : Nat → Bool) (I : Shared → Prop) : Prop :=
  ∀ s, I s → ∃ (items : Array Value) (n : Nat), s.heap.get? l = some { cls := .type "list", data := .seq items n } ∧ items.size = N ∧
    ∀ (i : Nat) (h : i < items.size), wpAny (model prog w) A.in1 (eqBool items[i] x) (fun r s' => r = e i ∧ I s') (fun e s' => R (.error e) s') s
theorem contains_loopG (l : Addr) (x : Value) (N : Nat) (e : Nat → Bool) (I : Shared → Prop) (rd : Reads1 prog w A R l x N e I) (k : Nat) :
    ∀ i : Nat, N = i + k → (∀ s, I s → R (.ok (.ret (.bool (anyFrom e i k)))) s) → ∀ s, I s →
      wpAny (model prog w) A.in1 (Builtin.«list.__contains__.loop» ⟨[.ref l, x, rawInt i], []⟩) (GQ.FinOf prog w A R) (fun e s' => R (.error e) s') s := by
  induction k with
  | zero =>
    intro i hk fin s h
    obtain ⟨items, n, hl1, hs1, _⟩ := rd s h
    have hR := fin s h
    obtain ⟨hp, g, d, tk, os⟩ := s
    wp_walk using AutoSeq1.wpAny_loadPart' hl1
    have hi : items[((i : Nat) : Int).toNat]? = none := by simp; omega
    rw [hi]
    wp_walk
    exact hR
  | succ k ih =>
    intro i hk fin s h
    obtain ⟨items, n, hl1, hs1, turn⟩ := rd s h
    have hlt : i < items.size := by omega
    have ht := turn i hlt
    obtain ⟨hp, g, d, tk, os⟩ := s
    wp_walk using AutoSeq1.wpAny_loadPart' hl1
    have hi : items[((i : Nat) : Int).toNat]? = some items[i] := by simp [hlt]
    rw [hi]
    refine wpAny_bind (wpAny_mono ht (fun r s2 h2 => ?_) fun _ _ x => x)
    obtain ⟨hr, h2⟩ := h2
    subst hr
    cases hb : e i with
    | true =>
      have z := fin s2 h2
      rw [show anyFrom e i (k + 1) = (e i || anyFrom e (i + 1) k) from rfl, hb] at z
      obtain ⟨hp2, g2, d2, tk2, os2⟩ := s2
      wp_walk
      exact z
    | false =>
      have hrec := ih (i + 1) (by omega) (fun s q => by
        have z := fin s q
        rw [show anyFrom e i (k + 1) = (e i || anyFrom e (i + 1) k) from rfl, hb] at z
        exact z) s2 h2
      have hc : ((i : Int) + 1) = ((i + 1 : Nat) : Int) := by push_cast; rfl
      obtain ⟨hp2, g2, d2, tk2, os2⟩ := s2
      wp_walk
      rw [hc]
      exact ⟨plainId_quiet plain_contains_loop _, codeAny_builtin entry_contains_loop (by
        rw [Around.under_plainId plain_contains_loop _]
        exact hrec)⟩
theorem list_containsG (l : Addr) (x : Value) (N : Nat) (e : Nat → Bool) (I : Shared → Prop) (rd : Reads1 prog w A R l x N e I) (fin : ∀ s, I s → R (.ok (.ret (.bool (anyFrom e 0 N)))) s) {s : Shared} (h : I s) :
    wpAny (model prog w) A.in1 (Builtin.«list.__contains__» ⟨[.ref l, x], []⟩) (GQ.FinOf prog w A R) (fun e s' => R (.error e) s') s := by
  obtain ⟨items, n, hl1, _, _⟩ := rd s h
  have hrec := contains_loopG (A := A) (R := R) l x N e I rd N 0 (by omega) fin s h
  obtain ⟨hp, g, d, tk, os⟩ := s
  wp_walk using AutoSeq1.wpAny_loadPart' hl1
  exact ⟨plainId_quiet plain_contains_loop _, codeAny_builtin entry_contains_loop (by
    rw [Around.under_plainId plain_contains_loop _]
    exact hrec)⟩
end
end Z
namespace Z
open PySem PySem.Spec PyProof.Rows L2
section
variable {X : Cx} {k : Nat} {f : Addr} {fd : FuncData} {ps : List Str} {sp : Sp} {pins : List (Addr × Obj)} {σ : L2.St} {H : Hp} {s : Shared} {Q : VK} {us : List Value} {vs : List V}
/-- a def that is called somewhere below the running body -/
theorem run_below {A : Around} (sb : Sub X k A) (F : FnOk X.prog X.w X.K X.mg X.base CX0 k f fd ps sp) (hb : Binds X.K fd ps []) (I : Inv X pins σ H s) (r : Vals vs us) (h : sp vs H Q E0) :
    wpAny (model X.prog X.w) A (call (.ref f) us) (EP X pins σ Q) X.xe s := by
  have e0 : Env0 X.prog X.w X.K X.mg X.base A X.stack s H := by
    have e := I.env0
    exact ⟨by rw [sb.fr]; exact e.frames, e.mod, e.bs, e.bsz, e.funs, e.frf, e.hok, e.bare⟩
  have hl := F.len _ _ _ _ h
  have hl2 : us.length = ps.length := by rw [← r.length]; exact hl
  refine wpAny_call (codeAny_mono (F.run A X.stack s H ⟨us, []⟩ us vs Q E0 sb.room e0 (by simpa using hb s us I.kIn (by simpa using hl2)) r h) fun r s' hq => ?_)
  cases r with
  | error e => exact hq.elim
  | ok fl =>
    cases fl with
    | ret u => exact I.after hq
    | next => exact False.elim hq
    | brk => exact False.elim hq
    | cont => exact False.elim hq
/-- == within a built-in, of two values, tells b and leaves all as it was -/
def EqB (X : Cx) (k : Nat) (y x : V) (H : Hp) (b : Bool) : Prop :=
  ∀ (A : Around) (pins : List (Addr × Obj)) (σ : L2.St) (s : Shared) (u v : Value), Sub X k A → Inv X pins σ H s → RelV y u → RelV x v → wpAny (model X.prog X.w) A (eqBool u v) (fun r s' => r = b ∧ Inv X pins σ H s') X.xe s
theorem EqB.same {a : Addr} : EqB X k (.ref a) (.ref a) H true := by
  intro A pins σ s u v sb I ru rv
  cases (show u = Value.ref a from ru)
  cases (show v = Value.ref a from rv)
  exact SeqAt.EqAt.same (A := A) (s := s) (.ref a) X.prog X.w X.xe _ ⟨rfl, I⟩
theorem EqB.flat {x y : V} (fx : flatV x = true) (fy : flatV y = true) : EqB X k x y H (eqV x y) := by
  intro A pins σ s u v sb I ru rv
  exact eqAt_V (A := A) (s := s) ru rv fx fy X.prog X.w X.xe _ ⟨rfl, I⟩
/-- an instance whose own == says b of x, the very object excepted -/
theorem EqB.own {C a dx : Addr} {fs : List (Str × V)} {x : V} {t : Value} {b : Bool} (M : Meth X.K C "__eq__" f) (F : FnOk X.prog X.w X.K X.mg X.base CX0 k f fd ps sp) (hb : Binds X.K fd ps [])
    (ha : H a = some (.ins C dx fs)) (ty : TyX X.K H x t) (nf : PySem.W.notFirst X.K C t = true) (ne : x ≠ .ref a) (h : sp [.ref a, x] H (fun v H' => v = .bl b ∧ H' = H) E0) : EqB X k (.ref a) x H b := by
  intro A pins σ s u v sb I ru rv
  cases (show u = Value.ref a from ru)
  have hne : ¬ (Value.ref a == v) = true := by
    intro q
    have e : Value.ref a = v := eq_of_beq q
    subst e
    cases x with
    | ref c => exact ne (by cases (show Value.ref a = Value.ref c from rv); rfl)
    | int i => obtain ⟨_, e⟩ := (show ∃ t, Value.ref a = Value.int i t from rv); cases e
    | str i => obtain ⟨_, e⟩ := (show ∃ t, Value.ref a = Value.str i t from rv); cases e
    | byt i => obtain ⟨_, e⟩ := (show ∃ t, Value.ref a = Value.bytes i t from rv); cases e
    | flt i => obtain ⟨_, e⟩ := (show ∃ t, Value.ref a = Value.float i t from rv); cases e
    | non => cases (show Value.ref a = Value.none from rv)
    | bl i => cases (show Value.ref a = Value.bool i from rv)
    | ty n => cases (show Value.ref a = Value.type n from rv)
  obtain ⟨mA, O, _⟩ := ins_get I.hok ha
  obtain ⟨od, J, _⟩ := O.look
  obtain ⟨P, Z, p, _⟩ := kit_of I rv ty
  obtain ⟨m, hF⟩ := I.fr
  have rc : wpAny (model X.prog X.w) A (richCompare .Eq (.ref a) v) (fun r s' => ∃ z, r = .bool z ∧ z = b ∧ Inv X pins σ H s') X.xe s := by
    refine PySem.W.cmp_K (op := .Eq) (tb := t) sb.room.units0 hF I.ok.mod.kin J (Z.ty _ _ I.kIn p) nf M.at_ M.fn ?_
    refine wpAny_mono (run_below (us := [.ref a, v]) (vs := [.ref a, x]) sb F hb I (.cons rfl (.cons rv .nil)) h) (fun w s' z => ?_) fun _ _ x => x
    obtain ⟨z', H', I', rz, e1, e2⟩ := z
    subst e1 e2
    cases (show w = Value.bool b from rz)
    exact ⟨b, rfl, rfl, I'⟩
  unfold eqBool
  refine wpAny_holding ?_
  refine wpAny_ite_split (fun hab => absurd hab hne) (fun _ => ?_)
  refine wpAny_bind (wpAny_mono rc (fun r s' hv => ?_) fun _ _ x => x)
  obtain ⟨z, rfl, hz, hI⟩ := hv
  exact wpAny_truthy_bool ⟨hz, hI⟩
/-- an int beside an instance whose own == says b of it -/
theorem EqB.int {C a dx : Addr} {fs : List (Str × V)} {i : Int} {b : Bool} (M : Meth X.K C "__eq__" f) (F : FnOk X.prog X.w X.K X.mg X.base CX0 k f fd ps sp) (hb : Binds X.K fd ps [])
    (ha : H a = some (.ins C dx fs)) (sub : PySem.W.subIn X.K (.ref C) (.type "int") = some false) (h : sp [.ref a, .int i] H (fun v H' => v = .bl b ∧ H' = H) E0) : EqB X k (.int i) (.ref a) H b := by
  intro A pins σ s u v sb I ru rv
  obtain ⟨t, rfl⟩ := (show ∃ t, u = Value.int i t from ru)
  cases (show v = Value.ref a from rv)
  obtain ⟨mA, O, _⟩ := ins_get I.hok ha
  obtain ⟨od, J, _⟩ := O.look
  have rc : wpAny (model X.prog X.w) A (richCompare .Eq (.int i t) (.ref a)) (fun r s' => ∃ z, r = .bool z ∧ z = b ∧ Inv X pins σ H s') X.xe s := by
    refine cmp_int (op := .Eq) sb.room.units0 I.kIn J rfl PySem.F.slot_int_eq PySem.F.entry_int_eq PySem.F.args_int_eq_2 dec_eq sub M.at_ M.fn ?_
    refine wpAny_mono (run_below (us := [.ref a, .int i t]) (vs := [.ref a, .int i]) sb F hb I (.cons rfl (.cons ⟨t, rfl⟩ .nil)) h) (fun w s' z => ?_) fun _ _ x => x
    obtain ⟨z', H', I', rz, e1, e2⟩ := z
    subst e1 e2
    cases (show w = Value.bool b from rz)
    exact ⟨b, rfl, rfl, I'⟩
  unfold eqBool
  refine wpAny_holding ?_
  refine wpAny_ite_split (fun hab => absurd (eq_of_beq hab) nofun) (fun _ => ?_)
  refine wpAny_bind (wpAny_mono rc (fun r s' hv => ?_) fun _ _ x => x)
  obtain ⟨z, rfl, hz, hI⟩ := hv
  exact wpAny_truthy_bool ⟨hz, hI⟩
theorem any_from (f : V → Bool) : ∀ (xs ys : List V), anyFrom (fun i => f ((ys ++ xs).getD i .non)) ys.length xs.length = xs.any f
  | [], _ => rfl
  | x :: xs, ys => by
    have ih := any_from f xs (ys ++ [x])
    rw [List.append_assoc] at ih
    have h0 : (ys ++ x :: xs).getD ys.length .non = x := by simp [List.getD_eq_getElem?_getD]
    show (f ((ys ++ x :: xs).getD ys.length .non) || anyFrom _ (ys.length + 1) xs.length) = (x :: xs).any f
    rw [h0, List.any_cons, ← ih]
    simp
/-- x in a list, by what == says of each item -/
theorem in_ok {p : Addr} {xs : List V} {x : V} {v : Value} (e : V → Bool) (hr : Room (k + 1) X.A) (I : Inv X pins σ H s) (hp : H p = some (.lst xs)) (rx : RelV x v) (he : ∀ z ∈ xs, EqB X k z x H (e z)) {Q : Value → Shared → Prop}
    (q : ∀ s', Inv X pins σ H s' → Q (.bool (xs.any e)) s') : wpAny (model X.prog X.w) X.A (call (.builtin "list.__contains__") [.ref p, v]) Q X.xe s := by
  obtain ⟨hz, its, n, r, hl⟩ := (show ObjOk X.prog X.w H s.heap p (.lst xs) from I.hok p _ hp)
  refine GQ.call_here PySem.F.slot_list_contains ⟨_, hl, rfl⟩ PySem.F.entry_list_contains (PySem.F.args_list_contains_2 _ _) ?_
  refine list_containsG p v xs.length (fun i => e (xs.getD i .non)) (fun s' => Inv X pins σ H s') (fun s' I' => ?_) (fun s' I' => ?_) I
  · obtain ⟨hz', its', n', r', hl'⟩ := (show ObjOk X.prog X.w H s'.heap p (.lst xs) from I'.hok p _ hp)
    refine ⟨its'.toArray, n', hl', by rw [List.size_toArray, ← r'.length], fun i hi => ?_⟩
    have h1 : i < its'.length := by simpa using hi
    have h2 : i < xs.length := by rw [r'.length]; exact h1
    obtain ⟨u, hu, ru⟩ := r'.get (List.getElem?_eq_getElem h2)
    rw [List.getElem?_eq_getElem h1] at hu
    have e1 : its'.toArray[i] = u := by simpa using Option.some.inj hu
    have e2 : xs.getD i .non = xs[i] := by simp [List.getD_eq_getElem?_getD, h2]
    rw [e1]
    show wpAny _ _ _ (fun r s'' => r = e (xs.getD i .non) ∧ Inv X pins σ H s'') _ _
    rw [e2]
    exact he _ (List.getElem_mem h2) X.A.in1 pins σ s' u v ⟨hr.in1, rfl⟩ I' ru rx
  · have z := any_from e xs []
    rw [List.nil_append, List.length_nil] at z
    show Q (.bool (anyFrom _ 0 xs.length)) s'
    rw [z]
    exact q s' I'
/-- the same of every place of the program -/
def EqG (P : Program) (w : World) (K : PySem.W.Frag) (mg : Str → Option Value) (base : Heap) (k : Nat) (y x : V) (H : Hp) (b : Bool) : Prop := ∀ X : Cx, X.prog = P → X.w = w → X.K = K → X.mg = mg → X.base = base → EqB X k y x H b
section
variable {P : Program} {w : World} {K : PySem.W.Frag} {mg : Str → Option Value} {base : Heap}
theorem EqG.same {a : Addr} : EqG P w K mg base k (.ref a) (.ref a) H true := fun _ _ _ _ _ _ => EqB.same
theorem EqG.flat {x y : V} (fx : flatV x = true) (fy : flatV y = true) : EqG P w K mg base k x y H (eqV x y) := fun _ _ _ _ _ _ => EqB.flat fx fy
theorem EqG.own {C a dx : Addr} {fs : List (Str × V)} {x : V} {t : Value} {b : Bool} (M : Meth K C "__eq__" f) (F : FnOk P w K mg base CX0 k f fd ps sp) (hb : Binds K fd ps [])
    (ha : H a = some (.ins C dx fs)) (ty : TyX K H x t) (nf : PySem.W.notFirst K C t = true) (ne : x ≠ .ref a) (h : sp [.ref a, x] H (fun v H' => v = .bl b ∧ H' = H) E0) : EqG P w K mg base k (.ref a) x H b := by
  intro X e1 e2 e3 e4 e5
  subst e1 e2 e3 e4 e5
  exact EqB.own M F hb ha ty nf ne h
theorem EqG.int {C a dx : Addr} {fs : List (Str × V)} {i : Int} {b : Bool} (M : Meth K C "__eq__" f) (F : FnOk P w K mg base CX0 k f fd ps sp) (hb : Binds K fd ps [])
    (ha : H a = some (.ins C dx fs)) (sub : PySem.W.subIn K (.ref C) (.type "int") = some false) (h : sp [.ref a, .int i] H (fun v H' => v = .bl b ∧ H' = H) E0) : EqG P w K mg base k (.int i) (.ref a) H b := by
  intro X e1 e2 e3 e4 e5
  subst e1 e2 e3 e4 e5
  exact EqB.int M F hb ha sub h
end
/-- x in p, x not in p: all that == says of the items is told -/
def rInO (P : Program) (w : World) (K : PySem.W.Frag) (mg : Str → Option Value) (base : Heap) (k : Nat) (neg : Bool) : R2 := fun x y H Q => ∃ (p : Addr) (xs : List V) (e : V → Bool), y = .ref p ∧ H p = some (.lst xs) ∧ (∀ z ∈ xs, EqG P w K mg base k z x H (e z)) ∧ Q (.bl (if neg = true then !xs.any e else xs.any e)) H
section
variable {P : Program} {w : World} {K : PySem.W.Frag} {mg : Str → Option Value} {base : Heap}
theorem o_inO (e1 : X.prog = P) (e2 : X.w = w) (e3 : X.K = K) (e4 : X.mg = mg) (e5 : X.base = base) (hr : Room (k + 1) X.A) : OpR X (compareOp .In) (rInO P w K mg base k false) := by
  intro pins s σ H x y v u Q I rx ry h
  obtain ⟨p, xs, e, rfl, hp, he, q⟩ := h
  cases (show u = Value.ref p from ry)
  obtain ⟨hz, its, n, r, hl⟩ := (show ObjOk X.prog X.w H s.heap p (.lst xs) from I.hok p _ hp)
  show wpAny _ X.A (do return Value.bool (← contains (.ref p) v)) _ _ s
  refine wpAny_bind (wpAny_contains_slot ⟨_, hl, rfl⟩ PySem.F.slot_list_contains (in_ok e hr I hp rx (fun z hz => he z hz X e1 e2 e3 e4 e5) fun s' I' => ?_))
  exact wpAny_truthy_bool (wpAny_pure ⟨.bl _, H, I', rfl, q⟩)
theorem o_notInO (e1 : X.prog = P) (e2 : X.w = w) (e3 : X.K = K) (e4 : X.mg = mg) (e5 : X.base = base) (hr : Room (k + 1) X.A) : OpR X (compareOp .NotIn) (rInO P w K mg base k true) := by
  intro pins s σ H x y v u Q I rx ry h
  obtain ⟨p, xs, e, rfl, hp, he, q⟩ := h
  cases (show u = Value.ref p from ry)
  obtain ⟨hz, its, n, r, hl⟩ := (show ObjOk X.prog X.w H s.heap p (.lst xs) from I.hok p _ hp)
  show wpAny _ X.A (do return Value.bool (!(← contains (.ref p) v))) _ _ s
  refine wpAny_bind (wpAny_contains_slot ⟨_, hl, rfl⟩ PySem.F.slot_list_contains (in_ok e hr I hp rx (fun z hz => he z hz X e1 e2 e3 e4 e5) fun s' I' => ?_))
  exact wpAny_truthy_bool (wpAny_pure ⟨.bl _, H, I', rfl, q⟩)
end
end
end Z
namespace Z
open PySem PySem.Spec PyProof.Rows L2
section
variable {prog : Program} {w : World} {A : Around} {E : Value → Shared → Prop} {s : Shared} {K : PySem.W.Frag} {x y C f : Addr} {ox oy : Obj} {od od' : Option Obj} {nm : String}
theorem bin1_same {Q : Value → Shared → Prop} (X : K.In s.heap) (I : PySem.W.InstAt s.heap x ox C od) (J : PySem.W.InstAt s.heap y oy C od') (hc : PySem.W.selfFirst K C = true)
    (hs : PySem.W.findIn K (.ref C) (PySem.dunder nm) = some (some (.ref f))) (hf : PySem.W.isFn K (.ref f) = true)
    (h : wpAny (model prog w) A (call (.ref f) [.ref x, .ref y]) (PySem.W.CmpBack Q) E s) : wpAny (model prog w) A (binaryOp1 nm (.ref x) (.ref y)) (fun r s' => ∃ v, r = some v ∧ Q v s') E s := by
  obtain ⟨cd, rest, hcd, hm⟩ := PySem.W.ksp_first hc
  have one := PySem.W.ksp_try X I hs hf h
  obtain ⟨hh, g, d, tt, os⟩ := s
  have L1 : PySem.W.Looks (model prog w) hh (typeOf (.ref x)) (.ref C) := I.type
  have L2 : PySem.W.Looks (model prog w) hh (typeOf (.ref y)) (.ref C) := J.type
  have L3 : PySem.W.Looks (model prog w) hh (fillsNumberSlot (.ref C) nm) true := PySem.W.fills_K X hcd hm hs
  have heq : (Value.ref C == Value.ref C) = true := beq_self_eq_true _
  unfold binaryOp1
  refine wpAny_bind (L1.at (wpAny_bind (L2.at (wpAny_bind (L3.at ?_)))))
  simp only [heq, if_true]
  ksp_lk
  refine wpAny_mono one (fun r s' hr' => ?_) fun _ _ e => e
  obtain ⟨v, rfl, hq⟩ := hr'
  ksp_lk
  exact ⟨v, rfl, hq⟩
theorem bin1_own {b : Value} {T : String} {fo ro rc : Option Value} {Q : Value → Shared → Prop} (X : K.In s.heap) (I : PySem.W.InstAt s.heap x ox C od) (hb : typeOf b = pure (.type T)) (hc : PySem.W.selfFirst K C = true)
    (hs : PySem.W.findIn K (.ref C) (PySem.dunder nm) = some (some (.ref f))) (hf : PySem.W.isFn K (.ref f) = true) (hr : PySem.W.findIn K (.ref C) (PySem.dunderR nm) = some rc) (hp : rc = none ∨ ∃ g : Addr, rc = some (.ref g))
    (h1 : PySem.W.findIn K (.type T) (PySem.dunder nm) = some fo) (h2 : PySem.W.findIn K (.type T) (PySem.dunderR nm) = some ro) (hsub : PySem.W.subIn K (.type T) (.ref C) = some false)
    (h : wpAny (model prog w) A (call (.ref f) [.ref x, b]) (PySem.W.CmpBack Q) E s) : wpAny (model prog w) A (binaryOp1 nm (.ref x) b) (fun r s' => ∃ v, r = some v ∧ Q v s') E s := by
  obtain ⟨cd, rest, hcd, hm⟩ := PySem.W.ksp_first hc
  have one := PySem.W.ksp_try X I hs hf h
  obtain ⟨hh, g, d, tt, os⟩ := s
  have L1 : PySem.W.Looks (model prog w) hh (typeOf (.ref x)) (.ref C) := I.type
  have L2 : PySem.W.Looks (model prog w) hh (typeOf b) (.type T) := PySem.W.Looks.of_pure hb
  have L3 : PySem.W.Looks (model prog w) hh (fillsNumberSlot (.ref C) nm) true := PySem.W.fills_K X hcd hm hs
  have L4 : PySem.W.Looks (model prog w) hh (fillsNumberSlot (.type T) nm) ((fo.isSome && !isSeqSlot fo) || (ro.isSome && !isSeqSlot ro)) := PySem.W.ksp_fillsT X h1 h2
  have L5 : PySem.W.Looks (model prog w) hh (isSubtype (.type T) (.ref C)) false := PySem.W.looks_subIn X hsub
  have L6 : PySem.W.Looks (model prog w) hh (numberSlotInPython (.ref C) nm) true := PySem.W.ksp_inPy X hs hr hp
  have L7 : PySem.W.Looks (model prog w) hh (numberSlotInPython (.type T) nm) false := PySem.W.Looks.of_pure rfl
  have L8 : PySem.W.Looks (model prog w) hh (typeLookup (.type T) (PySem.dunderR nm)) ro := PySem.W.looks_findIn X h2
  generalize ((fo.isSome && !isSeqSlot fo) || (ro.isSome && !isSeqSlot ro)) = right at L4
  have hne : (Value.ref C == Value.type T) = false := Bool.eq_false_iff.mpr fun q => by cases beq_iff_eq.mp q
  unfold binaryOp1
  refine wpAny_bind (L1.at (wpAny_bind (L2.at (wpAny_bind (L3.at ?_)))))
  simp only [hne, Bool.false_eq_true, if_false]
  cases right with
  | false =>
    ksp_lk
    refine wpAny_mono one (fun r s' hr' => ?_) fun _ _ e => e
    obtain ⟨v, rfl, hq⟩ := hr'
    ksp_lk
    exact ⟨v, rfl, hq⟩
  | true =>
    ksp_lk
    refine wpAny_mono one (fun r s' hr' => ?_) fun _ _ e => e
    obtain ⟨v, rfl, hq⟩ := hr'
    ksp_lk
    exact ⟨v, rfl, hq⟩
theorem bin1_int {i : Int} {t : Tok} {id : String} {B : Builtin} {Q : Value → Shared → Prop} (X : K.In s.heap) (I : PySem.W.InstAt s.heap x ox C od) (hd : ox.data = .plain) (hc : PySem.W.selfFirst K C = true)
    (slot : Slot "int" (PySem.dunder nm) id) (entry : entryFor table id = some B) (args : ∀ a b, argsOk id ⟨[a, b], []⟩) (D : Declines B) (fills : fillsNumberSlot (.type "int") nm = pure true)
    (hl : PySem.W.findIn K (.ref C) (PySem.dunder nm) = some (some (.ref y))) (hs : PySem.W.findIn K (.ref C) (PySem.dunderR nm) = some (some (.ref f))) (hf : PySem.W.isFn K (.ref f) = true) (sub : PySem.W.subIn K (.ref C) (.type "int") = some false)
    (h : wpAny (model prog w) A (call (.ref f) [.ref x, .int i t]) (PySem.W.CmpBack Q) E s) : wpAny (model prog w) A (binaryOp1 nm (.int i t) (.ref x)) (fun r s' => ∃ v, r = some v ∧ Q v s') E s := by
  obtain ⟨cd, rest, hcd, hm⟩ := PySem.W.ksp_first hc
  have one := PySem.W.ksp_try X I hs hf h
  have dec : ∀ {Q : Option Value → Shared → Prop}, Q none s → wpAny (model prog w) A (tryMethod (.int i t) (PySem.dunder nm) (.ref x)) Q E s := fun q =>
    wpAny_tryMethod_declines (typeIs_int s i t) slot (dec_call (T := "int") slot entry args D I.at_ hd ⟨rfl, q⟩)
  obtain ⟨hh, g, d, tt, os⟩ := s
  have L1 : PySem.W.Looks (model prog w) hh (typeOf (.int i t)) (.type "int") := PySem.W.Looks.of_pure rfl
  have L2 : PySem.W.Looks (model prog w) hh (typeOf (.ref x)) (.ref C) := I.type
  have L3 : PySem.W.Looks (model prog w) hh (fillsNumberSlot (.type "int") nm) true := PySem.W.Looks.of_pure fills
  have L4 : PySem.W.Looks (model prog w) hh (fillsNumberSlot (.ref C) nm) true := PySem.W.fills_K X hcd hm hl
  have L5 : PySem.W.Looks (model prog w) hh (isSubtype (.ref C) (.type "int")) false := PySem.W.looks_subIn X sub
  have L7 : PySem.W.Looks (model prog w) hh (numberSlotInPython (.type "int") nm) false := PySem.W.Looks.of_pure rfl
  have hne : (Value.type "int" == Value.ref C) = false := Bool.eq_false_iff.mpr fun q => by cases beq_iff_eq.mp q
  unfold binaryOp1
  refine wpAny_bind (L1.at (wpAny_bind (L2.at (wpAny_bind (L3.at ?_)))))
  simp only [hne, Bool.false_eq_true, if_false]
  ksp_lk
  refine dec ?_
  ksp_lk
  refine wpAny_mono one (fun r s' hr' => ?_) fun _ _ e => e
  obtain ⟨v, rfl, hq⟩ := hr'
  ksp_lk
  exact ⟨v, rfl, hq⟩
theorem bin_of1 {op : Operator} {a b : Value} {Q : Value → Shared → Prop} (h : wpAny (model prog w) A (binaryOp1 op.info.2 a b) (fun r s' => ∃ v, r = some v ∧ Q v s') E s) : wpAny (model prog w) A (binaryOp op a b) Q E s := by
  rcases hi : op.info with ⟨sym, nm'⟩
  rw [hi] at h
  simp only [binaryOp, hi]
  refine wpAny_holding (wpAny_bind (wpAny_mono h (fun r s' hr => ?_) fun _ _ e => e))
  obtain ⟨v, rfl, hq⟩ := hr
  exact wpAny_pure hq
/-- op= where the left type has no in-place def -/
theorem inp_of1 {op : Operator} {a b ta : Value} {Q : Value → Shared → Prop} (L1 : PySem.W.Looks (model prog w) s.heap (typeOf a) ta) (L2 : PySem.W.Looks (model prog w) s.heap (fillsInplaceSlot ta op.info.2 (op == .Add)) false)
    (h : wpAny (model prog w) A (binaryOp1 op.info.2 a b) (fun r s' => ∃ v, r = some v ∧ Q v s') E s) : wpAny (model prog w) A (inplaceOp op a b) Q E s := by
  obtain ⟨hh, g, d, tt, os⟩ := s
  unfold inplaceOp
  refine wpAny_holding (wpAny_bind (L1.at (wpAny_bind (L2.at ?_))))
  simp only [Bool.false_eq_true, if_false]
  refine wpAny_bind (wpAny_mono h (fun r s' hr => ?_) fun _ _ e => e)
  obtain ⟨v, rfl, hq⟩ := hr
  exact wpAny_pure hq
theorem dec_add : Declines Builtin.«int.__add__» := fun prog w A E s x o a t Q hx hd h => by
  obtain ⟨oc, od, data, sl⟩ := o
  simp only at hd
  subst hd
  obtain ⟨hp, g, d, tk, os⟩ := s
  wp_walk using AutoSeq1.wpAny_loadPart' hx
  exact h
theorem dec_sub : Declines Builtin.«int.__sub__» := fun prog w A E s x o a t Q hx hd h => by
  obtain ⟨oc, od, data, sl⟩ := o
  simp only at hd
  subst hd
  obtain ⟨hp, g, d, tk, os⟩ := s
  wp_walk using AutoSeq1.wpAny_loadPart' hx
  exact h
theorem dec_mul : Declines Builtin.«int.__mul__» := fun prog w A E s x o a t Q hx hd h => by
  obtain ⟨oc, od, data, sl⟩ := o
  simp only at hd
  subst hd
  obtain ⟨hp, g, d, tk, os⟩ := s
  wp_walk using AutoSeq1.wpAny_loadPart' hx
  exact h
theorem dec_floordiv : Declines Builtin.«int.__floordiv__» := fun prog w A E s x o a t Q hx hd h => by
  obtain ⟨oc, od, data, sl⟩ := o
  simp only at hd
  subst hd
  obtain ⟨hp, g, d, tk, os⟩ := s
  wp_walk using AutoSeq1.wpAny_loadPart' hx
  exact h
theorem dec_mod : Declines Builtin.«int.__mod__» := fun prog w A E s x o a t Q hx hd h => by
  obtain ⟨oc, od, data, sl⟩ := o
  simp only at hd
  subst hd
  obtain ⟨hp, g, d, tk, os⟩ := s
  wp_walk using AutoSeq1.wpAny_loadPart' hx
  exact h
end
end Z
namespace Z
open PySem PySem.Spec PyProof.Rows L2
section
variable {K : PySem.W.Frag} {C f : Addr} {nm : String}
theorem inpl_own {M : Model} {h : Heap} {add : Bool} {cd : ClassData} (X : K.In h) (hc : PySem.W.clsIn K C = some cd) (hm : cd.mro = [.ref C, .type "object"]) (h1 : PySem.W.findIn K (.ref C) (PySem.dunderI nm) = some none) (h2 : PySem.W.findIn K (.type "object") (PySem.dunderI nm) = some none) :
    PySem.W.Looks M h (fillsInplaceSlot (.ref C) nm add) false := by
  intro A Q E s k q
  have Lm : PySem.W.Looks M h (mroOf (.ref C)) cd.mro := (PySem.W.looks_clsIn X hc).andThen (f := fun cd => pure cd.mro) .now
  have Lm' := Lm.keeps k
  obtain ⟨hh, g, d, tt, os⟩ := s
  have X' : K.In hh := X.keeps k
  have L1 : PySem.W.Looks M hh (typeLookup (.ref C) (PySem.dunderI nm)) none := PySem.W.looks_findIn X' h1
  have L2 : PySem.W.Looks M hh (typeLookup (.type "object") (PySem.dunderI nm)) none := PySem.W.looks_findIn X' h2
  unfold fillsInplaceSlot
  refine wpAny_bind (Lm'.at ?_)
  rw [hm, List.anyM_cons]
  refine wpAny_bind ?_
  refine wpAny_bind (L1.at ?_)
  refine wpAny_pure ?_
  simp only [Bool.false_eq_true, if_false]
  rw [List.anyM_cons]
  refine wpAny_bind ?_
  refine wpAny_bind (L2.at ?_)
  refine wpAny_pure ?_
  simp only [Bool.false_eq_true, if_false]
  exact wpAny_pure q
end
section
variable {X : Cx} {C f g : Addr} {fd : FuncData} {k : Nat} {ps : List Str} {sp : Sp} {op : Operator}
/-- an int, or another instance of the class -/
def NumOr (C : Addr) (H : Hp) (y : V) : Prop := (∃ i, y = .int i) ∨ ∃ b dy gs, y = .ref b ∧ H b = some (.ins C dy gs)
def rBinL (C : Addr) (sp : Sp) : R2 := fun x y H Q => ∃ a dx fs, x = .ref a ∧ H a = some (.ins C dx fs) ∧ NumOr C H y ∧ sp ([x, y] ++ []) H Q E0
def rBinR (C : Addr) (sp : Sp) : R2 := fun x y H Q => ∃ i b dx fs, x = .int i ∧ y = .ref b ∧ H b = some (.ins C dx fs) ∧ sp ([y, x] ++ []) H Q E0
theorem bin1_L {pins : List (Addr × Obj)} {s : Shared} {σ : L2.St} {H : Hp} {x y : V} {v u : Value} {Q : VK} (B : BinF X.K C op.info.2 f g) (F : FnOk X.prog X.w X.K X.mg X.base CX0 k f fd ps sp) (hr : Room k X.A) (hb : Binds X.K fd ps [])
    (I : Inv X pins σ H s) (rx : RelV x v) (ry : RelV y u) (h : rBinL C sp x y H Q) : wpAny (model X.prog X.w) X.A (binaryOp1 op.info.2 v u) (fun r s' => ∃ v, r = some v ∧ EP X pins σ Q v s') X.xe s := by
  obtain ⟨a, dx, fs, rfl, ha, hy, q⟩ := h
  cases (show v = Value.ref a from rx)
  obtain ⟨mA, O, _⟩ := ins_get I.hok ha
  obtain ⟨od, J, _⟩ := O.look
  have call : wpAny (model X.prog X.w) X.A (PySem.call (.ref f) [.ref a, u]) (PySem.W.CmpBack (EP X pins σ Q)) X.xe s := by
    refine wpAny_mono (run_fn (us := [.ref a, u]) (vs := [.ref a, y]) F hr hb .nil pass0 I (.cons rfl (.cons ry .nil)) q) (fun w s' z => ?_) fun _ _ x => x
    obtain ⟨z', H', I', rz, qz⟩ := z
    exact SlX.cmpback rz ⟨z', H', I', rz, qz⟩
  rcases hy with ⟨i, rfl⟩ | ⟨b, dy, gs, rfl, hB⟩
  · obtain ⟨t, rfl⟩ := (show ∃ t, u = Value.int i t from ry)
    obtain ⟨fo, hfo⟩ := B.fo
    obtain ⟨ro, hro⟩ := B.ro
    exact bin1_own I.kIn J rfl B.sf B.at_ B.fn B.rat (.inr ⟨g, rfl⟩) hfo hro B.isub call
  · cases (show u = Value.ref b from ry)
    obtain ⟨mB, O', _⟩ := ins_get I.hok hB
    obtain ⟨od', J', _⟩ := O'.look
    exact bin1_same I.kIn J J' B.sf B.at_ B.fn call
theorem o_binL (B : BinF X.K C op.info.2 f g) (F : FnOk X.prog X.w X.K X.mg X.base CX0 k f fd ps sp) (hr : Room k X.A) (hb : Binds X.K fd ps []) : OpR X (binaryOp op) (rBinL C sp) := by
  intro pins s σ H x y v u Q I rx ry h
  exact bin_of1 (bin1_L B F hr hb I rx ry h)
theorem o_inpL (B : BinF X.K C op.info.2 f g) (F : FnOk X.prog X.w X.K X.mg X.base CX0 k f fd ps sp) (hr : Room k X.A) (hb : Binds X.K fd ps []) : OpR X (inplaceOp op) (rBinL C sp) := by
  intro pins s σ H x y v u Q I rx ry h
  obtain ⟨a, dx, fs, ex, ha, _⟩ := id h
  subst ex
  cases (show v = Value.ref a from rx)
  obtain ⟨mA, O, _⟩ := ins_get I.hok ha
  obtain ⟨od, J, _⟩ := O.look
  obtain ⟨cd, hc, hm⟩ := B.cls
  exact inp_of1 J.type (inpl_own I.kIn hc hm B.ni B.noi) (bin1_L B F hr hb I rx ry h)
theorem bin1_R {id : String} {Bi : Builtin} {pins : List (Addr × Obj)} {s : Shared} {σ : L2.St} {H : Hp} {x y : V} {v u : Value} {Q : VK} (B : BinF X.K C op.info.2 g f) (slot : Slot "int" (PySem.dunder op.info.2) id) (entry : entryFor table id = some Bi) (args : ∀ a b, argsOk id ⟨[a, b], []⟩) (D : Declines Bi)
    (fills : fillsNumberSlot (.type "int") op.info.2 = pure true) (F : FnOk X.prog X.w X.K X.mg X.base CX0 k f fd ps sp) (hr : Room k X.A) (hb : Binds X.K fd ps [])
    (I : Inv X pins σ H s) (rx : RelV x v) (ry : RelV y u) (h : rBinR C sp x y H Q) : wpAny (model X.prog X.w) X.A (binaryOp1 op.info.2 v u) (fun r s' => ∃ v, r = some v ∧ EP X pins σ Q v s') X.xe s := by
  obtain ⟨i, b, dx, fs, rfl, rfl, hB, q⟩ := h
  obtain ⟨t, rfl⟩ := (show ∃ t, v = Value.int i t from rx)
  cases (show u = Value.ref b from ry)
  obtain ⟨mA, O, _⟩ := ins_get I.hok hB
  obtain ⟨od, J, _⟩ := O.look
  refine bin1_int I.kIn J rfl B.sf slot entry args D fills B.at_ B.rat B.rfn B.sub ?_
  refine wpAny_mono (run_fn (us := [.ref b, .int i t]) (vs := [.ref b, .int i]) F hr hb .nil pass0 I (.cons rfl (.cons ⟨t, rfl⟩ .nil)) q) (fun w s' z => ?_) fun _ _ x => x
  obtain ⟨z', H', I', rz, qz⟩ := z
  exact SlX.cmpback rz ⟨z', H', I', rz, qz⟩
theorem o_binR {id : String} {Bi : Builtin} (B : BinF X.K C op.info.2 g f) (slot : Slot "int" (PySem.dunder op.info.2) id) (entry : entryFor table id = some Bi) (args : ∀ a b, argsOk id ⟨[a, b], []⟩) (D : Declines Bi)
    (fills : fillsNumberSlot (.type "int") op.info.2 = pure true) (F : FnOk X.prog X.w X.K X.mg X.base CX0 k f fd ps sp) (hr : Room k X.A) (hb : Binds X.K fd ps []) : OpR X (binaryOp op) (rBinR C sp) := by
  intro pins s σ H x y v u Q I rx ry h
  exact bin_of1 (bin1_R B slot entry args D fills F hr hb I rx ry h)
theorem o_inpR {id : String} {Bi : Builtin} (B : BinF X.K C op.info.2 g f) (slot : Slot "int" (PySem.dunder op.info.2) id) (entry : entryFor table id = some Bi) (args : ∀ a b, argsOk id ⟨[a, b], []⟩) (D : Declines Bi)
    (fills : fillsNumberSlot (.type "int") op.info.2 = pure true) (hno : typeLookup (.type "int") (dunderI op.info.2) = pure none) (F : FnOk X.prog X.w X.K X.mg X.base CX0 k f fd ps sp) (hr : Room k X.A) (hb : Binds X.K fd ps []) : OpR X (inplaceOp op) (rBinR C sp) := by
  intro pins s σ H x y v u Q I rx ry h
  obtain ⟨i, b, dx, fs, ex, _⟩ := _root_.id h
  subst ex
  obtain ⟨t, e⟩ := (show ∃ t, v = Value.int i t from rx)
  subst e
  have noi : fillsInplaceSlot (.type "int") op.info.2 (op == .Add) = pure false := by
    unfold fillsInplaceSlot
    show (typeLookup (.type "int") (dunderI op.info.2) >>= fun fi => pure (fi.isSome && !isSeqSlot fi)) = pure false
    rw [hno]; rfl
  exact inp_of1 (ta := .type "int") (PySem.W.Looks.of_pure rfl) (PySem.W.Looks.of_pure noi) (bin1_R B slot entry args D fills F hr hb I rx ry h)
end
section
variable {X : Cx} {k : Nat} {C f : Addr} {fd : FuncData} {ps : List Str} {sp : Sp}
def rUO (C : Addr) (sp : Sp) : V → Hp → VK → Prop := fun x H Q => ∃ a dx fs, x = .ref a ∧ H a = some (.ins C dx fs) ∧ sp ([.ref a] ++ []) H Q E0
def rAbsO (C : Addr) (sp : Sp) : List V → Hp → VK → Prop := fun xs H Q => ∃ a dx fs, xs = [.ref a] ∧ H a = some (.ins C dx fs) ∧ sp ([.ref a] ++ []) H Q E0
theorem un_negO (M : Meth X.K C "__neg__" f) (F : FnOk X.prog X.w X.K X.mg X.base CX0 k f fd ps sp) (hr : Room k X.A) (hb : Binds X.K fd ps []) : UnR X (unaryOp .USub) (rUO C sp) := by
  intro pins s σ H x v Q I rx h
  obtain ⟨a, dx, fs, rfl, ha, q⟩ := h
  cases (show v = Value.ref a from rx)
  obtain ⟨mA, O, _⟩ := ins_get I.hok ha
  obtain ⟨od, J, _⟩ := O.look
  unfold unaryOp
  refine wpAny_holding ?_
  exact wpAny_bind (PySem.W.special_fn I.kIn J M.at_ (beq_iff_eq.mp M.fn) (wpAny_mono (run_fn (us := [.ref a]) (vs := [.ref a]) F hr hb .nil pass0 I (.cons rfl .nil) q) (fun w s' z => wpAny_pure z) fun _ _ x => x))
theorem un_posO (M : Meth X.K C "__pos__" f) (F : FnOk X.prog X.w X.K X.mg X.base CX0 k f fd ps sp) (hr : Room k X.A) (hb : Binds X.K fd ps []) : UnR X (unaryOp .UAdd) (rUO C sp) := by
  intro pins s σ H x v Q I rx h
  obtain ⟨a, dx, fs, rfl, ha, q⟩ := h
  cases (show v = Value.ref a from rx)
  obtain ⟨mA, O, _⟩ := ins_get I.hok ha
  obtain ⟨od, J, _⟩ := O.look
  unfold unaryOp
  refine wpAny_holding ?_
  exact wpAny_bind (PySem.W.special_fn I.kIn J M.at_ (beq_iff_eq.mp M.fn) (wpAny_mono (run_fn (us := [.ref a]) (vs := [.ref a]) F hr hb .nil pass0 I (.cons rfl .nil) q) (fun w s' z => wpAny_pure z) fun _ _ x => x))
theorem c_absO (M : Meth X.K C "__abs__" f) (F : FnOk X.prog X.w X.K X.mg X.base CX0 k f fd ps sp) (hr : Room (k + 1) X.A) (hb : Binds X.K fd ps []) : CallR X (.builtin "abs") (rAbsO C sp) := by
  intro pins s σ H xs us Q I r h
  obtain ⟨a, dx, fs, rfl, ha, q⟩ := h
  obtain ⟨u, rfl, ru⟩ := vals1 r
  cases (show u = Value.ref a from ru)
  obtain ⟨mA, O, _⟩ := ins_get I.hok ha
  obtain ⟨od, J, _⟩ := O.look
  refine PySem.Calls.call_function_entry kind_abs plain_abs entry_abs (args_abs _) ?_
  unfold Builtin.«abs»
  refine wpAny_bind (m := oneArg "abs" _) (wpAny_pure ?_)
  refine wpAny_bind (m := callSpecial? (.ref a) (Str.ofString "__abs__")) (PySem.W.special_fn I.kIn J M.at_ (beq_iff_eq.mp M.fn) (wpAny_mono (run_below (us := [.ref a]) (vs := [.ref a]) (A := X.A.in1) ⟨hr.in1, rfl⟩ F hb I (.cons rfl .nil) q) (fun w s' z => ?_) fun _ _ x => x))
  exact wpAny_pure ⟨_, rfl, z⟩
end
section
variable {H : Hp} {Q : VK} {a C dx : Addr} {fs : List (Str × V)} {sp : Sp}
theorem r_UO (e : H a = some (.ins C dx fs)) (h : sp ([.ref a] ++ []) H Q E0) : rUO C sp (.ref a) H Q := ⟨a, dx, fs, rfl, e, h⟩
theorem r_absO (e : H a = some (.ins C dx fs)) (h : sp ([.ref a] ++ []) H Q E0) : rAbsO C sp [.ref a] H Q := ⟨a, dx, fs, rfl, e, h⟩
end
section
variable {H : Hp} {Q : VK} {x y : V} {a b C dx : Addr} {fs : List (Str × V)} {sp : Sp} {i : Int}
theorem r_binL (e : H a = some (.ins C dx fs)) (n : NumOr C H y) (h : sp ([.ref a, y] ++ []) H Q E0) : rBinL C sp (.ref a) y H Q := ⟨a, dx, fs, rfl, e, n, h⟩
theorem r_binR (e : H b = some (.ins C dx fs)) (h : sp ([.ref b, .int i] ++ []) H Q E0) : rBinR C sp (.int i) (.ref b) H Q := ⟨i, b, dx, fs, rfl, rfl, e, h⟩
theorem nm_int : NumOr C H (.int i) := .inl ⟨i, rfl⟩
theorem nm_ref (e : H b = some (.ins C dx fs)) : NumOr C H (.ref b) := .inr ⟨b, dx, fs, rfl, e⟩
end
section
variable {X : Cx} {k : Nat} {H : Hp} {Q : VK} {x : V} {p : Addr} {xs : List V} {neg : Bool}
theorem r_inO {P : Program} {w : World} {K : PySem.W.Frag} {mg : Str → Option Value} {base : Heap} (e : V → Bool) (hp : H p = some (.lst xs)) (he : ∀ z ∈ xs, EqG P w K mg base k z x H (e z)) (q : Q (.bl (if neg = true then !xs.any e else xs.any e)) H) : rInO P w K mg base k neg x (.ref p) H Q := ⟨p, xs, e, rfl, hp, he, q⟩
end
end Z
local macro_rules | `(tactic| walk_at "num") => `(tactic| first | exact Z.nm_int | exact Z.nm_ref (by walk_at "hp") | assumption)
local macro_rules | `(tactic| walk_at "call") => `(tactic| first
  | ((with_reducible refine' Z.r_binL ?e ?n ?_); (case e => walk_at "hp"); (case n => walk_at "num"))
  | ((with_reducible refine' Z.r_binR ?e ?_); (case e => walk_at "hp"))
  | ((with_reducible refine' Z.r_UO ?e ?_); (case e => walk_at "hp"))
  | ((with_reducible refine' Z.r_absO ?e ?_); (case e => walk_at "hp")))

local macro_rules | `(tactic| walk_at "call") => `(tactic| first
  | with_reducible refine Z.r_xst ?_
  | with_reducible refine Z.r_xv ?_
  | with_reducible refine Z.r_exv ?_)

/-- the promise of an __init__ that stores its one argument -/
def sp_ex (C : Addr) (fl : Str) : Sp := fun vs H Q _ => ∃ a y, vs = [.ref a, y] ∧ H a = some (exo a C none) ∧ ∀ dx H1, H dx = none → Z.But a H H1 → H1 a = some (exo a C (some dx)) → H1 dx = some (exd dx [(fl, y)]) → Q .non H1
theorem k_ex {C : Addr} {fl : Str} {y : V} {H : Hp} {Q : VK} (h : ∀ a d H1, H a = none → H d = none → Same H H1 → H1 a = some (exo a C (some d)) → H1 d = some (exd d [(fl, y)]) → Q (.ref a) H1) : Z.exI C (sp_ex C fl) [y] H Q := by
  refine ⟨Nat.le_of_ble_eq_true rfl, fun a na => ⟨a, y, rfl, upd_same, fun dx H1 n b h1 h2 => ⟨rfl, ?_⟩⟩⟩
  have ne : dx ≠ a := fun e => by
    rw [e, upd_same] at n; cases n
  rw [upd_ne ne] at n
  exact h a dx H1 na n (Z.But.back (Z.same_upd na) na b) h1 h2
section
variable {P : Program} {w : World} {K : PySem.W.Frag} {mg : Str → Option Value} {base : Heap}
theorem sc_law_draw : FnScope ["_law_bag_here", "_law_many", "_law_first_here", "_law_second", "_law_digit"] ["_law_bag_here", "_law_many"] (defScope s_law_draw) := ⟨rfl, rfl, rfl, by decide +kernel, rfl, by decide +kernel, by decide +kernel⟩
def sp_law_draw : Sp := fun vs H Q _ => ∃ (b : Addr) (m : Int) (n : Nat), vs = [.ref b, .int m] ∧ Bag H b n ∧ 0 < m ∧ m < 1073741824 ∧ n < 1073741824 ∧
  ∀ r H', 0 ≤ r → r < m → Z.But b H H' → Bag H' b (n + 1) → Q (.int r) H'
theorem ok_law_draw (T : Top K mg) : FnOk P w K mg base CX0 1 T.f_law_draw T.fd_law_draw ["_law_bag_here", "_law_many"] sp_law_draw := by
  refine T.F_law_draw.ok sc_law_draw (fun vs H Q E h => ?_) (fun cdv A outer s H vs Q E hr h => ?_)
  · obtain ⟨b, m, n, rfl, _⟩ := h
    rfl
  · obtain ⟨b, m, n, rfl, ⟨g, sd, k, hb, hg, hs0, hs1, hk0, hk1⟩, hm0, hm1, hn, q⟩ := h
    refine ⟨_, pss_cons (ps_if (pt_cmpR op_gt (pe_ix (Z.ix_seqG (K := K) rfl) (pv 0) (pe_int) (fun _ _ => rfl)) (pe_int) (nomark _)) (pss_cons (ps_set (i := 4) sc_law_draw.nd rfl (.inl rfl) (pe_op op_mod (pe_callTy Z.c_int1 (by rfl) T.z_int (by decide +kernel) (pa_cons (pe_ix (Z.ix_seqG (K := K) rfl) (pv 0) (pe_int) (fun _ _ => rfl)) (pa_nil))) (pv 1))) (pss_cons (ps_asg (pe_op op_fdiv (pe_ix (Z.ix_seqG (K := K) rfl) (pv 0) (pe_int) (fun _ _ => rfl)) (pv 1)) (pg_sub (pv 0) (pe_int) set_list)) (pss_one (ps_ret (pv 4))))) (pss_nil)) (pss_cons (ps_asg (pe_op op_add (pe_ix (Z.ix_seqG (K := K) rfl) (pv 0) (pe_int) (fun _ _ => rfl)) (pe_int)) (pg_sub (pv 0) (pe_int) set_list)) (pss_cons (ps_set (i := 2) sc_law_draw.nd rfl (.inl rfl) (pe_op op_mod (pe_callTy Z.c_int1 (by rfl) T.z_int (by decide +kernel) (pa_cons (pe_op op_add (pe_op op_pow (pe_op op_add (pe_ix (Z.ix_seqG (K := K) rfl) (pv 0) (pe_int) (fun _ _ => rfl)) (pe_op op_mul (pe_int) (pe_ix (Z.ix_seqG (K := K) rfl) (pv 0) (pe_int) (fun _ _ => rfl)))) (pe_int)) (pe_op op_mul (pe_ix (Z.ix_seqG (K := K) rfl) (pv 0) (pe_int) (fun _ _ => rfl)) (pe_int))) (pa_nil))) (pe_int))) (pss_cons (ps_set (i := 3) sc_law_draw.nd rfl (.inl rfl) (pe_op op_mod (pe_callTy Z.c_int1 (by rfl) T.z_int (by decide +kernel) (pa_cons (pe_op op_add (pe_op op_mul (pv 2) (pv 2)) (pe_op op_mul (pe_int) (pe_ix (Z.ix_seqG (K := K) rfl) (pv 0) (pe_int) (fun _ _ => rfl)))) (pa_nil))) (pe_int))) (pss_one (ps_ret (pe_op op_mod (pe_callTy Z.c_int1 (by rfl) T.z_int (by decide +kernel) (pa_cons (pe_op op_fdiv (pv 3) (pe_int)) (pa_nil))) (pv 1))))))), ?_⟩
    refine Z.r_start (σ' := [some (.ref b), some (.int m), none, none, none]) rfl ?_
    walk_at "go"
    refine Z.ways (fun c => ?_) (fun c => ?_)
    · walk_at "go"
      intro H1 b1 h1
      walk_at "go"
      refine q _ _ ?_ ?_ b1 ⟨_, _, _, h1, ?_, hs0, hs1, hk0, ?_⟩
      · exact Int.emod_nonneg _ (by omega)
      · exact Int.emod_lt_of_pos _ hm0
      · exact Int.ediv_nonneg hg (by omega)
      · omega
    · walk_at "go"
      intro H1 b1 h1
      walk_at "go"
      refine q _ _ (Int.emod_nonneg _ (by omega)) (Int.emod_lt_of_pos _ hm0) b1 ⟨_, _, _, h1, hg, hs0, hs1, by omega, by omega⟩
theorem sc_law_bag : FnScope ["_law_script", "_law_at", "_law_cell", "_law_great"] ["_law_script", "_law_at"] (defScope s_law_bag) := ⟨rfl, rfl, rfl, by decide +kernel, rfl, by decide +kernel, by decide +kernel⟩
def sp_law_bag (K : PySem.W.Frag) : Sp := fun vs H Q _ => ∃ (a : Addr) (ns : List Int) (at_ : Nat), vs = [.ref a, .int at_] ∧ SqL K H a (ns.map V.int) ∧ at_ ≤ 100 ∧
  ∀ p H', Same H H' → H p = none → Bag H' p 0 → Q (.ref p) H'
theorem ok_law_bag (T : Top K mg) : FnOk P w K mg base CX0 1 T.f_law_bag T.fd_law_bag ["_law_script", "_law_at"] (sp_law_bag K) := by
  refine T.F_law_bag.ok sc_law_bag (fun vs H Q E h => ?_) (fun cdv A outer s H vs Q E hr h => ?_)
  · obtain ⟨a, ns, at_, rfl, _⟩ := h
    rfl
  · obtain ⟨a, ns, at_, rfl, hS, hat, q⟩ := h
    refine ⟨_, pss_cons (ps_set (i := 2) sc_law_bag.nd rfl (.inl rfl) (pe_ifExp (pt_cmpR op_lt (pv 1) (pe_callB Z.c_len (by rfl) T.z_len (by decide +kernel) (pa_cons (pv 0) (pa_nil))) (nomark _)) (pe_ix (Z.ix_seqG (K := K) rfl) (pv 0) (pv 1) (fun _ _ => rfl)) (pe_int))) (pss_cons (ps_set (i := 3) sc_law_bag.nd rfl (.inl rfl) (pe_ifExp (pt_cmpR op_ge (pe_callB Z.c_abs (by rfl) T.z_abs (by decide +kernel) (pa_cons (pv 2) (pa_nil))) (pe_op op_pow (pe_int) (pe_int)) (nomark _)) (pe_callB Z.c_abs (by rfl) T.z_abs (by decide +kernel) (pa_cons (pv 2) (pa_nil))) (pe_int))) (pss_one (ps_ret (pe_lst (pa_cons (pv 3) (pa_cons (pe_op op_add (pe_op op_add (pe_op op_mul (pe_op op_mod (pe_callTy Z.c_int1 (by rfl) T.z_int (by decide +kernel) (pa_cons (pv 2) (pa_nil))) (pe_int)) (pe_int)) (pe_op op_mul (pe_int) (pv 1))) (pe_int)) (pa_cons (pe_int) (pa_nil)))))))), ?_⟩
    refine Z.r_start (σ' := [some (.ref a), some (.int at_), none, none]) rfl ?_
    walk_at "go"
    refine Z.join (fun v H' => (∃ c : Int, v = .int c) ∧ H' = H) (fun c M k => ?_) (fun c M k => ?_) (fun v H' hv => ?_)
    · obtain ⟨z, hz⟩ := Z.get_int (ns := ns) (i := at_) (by rw [List.length_map] at c; omega)
      refine' Z.r_op ?_
      walk_at "go"
      exact k _ _ ⟨⟨z, rfl⟩, rfl⟩
    · exact k _ _ ⟨⟨0, rfl⟩, rfl⟩
    · obtain ⟨⟨z, rfl⟩, rfl⟩ := hv
      walk_at "go"
      refine Z.join (fun v H'' => (∃ c : Int, v = .int c ∧ 0 ≤ c) ∧ H'' = H') (fun c M k => ?_) (fun c M k => ?_) (fun v H'' hv => ?_)
      · walk_at "go"
        refine k _ _ ⟨⟨_, rfl, ?_⟩, rfl⟩
        split <;> omega
      · exact k _ _ ⟨⟨0, rfl, Int.le_refl 0⟩, rfl⟩
      · obtain ⟨⟨y, rfl, hy⟩, rfl⟩ := hv
        walk_at "go"
        intro p H1 np s1 hp
        exact q _ _ s1 np ⟨_, _, _, hp, hy, by omega, by omega, Int.le_refl 0, Int.le_refl _⟩
theorem k_law_bag {K : PySem.W.Frag} {a : Addr} {ns : List Int} {at_ : Nat} {H : Hp} {Q : VK} {E : XK} (hS : SqL K H a (ns.map V.int)) (h : at_ ≤ 100) (q : ∀ p H', Same H H' → H p = none → Bag H' p 0 → Q (.ref p) H') :
    sp_law_bag K ([.ref a, .int at_] ++ []) H Q E := ⟨a, ns, at_, rfl, hS, h, q⟩
theorem sc_law_number : FnScope ["_law_bag_here", "_law_road", "_law_number_here", "_law_turn"] ["_law_bag_here"] (defScope s_law_number) := ⟨rfl, rfl, rfl, by decide +kernel, rfl, by decide +kernel, by decide +kernel⟩
def sp_law_number : Sp := fun vs H Q _ => ∃ (b : Addr) (n : Nat), vs = [.ref b] ∧ Bag H b n ∧ n < 1073741000 ∧ ∀ (i : Int) (H' : Hp), i.natAbs < 10 ^ 246 → Z.But b H H' → Bag H' b (n + 60) → Q (.int i) H'
theorem ok_law_number (T : Top K mg) : FnOk P w K mg base CX0 2 T.f_law_number T.fd_law_number ["_law_bag_here"] sp_law_number := by
  refine T.F_law_number.ok sc_law_number (fun vs H Q E h => ?_) (fun cdv A outer s H vs Q E hr h => ?_)
  · obtain ⟨b, n, rfl, _⟩ := h
    rfl
  · obtain ⟨b, n, rfl, hb, hn, q⟩ := h
    refine ⟨_, pss_cons (ps_set (i := 1) sc_law_number.nd rfl (.inl rfl) (pe_call (ok_law_draw T) (hr.mono (by decide)) (by rfl) T.mg_law_draw T.F_law_draw.kp T.B_law_draw .nil pass0 (pa_cons (pv 0) (pa_cons (pe_int) (pa_nil))))) (pss_cons (ps_if (pt_cmpR op_eq (pv 1) (pe_int) (nomark _)) (pss_one (ps_ret (pe_int))) (pss_nil)) (pss_cons (ps_if (pt_cmpR op_lt (pv 1) (pe_int) (nomark _)) (pss_one (ps_ret (pe_op op_sub (pe_call (ok_law_draw T) (hr.mono (by decide)) (by rfl) T.mg_law_draw T.F_law_draw.kp T.B_law_draw .nil pass0 (pa_cons (pv 0) (pa_cons (pe_int) (pa_nil)))) (pe_int)))) (pss_nil)) (pss_cons (ps_if (pt_cmpR op_eq (pv 1) (pe_int) (nomark _)) (pss_one (ps_ret (pe_op op_sub (pe_call (ok_law_draw T) (hr.mono (by decide)) (by rfl) T.mg_law_draw T.F_law_draw.kp T.B_law_draw .nil pass0 (pa_cons (pv 0) (pa_cons (pe_int) (pa_nil)))) (pe_int)))) (pss_nil)) (pss_cons (ps_set (i := 2) sc_law_number.nd rfl (.inl rfl) (pe_op op_add (pe_int) (pe_call (ok_law_draw T) (hr.mono (by decide)) (by rfl) T.mg_law_draw T.F_law_draw.kp T.B_law_draw .nil pass0 (pa_cons (pv 0) (pa_cons (pe_int) (pa_nil)))))) (pss_cons (ps_for PassesOwn.never rfl (pi_range1 (by rfl) T.z_range (pa_cons (pe_call (ok_law_draw T) (hr.mono (by decide)) (by rfl) T.mg_law_draw T.F_law_draw.kp T.B_law_draw .nil pass0 (pa_cons (pv 0) (pa_cons (pe_int) (pa_nil)))) (pa_nil))) (pg_name (i := 3) sc_law_number.nd rfl (.inl rfl)) (pss_one (ps_set (i := 2) sc_law_number.nd rfl (.inl rfl) (pe_op op_add (pe_op op_mul (pv 2) (pe_int)) (pe_call (ok_law_draw T) (hr.mono (by decide)) (by rfl) T.mg_law_draw T.F_law_draw.kp T.B_law_draw .nil pass0 (pa_cons (pv 0) (pa_cons (pe_int) (pa_nil)))))))) (pss_one (ps_ret (pe_ifExp (pt_cmpR op_eq (pe_call (ok_law_draw T) (hr.mono (by decide)) (by rfl) T.mg_law_draw T.F_law_draw.kp T.B_law_draw .nil pass0 (pa_cons (pv 0) (pa_cons (pe_int) (pa_nil)))) (pe_int) (nomark _)) (pv 2) (pe_op op_sub (pe_int) (pv 2)))))))))), ?_⟩
    refine Z.r_start (σ' := [some (.ref b), none, none, none]) rfl ?_
    walk_at "go"
    walk_at "draw"
    intro r H1 r0 r1 t1 g1
    walk_at "go"
    refine Z.ways (fun c => ?_) (fun c => ?_)
    · walk_at "go"
      exact q 0 H1 (by decide) t1 (g1.mono (by omega))
    walk_at "go"
    refine Z.ways (fun c2 => ?_) (fun c2 => ?_)
    · walk_at "go"
      walk_at "draw"
      intro r2 H2 r20 r21 t2 g2
      walk_at "go"
      exact q _ _ (Nat.lt_of_lt_of_le (show (r2 - 4).natAbs < 10000 by omega) (by decide)) (t1.trans t2) (g2.mono (by omega))
    walk_at "go"
    refine Z.ways (fun c3 => ?_) (fun c3 => ?_)
    · walk_at "go"
      walk_at "draw"
      intro r2 H2 r20 r21 t2 g2
      walk_at "go"
      exact q _ _ (Nat.lt_of_lt_of_le (show (r2 - 2000).natAbs < 10000 by omega) (by decide)) (t1.trans t2) (g2.mono (by omega))
    walk_at "go"
    walk_at "draw"
    intro x H2 x0 x1 t2 g2
    walk_at "go"
    walk_at "draw"
    intro j H3 j0 j1 t3 g3
    walk_at "go"
    refine Z.r_rng j0 (by omega) (fun i σ' H' => ∃ (x : Int) (v : Option V), σ' = [some (.ref b), some (.int r), some (.int x), v] ∧ 0 < x ∧ x < 2 * 10 ^ (6 * (i + 1)) ∧ Z.But b H H' ∧ Bag H' b (n + 3 + i)) ?_ ?_ ?_
    · exact ⟨_, _, rfl, by omega, by omega, (t1.trans t2).trans t3, g3⟩
    · rintro i σ' H' hi ⟨x, v, rfl, hx0, hx1, t, gb⟩
      walk_at "go"
      walk_at "draw"
      intro d H4 d0 d1 t4 g4
      walk_at "go"
      refine ⟨_, _, rfl, by omega, ?_, t.trans t4, g4⟩
      have e : (10 : Int) ^ (6 * (i + 1 + 1)) = 10 ^ (6 * (i + 1)) * 1000000 := by
        rw [show 6 * (i + 1 + 1) = 6 * (i + 1) + 6 by omega, Int.pow_add]
        rfl
      rw [e]
      omega
    · rintro σ' H' ⟨x, v, rfl, hx0, hx1, t, gb⟩
      have hb2 : x < 10 ^ 246 := by
        have h2 : (10 : Int) ^ (6 * (j.toNat + 1)) ≤ 10 ^ 240 := by
          exact Z.pow10_le (by omega)
        have e : (10 : Int) ^ 246 = 10 ^ 240 * 1000000 := by decide
        omega
      have hb3 : x.natAbs < 10 ^ 246 := by
        have : ((x.natAbs : Nat) : Int) < ((10 ^ 246 : Nat) : Int) := by
          rw [Int.natAbs_of_nonneg (by omega)]
          exact hb2
        omega
      walk_at "go"
      walk_at "draw"
      intro d H4 d0 d1 t4 g4
      walk_at "go"
      refine Z.ways (fun c => ?_) (fun c => ?_)
      · walk_at "go"
        exact q _ _ hb3 (t.trans t4) (g4.mono (by omega))
      · walk_at "go"
        refine q _ _ ?_ (t.trans t4) (g4.mono (by omega))
        rw [Int.zero_sub, Int.natAbs_neg]
        exact hb3
theorem k_law_number {b : Addr} {n : Nat} {H : Hp} {Q : VK} {E : XK} (bg : Bag H b n) (hn : n < 1073741000) (q : ∀ (i : Int) (H' : Hp), i.natAbs < 10 ^ 246 → Z.But b H H' → Bag H' b (n + 60) → Q (.int i) H') :
    sp_law_number ([.ref b] ++ []) H Q E := ⟨b, n, rfl, bg, hn, q⟩
theorem sc_law_word : FnScope ["_law_bag_here", "_law_word_here", "_law_turn"] ["_law_bag_here"] (defScope s_law_word) := ⟨rfl, rfl, rfl, by decide +kernel, rfl, by decide +kernel, by decide +kernel⟩
def sp_law_word : Sp := fun vs H Q _ => ∃ (b : Addr) (n : Nat), vs = [.ref b] ∧ Bag H b n ∧ n < 1073741000 ∧ ∀ (x : Str) (H' : Hp), Word x → Z.But b H H' → Bag H' b (n + 60) → Q (.str x) H'
theorem ok_law_word (T : Top K mg) : FnOk P w K mg base CX0 2 T.f_law_word T.fd_law_word ["_law_bag_here"] sp_law_word := by
  refine T.F_law_word.ok sc_law_word (fun vs H Q E h => ?_) (fun cdv A outer s H vs Q E hr h => ?_)
  · obtain ⟨b, n, rfl, _⟩ := h
    rfl
  · obtain ⟨b, n, rfl, hb, hn, q⟩ := h
    refine ⟨_, pss_cons (ps_if (pt_cmpR op_eq (pe_call (ok_law_draw T) (hr.mono (by decide)) (by rfl) T.mg_law_draw T.F_law_draw.kp T.B_law_draw .nil pass0 (pa_cons (pv 0) (pa_cons (pe_int) (pa_nil)))) (pe_int) (nomark _)) (pss_one (ps_ret (pe_ix (Z.ix_seqG (K := K) rfl) (pe_lst (pa_cons (pe_str) (pa_cons (pe_str) (pa_cons (pe_str) (pa_cons (pe_str) (pa_nil)))))) (pe_call (ok_law_draw T) (hr.mono (by decide)) (by rfl) T.mg_law_draw T.F_law_draw.kp T.B_law_draw .nil pass0 (pa_cons (pv 0) (pa_cons (pe_int) (pa_nil)))) (fun _ _ => rfl)))) (pss_nil)) (pss_cons (ps_set (i := 1) sc_law_word.nd rfl (.inl rfl) (pe_str)) (pss_cons (ps_for PassesOwn.never rfl (pi_range1 (by rfl) T.z_range (pa_cons (pe_op op_add (pe_int) (pe_call (ok_law_draw T) (hr.mono (by decide)) (by rfl) T.mg_law_draw T.F_law_draw.kp T.B_law_draw .nil pass0 (pa_cons (pv 0) (pa_cons (pe_int) (pa_nil))))) (pa_nil))) (pg_name (i := 2) sc_law_word.nd rfl (.inl rfl)) (pss_one (ps_set (i := 1) sc_law_word.nd rfl (.inl rfl) (pe_op Z.o_addS (pv 1) (pe_ix (Z.ix_seqG (K := K) rfl) (pe_str) (pe_call (ok_law_draw T) (hr.mono (by decide)) (by rfl) T.mg_law_draw T.F_law_draw.kp T.B_law_draw .nil pass0 (pa_cons (pv 0) (pa_cons (pe_int) (pa_nil)))) (fun _ _ => rfl)))))) (pss_one (ps_ret (pv 1))))), ?_⟩
    refine Z.r_start (σ' := [some (.ref b), none, none]) rfl ?_
    walk_at "go"
    walk_at "draw"
    intro r H1 r0 r1 t1 g1
    walk_at "go"
    refine Z.ways (fun c => ?_) (fun c => ?_)
    · walk_at "go"
      intro p H2 np s1 hp
      have nb : p ≠ b := fun e => by
        obtain ⟨_, _, _, hb1, _⟩ := g1
        rw [e, hb1] at np; cases np
      walk_at "go"
      walk_at "draw"
      intro r2 H3 r20 r21 t2 g2
      have fin : ∀ x, Word x → Q (.str x) H3 := fun x hx => q x H3 hx ((t1.trans (Z.But.same s1)).trans t2) (g2.mono (by omega))
      rcases (show r2 = 0 ∨ r2 = 1 ∨ r2 = 2 ∨ r2 = 3 by omega) with rfl | rfl | rfl | rfl
      all_goals
        walk_at "go"
        exact fin _ ⟨by decide +kernel, by decide +kernel, by decide +kernel⟩
    walk_at "go"
    walk_at "draw"
    intro j H2 j0 j1 t2 g2
    walk_at "go"
    refine Z.r_rng (by omega) (by omega) (fun i σ' H' => ∃ (x : Str) (v : Option V), σ' = [some (.ref b), some (.str x), v] ∧ Wd i x ∧ Z.But b H H' ∧ Bag H' b (n + 2 + i)) ?_ ?_ ?_
    · exact ⟨_, _, rfl, ⟨rfl, by decide +kernel⟩, t1.trans t2, g2⟩
    · rintro i σ' H' hi ⟨x, v, rfl, hx, t, gb⟩
      walk_at "go"
      walk_at "draw"
      intro d H3 d0 d1 t3 g3
      obtain ⟨k, rfl⟩ := Int.eq_ofNat_of_zero_le d0
      obtain ⟨c, hc, c0, c1⟩ := Z.letters (n := k) (by omega)
      refine Z.r_ixS (by decide +kernel) (atI_nat hc) ?_
      refine Z.r_addS (Z.szle ?_) ?_
      · have := hx.1
        show x.length + 1 ≤ 1000
        omega
      walk_at "go"
      exact ⟨_, _, rfl, hx.add c0 c1, t.trans t3, g3⟩
    · rintro σ' H' ⟨x, v, rfl, hx, t, gb⟩
      walk_at "go"
      exact q x H' ⟨by have := hx.1; omega, by have := hx.1; omega, hx.2⟩ t (gb.mono (by omega))
theorem k_law_word {b : Addr} {n : Nat} {H : Hp} {Q : VK} {E : XK} (bg : Bag H b n) (hn : n < 1073741000) (q : ∀ (x : Str) (H' : Hp), Word x → Z.But b H H' → Bag H' b (n + 60) → Q (.str x) H') :
    sp_law_word ([.ref b] ++ []) H Q E := ⟨b, n, rfl, bg, hn, q⟩

theorem sc_Unnumbered___init : FnScope ["self", "name"] ["self", "name"] (defScope s_Unnumbered___init) := ⟨rfl, rfl, rfl, by decide +kernel, rfl, by decide +kernel, by decide +kernel⟩
def sp_Un (C : Addr) : Sp := fun vs H Q _ => ∃ (p dx : Addr) (n : Str), vs = [.ref p, .str n] ∧ H p = some (.ins C dx []) ∧ ∀ H', Z.But p H H' → H' p = some (.ins C dx [("name", .str n)]) → Q .non H'
theorem ok_Unnumbered___init (T : Top K mg) : FnOk P w K mg base CX0 1 T.f_Unnumbered___init T.fd_Unnumbered___init ["self", "name"] (sp_Un T.C_Unnumbered) := by
  refine T.F_Unnumbered___init.ok sc_Unnumbered___init (fun vs H Q E h => ?_) (fun cdv A outer s H vs Q E hr h => ?_)
  · obtain ⟨p, dx, n, rfl, _⟩ := h
    rfl
  · obtain ⟨p, dx, n, rfl, hp, q⟩ := h
    refine ⟨_, pss_one (ps_fld (pv 0) (pv 1) rfl), ?_⟩
    refine Z.r_start (σ' := [some (.ref p), some (.str n)]) rfl ?_
    walk_at "go"
    intro H1 b1 h1
    exact q H1 b1 h1
theorem r_mkUn {C : Addr} {n : Str} {H : Hp} {Q : VK} {E : XK} (h : ∀ x dx H1, H x = none → Same H H1 → H1 x = some (.ins C dx [("name", .str n)]) → Q (.ref x) H1) : Z.mkI C (sp_Un C) [] [.str n] H Q E := by
  intro x dx nx nd ne
  refine ⟨x, dx, n, rfl, upd_same, fun H1 b1 h1 => ⟨rfl, h x dx H1 nx (fun b o e => ?_) h1⟩⟩
  exact b1 _ _ (ne_of_none e nx) (by rw [upd_ne (ne_of_none e nx), upd_ne (ne_of_none e nd)]; exact e)
local macro_rules | `(tactic| walk_at "call") => `(tactic| with_reducible refine r_mkUn ?_)
theorem sc_BadSeries___init : FnScope ["self", "at"] ["self", "at"] (defScope s_BadSeries___init) := ⟨rfl, rfl, rfl, by decide +kernel, rfl, by decide +kernel, by decide +kernel⟩
theorem ok_BadSeries___init (T : Top K mg) : FnOk P w K mg base CX0 1 T.f_BadSeries___init T.fd_BadSeries___init ["self", "at"] (sp_ex T.C_BadSeries "at") := by
  refine T.F_BadSeries___init.ok sc_BadSeries___init (fun vs H Q E h => ?_) (fun cdv A outer s H vs Q E hr h => ?_)
  · obtain ⟨a, y, rfl, _⟩ := h
    rfl
  · obtain ⟨a, y, rfl, ha, q⟩ := h
    refine ⟨_, pss_one (Z.ps_xst (pv 0) (pv 1) rfl), ?_⟩
    refine Z.r_start (σ' := [some (.ref a), some (y)]) rfl ?_
    walk_at "go"
    refine Z.r_xstV T.ex_BadSeries T.no_BadSeries_at ha fun dx H1 n b h1 h2 => ?_
    walk_at "go"
    exact q dx H1 n b h1 h2
theorem sc_BadProgram___init : FnScope ["self", "line"] ["self", "line"] (defScope s_BadProgram___init) := ⟨rfl, rfl, rfl, by decide +kernel, rfl, by decide +kernel, by decide +kernel⟩
theorem ok_BadProgram___init (T : Top K mg) : FnOk P w K mg base CX0 1 T.f_BadProgram___init T.fd_BadProgram___init ["self", "line"] (sp_ex T.C_BadProgram "line") := by
  refine T.F_BadProgram___init.ok sc_BadProgram___init (fun vs H Q E h => ?_) (fun cdv A outer s H vs Q E hr h => ?_)
  · obtain ⟨a, y, rfl, _⟩ := h
    rfl
  · obtain ⟨a, y, rfl, ha, q⟩ := h
    refine ⟨_, pss_one (Z.ps_xst (pv 0) (pv 1) rfl), ?_⟩
    refine Z.r_start (σ' := [some (.ref a), some (y)]) rfl ?_
    walk_at "go"
    refine Z.r_xstV T.ex_BadProgram T.no_BadProgram_line ha fun dx H1 n b h1 h2 => ?_
    walk_at "go"
    exact q dx H1 n b h1 h2
theorem sc_BadMerge___init : FnScope ["self", "line"] ["self", "line"] (defScope s_BadMerge___init) := ⟨rfl, rfl, rfl, by decide +kernel, rfl, by decide +kernel, by decide +kernel⟩
theorem ok_BadMerge___init (T : Top K mg) : FnOk P w K mg base CX0 1 T.f_BadMerge___init T.fd_BadMerge___init ["self", "line"] (sp_ex T.C_BadMerge "line") := by
  refine T.F_BadMerge___init.ok sc_BadMerge___init (fun vs H Q E h => ?_) (fun cdv A outer s H vs Q E hr h => ?_)
  · obtain ⟨a, y, rfl, _⟩ := h
    rfl
  · obtain ⟨a, y, rfl, ha, q⟩ := h
    refine ⟨_, pss_one (Z.ps_xst (pv 0) (pv 1) rfl), ?_⟩
    refine Z.r_start (σ' := [some (.ref a), some (y)]) rfl ?_
    walk_at "go"
    refine Z.r_xstV T.ex_BadMerge T.no_BadMerge_line ha fun dx H1 n b h1 h2 => ?_
    walk_at "go"
    exact q dx H1 n b h1 h2
theorem sc_BadRule___init : FnScope ["self", "side"] ["self", "side"] (defScope s_BadRule___init) := ⟨rfl, rfl, rfl, by decide +kernel, rfl, by decide +kernel, by decide +kernel⟩
theorem ok_BadRule___init (T : Top K mg) : FnOk P w K mg base CX0 1 T.f_BadRule___init T.fd_BadRule___init ["self", "side"] (sp_ex T.C_BadRule "side") := by
  refine T.F_BadRule___init.ok sc_BadRule___init (fun vs H Q E h => ?_) (fun cdv A outer s H vs Q E hr h => ?_)
  · obtain ⟨a, y, rfl, _⟩ := h
    rfl
  · obtain ⟨a, y, rfl, ha, q⟩ := h
    refine ⟨_, pss_one (Z.ps_xst (pv 0) (pv 1) rfl), ?_⟩
    refine Z.r_start (σ' := [some (.ref a), some (y)]) rfl ?_
    walk_at "go"
    refine Z.r_xstV T.ex_BadRule T.no_BadRule_side ha fun dx H1 n b h1 h2 => ?_
    walk_at "go"
    exact q dx H1 n b h1 h2
theorem sc_BadWish___init : FnScope ["self", "name"] ["self", "name"] (defScope s_BadWish___init) := ⟨rfl, rfl, rfl, by decide +kernel, rfl, by decide +kernel, by decide +kernel⟩
theorem ok_BadWish___init (T : Top K mg) : FnOk P w K mg base CX0 1 T.f_BadWish___init T.fd_BadWish___init ["self", "name"] (sp_ex T.C_BadWish "name") := by
  refine T.F_BadWish___init.ok sc_BadWish___init (fun vs H Q E h => ?_) (fun cdv A outer s H vs Q E hr h => ?_)
  · obtain ⟨a, y, rfl, _⟩ := h
    rfl
  · obtain ⟨a, y, rfl, ha, q⟩ := h
    refine ⟨_, pss_one (Z.ps_xst (pv 0) (pv 1) rfl), ?_⟩
    refine Z.r_start (σ' := [some (.ref a), some (y)]) rfl ?_
    walk_at "go"
    refine Z.r_xstV T.ex_BadWish T.no_BadWish_name ha fun dx H1 n b h1 h2 => ?_
    walk_at "go"
    exact q dx H1 n b h1 h2
theorem sc_BadEntry___init : FnScope ["self", "entry"] ["self", "entry"] (defScope s_BadEntry___init) := ⟨rfl, rfl, rfl, by decide +kernel, rfl, by decide +kernel, by decide +kernel⟩
theorem ok_BadEntry___init (T : Top K mg) : FnOk P w K mg base CX0 1 T.f_BadEntry___init T.fd_BadEntry___init ["self", "entry"] (sp_ex T.C_BadEntry "entry") := by
  refine T.F_BadEntry___init.ok sc_BadEntry___init (fun vs H Q E h => ?_) (fun cdv A outer s H vs Q E hr h => ?_)
  · obtain ⟨a, y, rfl, _⟩ := h
    rfl
  · obtain ⟨a, y, rfl, ha, q⟩ := h
    refine ⟨_, pss_one (Z.ps_xst (pv 0) (pv 1) rfl), ?_⟩
    refine Z.r_start (σ' := [some (.ref a), some (y)]) rfl ?_
    walk_at "go"
    refine Z.r_xstV T.ex_BadEntry T.no_BadEntry_entry ha fun dx H1 n b h1 h2 => ?_
    walk_at "go"
    exact q dx H1 n b h1 h2
theorem sc_BadWay___init : FnScope ["self", "way"] ["self", "way"] (defScope s_BadWay___init) := ⟨rfl, rfl, rfl, by decide +kernel, rfl, by decide +kernel, by decide +kernel⟩
theorem ok_BadWay___init (T : Top K mg) : FnOk P w K mg base CX0 1 T.f_BadWay___init T.fd_BadWay___init ["self", "way"] (sp_ex T.C_BadWay "way") := by
  refine T.F_BadWay___init.ok sc_BadWay___init (fun vs H Q E h => ?_) (fun cdv A outer s H vs Q E hr h => ?_)
  · obtain ⟨a, y, rfl, _⟩ := h
    rfl
  · obtain ⟨a, y, rfl, ha, q⟩ := h
    refine ⟨_, pss_one (Z.ps_xst (pv 0) (pv 1) rfl), ?_⟩
    refine Z.r_start (σ' := [some (.ref a), some (y)]) rfl ?_
    walk_at "go"
    refine Z.r_xstV T.ex_BadWay T.no_BadWay_way ha fun dx H1 n b h1 h2 => ?_
    walk_at "go"
    exact q dx H1 n b h1 h2
theorem sc_Unlike___init : FnScope ["self", "name"] ["self", "name"] (defScope s_Unlike___init) := ⟨rfl, rfl, rfl, by decide +kernel, rfl, by decide +kernel, by decide +kernel⟩
theorem ok_Unlike___init (T : Top K mg) : FnOk P w K mg base CX0 1 T.f_Unlike___init T.fd_Unlike___init ["self", "name"] (sp_ex T.C_Unlike "name") := by
  refine T.F_Unlike___init.ok sc_Unlike___init (fun vs H Q E h => ?_) (fun cdv A outer s H vs Q E hr h => ?_)
  · obtain ⟨a, y, rfl, _⟩ := h
    rfl
  · obtain ⟨a, y, rfl, ha, q⟩ := h
    refine ⟨_, pss_one (Z.ps_xst (pv 0) (pv 1) rfl), ?_⟩
    refine Z.r_start (σ' := [some (.ref a), some (y)]) rfl ?_
    walk_at "go"
    refine Z.r_xstV T.ex_Unlike T.no_Unlike_name ha fun dx H1 n b h1 h2 => ?_
    walk_at "go"
    exact q dx H1 n b h1 h2
theorem sc_NoMend___init : FnScope ["self", "mend"] ["self", "mend"] (defScope s_NoMend___init) := ⟨rfl, rfl, rfl, by decide +kernel, rfl, by decide +kernel, by decide +kernel⟩
theorem ok_NoMend___init (T : Top K mg) : FnOk P w K mg base CX0 1 T.f_NoMend___init T.fd_NoMend___init ["self", "mend"] (sp_ex T.C_NoMend "mend") := by
  refine T.F_NoMend___init.ok sc_NoMend___init (fun vs H Q E h => ?_) (fun cdv A outer s H vs Q E hr h => ?_)
  · obtain ⟨a, y, rfl, _⟩ := h
    rfl
  · obtain ⟨a, y, rfl, ha, q⟩ := h
    refine ⟨_, pss_one (Z.ps_xst (pv 0) (pv 1) rfl), ?_⟩
    refine Z.r_start (σ' := [some (.ref a), some (y)]) rfl ?_
    walk_at "go"
    refine Z.r_xstV T.ex_NoMend T.no_NoMend_mend ha fun dx H1 n b h1 h2 => ?_
    walk_at "go"
    exact q dx H1 n b h1 h2
theorem sc_NoMatch___init : FnScope ["self", "number"] ["self", "number"] (defScope s_NoMatch___init) := ⟨rfl, rfl, rfl, by decide +kernel, rfl, by decide +kernel, by decide +kernel⟩
theorem ok_NoMatch___init (T : Top K mg) : FnOk P w K mg base CX0 1 T.f_NoMatch___init T.fd_NoMatch___init ["self", "number"] (sp_ex T.C_NoMatch "number") := by
  refine T.F_NoMatch___init.ok sc_NoMatch___init (fun vs H Q E h => ?_) (fun cdv A outer s H vs Q E hr h => ?_)
  · obtain ⟨a, y, rfl, _⟩ := h
    rfl
  · obtain ⟨a, y, rfl, ha, q⟩ := h
    refine ⟨_, pss_one (Z.ps_xst (pv 0) (pv 1) rfl), ?_⟩
    refine Z.r_start (σ' := [some (.ref a), some (y)]) rfl ?_
    walk_at "go"
    refine Z.r_xstV T.ex_NoMatch T.no_NoMatch_number ha fun dx H1 n b h1 h2 => ?_
    walk_at "go"
    exact q dx H1 n b h1 h2
theorem sc_TooMany___init : FnScope ["self", "what"] ["self", "what"] (defScope s_TooMany___init) := ⟨rfl, rfl, rfl, by decide +kernel, rfl, by decide +kernel, by decide +kernel⟩
theorem ok_TooMany___init (T : Top K mg) : FnOk P w K mg base CX0 1 T.f_TooMany___init T.fd_TooMany___init ["self", "what"] (sp_ex T.C_TooMany "what") := by
  refine T.F_TooMany___init.ok sc_TooMany___init (fun vs H Q E h => ?_) (fun cdv A outer s H vs Q E hr h => ?_)
  · obtain ⟨a, y, rfl, _⟩ := h
    rfl
  · obtain ⟨a, y, rfl, ha, q⟩ := h
    refine ⟨_, pss_one (Z.ps_xst (pv 0) (pv 1) rfl), ?_⟩
    refine Z.r_start (σ' := [some (.ref a), some (y)]) rfl ?_
    walk_at "go"
    refine Z.r_xstV T.ex_TooMany T.no_TooMany_what ha fun dx H1 n b h1 h2 => ?_
    walk_at "go"
    exact q dx H1 n b h1 h2
theorem sc_NoKey___init : FnScope ["self", "key"] ["self", "key"] (defScope s_NoKey___init) := ⟨rfl, rfl, rfl, by decide +kernel, rfl, by decide +kernel, by decide +kernel⟩
theorem ok_NoKey___init (T : Top K mg) : FnOk P w K mg base CX0 1 T.f_NoKey___init T.fd_NoKey___init ["self", "key"] (sp_ex T.C_NoKey "key") := by
  refine T.F_NoKey___init.ok sc_NoKey___init (fun vs H Q E h => ?_) (fun cdv A outer s H vs Q E hr h => ?_)
  · obtain ⟨a, y, rfl, _⟩ := h
    rfl
  · obtain ⟨a, y, rfl, ha, q⟩ := h
    refine ⟨_, pss_one (Z.ps_xst (pv 0) (pv 1) rfl), ?_⟩
    refine Z.r_start (σ' := [some (.ref a), some (y)]) rfl ?_
    walk_at "go"
    refine Z.r_xstV T.ex_NoKey T.no_NoKey_key ha fun dx H1 n b h1 h2 => ?_
    walk_at "go"
    exact q dx H1 n b h1 h2
theorem sc_NoAnswer___init : FnScope ["self", "name"] ["self", "name"] (defScope s_NoAnswer___init) := ⟨rfl, rfl, rfl, by decide +kernel, rfl, by decide +kernel, by decide +kernel⟩
theorem ok_NoAnswer___init (T : Top K mg) : FnOk P w K mg base CX0 1 T.f_NoAnswer___init T.fd_NoAnswer___init ["self", "name"] (sp_ex T.C_NoAnswer "name") := by
  refine T.F_NoAnswer___init.ok sc_NoAnswer___init (fun vs H Q E h => ?_) (fun cdv A outer s H vs Q E hr h => ?_)
  · obtain ⟨a, y, rfl, _⟩ := h
    rfl
  · obtain ⟨a, y, rfl, ha, q⟩ := h
    refine ⟨_, pss_one (Z.ps_xst (pv 0) (pv 1) rfl), ?_⟩
    refine Z.r_start (σ' := [some (.ref a), some (y)]) rfl ?_
    walk_at "go"
    refine Z.r_xstV T.ex_NoAnswer T.no_NoAnswer_name ha fun dx H1 n b h1 h2 => ?_
    walk_at "go"
    exact q dx H1 n b h1 h2
theorem sc_law_first : FnScope ["_law_kind", "_law_thing_here", "_law_made"] ["_law_kind", "_law_thing_here"] (defScope s_law_first) := ⟨rfl, rfl, rfl, by decide +kernel, rfl, by decide +kernel, by decide +kernel⟩
/-- the k-th class of errors, its __init__, its field -/
def exC {K : PySem.W.Frag} {mg : Str → Option Value} (T : Top K mg) (k : Nat) : Addr := match k with
  | 0 => T.C_BadSeries
  | 1 => T.C_BadProgram
  | 2 => T.C_BadMerge
  | 3 => T.C_BadRule
  | 4 => T.C_BadWish
  | 5 => T.C_BadEntry
  | 6 => T.C_BadWay
  | 7 => T.C_Unlike
  | 8 => T.C_NoMend
  | 9 => T.C_NoMatch
  | 10 => T.C_TooMany
  | 11 => T.C_NoKey
  | 12 => T.C_NoAnswer
  | _ => T.C_NoAnswer
def exf {K : PySem.W.Frag} {mg : Str → Option Value} (T : Top K mg) (k : Nat) : Addr := match k with
  | 0 => T.f_BadSeries___init
  | 1 => T.f_BadProgram___init
  | 2 => T.f_BadMerge___init
  | 3 => T.f_BadRule___init
  | 4 => T.f_BadWish___init
  | 5 => T.f_BadEntry___init
  | 6 => T.f_BadWay___init
  | 7 => T.f_Unlike___init
  | 8 => T.f_NoMend___init
  | 9 => T.f_NoMatch___init
  | 10 => T.f_TooMany___init
  | 11 => T.f_NoKey___init
  | 12 => T.f_NoAnswer___init
  | _ => T.f_NoAnswer___init
def exN (k : Nat) : Str := match k with
  | 0 => "at"
  | 1 => "line"
  | 2 => "line"
  | 3 => "side"
  | 4 => "name"
  | 5 => "entry"
  | 6 => "way"
  | 7 => "name"
  | 8 => "mend"
  | 9 => "number"
  | 10 => "what"
  | 11 => "key"
  | 12 => "name"
  | _ => "name"
def sp_law_error {K : PySem.W.Frag} {mg : Str → Option Value} (T : Top K mg) (n : Nat) : Sp := fun vs H Q _ => ∃ (k : Nat) (y : V), vs = [.int k, y] ∧ k < n ∧
  ∀ a d p H1, Same H H1 → H p = none → H1 a = some (exo a (exC T k) (some d)) → H1 d = some (exd d [(exN k, y)]) → H1 p = some (.lst [.ref a, y]) → Q (.ref p) H1
theorem ok_law_first (T : Top K mg) : FnOk P w K mg base CX0 3 T.f_law_first T.fd_law_first ["_law_kind", "_law_thing_here"] (sp_law_error T 7) := by
  refine T.F_law_first.ok sc_law_first (fun vs H Q E h => ?_) (fun cdv A outer s H vs Q E hr h => ?_)
  · obtain ⟨k, y, rfl, _⟩ := h
    rfl
  · obtain ⟨k, y, rfl, hk, q⟩ := h
    refine ⟨_, pss_cons (ps_if (pt_cmpR op_eq (pv 0) (pe_int) (nomark _)) (pss_cons (ps_set (i := 2) sc_law_first.nd rfl (.inl rfl) (Z.pe_exv T.ex_BadSeries (ok_BadSeries___init T) (hr.mono (by decide)) (by rfl) T.mgC_BadSeries T.B_BadSeries___init (pa_cons (pv 1) (pa_nil)))) (pss_one (ps_ret (pe_lst (pa_cons (pv 2) (pa_cons (Z.pe_xv (pv 2) rfl) (pa_nil))))))) (pss_nil)) (pss_cons (ps_if (pt_cmpR op_eq (pv 0) (pe_int) (nomark _)) (pss_cons (ps_set (i := 2) sc_law_first.nd rfl (.inl rfl) (Z.pe_exv T.ex_BadProgram (ok_BadProgram___init T) (hr.mono (by decide)) (by rfl) T.mgC_BadProgram T.B_BadProgram___init (pa_cons (pv 1) (pa_nil)))) (pss_one (ps_ret (pe_lst (pa_cons (pv 2) (pa_cons (Z.pe_xv (pv 2) rfl) (pa_nil))))))) (pss_nil)) (pss_cons (ps_if (pt_cmpR op_eq (pv 0) (pe_int) (nomark _)) (pss_cons (ps_set (i := 2) sc_law_first.nd rfl (.inl rfl) (Z.pe_exv T.ex_BadMerge (ok_BadMerge___init T) (hr.mono (by decide)) (by rfl) T.mgC_BadMerge T.B_BadMerge___init (pa_cons (pv 1) (pa_nil)))) (pss_one (ps_ret (pe_lst (pa_cons (pv 2) (pa_cons (Z.pe_xv (pv 2) rfl) (pa_nil))))))) (pss_nil)) (pss_cons (ps_if (pt_cmpR op_eq (pv 0) (pe_int) (nomark _)) (pss_cons (ps_set (i := 2) sc_law_first.nd rfl (.inl rfl) (Z.pe_exv T.ex_BadRule (ok_BadRule___init T) (hr.mono (by decide)) (by rfl) T.mgC_BadRule T.B_BadRule___init (pa_cons (pv 1) (pa_nil)))) (pss_one (ps_ret (pe_lst (pa_cons (pv 2) (pa_cons (Z.pe_xv (pv 2) rfl) (pa_nil))))))) (pss_nil)) (pss_cons (ps_if (pt_cmpR op_eq (pv 0) (pe_int) (nomark _)) (pss_cons (ps_set (i := 2) sc_law_first.nd rfl (.inl rfl) (Z.pe_exv T.ex_BadWish (ok_BadWish___init T) (hr.mono (by decide)) (by rfl) T.mgC_BadWish T.B_BadWish___init (pa_cons (pv 1) (pa_nil)))) (pss_one (ps_ret (pe_lst (pa_cons (pv 2) (pa_cons (Z.pe_xv (pv 2) rfl) (pa_nil))))))) (pss_nil)) (pss_cons (ps_if (pt_cmpR op_eq (pv 0) (pe_int) (nomark _)) (pss_cons (ps_set (i := 2) sc_law_first.nd rfl (.inl rfl) (Z.pe_exv T.ex_BadEntry (ok_BadEntry___init T) (hr.mono (by decide)) (by rfl) T.mgC_BadEntry T.B_BadEntry___init (pa_cons (pv 1) (pa_nil)))) (pss_one (ps_ret (pe_lst (pa_cons (pv 2) (pa_cons (Z.pe_xv (pv 2) rfl) (pa_nil))))))) (pss_nil)) (pss_cons (ps_set (i := 2) sc_law_first.nd rfl (.inl rfl) (Z.pe_exv T.ex_BadWay (ok_BadWay___init T) (hr.mono (by decide)) (by rfl) T.mgC_BadWay T.B_BadWay___init (pa_cons (pv 1) (pa_nil)))) (pss_one (ps_ret (pe_lst (pa_cons (pv 2) (pa_cons (Z.pe_xv (pv 2) rfl) (pa_nil)))))))))))), ?_⟩
    refine Z.r_start (σ' := [some (.int k), some (y), none]) rfl ?_
    rcases (show k = 0 ∨ k = 1 ∨ k = 2 ∨ k = 3 ∨ k = 4 ∨ k = 5 ∨ k = 6 by omega) with rfl | rfl | rfl | rfl | rfl | rfl | rfl
    · walk_at "go"
      refine k_ex fun a d H1 na nd s1 ha hd => ?_
      walk_at "go"
      refine Z.r_xvV T.ex_BadSeries T.no_BadSeries_at ha hd Z.look1 ?_
      walk_at "go"
      intro p H2 np s2 hp
      walk_at "go"
      refine q a d p H2 (s1.trans s2) ?_ (s2 _ _ ha) (s2 _ _ hd) hp
      cases z : H p with
      | none => rfl
      | some o => rw [s1 _ _ z] at np; cases np
    · walk_at "go"
      refine k_ex fun a d H1 na nd s1 ha hd => ?_
      walk_at "go"
      refine Z.r_xvV T.ex_BadProgram T.no_BadProgram_line ha hd Z.look1 ?_
      walk_at "go"
      intro p H2 np s2 hp
      walk_at "go"
      refine q a d p H2 (s1.trans s2) ?_ (s2 _ _ ha) (s2 _ _ hd) hp
      cases z : H p with
      | none => rfl
      | some o => rw [s1 _ _ z] at np; cases np
    · walk_at "go"
      refine k_ex fun a d H1 na nd s1 ha hd => ?_
      walk_at "go"
      refine Z.r_xvV T.ex_BadMerge T.no_BadMerge_line ha hd Z.look1 ?_
      walk_at "go"
      intro p H2 np s2 hp
      walk_at "go"
      refine q a d p H2 (s1.trans s2) ?_ (s2 _ _ ha) (s2 _ _ hd) hp
      cases z : H p with
      | none => rfl
      | some o => rw [s1 _ _ z] at np; cases np
    · walk_at "go"
      refine k_ex fun a d H1 na nd s1 ha hd => ?_
      walk_at "go"
      refine Z.r_xvV T.ex_BadRule T.no_BadRule_side ha hd Z.look1 ?_
      walk_at "go"
      intro p H2 np s2 hp
      walk_at "go"
      refine q a d p H2 (s1.trans s2) ?_ (s2 _ _ ha) (s2 _ _ hd) hp
      cases z : H p with
      | none => rfl
      | some o => rw [s1 _ _ z] at np; cases np
    · walk_at "go"
      refine k_ex fun a d H1 na nd s1 ha hd => ?_
      walk_at "go"
      refine Z.r_xvV T.ex_BadWish T.no_BadWish_name ha hd Z.look1 ?_
      walk_at "go"
      intro p H2 np s2 hp
      walk_at "go"
      refine q a d p H2 (s1.trans s2) ?_ (s2 _ _ ha) (s2 _ _ hd) hp
      cases z : H p with
      | none => rfl
      | some o => rw [s1 _ _ z] at np; cases np
    · walk_at "go"
      refine k_ex fun a d H1 na nd s1 ha hd => ?_
      walk_at "go"
      refine Z.r_xvV T.ex_BadEntry T.no_BadEntry_entry ha hd Z.look1 ?_
      walk_at "go"
      intro p H2 np s2 hp
      walk_at "go"
      refine q a d p H2 (s1.trans s2) ?_ (s2 _ _ ha) (s2 _ _ hd) hp
      cases z : H p with
      | none => rfl
      | some o => rw [s1 _ _ z] at np; cases np
    · walk_at "go"
      refine k_ex fun a d H1 na nd s1 ha hd => ?_
      walk_at "go"
      refine Z.r_xvV T.ex_BadWay T.no_BadWay_way ha hd Z.look1 ?_
      walk_at "go"
      intro p H2 np s2 hp
      walk_at "go"
      refine q a d p H2 (s1.trans s2) ?_ (s2 _ _ ha) (s2 _ _ hd) hp
      cases z : H p with
      | none => rfl
      | some o => rw [s1 _ _ z] at np; cases np
theorem sc_law_error : FnScope ["_law_kind", "_law_thing_here", "_law_made"] ["_law_kind", "_law_thing_here"] (defScope s_law_error) := ⟨rfl, rfl, rfl, by decide +kernel, rfl, by decide +kernel, by decide +kernel⟩
theorem ok_law_error (T : Top K mg) : FnOk P w K mg base CX0 4 T.f_law_error T.fd_law_error ["_law_kind", "_law_thing_here"] (sp_law_error T 13) := by
  refine T.F_law_error.ok sc_law_error (fun vs H Q E h => ?_) (fun cdv A outer s H vs Q E hr h => ?_)
  · obtain ⟨k, y, rfl, _⟩ := h
    rfl
  · obtain ⟨k, y, rfl, hk, q⟩ := h
    refine ⟨_, pss_cons (ps_if (pt_cmpR op_lt (pv 0) (pe_int) (nomark _)) (pss_one (ps_ret (pe_call (ok_law_first T) (hr.mono (by decide)) (by rfl) T.mg_law_first T.F_law_first.kp T.B_law_first .nil pass0 (pa_cons (pv 0) (pa_cons (pv 1) (pa_nil)))))) (pss_nil)) (pss_cons (ps_if (pt_cmpR op_eq (pv 0) (pe_int) (nomark _)) (pss_cons (ps_set (i := 2) sc_law_error.nd rfl (.inl rfl) (Z.pe_exv T.ex_Unlike (ok_Unlike___init T) (hr.mono (by decide)) (by rfl) T.mgC_Unlike T.B_Unlike___init (pa_cons (pv 1) (pa_nil)))) (pss_one (ps_ret (pe_lst (pa_cons (pv 2) (pa_cons (Z.pe_xv (pv 2) rfl) (pa_nil))))))) (pss_nil)) (pss_cons (ps_if (pt_cmpR op_eq (pv 0) (pe_int) (nomark _)) (pss_cons (ps_set (i := 2) sc_law_error.nd rfl (.inl rfl) (Z.pe_exv T.ex_NoMend (ok_NoMend___init T) (hr.mono (by decide)) (by rfl) T.mgC_NoMend T.B_NoMend___init (pa_cons (pv 1) (pa_nil)))) (pss_one (ps_ret (pe_lst (pa_cons (pv 2) (pa_cons (Z.pe_xv (pv 2) rfl) (pa_nil))))))) (pss_nil)) (pss_cons (ps_if (pt_cmpR op_eq (pv 0) (pe_int) (nomark _)) (pss_cons (ps_set (i := 2) sc_law_error.nd rfl (.inl rfl) (Z.pe_exv T.ex_NoMatch (ok_NoMatch___init T) (hr.mono (by decide)) (by rfl) T.mgC_NoMatch T.B_NoMatch___init (pa_cons (pv 1) (pa_nil)))) (pss_one (ps_ret (pe_lst (pa_cons (pv 2) (pa_cons (Z.pe_xv (pv 2) rfl) (pa_nil))))))) (pss_nil)) (pss_cons (ps_if (pt_cmpR op_eq (pv 0) (pe_int) (nomark _)) (pss_cons (ps_set (i := 2) sc_law_error.nd rfl (.inl rfl) (Z.pe_exv T.ex_TooMany (ok_TooMany___init T) (hr.mono (by decide)) (by rfl) T.mgC_TooMany T.B_TooMany___init (pa_cons (pv 1) (pa_nil)))) (pss_one (ps_ret (pe_lst (pa_cons (pv 2) (pa_cons (Z.pe_xv (pv 2) rfl) (pa_nil))))))) (pss_nil)) (pss_cons (ps_if (pt_cmpR op_eq (pv 0) (pe_int) (nomark _)) (pss_cons (ps_set (i := 2) sc_law_error.nd rfl (.inl rfl) (Z.pe_exv T.ex_NoKey (ok_NoKey___init T) (hr.mono (by decide)) (by rfl) T.mgC_NoKey T.B_NoKey___init (pa_cons (pv 1) (pa_nil)))) (pss_one (ps_ret (pe_lst (pa_cons (pv 2) (pa_cons (Z.pe_xv (pv 2) rfl) (pa_nil))))))) (pss_nil)) (pss_cons (ps_set (i := 2) sc_law_error.nd rfl (.inl rfl) (Z.pe_exv T.ex_NoAnswer (ok_NoAnswer___init T) (hr.mono (by decide)) (by rfl) T.mgC_NoAnswer T.B_NoAnswer___init (pa_cons (pv 1) (pa_nil)))) (pss_one (ps_ret (pe_lst (pa_cons (pv 2) (pa_cons (Z.pe_xv (pv 2) rfl) (pa_nil)))))))))))), ?_⟩
    refine Z.r_start (σ' := [some (.int k), some (y), none]) rfl ?_
    walk_at "go"
    refine Z.ways (fun c => ?_) (fun c => ?_)
    · walk_at "go"
      exact ⟨k, y, rfl, by omega, q⟩
    rcases (show k = 7 ∨ k = 8 ∨ k = 9 ∨ k = 10 ∨ k = 11 ∨ k = 12 by omega) with rfl | rfl | rfl | rfl | rfl | rfl
    · walk_at "go"
      refine k_ex fun a d H1 na nd s1 ha hd => ?_
      walk_at "go"
      refine Z.r_xvV T.ex_Unlike T.no_Unlike_name ha hd Z.look1 ?_
      walk_at "go"
      intro p H2 np s2 hp
      walk_at "go"
      refine q a d p H2 (s1.trans s2) ?_ (s2 _ _ ha) (s2 _ _ hd) hp
      cases z : H p with
      | none => rfl
      | some o => rw [s1 _ _ z] at np; cases np
    · walk_at "go"
      refine k_ex fun a d H1 na nd s1 ha hd => ?_
      walk_at "go"
      refine Z.r_xvV T.ex_NoMend T.no_NoMend_mend ha hd Z.look1 ?_
      walk_at "go"
      intro p H2 np s2 hp
      walk_at "go"
      refine q a d p H2 (s1.trans s2) ?_ (s2 _ _ ha) (s2 _ _ hd) hp
      cases z : H p with
      | none => rfl
      | some o => rw [s1 _ _ z] at np; cases np
    · walk_at "go"
      refine k_ex fun a d H1 na nd s1 ha hd => ?_
      walk_at "go"
      refine Z.r_xvV T.ex_NoMatch T.no_NoMatch_number ha hd Z.look1 ?_
      walk_at "go"
      intro p H2 np s2 hp
      walk_at "go"
      refine q a d p H2 (s1.trans s2) ?_ (s2 _ _ ha) (s2 _ _ hd) hp
      cases z : H p with
      | none => rfl
      | some o => rw [s1 _ _ z] at np; cases np
    · walk_at "go"
      refine k_ex fun a d H1 na nd s1 ha hd => ?_
      walk_at "go"
      refine Z.r_xvV T.ex_TooMany T.no_TooMany_what ha hd Z.look1 ?_
      walk_at "go"
      intro p H2 np s2 hp
      walk_at "go"
      refine q a d p H2 (s1.trans s2) ?_ (s2 _ _ ha) (s2 _ _ hd) hp
      cases z : H p with
      | none => rfl
      | some o => rw [s1 _ _ z] at np; cases np
    · walk_at "go"
      refine k_ex fun a d H1 na nd s1 ha hd => ?_
      walk_at "go"
      refine Z.r_xvV T.ex_NoKey T.no_NoKey_key ha hd Z.look1 ?_
      walk_at "go"
      intro p H2 np s2 hp
      walk_at "go"
      refine q a d p H2 (s1.trans s2) ?_ (s2 _ _ ha) (s2 _ _ hd) hp
      cases z : H p with
      | none => rfl
      | some o => rw [s1 _ _ z] at np; cases np
    · walk_at "go"
      refine k_ex fun a d H1 na nd s1 ha hd => ?_
      walk_at "go"
      refine Z.r_xvV T.ex_NoAnswer T.no_NoAnswer_name ha hd Z.look1 ?_
      walk_at "go"
      intro p H2 np s2 hp
      walk_at "go"
      refine q a d p H2 (s1.trans s2) ?_ (s2 _ _ ha) (s2 _ _ hd) hp
      cases z : H p with
      | none => rfl
      | some o => rw [s1 _ _ z] at np; cases np
theorem k_law_error {T : Top K mg} {n k : Nat} {y : V} {H : Hp} {Q : VK} {E : XK} (hk : k < n) (q : ∀ a d p H1, Same H H1 → H p = none → H1 a = some (exo a (exC T k) (some d)) → H1 d = some (exd d [(exN k, y)]) → H1 p = some (.lst [.ref a, y]) → Q (.ref p) H1) : sp_law_error T n ([.int k, y] ++ []) H Q E := ⟨k, y, rfl, hk, q⟩
theorem sc_law_kinds : FnScope ["_law_made", "_law_found"] ["_law_made"] (defScope s_law_kinds) := ⟨rfl, rfl, rfl, by decide +kernel, rfl, by decide +kernel, by decide +kernel⟩
theorem exF {K : PySem.W.Frag} {mg : Str → Option Value} (T : Top K mg) (k : Nat) (hk : k < 13) : Z.ExF K (exC T k) (exf T k) := by
  rcases (show k = 0 ∨ k = 1 ∨ k = 2 ∨ k = 3 ∨ k = 4 ∨ k = 5 ∨ k = 6 ∨ k = 7 ∨ k = 8 ∨ k = 9 ∨ k = 10 ∨ k = 11 ∨ k = 12 by omega) with rfl | rfl | rfl | rfl | rfl | rfl | rfl | rfl | rfl | rfl | rfl | rfl | rfl
  · exact T.ex_BadSeries
  · exact T.ex_BadProgram
  · exact T.ex_BadMerge
  · exact T.ex_BadRule
  · exact T.ex_BadWish
  · exact T.ex_BadEntry
  · exact T.ex_BadWay
  · exact T.ex_Unlike
  · exact T.ex_NoMend
  · exact T.ex_NoMatch
  · exact T.ex_TooMany
  · exact T.ex_NoKey
  · exact T.ex_NoAnswer
theorem xk_BadSeries {K : PySem.W.Frag} {mg : Str → Option Value} (T : Top K mg) (k : Nat) (hk : k < 13) : PySem.W.kitOne K (.ref (exC T k)) (.ref T.C_BadSeries) = some (decide (k = 0)) := by
  rcases (show k = 0 ∨ k = 1 ∨ k = 2 ∨ k = 3 ∨ k = 4 ∨ k = 5 ∨ k = 6 ∨ k = 7 ∨ k = 8 ∨ k = 9 ∨ k = 10 ∨ k = 11 ∨ k = 12 by omega) with rfl | rfl | rfl | rfl | rfl | rfl | rfl | rfl | rfl | rfl | rfl | rfl | rfl
  · exact T.ki_BadSeries_BadSeries
  · exact T.ki_BadProgram_BadSeries
  · exact T.ki_BadMerge_BadSeries
  · exact T.ki_BadRule_BadSeries
  · exact T.ki_BadWish_BadSeries
  · exact T.ki_BadEntry_BadSeries
  · exact T.ki_BadWay_BadSeries
  · exact T.ki_Unlike_BadSeries
  · exact T.ki_NoMend_BadSeries
  · exact T.ki_NoMatch_BadSeries
  · exact T.ki_TooMany_BadSeries
  · exact T.ki_NoKey_BadSeries
  · exact T.ki_NoAnswer_BadSeries
theorem xk_BadProgram {K : PySem.W.Frag} {mg : Str → Option Value} (T : Top K mg) (k : Nat) (hk : k < 13) : PySem.W.kitOne K (.ref (exC T k)) (.ref T.C_BadProgram) = some (decide (k = 1)) := by
  rcases (show k = 0 ∨ k = 1 ∨ k = 2 ∨ k = 3 ∨ k = 4 ∨ k = 5 ∨ k = 6 ∨ k = 7 ∨ k = 8 ∨ k = 9 ∨ k = 10 ∨ k = 11 ∨ k = 12 by omega) with rfl | rfl | rfl | rfl | rfl | rfl | rfl | rfl | rfl | rfl | rfl | rfl | rfl
  · exact T.ki_BadSeries_BadProgram
  · exact T.ki_BadProgram_BadProgram
  · exact T.ki_BadMerge_BadProgram
  · exact T.ki_BadRule_BadProgram
  · exact T.ki_BadWish_BadProgram
  · exact T.ki_BadEntry_BadProgram
  · exact T.ki_BadWay_BadProgram
  · exact T.ki_Unlike_BadProgram
  · exact T.ki_NoMend_BadProgram
  · exact T.ki_NoMatch_BadProgram
  · exact T.ki_TooMany_BadProgram
  · exact T.ki_NoKey_BadProgram
  · exact T.ki_NoAnswer_BadProgram
theorem xk_BadMerge {K : PySem.W.Frag} {mg : Str → Option Value} (T : Top K mg) (k : Nat) (hk : k < 13) : PySem.W.kitOne K (.ref (exC T k)) (.ref T.C_BadMerge) = some (decide (k = 2)) := by
  rcases (show k = 0 ∨ k = 1 ∨ k = 2 ∨ k = 3 ∨ k = 4 ∨ k = 5 ∨ k = 6 ∨ k = 7 ∨ k = 8 ∨ k = 9 ∨ k = 10 ∨ k = 11 ∨ k = 12 by omega) with rfl | rfl | rfl | rfl | rfl | rfl | rfl | rfl | rfl | rfl | rfl | rfl | rfl
  · exact T.ki_BadSeries_BadMerge
  · exact T.ki_BadProgram_BadMerge
  · exact T.ki_BadMerge_BadMerge
  · exact T.ki_BadRule_BadMerge
  · exact T.ki_BadWish_BadMerge
  · exact T.ki_BadEntry_BadMerge
  · exact T.ki_BadWay_BadMerge
  · exact T.ki_Unlike_BadMerge
  · exact T.ki_NoMend_BadMerge
  · exact T.ki_NoMatch_BadMerge
  · exact T.ki_TooMany_BadMerge
  · exact T.ki_NoKey_BadMerge
  · exact T.ki_NoAnswer_BadMerge
theorem xk_BadRule {K : PySem.W.Frag} {mg : Str → Option Value} (T : Top K mg) (k : Nat) (hk : k < 13) : PySem.W.kitOne K (.ref (exC T k)) (.ref T.C_BadRule) = some (decide (k = 3)) := by
  rcases (show k = 0 ∨ k = 1 ∨ k = 2 ∨ k = 3 ∨ k = 4 ∨ k = 5 ∨ k = 6 ∨ k = 7 ∨ k = 8 ∨ k = 9 ∨ k = 10 ∨ k = 11 ∨ k = 12 by omega) with rfl | rfl | rfl | rfl | rfl | rfl | rfl | rfl | rfl | rfl | rfl | rfl | rfl
  · exact T.ki_BadSeries_BadRule
  · exact T.ki_BadProgram_BadRule
  · exact T.ki_BadMerge_BadRule
  · exact T.ki_BadRule_BadRule
  · exact T.ki_BadWish_BadRule
  · exact T.ki_BadEntry_BadRule
  · exact T.ki_BadWay_BadRule
  · exact T.ki_Unlike_BadRule
  · exact T.ki_NoMend_BadRule
  · exact T.ki_NoMatch_BadRule
  · exact T.ki_TooMany_BadRule
  · exact T.ki_NoKey_BadRule
  · exact T.ki_NoAnswer_BadRule
theorem xk_BadWish {K : PySem.W.Frag} {mg : Str → Option Value} (T : Top K mg) (k : Nat) (hk : k < 13) : PySem.W.kitOne K (.ref (exC T k)) (.ref T.C_BadWish) = some (decide (k = 4)) := by
  rcases (show k = 0 ∨ k = 1 ∨ k = 2 ∨ k = 3 ∨ k = 4 ∨ k = 5 ∨ k = 6 ∨ k = 7 ∨ k = 8 ∨ k = 9 ∨ k = 10 ∨ k = 11 ∨ k = 12 by omega) with rfl | rfl | rfl | rfl | rfl | rfl | rfl | rfl | rfl | rfl | rfl | rfl | rfl
  · exact T.ki_BadSeries_BadWish
  · exact T.ki_BadProgram_BadWish
  · exact T.ki_BadMerge_BadWish
  · exact T.ki_BadRule_BadWish
  · exact T.ki_BadWish_BadWish
  · exact T.ki_BadEntry_BadWish
  · exact T.ki_BadWay_BadWish
  · exact T.ki_Unlike_BadWish
  · exact T.ki_NoMend_BadWish
  · exact T.ki_NoMatch_BadWish
  · exact T.ki_TooMany_BadWish
  · exact T.ki_NoKey_BadWish
  · exact T.ki_NoAnswer_BadWish
theorem xk_BadEntry {K : PySem.W.Frag} {mg : Str → Option Value} (T : Top K mg) (k : Nat) (hk : k < 13) : PySem.W.kitOne K (.ref (exC T k)) (.ref T.C_BadEntry) = some (decide (k = 5)) := by
  rcases (show k = 0 ∨ k = 1 ∨ k = 2 ∨ k = 3 ∨ k = 4 ∨ k = 5 ∨ k = 6 ∨ k = 7 ∨ k = 8 ∨ k = 9 ∨ k = 10 ∨ k = 11 ∨ k = 12 by omega) with rfl | rfl | rfl | rfl | rfl | rfl | rfl | rfl | rfl | rfl | rfl | rfl | rfl
  · exact T.ki_BadSeries_BadEntry
  · exact T.ki_BadProgram_BadEntry
  · exact T.ki_BadMerge_BadEntry
  · exact T.ki_BadRule_BadEntry
  · exact T.ki_BadWish_BadEntry
  · exact T.ki_BadEntry_BadEntry
  · exact T.ki_BadWay_BadEntry
  · exact T.ki_Unlike_BadEntry
  · exact T.ki_NoMend_BadEntry
  · exact T.ki_NoMatch_BadEntry
  · exact T.ki_TooMany_BadEntry
  · exact T.ki_NoKey_BadEntry
  · exact T.ki_NoAnswer_BadEntry
theorem xk_BadWay {K : PySem.W.Frag} {mg : Str → Option Value} (T : Top K mg) (k : Nat) (hk : k < 13) : PySem.W.kitOne K (.ref (exC T k)) (.ref T.C_BadWay) = some (decide (k = 6)) := by
  rcases (show k = 0 ∨ k = 1 ∨ k = 2 ∨ k = 3 ∨ k = 4 ∨ k = 5 ∨ k = 6 ∨ k = 7 ∨ k = 8 ∨ k = 9 ∨ k = 10 ∨ k = 11 ∨ k = 12 by omega) with rfl | rfl | rfl | rfl | rfl | rfl | rfl | rfl | rfl | rfl | rfl | rfl | rfl
  · exact T.ki_BadSeries_BadWay
  · exact T.ki_BadProgram_BadWay
  · exact T.ki_BadMerge_BadWay
  · exact T.ki_BadRule_BadWay
  · exact T.ki_BadWish_BadWay
  · exact T.ki_BadEntry_BadWay
  · exact T.ki_BadWay_BadWay
  · exact T.ki_Unlike_BadWay
  · exact T.ki_NoMend_BadWay
  · exact T.ki_NoMatch_BadWay
  · exact T.ki_TooMany_BadWay
  · exact T.ki_NoKey_BadWay
  · exact T.ki_NoAnswer_BadWay
theorem xk_Unlike {K : PySem.W.Frag} {mg : Str → Option Value} (T : Top K mg) (k : Nat) (hk : k < 13) : PySem.W.kitOne K (.ref (exC T k)) (.ref T.C_Unlike) = some (decide (k = 7)) := by
  rcases (show k = 0 ∨ k = 1 ∨ k = 2 ∨ k = 3 ∨ k = 4 ∨ k = 5 ∨ k = 6 ∨ k = 7 ∨ k = 8 ∨ k = 9 ∨ k = 10 ∨ k = 11 ∨ k = 12 by omega) with rfl | rfl | rfl | rfl | rfl | rfl | rfl | rfl | rfl | rfl | rfl | rfl | rfl
  · exact T.ki_BadSeries_Unlike
  · exact T.ki_BadProgram_Unlike
  · exact T.ki_BadMerge_Unlike
  · exact T.ki_BadRule_Unlike
  · exact T.ki_BadWish_Unlike
  · exact T.ki_BadEntry_Unlike
  · exact T.ki_BadWay_Unlike
  · exact T.ki_Unlike_Unlike
  · exact T.ki_NoMend_Unlike
  · exact T.ki_NoMatch_Unlike
  · exact T.ki_TooMany_Unlike
  · exact T.ki_NoKey_Unlike
  · exact T.ki_NoAnswer_Unlike
theorem xk_NoMend {K : PySem.W.Frag} {mg : Str → Option Value} (T : Top K mg) (k : Nat) (hk : k < 13) : PySem.W.kitOne K (.ref (exC T k)) (.ref T.C_NoMend) = some (decide (k = 8)) := by
  rcases (show k = 0 ∨ k = 1 ∨ k = 2 ∨ k = 3 ∨ k = 4 ∨ k = 5 ∨ k = 6 ∨ k = 7 ∨ k = 8 ∨ k = 9 ∨ k = 10 ∨ k = 11 ∨ k = 12 by omega) with rfl | rfl | rfl | rfl | rfl | rfl | rfl | rfl | rfl | rfl | rfl | rfl | rfl
  · exact T.ki_BadSeries_NoMend
  · exact T.ki_BadProgram_NoMend
  · exact T.ki_BadMerge_NoMend
  · exact T.ki_BadRule_NoMend
  · exact T.ki_BadWish_NoMend
  · exact T.ki_BadEntry_NoMend
  · exact T.ki_BadWay_NoMend
  · exact T.ki_Unlike_NoMend
  · exact T.ki_NoMend_NoMend
  · exact T.ki_NoMatch_NoMend
  · exact T.ki_TooMany_NoMend
  · exact T.ki_NoKey_NoMend
  · exact T.ki_NoAnswer_NoMend
theorem xk_NoMatch {K : PySem.W.Frag} {mg : Str → Option Value} (T : Top K mg) (k : Nat) (hk : k < 13) : PySem.W.kitOne K (.ref (exC T k)) (.ref T.C_NoMatch) = some (decide (k = 9)) := by
  rcases (show k = 0 ∨ k = 1 ∨ k = 2 ∨ k = 3 ∨ k = 4 ∨ k = 5 ∨ k = 6 ∨ k = 7 ∨ k = 8 ∨ k = 9 ∨ k = 10 ∨ k = 11 ∨ k = 12 by omega) with rfl | rfl | rfl | rfl | rfl | rfl | rfl | rfl | rfl | rfl | rfl | rfl | rfl
  · exact T.ki_BadSeries_NoMatch
  · exact T.ki_BadProgram_NoMatch
  · exact T.ki_BadMerge_NoMatch
  · exact T.ki_BadRule_NoMatch
  · exact T.ki_BadWish_NoMatch
  · exact T.ki_BadEntry_NoMatch
  · exact T.ki_BadWay_NoMatch
  · exact T.ki_Unlike_NoMatch
  · exact T.ki_NoMend_NoMatch
  · exact T.ki_NoMatch_NoMatch
  · exact T.ki_TooMany_NoMatch
  · exact T.ki_NoKey_NoMatch
  · exact T.ki_NoAnswer_NoMatch
theorem xk_TooMany {K : PySem.W.Frag} {mg : Str → Option Value} (T : Top K mg) (k : Nat) (hk : k < 13) : PySem.W.kitOne K (.ref (exC T k)) (.ref T.C_TooMany) = some (decide (k = 10)) := by
  rcases (show k = 0 ∨ k = 1 ∨ k = 2 ∨ k = 3 ∨ k = 4 ∨ k = 5 ∨ k = 6 ∨ k = 7 ∨ k = 8 ∨ k = 9 ∨ k = 10 ∨ k = 11 ∨ k = 12 by omega) with rfl | rfl | rfl | rfl | rfl | rfl | rfl | rfl | rfl | rfl | rfl | rfl | rfl
  · exact T.ki_BadSeries_TooMany
  · exact T.ki_BadProgram_TooMany
  · exact T.ki_BadMerge_TooMany
  · exact T.ki_BadRule_TooMany
  · exact T.ki_BadWish_TooMany
  · exact T.ki_BadEntry_TooMany
  · exact T.ki_BadWay_TooMany
  · exact T.ki_Unlike_TooMany
  · exact T.ki_NoMend_TooMany
  · exact T.ki_NoMatch_TooMany
  · exact T.ki_TooMany_TooMany
  · exact T.ki_NoKey_TooMany
  · exact T.ki_NoAnswer_TooMany
theorem xk_NoKey {K : PySem.W.Frag} {mg : Str → Option Value} (T : Top K mg) (k : Nat) (hk : k < 13) : PySem.W.kitOne K (.ref (exC T k)) (.ref T.C_NoKey) = some (decide (k = 11)) := by
  rcases (show k = 0 ∨ k = 1 ∨ k = 2 ∨ k = 3 ∨ k = 4 ∨ k = 5 ∨ k = 6 ∨ k = 7 ∨ k = 8 ∨ k = 9 ∨ k = 10 ∨ k = 11 ∨ k = 12 by omega) with rfl | rfl | rfl | rfl | rfl | rfl | rfl | rfl | rfl | rfl | rfl | rfl | rfl
  · exact T.ki_BadSeries_NoKey
  · exact T.ki_BadProgram_NoKey
  · exact T.ki_BadMerge_NoKey
  · exact T.ki_BadRule_NoKey
  · exact T.ki_BadWish_NoKey
  · exact T.ki_BadEntry_NoKey
  · exact T.ki_BadWay_NoKey
  · exact T.ki_Unlike_NoKey
  · exact T.ki_NoMend_NoKey
  · exact T.ki_NoMatch_NoKey
  · exact T.ki_TooMany_NoKey
  · exact T.ki_NoKey_NoKey
  · exact T.ki_NoAnswer_NoKey
theorem xk_NoAnswer {K : PySem.W.Frag} {mg : Str → Option Value} (T : Top K mg) (k : Nat) (hk : k < 13) : PySem.W.kitOne K (.ref (exC T k)) (.ref T.C_NoAnswer) = some (decide (k = 12)) := by
  rcases (show k = 0 ∨ k = 1 ∨ k = 2 ∨ k = 3 ∨ k = 4 ∨ k = 5 ∨ k = 6 ∨ k = 7 ∨ k = 8 ∨ k = 9 ∨ k = 10 ∨ k = 11 ∨ k = 12 by omega) with rfl | rfl | rfl | rfl | rfl | rfl | rfl | rfl | rfl | rfl | rfl | rfl | rfl
  · exact T.ki_BadSeries_NoAnswer
  · exact T.ki_BadProgram_NoAnswer
  · exact T.ki_BadMerge_NoAnswer
  · exact T.ki_BadRule_NoAnswer
  · exact T.ki_BadWish_NoAnswer
  · exact T.ki_BadEntry_NoAnswer
  · exact T.ki_BadWay_NoAnswer
  · exact T.ki_Unlike_NoAnswer
  · exact T.ki_NoMend_NoAnswer
  · exact T.ki_NoMatch_NoAnswer
  · exact T.ki_TooMany_NoAnswer
  · exact T.ki_NoKey_NoAnswer
  · exact T.ki_NoAnswer_NoAnswer
theorem xk_UnnumberedError {K : PySem.W.Frag} {mg : Str → Option Value} (T : Top K mg) (k : Nat) (hk : k < 13) : PySem.W.kitOne K (.ref (exC T k)) (.ref T.C_UnnumberedError) = some (decide (k < 11)) := by
  rcases (show k = 0 ∨ k = 1 ∨ k = 2 ∨ k = 3 ∨ k = 4 ∨ k = 5 ∨ k = 6 ∨ k = 7 ∨ k = 8 ∨ k = 9 ∨ k = 10 ∨ k = 11 ∨ k = 12 by omega) with rfl | rfl | rfl | rfl | rfl | rfl | rfl | rfl | rfl | rfl | rfl | rfl | rfl
  · exact T.ki_BadSeries_UnnumberedError
  · exact T.ki_BadProgram_UnnumberedError
  · exact T.ki_BadMerge_UnnumberedError
  · exact T.ki_BadRule_UnnumberedError
  · exact T.ki_BadWish_UnnumberedError
  · exact T.ki_BadEntry_UnnumberedError
  · exact T.ki_BadWay_UnnumberedError
  · exact T.ki_Unlike_UnnumberedError
  · exact T.ki_NoMend_UnnumberedError
  · exact T.ki_NoMatch_UnnumberedError
  · exact T.ki_TooMany_UnnumberedError
  · exact T.ki_NoKey_UnnumberedError
  · exact T.ki_NoAnswer_UnnumberedError
theorem xk_ValueError {K : PySem.W.Frag} {mg : Str → Option Value} (T : Top K mg) (k : Nat) (hk : k < 13) : PySem.W.kitOne K (.ref (exC T k)) (.type "ValueError") = some (decide (k < 11)) := by
  rcases (show k = 0 ∨ k = 1 ∨ k = 2 ∨ k = 3 ∨ k = 4 ∨ k = 5 ∨ k = 6 ∨ k = 7 ∨ k = 8 ∨ k = 9 ∨ k = 10 ∨ k = 11 ∨ k = 12 by omega) with rfl | rfl | rfl | rfl | rfl | rfl | rfl | rfl | rfl | rfl | rfl | rfl | rfl
  · exact T.ki_BadSeries_ValueError
  · exact T.ki_BadProgram_ValueError
  · exact T.ki_BadMerge_ValueError
  · exact T.ki_BadRule_ValueError
  · exact T.ki_BadWish_ValueError
  · exact T.ki_BadEntry_ValueError
  · exact T.ki_BadWay_ValueError
  · exact T.ki_Unlike_ValueError
  · exact T.ki_NoMend_ValueError
  · exact T.ki_NoMatch_ValueError
  · exact T.ki_TooMany_ValueError
  · exact T.ki_NoKey_ValueError
  · exact T.ki_NoAnswer_ValueError
theorem xk_LookupError {K : PySem.W.Frag} {mg : Str → Option Value} (T : Top K mg) (k : Nat) (hk : k < 13) : PySem.W.kitOne K (.ref (exC T k)) (.type "LookupError") = some (decide (k > 10)) := by
  rcases (show k = 0 ∨ k = 1 ∨ k = 2 ∨ k = 3 ∨ k = 4 ∨ k = 5 ∨ k = 6 ∨ k = 7 ∨ k = 8 ∨ k = 9 ∨ k = 10 ∨ k = 11 ∨ k = 12 by omega) with rfl | rfl | rfl | rfl | rfl | rfl | rfl | rfl | rfl | rfl | rfl | rfl | rfl
  · exact T.ki_BadSeries_LookupError
  · exact T.ki_BadProgram_LookupError
  · exact T.ki_BadMerge_LookupError
  · exact T.ki_BadRule_LookupError
  · exact T.ki_BadWish_LookupError
  · exact T.ki_BadEntry_LookupError
  · exact T.ki_BadWay_LookupError
  · exact T.ki_Unlike_LookupError
  · exact T.ki_NoMend_LookupError
  · exact T.ki_NoMatch_LookupError
  · exact T.ki_TooMany_LookupError
  · exact T.ki_NoKey_LookupError
  · exact T.ki_NoAnswer_LookupError
theorem xk_KeyError {K : PySem.W.Frag} {mg : Str → Option Value} (T : Top K mg) (k : Nat) (hk : k < 13) : PySem.W.kitOne K (.ref (exC T k)) (.type "KeyError") = some false := by
  rcases (show k = 0 ∨ k = 1 ∨ k = 2 ∨ k = 3 ∨ k = 4 ∨ k = 5 ∨ k = 6 ∨ k = 7 ∨ k = 8 ∨ k = 9 ∨ k = 10 ∨ k = 11 ∨ k = 12 by omega) with rfl | rfl | rfl | rfl | rfl | rfl | rfl | rfl | rfl | rfl | rfl | rfl | rfl
  · exact T.ki_BadSeries_KeyError
  · exact T.ki_BadProgram_KeyError
  · exact T.ki_BadMerge_KeyError
  · exact T.ki_BadRule_KeyError
  · exact T.ki_BadWish_KeyError
  · exact T.ki_BadEntry_KeyError
  · exact T.ki_BadWay_KeyError
  · exact T.ki_Unlike_KeyError
  · exact T.ki_NoMend_KeyError
  · exact T.ki_NoMatch_KeyError
  · exact T.ki_TooMany_KeyError
  · exact T.ki_NoKey_KeyError
  · exact T.ki_NoAnswer_KeyError
local macro_rules | `(tactic| walk_at "kx") => `(tactic| first
  | exact xk_BadSeries _ _ (by assumption)
  | exact xk_BadProgram _ _ (by assumption)
  | exact xk_BadMerge _ _ (by assumption)
  | exact xk_BadRule _ _ (by assumption)
  | exact xk_BadWish _ _ (by assumption)
  | exact xk_BadEntry _ _ (by assumption)
  | exact xk_BadWay _ _ (by assumption)
  | exact xk_Unlike _ _ (by assumption)
  | exact xk_NoMend _ _ (by assumption)
  | exact xk_NoMatch _ _ (by assumption)
  | exact xk_TooMany _ _ (by assumption)
  | exact xk_NoKey _ _ (by assumption)
  | exact xk_NoAnswer _ _ (by assumption)
  | exact xk_UnnumberedError _ _ (by assumption)
  | exact xk_ValueError _ _ (by assumption)
  | exact xk_LookupError _ _ (by assumption)
  | exact xk_KeyError _ _ (by assumption))
local macro_rules | `(tactic| walk_at "call") => `(tactic| ((with_reducible refine' Z.r_isX ?k ?T ?ea ?ed ?ek ?_); (case k => first | exact .own _ | exact .ty _); (case ea => walk_at "hp"); (case ed => walk_at "hp"); (case T => exact exF _ _ (by assumption)); (case ek => walk_at "kx")))
def kinds (k : Nat) : List Bool := (List.range 13).map fun j => decide (k = j)
def sp_law_kinds {K : PySem.W.Frag} {mg : Str → Option Value} (T : Top K mg) : Sp := fun vs H Q _ => ∃ (a d : Addr) (k : Nat) (fs : List (Str × V)), vs = [.ref a] ∧ k < 13 ∧ H a = some (exo a (exC T k) (some d)) ∧ H d = some (exd d fs) ∧
  ∀ p H1, H p = none → Same H H1 → H1 p = some (.lst ((kinds k).map V.bl)) → Q (.ref p) H1
theorem ok_law_kinds (T : Top K mg) : FnOk P w K mg base CX0 1 T.f_law_kinds T.fd_law_kinds ["_law_made"] (sp_law_kinds T) := by
  refine T.F_law_kinds.ok sc_law_kinds (fun vs H Q E h => ?_) (fun cdv A outer s H vs Q E hr h => ?_)
  · obtain ⟨a, d, k, fs, rfl, _⟩ := h
    rfl
  · obtain ⟨a, d, k, fs, rfl, hk, ha, hd, q⟩ := h
    refine ⟨_, pss_cons (ps_set (i := 1) sc_law_kinds.nd rfl (.inl rfl) (pe_lst (pa_cons (pe_callB (Z.c_isX (K := K) rfl) (by rfl) T.z_isinstance (by decide +kernel) (pa_cons (pv 0) (pa_cons (pe_glob (v := .ref T.C_BadSeries) (by exact rfl) T.mgC_BadSeries rfl) (pa_nil)))) (pa_cons (pe_callB (Z.c_isX (K := K) rfl) (by rfl) T.z_isinstance (by decide +kernel) (pa_cons (pv 0) (pa_cons (pe_glob (v := .ref T.C_BadProgram) (by exact rfl) T.mgC_BadProgram rfl) (pa_nil)))) (pa_cons (pe_callB (Z.c_isX (K := K) rfl) (by rfl) T.z_isinstance (by decide +kernel) (pa_cons (pv 0) (pa_cons (pe_glob (v := .ref T.C_BadMerge) (by exact rfl) T.mgC_BadMerge rfl) (pa_nil)))) (pa_cons (pe_callB (Z.c_isX (K := K) rfl) (by rfl) T.z_isinstance (by decide +kernel) (pa_cons (pv 0) (pa_cons (pe_glob (v := .ref T.C_BadRule) (by exact rfl) T.mgC_BadRule rfl) (pa_nil)))) (pa_nil))))))) (pss_cons (ps_set (i := 1) sc_law_kinds.nd rfl (.inl rfl) (pe_op op_cat (pv 1) (pe_lst (pa_cons (pe_callB (Z.c_isX (K := K) rfl) (by rfl) T.z_isinstance (by decide +kernel) (pa_cons (pv 0) (pa_cons (pe_glob (v := .ref T.C_BadWish) (by exact rfl) T.mgC_BadWish rfl) (pa_nil)))) (pa_cons (pe_callB (Z.c_isX (K := K) rfl) (by rfl) T.z_isinstance (by decide +kernel) (pa_cons (pv 0) (pa_cons (pe_glob (v := .ref T.C_BadEntry) (by exact rfl) T.mgC_BadEntry rfl) (pa_nil)))) (pa_cons (pe_callB (Z.c_isX (K := K) rfl) (by rfl) T.z_isinstance (by decide +kernel) (pa_cons (pv 0) (pa_cons (pe_glob (v := .ref T.C_BadWay) (by exact rfl) T.mgC_BadWay rfl) (pa_nil)))) (pa_cons (pe_callB (Z.c_isX (K := K) rfl) (by rfl) T.z_isinstance (by decide +kernel) (pa_cons (pv 0) (pa_cons (pe_glob (v := .ref T.C_Unlike) (by exact rfl) T.mgC_Unlike rfl) (pa_nil)))) (pa_nil)))))))) (pss_cons (ps_set (i := 1) sc_law_kinds.nd rfl (.inl rfl) (pe_op op_cat (pv 1) (pe_lst (pa_cons (pe_callB (Z.c_isX (K := K) rfl) (by rfl) T.z_isinstance (by decide +kernel) (pa_cons (pv 0) (pa_cons (pe_glob (v := .ref T.C_NoMend) (by exact rfl) T.mgC_NoMend rfl) (pa_nil)))) (pa_cons (pe_callB (Z.c_isX (K := K) rfl) (by rfl) T.z_isinstance (by decide +kernel) (pa_cons (pv 0) (pa_cons (pe_glob (v := .ref T.C_NoMatch) (by exact rfl) T.mgC_NoMatch rfl) (pa_nil)))) (pa_cons (pe_callB (Z.c_isX (K := K) rfl) (by rfl) T.z_isinstance (by decide +kernel) (pa_cons (pv 0) (pa_cons (pe_glob (v := .ref T.C_TooMany) (by exact rfl) T.mgC_TooMany rfl) (pa_nil)))) (pa_nil))))))) (pss_one (ps_ret (pe_op op_cat (pv 1) (pe_lst (pa_cons (pe_callB (Z.c_isX (K := K) rfl) (by rfl) T.z_isinstance (by decide +kernel) (pa_cons (pv 0) (pa_cons (pe_glob (v := .ref T.C_NoKey) (by exact rfl) T.mgC_NoKey rfl) (pa_nil)))) (pa_cons (pe_callB (Z.c_isX (K := K) rfl) (by rfl) T.z_isinstance (by decide +kernel) (pa_cons (pv 0) (pa_cons (pe_glob (v := .ref T.C_NoAnswer) (by exact rfl) T.mgC_NoAnswer rfl) (pa_nil)))) (pa_nil))))))))), ?_⟩
    refine Z.r_start (σ' := [some (.ref a), none]) rfl ?_
    walk_at "go"
    intro p1 H1 n1 s1 h1
    walk_at "go"
    intro p2 H2 n2 s2 h2
    refine Z.r_cat (s2 _ _ h1) h2 (Nat.le_of_ble_eq_true rfl) fun p3 H3 n3 s3 h3 => ?_
    walk_at "go"
    intro p4 H4 n4 s4 h4
    refine Z.r_cat (s4 _ _ h3) h4 (Nat.le_of_ble_eq_true rfl) fun p5 H5 n5 s5 h5 => ?_
    walk_at "go"
    intro p6 H6 n6 s6 h6
    refine Z.r_cat (s6 _ _ h5) h6 (Nat.le_of_ble_eq_true rfl) fun p7 H7 n7 s7 h7 => ?_
    walk_at "go"
    have sa := ((((s1.trans s2).trans s3).trans s4).trans s5).trans s6
    refine q p7 H7 ?_ (sa.trans s7) h7
    cases z : H p7 with
    | none => rfl
    | some o => rw [sa _ _ z] at n7; cases n7
theorem sc_law_thing : FnScope ["_law_bag_here", "_law_road", "_law_word_here"] ["_law_bag_here"] (defScope s_law_thing) := ⟨rfl, rfl, rfl, by decide +kernel, rfl, by decide +kernel, by decide +kernel⟩
/-- what a field may be -/
def ThingV (C : Addr) (H : Hp) (v : V) : Prop := (∃ i, v = .int i) ∨ (∃ s, v = .str s) ∨ v = .non ∨ v = .bl true ∨ (∃ p x, v = .ref p ∧ H p = some (.tup [.int 0, x])) ∨ ∃ a dx fs, v = .ref a ∧ H a = some (.ins C dx fs)
theorem ThingV.but {C b : Addr} {H H' : Hp} {v : V} {xs : List V} (e : Z.But b H H') (hb : H b = some (.lst xs)) (h : ThingV C H v) : ThingV C H' v := by
  rcases h with h | h | h | h | ⟨p, x, h1, h2⟩ | ⟨a, dx, fs, h1, h2⟩
  · exact .inl h
  · exact .inr (.inl h)
  · exact .inr (.inr (.inl h))
  · exact .inr (.inr (.inr (.inl h)))
  · exact .inr (.inr (.inr (.inr (.inl ⟨p, x, h1, e _ _ (ne_of h2 hb (by intro z; cases z)) h2⟩))))
  · exact .inr (.inr (.inr (.inr (.inr ⟨a, dx, fs, h1, e _ _ (ne_of h2 hb (by intro z; cases z)) h2⟩))))
theorem ThingV.same {C : Addr} {H H' : Hp} {v : V} (e : Same H H') (h : ThingV C H v) : ThingV C H' v := by
  rcases h with h | h | h | h | ⟨p, x, h1, h2⟩ | ⟨a, dx, fs, h1, h2⟩
  · exact .inl h
  · exact .inr (.inl h)
  · exact .inr (.inr (.inl h))
  · exact .inr (.inr (.inr (.inl h)))
  · exact .inr (.inr (.inr (.inr (.inl ⟨p, x, h1, e _ _ h2⟩))))
  · exact .inr (.inr (.inr (.inr (.inr ⟨a, dx, fs, h1, e _ _ h2⟩))))
theorem ThingV.eq {P : Program} {w : World} {K : PySem.W.Frag} {mg : Str → Option Value} {base : Heap} {k : Nat} {C : Addr} {H : Hp} {v : V} (h : ThingV C H v) : Z.EqG P w K mg base k v v H true := by
  have fl : ∀ u : V, flatV u = true → eqV u u = true → Z.EqG P w K mg base k u u H true := fun u f e => e ▸ Z.EqG.flat f f
  rcases h with ⟨i, rfl⟩ | ⟨s, rfl⟩ | rfl | rfl | ⟨p, x, rfl, h2⟩ | ⟨a, dx, fs, rfl, h2⟩
  · exact fl _ rfl (by simp [eqV])
  · exact fl _ rfl (by simp [eqV])
  · exact fl _ rfl (by simp [eqV])
  · exact fl _ rfl (by simp [eqV])
  · exact .same
  · exact .same
theorem ThingV.kit {K : PySem.W.Frag} {mg : Str → Option Value} (T : Top K mg) {H : Hp} {v : V} (h : ThingV T.C_Unnumbered H v) : ∃ t b, TyX K H v t ∧ PySem.W.kitOne K t (.type "bool") = some b := by
  rcases h with ⟨i, rfl⟩ | ⟨s, rfl⟩ | rfl | rfl | ⟨p, x, rfl, h2⟩ | ⟨a, dx, fs, rfl, h2⟩
  all_goals exact ⟨_, _, by walk_at "ty", by walk_at "ki"⟩
def sp_law_thing (C : Addr) : Sp := fun vs H Q _ => ∃ (b : Addr) (n : Nat), vs = [.ref b] ∧ Bag H b n ∧ n ≤ 1000000 ∧ ∀ v H', Z.But b H H' → Bag H' b (n + 130) → ThingV C H' v → Q v H'
theorem ok_law_thing (T : Top K mg) : FnOk P w K mg base CX0 3 T.f_law_thing T.fd_law_thing ["_law_bag_here"] (sp_law_thing T.C_Unnumbered) := by
  refine T.F_law_thing.ok sc_law_thing (fun vs H Q E h => ?_) (fun cdv A outer s H vs Q E hr h => ?_)
  · obtain ⟨b, n, rfl, _⟩ := h
    rfl
  · obtain ⟨b, n, rfl, hb, hn, q⟩ := h
    refine ⟨_, pss_cons (ps_par (i := 1) (j := 2) rfl sc_law_thing.nd rfl rfl (by decide) rfl rfl (pa_cons (pe_call (ok_law_draw T) (hr.mono (by decide)) (by rfl) T.mg_law_draw T.F_law_draw.kp T.B_law_draw .nil pass0 (pa_cons (pv 0) (pa_cons (pe_int) (pa_nil)))) (pa_cons (pe_call (ok_law_word T) (hr.mono (by decide)) (by rfl) T.mg_law_word T.F_law_word.kp T.B_law_word .nil pass0 (pa_cons (pv 0) (pa_nil))) (pa_nil))) (by rfl)) (pss_cons (ps_if (pt_cmpR op_eq (pv 1) (pe_int) (nomark _)) (pss_one (ps_ret (pe_make T.mk_Unnumbered (ok_Unnumbered___init T) (hr.mono (by decide)) (by rfl) T.mgC_Unnumbered T.B_Unnumbered___init .nil pass0 (pa_cons (pv 2) (pa_nil))))) (pss_nil)) (pss_one (ps_ret (pe_ix (Z.ix_seqG (K := K) rfl) (pe_lst (pa_cons (pe_call (ok_law_number T) (hr.mono (by decide)) (by rfl) T.mg_law_number T.F_law_number.kp T.B_law_number .nil pass0 (pa_cons (pv 0) (pa_nil))) (pa_cons (pv 2) (pa_cons (pe_non) (pa_cons (pe_bl) (pa_cons (pe_tup (pa_cons (pe_int) (pa_cons (pv 2) (pa_nil)))) (pa_nil))))))) (pv 1) (fun _ _ => rfl))))), ?_⟩
    refine Z.r_start (σ' := [some (.ref b), none, none]) rfl ?_
    walk_at "go"
    walk_at "draw"
    intro r H1 r0 r1 t1 g1
    walk_at "go"
    refine k_law_word g1 (by omega) ?_
    intro x H2 hx t2 g2
    walk_at "go"
    refine Z.ways (fun c => ?_) (fun c => ?_)
    · walk_at "go"
      intro u dx H3 nu s3 hu
      walk_at "go"
      exact q _ _ ((t1.trans t2).trans (Z.But.same s3)) ((g2.same s3).mono (by omega)) (.inr (.inr (.inr (.inr (.inr ⟨u, dx, _, rfl, hu⟩)))))
    · walk_at "go"
      refine k_law_number g2 (by omega) ?_
      intro i H3 hi t3 g3
      walk_at "go"
      intro p H4 np s4 hp
      walk_at "go"
      intro l H5 nl s5 hl
      have t := (((t1.trans t2).trans t3).trans (Z.But.same s4)).trans (Z.But.same s5)
      have g := ((g3.same s4).same s5).mono (show n + 1 + 60 + 60 ≤ n + 130 by omega)
      have hp5 := s5 _ _ hp
      rcases (show r = 0 ∨ r = 1 ∨ r = 2 ∨ r = 3 ∨ r = 4 by omega) with rfl | rfl | rfl | rfl | rfl
      · walk_at "go"
        exact q _ _ t g (.inl ⟨_, rfl⟩)
      · walk_at "go"
        exact q _ _ t g (.inr (.inl ⟨_, rfl⟩))
      · walk_at "go"
        exact q _ _ t g (.inr (.inr (.inl rfl)))
      · walk_at "go"
        exact q _ _ t g (.inr (.inr (.inr (.inl rfl))))
      · walk_at "go"
        exact q _ _ t g (.inr (.inr (.inr (.inr (.inl ⟨p, _, rfl, hp5⟩)))))
theorem k_law_thing {C b : Addr} {n : Nat} {H : Hp} {Q : VK} {E : XK} (bg : Bag H b n) (hn : n ≤ 1000000) (q : ∀ v H', Z.But b H H' → Bag H' b (n + 130) → ThingV C H' v → Q v H') : sp_law_thing C ([.ref b] ++ []) H Q E := ⟨b, n, rfl, bg, hn, q⟩
theorem sc_law : FnScope ["_law_script", "_law_at", "_law_bag_here", "_law_kind", "_law_one", "_law_other", "_law_made", "_law_again", "_law_k"] ["_law_script"] (defScope s_law) := ⟨rfl, rfl, rfl, by decide +kernel, rfl, by decide +kernel, by decide +kernel⟩
theorem r_ne89 {K : PySem.W.Frag} {x y : V} {H : Hp} {Q : VK} {d : PyData} (hd : Dp K H x d) (he : Dp K H y d) (sd : SeqAt.shaped d = true) (h : Q (.bl (!PyData.eqv d d)) H) : L2.rNeD K x y H Q := ⟨d, d, hd, he, sd, sd, h⟩
theorem dp89 {K : PySem.W.Frag} {H : Hp} (bs : List Bool) : DpAll K H (bs.map V.bl) (bs.map PyData.bool) := by
  induction bs with
  | nil => exact .nil
  | cons b bs ih => exact .cons (.bl b) ih
theorem kinds_dec (k : Nat) (hk : k < 13) : SeqAt.shaped (.list ((kinds k).map PyData.bool)) = true ∧ PyData.eqv (.list ((kinds k).map PyData.bool)) (.list ((kinds k).map PyData.bool)) = true := by
  rcases (show k = 0 ∨ k = 1 ∨ k = 2 ∨ k = 3 ∨ k = 4 ∨ k = 5 ∨ k = 6 ∨ k = 7 ∨ k = 8 ∨ k = 9 ∨ k = 10 ∨ k = 11 ∨ k = 12 by omega) with rfl | rfl | rfl | rfl | rfl | rfl | rfl | rfl | rfl | rfl | rfl | rfl | rfl
  all_goals decide +kernel
theorem kinds_snoc (k i : Nat) : ((List.range i).map fun j => V.bl (decide (k = j))) ++ [V.bl (decide ((i : Int) = (k : Int)))] = (List.range (i + 1)).map fun j => V.bl (decide (k = j)) := by
  rw [List.range_succ, List.map_append]
  have e : decide ((i : Int) = (k : Int)) = decide (k = i) := by
    by_cases h : k = i
    · simp [h]
    · rw [decide_eq_false h, decide_eq_false (by omega)]
  rw [e]; rfl
def sp_law (K : PySem.W.Frag) : Sp := fun vs H Q _ => ∃ (a : Addr) (ns : List Int), vs = [.ref a] ∧ SqL K H a (ns.map V.int) ∧ ns.length ≤ 63 ∧ ∀ H', Q (.bl true) H'
theorem ok_law (T : Top K mg) : FnOk P w K mg base CX0 5 T.f_law T.fd_law ["_law_script"] (sp_law K) := by
  refine T.F_law.ok sc_law (fun vs H Q E h => ?_) (fun cdv A outer s H vs Q E hr h => ?_)
  · obtain ⟨a, ns, rfl, _⟩ := h
    rfl
  · obtain ⟨a, ns, rfl, hS, hlen, q⟩ := h
    refine ⟨_, pss_cons (ps_for PassesOwn.never rfl (pi_range1 (by rfl) T.z_range (pa_cons (pe_callB (Z.c_max2 rfl) (by rfl) T.z_max (by decide +kernel) (pa_cons (pe_int) (pa_cons (pe_callB (Z.c_min2 rfl) (by rfl) T.z_min (by decide +kernel) (pa_cons (pe_int) (pa_cons (pe_callB Z.c_len (by rfl) T.z_len (by decide +kernel) (pa_cons (pv 0) (pa_nil))) (pa_nil)))) (pa_nil)))) (pa_nil))) (pg_name (i := 1) sc_law.nd rfl (.inl rfl)) (pss_cons (ps_set (i := 2) sc_law.nd rfl (.inl rfl) (pe_call (ok_law_bag T) (hr.mono (by decide)) (by rfl) T.mg_law_bag T.F_law_bag.kp T.B_law_bag .nil pass0 (pa_cons (pv 0) (pa_cons (pv 1) (pa_nil))))) (pss_one (ps_for PassesOwn.never rfl (pi_range1 (by rfl) T.z_range (pa_cons (pe_int) (pa_nil))) (pg_name (i := 3) sc_law.nd rfl (.inr rfl)) (pss_cons (ps_par (i := 4) (j := 5) rfl sc_law.nd rfl rfl (by decide) rfl rfl (pa_cons (pe_call (ok_law_thing T) (hr.mono (by decide)) (by rfl) T.mg_law_thing T.F_law_thing.kp T.B_law_thing .nil pass0 (pa_cons (pv 2) (pa_nil))) (pa_cons (pe_call (ok_law_thing T) (hr.mono (by decide)) (by rfl) T.mg_law_thing T.F_law_thing.kp T.B_law_thing .nil pass0 (pa_cons (pv 2) (pa_nil))) (pa_nil))) (by rfl)) (pss_cons (ps_par (i := 6) (j := 7) rfl sc_law.nd rfl rfl (by decide) rfl rfl (pa_cons (pe_call (ok_law_error T) (hr.mono (by decide)) (by rfl) T.mg_law_error T.F_law_error.kp T.B_law_error .nil pass0 (pa_cons (pv 3) (pa_cons (pv 4) (pa_nil)))) (pa_cons (pe_call (ok_law_error T) (hr.mono (by decide)) (by rfl) T.mg_law_error T.F_law_error.kp T.B_law_error .nil pass0 (pa_cons (pv 3) (pa_cons (pv 5) (pa_nil)))) (pa_nil))) (by rfl)) (pss_cons (ps_if ((pw_or (pt_cmpR (Z.o_notInO (P := P) (w := w) (K := K) (mg := mg) (base := base) (k := 1) rfl rfl rfl rfl rfl (hr.mono (by decide))) (pe_ix (Z.ix_seqG (K := K) rfl) (pv 6) (pe_int) (fun _ _ => rfl)) (pe_lst (pa_cons (pv 4) (pa_nil))) rfl) (pw_or (pt_cmpR (Z.o_notInO (P := P) (w := w) (K := K) (mg := mg) (base := base) (k := 1) rfl rfl rfl rfl rfl (hr.mono (by decide))) (pe_ix (Z.ix_seqG (K := K) rfl) (pv 7) (pe_int) (fun _ _ => rfl)) (pe_lst (pa_cons (pv 5) (pa_nil))) rfl) (pw_or1 (pt_cmpR op_ne (pe_callB (Z.c_isi (K := K) rfl) (by rfl) T.z_isinstance (by decide +kernel) (pa_cons (pe_ix (Z.ix_seqG (K := K) rfl) (pv 6) (pe_int) (fun _ _ => rfl)) (pa_cons (pe_bltn (v := .ty "bool") (by rfl) T.z_bool (by decide +kernel) rfl) (pa_nil)))) (pe_callB (Z.c_isi (K := K) rfl) (by rfl) T.z_isinstance (by decide +kernel) (pa_cons (pv 4) (pa_cons (pe_bltn (v := .ty "bool") (by rfl) T.z_bool (by decide +kernel) rfl) (pa_nil)))) (nomark _))))).pt) (pss_one (ps_ret (pe_bl))) (pss_nil)) (pss_cons (ps_if (pt_cmpR (op_neD hr.units) (pe_call (ok_law_kinds T) (hr.mono (by decide)) (by rfl) T.mg_law_kinds T.F_law_kinds.kp T.B_law_kinds .nil pass0 (pa_cons (pe_ix (Z.ix_seqG (K := K) rfl) (pv 6) (pe_int) (fun _ _ => rfl)) (pa_nil))) (pe_lc (own := [("_law_k", 8)]) (g := gName 8) (tt := tYes) rfl sc_law.nd (pi_range1 (by rfl) T.z_range (pa_cons (pe_int) (pa_nil))) (blkOk_by (own := [("_law_k", 8)]) (N := ["_law_script", "_law_at", "_law_bag_here", "_law_kind", "_law_one", "_law_other", "_law_made", "_law_again", "_law_k"]) (sc := defScope s_law) (by decide +kernel)) (fun _ _ _ _ _ => pg_name (i := 8) sc_law.nd rfl (.inl rfl)) (fun _ _ _ _ _ => pts_nil) (fun _ _ _ _ _ => pe_cmpR op_eq (pv 8) (pv 3) (nomark _))) (nomark _)) (pss_one (ps_ret (pe_bl))) (pss_nil)) (pss_cons (ps_if ((pw_or (pt_cmpR op_ne (pe_callB (Z.c_isX (K := K) rfl) (by rfl) T.z_isinstance (by decide +kernel) (pa_cons (pe_ix (Z.ix_seqG (K := K) rfl) (pv 6) (pe_int) (fun _ _ => rfl)) (pa_cons (pe_glob (v := .ref T.C_UnnumberedError) (by exact rfl) T.mgC_UnnumberedError rfl) (pa_nil)))) (pe_cmpR op_lt (pv 3) (pe_int) (nomark _)) (nomark _)) (pw_or1 (pt_cmpR op_ne (pe_callB (Z.c_isX (K := K) rfl) (by rfl) T.z_isinstance (by decide +kernel) (pa_cons (pe_ix (Z.ix_seqG (K := K) rfl) (pv 6) (pe_int) (fun _ _ => rfl)) (pa_cons (pe_bltn (v := .ty "ValueError") (by rfl) T.z_ValueError (by decide +kernel) rfl) (pa_nil)))) (pe_cmpR op_lt (pv 3) (pe_int) (nomark _)) (nomark _)))).pt) (pss_one (ps_ret (pe_bl))) (pss_nil)) (pss_one (ps_if ((pw_or (pt_cmpR op_ne (pe_callB (Z.c_isX (K := K) rfl) (by rfl) T.z_isinstance (by decide +kernel) (pa_cons (pe_ix (Z.ix_seqG (K := K) rfl) (pv 6) (pe_int) (fun _ _ => rfl)) (pa_cons (pe_bltn (v := .ty "LookupError") (by rfl) T.z_LookupError (by decide +kernel) rfl) (pa_nil)))) (pe_cmpR op_gt (pv 3) (pe_int) (nomark _)) (nomark _)) (pw_or1 (pt_val (pe_callB (Z.c_isX (K := K) rfl) (by rfl) T.z_isinstance (by decide +kernel) (pa_cons (pe_ix (Z.ix_seqG (K := K) rfl) (pv 6) (pe_int) (fun _ _ => rfl)) (pa_cons (pe_bltn (v := .ty "KeyError") (by rfl) T.z_KeyError (by decide +kernel) rfl) (pa_nil))))))).pt) (pss_one (ps_ret (pe_bl))) (pss_nil)))))))))))) (pss_one (ps_ret (pe_bl))), ?_⟩
    refine Z.r_start (σ' := [some (.ref a), none, none, none, none, none, none, none, none]) rfl ?_
    walk_at "go"
    refine Z.r_rng (Z.turns _ 5 (by decide) (by decide)).1 (Z.turns _ 5 (by decide) (by decide)).2 (fun i σ' H' => Same H H' ∧ ∃ v1 v2 v3 v4 v5 v6 v7 v8, σ' = [some (.ref a), v1, v2, v3, v4, v5, v6, v7, v8]) ?_ ?_ ?_
    · exact ⟨Same.refl H, _, _, _, _, _, _, _, _, rfl⟩
    · rintro i σ' H0 hi ⟨s0, v1, v2, v3, v4, v5, v6, v7, v8, rfl⟩
      have hi5 := Int.lt_of_lt_of_le hi (Z.turns_le _ 5 (by decide))
      walk_at "go"
      refine k_law_bag (s0.seq hS) (by omega) ?_
      intro b H1 s1 nb g1
      walk_at "go"
      refine Z.r_rng (by decide) (by decide) (fun k σ' H' => Z.But b H1 H' ∧ Bag H' b (300 * k) ∧ ∃ v3 v4 v5 v6 v7 v8, σ' = [some (.ref a), some (.int i), some (.ref b), v3, v4, v5, v6, v7, v8]) ?_ ?_ ?_
      · exact ⟨Z.But.refl _, g1, _, _, _, _, _, _, rfl⟩
      · rintro k σ' H2 hk ⟨t2, g2, w3, w4, w5, w6, w7, w8, rfl⟩
        have hk13 : k < 13 := by omega
        walk_at "go"
        refine k_law_thing g2 (by omega) ?_
        intro x H3 t3 g3 hx3
        walk_at "go"
        refine k_law_thing g3 (by omega) ?_
        intro y H4 t4 g4 hy4
        obtain ⟨_, _, _, hb3, _⟩ := id g3
        have hx4 := hx3.but t4 hb3
        walk_at "go"
        refine k_law_error hk13 ?_
        intro e d m H5 s5 nm he hd hm
        walk_at "go"
        refine k_law_error hk13 ?_
        intro e' d' m' H6 s6 nm' he' hd' hm'
        have he6 := s6 _ _ he
        have hd6 := s6 _ _ hd
        have hm6 := s6 _ _ hm
        have hx6 := (hx4.same s5).same s6
        have hy6 := (hy4.same s5).same s6
        walk_at "go"
        intro p7 H7 n7 s7 h7
        refine Z.r_inO (fun _ => true) h7 (fun z hz => by rw [List.mem_singleton.mp hz]; exact (hx6.same s7).eq) ?_
        walk_at "go"
        intro p8 H8 n8 s8 h8
        refine Z.r_inO (fun _ => true) h8 (fun z hz => by rw [List.mem_singleton.mp hz]; exact ((hy6.same s7).same s8).eq) ?_
        walk_at "go"
        have s68 := s7.trans s8
        obtain ⟨t, tb, ty, kb⟩ := (hx6.same s68).kit T
        walk_at "go"
        refine Z.no (by simp) ?_
        walk_at "go"
        have he8 := s68 _ _ he6
        have hd8 := s68 _ _ hd6
        refine ⟨e, d, k, _, rfl, hk13, he8, hd8, fun p9 H9 n9 s9 h9 => ?_⟩
        walk_at "go"
        refine Z.r_lcR (by decide) (by decide) (fun _ => rfl) (fun D j H' => Same H9 H' ∧ H' D = some (.lst ((List.range j).map fun j => V.bl (decide (k = j))))) ?_ ?_ ?_
        · intro D H10 nD s10 h10
          exact ⟨s10, h10⟩
        · rintro D j H10 nD hj ⟨s10, hD⟩
          walk_at "go"
          refine Z.r_ap hD (by rw [List.length_map, List.length_range]; omega) fun H11 b11 h11 => ?_
          exact ⟨Z.But.back s10 nD b11, by rw [h11, kinds_snoc]⟩
        · rintro D H10 nD ⟨s10, hD⟩
          refine r_ne89 (d := .list ((kinds k).map PyData.bool)) (.lst (SqL.of (s10 _ _ h9)) (dp89 _)) (.lst (SqL.of (xs := (kinds k).map V.bl) ?_) (dp89 _)) (kinds_dec k hk13).1 ?_
          · rw [hD]
            show some (HO.lst ((List.range 13).map _)) = _
            unfold kinds
            rw [List.map_map]; rfl
          rw [(kinds_dec k hk13).2]
          walk_at "go"
          have he10 := s10 _ _ (s9 _ _ he8)
          have hd10 := s10 _ _ (s9 _ _ hd8)
          have e11 : decide (k < 11) = decide ((k : Int) < 11) := by
            by_cases h : k < 11
            · rw [decide_eq_true h, decide_eq_true (by omega)]
            · rw [decide_eq_false h, decide_eq_false (by omega)]
          have e10 : decide (k > 10) = decide ((k : Int) > 10) := by
            by_cases h : k > 10
            · rw [decide_eq_true h, decide_eq_true (by omega)]
            · rw [decide_eq_false h, decide_eq_false (by omega)]
          rw [e11]
          walk_at "go"
          refine Z.no (by simp) ?_
          walk_at "go"
          rw [e11]
          walk_at "go"
          refine Z.no (by simp) ?_
          walk_at "go"
          rw [e10]
          walk_at "go"
          refine Z.no (by simp) ?_
          walk_at "go"
          have up : Same H4 H10 := ((((s5.trans s6).trans s68).trans s9).trans s10)
          exact ⟨((t2.trans t3).trans t4).trans (Z.But.same up), (g4.same up).mono (by omega), _, _, _, _, _, _, rfl⟩
      · rintro σ' H2 ⟨t2, g2, w3, w4, w5, w6, w7, w8, rfl⟩
        walk_at "go"
        exact ⟨s0.trans (Z.But.back s1 nb t2), _, _, _, _, _, _, _, _, rfl⟩
    · rintro σ' H' ⟨_, v1, v2, v3, v4, v5, v6, v7, v8, rfl⟩
      walk_at "go"
      exact q _


end
theorem all_mk {l : PySem.W.OpenLaw} {w : World} {K : PySem.W.Frag} {h : Heap} {mg : Str → Option Value} {fa : Addr} (X : K.In h) (G : h.Ns mainGlobals mg) (hfa : mg "law" = some (.ref fa)) {C_BadEntry C_BadMerge C_BadProgram C_BadRule C_BadSeries C_BadWay C_BadWish C_NoAnswer C_NoKey C_NoMatch C_NoMend C_TooMany C_Unlike C_Unnumbered C_UnnumberedError f_law_draw f_law_bag f_law_number f_law_word f_Unnumbered___init f_BadSeries___init f_BadProgram___init f_BadMerge___init f_BadRule___init f_BadWish___init f_BadEntry___init f_BadWay___init f_Unlike___init f_NoMend___init f_NoMatch___init f_TooMany___init f_NoKey___init f_NoAnswer___init f_law_first f_law_error f_law_kinds f_law_thing f_law : Addr}
    {od_law_draw an_law_draw : Option Addr} {sl_law_draw : Array (Option Value)} {oc_law_draw kV_law_draw dc_law_draw pm_law_draw cd_law_draw ct_law_draw : Value}
    {od_law_bag an_law_bag : Option Addr} {sl_law_bag : Array (Option Value)} {oc_law_bag kV_law_bag dc_law_bag pm_law_bag cd_law_bag ct_law_bag : Value}
    {od_law_number an_law_number : Option Addr} {sl_law_number : Array (Option Value)} {oc_law_number kV_law_number dc_law_number pm_law_number cd_law_number ct_law_number : Value}
    {od_law_word an_law_word : Option Addr} {sl_law_word : Array (Option Value)} {oc_law_word kV_law_word dc_law_word pm_law_word cd_law_word ct_law_word : Value}
    {od_Unnumbered___init an_Unnumbered___init : Option Addr} {sl_Unnumbered___init : Array (Option Value)} {oc_Unnumbered___init kV_Unnumbered___init dc_Unnumbered___init pm_Unnumbered___init cd_Unnumbered___init ct_Unnumbered___init : Value}
    {od_BadSeries___init an_BadSeries___init : Option Addr} {sl_BadSeries___init : Array (Option Value)} {oc_BadSeries___init kV_BadSeries___init dc_BadSeries___init pm_BadSeries___init cd_BadSeries___init ct_BadSeries___init : Value}
    {od_BadProgram___init an_BadProgram___init : Option Addr} {sl_BadProgram___init : Array (Option Value)} {oc_BadProgram___init kV_BadProgram___init dc_BadProgram___init pm_BadProgram___init cd_BadProgram___init ct_BadProgram___init : Value}
    {od_BadMerge___init an_BadMerge___init : Option Addr} {sl_BadMerge___init : Array (Option Value)} {oc_BadMerge___init kV_BadMerge___init dc_BadMerge___init pm_BadMerge___init cd_BadMerge___init ct_BadMerge___init : Value}
    {od_BadRule___init an_BadRule___init : Option Addr} {sl_BadRule___init : Array (Option Value)} {oc_BadRule___init kV_BadRule___init dc_BadRule___init pm_BadRule___init cd_BadRule___init ct_BadRule___init : Value}
    {od_BadWish___init an_BadWish___init : Option Addr} {sl_BadWish___init : Array (Option Value)} {oc_BadWish___init kV_BadWish___init dc_BadWish___init pm_BadWish___init cd_BadWish___init ct_BadWish___init : Value}
    {od_BadEntry___init an_BadEntry___init : Option Addr} {sl_BadEntry___init : Array (Option Value)} {oc_BadEntry___init kV_BadEntry___init dc_BadEntry___init pm_BadEntry___init cd_BadEntry___init ct_BadEntry___init : Value}
    {od_BadWay___init an_BadWay___init : Option Addr} {sl_BadWay___init : Array (Option Value)} {oc_BadWay___init kV_BadWay___init dc_BadWay___init pm_BadWay___init cd_BadWay___init ct_BadWay___init : Value}
    {od_Unlike___init an_Unlike___init : Option Addr} {sl_Unlike___init : Array (Option Value)} {oc_Unlike___init kV_Unlike___init dc_Unlike___init pm_Unlike___init cd_Unlike___init ct_Unlike___init : Value}
    {od_NoMend___init an_NoMend___init : Option Addr} {sl_NoMend___init : Array (Option Value)} {oc_NoMend___init kV_NoMend___init dc_NoMend___init pm_NoMend___init cd_NoMend___init ct_NoMend___init : Value}
    {od_NoMatch___init an_NoMatch___init : Option Addr} {sl_NoMatch___init : Array (Option Value)} {oc_NoMatch___init kV_NoMatch___init dc_NoMatch___init pm_NoMatch___init cd_NoMatch___init ct_NoMatch___init : Value}
    {od_TooMany___init an_TooMany___init : Option Addr} {sl_TooMany___init : Array (Option Value)} {oc_TooMany___init kV_TooMany___init dc_TooMany___init pm_TooMany___init cd_TooMany___init ct_TooMany___init : Value}
    {od_NoKey___init an_NoKey___init : Option Addr} {sl_NoKey___init : Array (Option Value)} {oc_NoKey___init kV_NoKey___init dc_NoKey___init pm_NoKey___init cd_NoKey___init ct_NoKey___init : Value}
    {od_NoAnswer___init an_NoAnswer___init : Option Addr} {sl_NoAnswer___init : Array (Option Value)} {oc_NoAnswer___init kV_NoAnswer___init dc_NoAnswer___init pm_NoAnswer___init cd_NoAnswer___init ct_NoAnswer___init : Value}
    {od_law_first an_law_first : Option Addr} {sl_law_first : Array (Option Value)} {oc_law_first kV_law_first dc_law_first pm_law_first cd_law_first ct_law_first : Value}
    {od_law_error an_law_error : Option Addr} {sl_law_error : Array (Option Value)} {oc_law_error kV_law_error dc_law_error pm_law_error cd_law_error ct_law_error : Value}
    {od_law_kinds an_law_kinds : Option Addr} {sl_law_kinds : Array (Option Value)} {oc_law_kinds kV_law_kinds dc_law_kinds pm_law_kinds cd_law_kinds ct_law_kinds : Value}
    {od_law_thing an_law_thing : Option Addr} {sl_law_thing : Array (Option Value)} {oc_law_thing kV_law_thing dc_law_thing pm_law_thing cd_law_thing ct_law_thing : Value}
    {od_law an_law : Option Addr} {sl_law : Array (Option Value)} {oc_law kV_law dc_law pm_law cd_law ct_law : Value}
    (aC_BadEntry : PySem.W.nsIn K mainGlobals "BadEntry" = some (some (.ref C_BadEntry)))
    (aC_BadMerge : PySem.W.nsIn K mainGlobals "BadMerge" = some (some (.ref C_BadMerge)))
    (aC_BadProgram : PySem.W.nsIn K mainGlobals "BadProgram" = some (some (.ref C_BadProgram)))
    (aC_BadRule : PySem.W.nsIn K mainGlobals "BadRule" = some (some (.ref C_BadRule)))
    (aC_BadSeries : PySem.W.nsIn K mainGlobals "BadSeries" = some (some (.ref C_BadSeries)))
    (aC_BadWay : PySem.W.nsIn K mainGlobals "BadWay" = some (some (.ref C_BadWay)))
    (aC_BadWish : PySem.W.nsIn K mainGlobals "BadWish" = some (some (.ref C_BadWish)))
    (aC_NoAnswer : PySem.W.nsIn K mainGlobals "NoAnswer" = some (some (.ref C_NoAnswer)))
    (aC_NoKey : PySem.W.nsIn K mainGlobals "NoKey" = some (some (.ref C_NoKey)))
    (aC_NoMatch : PySem.W.nsIn K mainGlobals "NoMatch" = some (some (.ref C_NoMatch)))
    (aC_NoMend : PySem.W.nsIn K mainGlobals "NoMend" = some (some (.ref C_NoMend)))
    (aC_TooMany : PySem.W.nsIn K mainGlobals "TooMany" = some (some (.ref C_TooMany)))
    (aC_Unlike : PySem.W.nsIn K mainGlobals "Unlike" = some (some (.ref C_Unlike)))
    (aC_Unnumbered : PySem.W.nsIn K mainGlobals "Unnumbered" = some (some (.ref C_Unnumbered)))
    (aC_UnnumberedError : PySem.W.nsIn K mainGlobals "UnnumberedError" = some (some (.ref C_UnnumberedError)))
    (a_law_draw : PySem.W.nsIn K mainGlobals "_law_draw" = some (some (.ref f_law_draw)))
    (l_law_draw : K.lookup f_law_draw = some ⟨oc_law_draw, od_law_draw, .func (PySem.W.fnOf "_law_draw" "_law_draw" (defArgs s_law_draw) (defBody s_law_draw) (defScope s_law_draw) .none kV_law_draw dc_law_draw pm_law_draw an_law_draw cd_law_draw ct_law_draw), sl_law_draw⟩)
    (c_law_draw : PySem.W.codeIn K cd_law_draw "_law_draw" = true)
    (k_law_draw : PySem.W.keepIn K (.ref f_law_draw) = true)
    (a_law_bag : PySem.W.nsIn K mainGlobals "_law_bag" = some (some (.ref f_law_bag)))
    (l_law_bag : K.lookup f_law_bag = some ⟨oc_law_bag, od_law_bag, .func (PySem.W.fnOf "_law_bag" "_law_bag" (defArgs s_law_bag) (defBody s_law_bag) (defScope s_law_bag) .none kV_law_bag dc_law_bag pm_law_bag an_law_bag cd_law_bag ct_law_bag), sl_law_bag⟩)
    (c_law_bag : PySem.W.codeIn K cd_law_bag "_law_bag" = true)
    (k_law_bag : PySem.W.keepIn K (.ref f_law_bag) = true)
    (a_law_number : PySem.W.nsIn K mainGlobals "_law_number" = some (some (.ref f_law_number)))
    (l_law_number : K.lookup f_law_number = some ⟨oc_law_number, od_law_number, .func (PySem.W.fnOf "_law_number" "_law_number" (defArgs s_law_number) (defBody s_law_number) (defScope s_law_number) .none kV_law_number dc_law_number pm_law_number an_law_number cd_law_number ct_law_number), sl_law_number⟩)
    (c_law_number : PySem.W.codeIn K cd_law_number "_law_number" = true)
    (k_law_number : PySem.W.keepIn K (.ref f_law_number) = true)
    (a_law_word : PySem.W.nsIn K mainGlobals "_law_word" = some (some (.ref f_law_word)))
    (l_law_word : K.lookup f_law_word = some ⟨oc_law_word, od_law_word, .func (PySem.W.fnOf "_law_word" "_law_word" (defArgs s_law_word) (defBody s_law_word) (defScope s_law_word) .none kV_law_word dc_law_word pm_law_word an_law_word cd_law_word ct_law_word), sl_law_word⟩)
    (c_law_word : PySem.W.codeIn K cd_law_word "_law_word" = true)
    (k_law_word : PySem.W.keepIn K (.ref f_law_word) = true)
    (a_Unnumbered___init : PySem.W.findIn K (.ref C_Unnumbered) "__init__" = some (some (.ref f_Unnumbered___init)))
    (i_Unnumbered___init : PySem.W.isFn K (.ref f_Unnumbered___init) = true)
    (l_Unnumbered___init : K.lookup f_Unnumbered___init = some ⟨oc_Unnumbered___init, od_Unnumbered___init, .func (PySem.W.fnOf "__init__" "Unnumbered.__init__" (defArgs s_Unnumbered___init) (defBody s_Unnumbered___init) (defScope s_Unnumbered___init) .none kV_Unnumbered___init dc_Unnumbered___init pm_Unnumbered___init an_Unnumbered___init cd_Unnumbered___init ct_Unnumbered___init), sl_Unnumbered___init⟩)
    (c_Unnumbered___init : PySem.W.codeIn K cd_Unnumbered___init "Unnumbered.__init__" = true)
    (k_Unnumbered___init : PySem.W.keepIn K (.ref f_Unnumbered___init) = true)
    (a_BadSeries___init : PySem.W.findIn K (.ref C_BadSeries) "__init__" = some (some (.ref f_BadSeries___init)))
    (i_BadSeries___init : PySem.W.isFn K (.ref f_BadSeries___init) = true)
    (l_BadSeries___init : K.lookup f_BadSeries___init = some ⟨oc_BadSeries___init, od_BadSeries___init, .func (PySem.W.fnOf "__init__" "BadSeries.__init__" (defArgs s_BadSeries___init) (defBody s_BadSeries___init) (defScope s_BadSeries___init) .none kV_BadSeries___init dc_BadSeries___init pm_BadSeries___init an_BadSeries___init cd_BadSeries___init ct_BadSeries___init), sl_BadSeries___init⟩)
    (c_BadSeries___init : PySem.W.codeIn K cd_BadSeries___init "BadSeries.__init__" = true)
    (k_BadSeries___init : PySem.W.keepIn K (.ref f_BadSeries___init) = true)
    (a_BadProgram___init : PySem.W.findIn K (.ref C_BadProgram) "__init__" = some (some (.ref f_BadProgram___init)))
    (i_BadProgram___init : PySem.W.isFn K (.ref f_BadProgram___init) = true)
    (l_BadProgram___init : K.lookup f_BadProgram___init = some ⟨oc_BadProgram___init, od_BadProgram___init, .func (PySem.W.fnOf "__init__" "BadProgram.__init__" (defArgs s_BadProgram___init) (defBody s_BadProgram___init) (defScope s_BadProgram___init) .none kV_BadProgram___init dc_BadProgram___init pm_BadProgram___init an_BadProgram___init cd_BadProgram___init ct_BadProgram___init), sl_BadProgram___init⟩)
    (c_BadProgram___init : PySem.W.codeIn K cd_BadProgram___init "BadProgram.__init__" = true)
    (k_BadProgram___init : PySem.W.keepIn K (.ref f_BadProgram___init) = true)
    (a_BadMerge___init : PySem.W.findIn K (.ref C_BadMerge) "__init__" = some (some (.ref f_BadMerge___init)))
    (i_BadMerge___init : PySem.W.isFn K (.ref f_BadMerge___init) = true)
    (l_BadMerge___init : K.lookup f_BadMerge___init = some ⟨oc_BadMerge___init, od_BadMerge___init, .func (PySem.W.fnOf "__init__" "BadMerge.__init__" (defArgs s_BadMerge___init) (defBody s_BadMerge___init) (defScope s_BadMerge___init) .none kV_BadMerge___init dc_BadMerge___init pm_BadMerge___init an_BadMerge___init cd_BadMerge___init ct_BadMerge___init), sl_BadMerge___init⟩)
    (c_BadMerge___init : PySem.W.codeIn K cd_BadMerge___init "BadMerge.__init__" = true)
    (k_BadMerge___init : PySem.W.keepIn K (.ref f_BadMerge___init) = true)
    (a_BadRule___init : PySem.W.findIn K (.ref C_BadRule) "__init__" = some (some (.ref f_BadRule___init)))
    (i_BadRule___init : PySem.W.isFn K (.ref f_BadRule___init) = true)
    (l_BadRule___init : K.lookup f_BadRule___init = some ⟨oc_BadRule___init, od_BadRule___init, .func (PySem.W.fnOf "__init__" "BadRule.__init__" (defArgs s_BadRule___init) (defBody s_BadRule___init) (defScope s_BadRule___init) .none kV_BadRule___init dc_BadRule___init pm_BadRule___init an_BadRule___init cd_BadRule___init ct_BadRule___init), sl_BadRule___init⟩)
    (c_BadRule___init : PySem.W.codeIn K cd_BadRule___init "BadRule.__init__" = true)
    (k_BadRule___init : PySem.W.keepIn K (.ref f_BadRule___init) = true)
    (a_BadWish___init : PySem.W.findIn K (.ref C_BadWish) "__init__" = some (some (.ref f_BadWish___init)))
    (i_BadWish___init : PySem.W.isFn K (.ref f_BadWish___init) = true)
    (l_BadWish___init : K.lookup f_BadWish___init = some ⟨oc_BadWish___init, od_BadWish___init, .func (PySem.W.fnOf "__init__" "BadWish.__init__" (defArgs s_BadWish___init) (defBody s_BadWish___init) (defScope s_BadWish___init) .none kV_BadWish___init dc_BadWish___init pm_BadWish___init an_BadWish___init cd_BadWish___init ct_BadWish___init), sl_BadWish___init⟩)
    (c_BadWish___init : PySem.W.codeIn K cd_BadWish___init "BadWish.__init__" = true)
    (k_BadWish___init : PySem.W.keepIn K (.ref f_BadWish___init) = true)
    (a_BadEntry___init : PySem.W.findIn K (.ref C_BadEntry) "__init__" = some (some (.ref f_BadEntry___init)))
    (i_BadEntry___init : PySem.W.isFn K (.ref f_BadEntry___init) = true)
    (l_BadEntry___init : K.lookup f_BadEntry___init = some ⟨oc_BadEntry___init, od_BadEntry___init, .func (PySem.W.fnOf "__init__" "BadEntry.__init__" (defArgs s_BadEntry___init) (defBody s_BadEntry___init) (defScope s_BadEntry___init) .none kV_BadEntry___init dc_BadEntry___init pm_BadEntry___init an_BadEntry___init cd_BadEntry___init ct_BadEntry___init), sl_BadEntry___init⟩)
    (c_BadEntry___init : PySem.W.codeIn K cd_BadEntry___init "BadEntry.__init__" = true)
    (k_BadEntry___init : PySem.W.keepIn K (.ref f_BadEntry___init) = true)
    (a_BadWay___init : PySem.W.findIn K (.ref C_BadWay) "__init__" = some (some (.ref f_BadWay___init)))
    (i_BadWay___init : PySem.W.isFn K (.ref f_BadWay___init) = true)
    (l_BadWay___init : K.lookup f_BadWay___init = some ⟨oc_BadWay___init, od_BadWay___init, .func (PySem.W.fnOf "__init__" "BadWay.__init__" (defArgs s_BadWay___init) (defBody s_BadWay___init) (defScope s_BadWay___init) .none kV_BadWay___init dc_BadWay___init pm_BadWay___init an_BadWay___init cd_BadWay___init ct_BadWay___init), sl_BadWay___init⟩)
    (c_BadWay___init : PySem.W.codeIn K cd_BadWay___init "BadWay.__init__" = true)
    (k_BadWay___init : PySem.W.keepIn K (.ref f_BadWay___init) = true)
    (a_Unlike___init : PySem.W.findIn K (.ref C_Unlike) "__init__" = some (some (.ref f_Unlike___init)))
    (i_Unlike___init : PySem.W.isFn K (.ref f_Unlike___init) = true)
    (l_Unlike___init : K.lookup f_Unlike___init = some ⟨oc_Unlike___init, od_Unlike___init, .func (PySem.W.fnOf "__init__" "Unlike.__init__" (defArgs s_Unlike___init) (defBody s_Unlike___init) (defScope s_Unlike___init) .none kV_Unlike___init dc_Unlike___init pm_Unlike___init an_Unlike___init cd_Unlike___init ct_Unlike___init), sl_Unlike___init⟩)
    (c_Unlike___init : PySem.W.codeIn K cd_Unlike___init "Unlike.__init__" = true)
    (k_Unlike___init : PySem.W.keepIn K (.ref f_Unlike___init) = true)
    (a_NoMend___init : PySem.W.findIn K (.ref C_NoMend) "__init__" = some (some (.ref f_NoMend___init)))
    (i_NoMend___init : PySem.W.isFn K (.ref f_NoMend___init) = true)
    (l_NoMend___init : K.lookup f_NoMend___init = some ⟨oc_NoMend___init, od_NoMend___init, .func (PySem.W.fnOf "__init__" "NoMend.__init__" (defArgs s_NoMend___init) (defBody s_NoMend___init) (defScope s_NoMend___init) .none kV_NoMend___init dc_NoMend___init pm_NoMend___init an_NoMend___init cd_NoMend___init ct_NoMend___init), sl_NoMend___init⟩)
    (c_NoMend___init : PySem.W.codeIn K cd_NoMend___init "NoMend.__init__" = true)
    (k_NoMend___init : PySem.W.keepIn K (.ref f_NoMend___init) = true)
    (a_NoMatch___init : PySem.W.findIn K (.ref C_NoMatch) "__init__" = some (some (.ref f_NoMatch___init)))
    (i_NoMatch___init : PySem.W.isFn K (.ref f_NoMatch___init) = true)
    (l_NoMatch___init : K.lookup f_NoMatch___init = some ⟨oc_NoMatch___init, od_NoMatch___init, .func (PySem.W.fnOf "__init__" "NoMatch.__init__" (defArgs s_NoMatch___init) (defBody s_NoMatch___init) (defScope s_NoMatch___init) .none kV_NoMatch___init dc_NoMatch___init pm_NoMatch___init an_NoMatch___init cd_NoMatch___init ct_NoMatch___init), sl_NoMatch___init⟩)
    (c_NoMatch___init : PySem.W.codeIn K cd_NoMatch___init "NoMatch.__init__" = true)
    (k_NoMatch___init : PySem.W.keepIn K (.ref f_NoMatch___init) = true)
    (a_TooMany___init : PySem.W.findIn K (.ref C_TooMany) "__init__" = some (some (.ref f_TooMany___init)))
    (i_TooMany___init : PySem.W.isFn K (.ref f_TooMany___init) = true)
    (l_TooMany___init : K.lookup f_TooMany___init = some ⟨oc_TooMany___init, od_TooMany___init, .func (PySem.W.fnOf "__init__" "TooMany.__init__" (defArgs s_TooMany___init) (defBody s_TooMany___init) (defScope s_TooMany___init) .none kV_TooMany___init dc_TooMany___init pm_TooMany___init an_TooMany___init cd_TooMany___init ct_TooMany___init), sl_TooMany___init⟩)
    (c_TooMany___init : PySem.W.codeIn K cd_TooMany___init "TooMany.__init__" = true)
    (k_TooMany___init : PySem.W.keepIn K (.ref f_TooMany___init) = true)
    (a_NoKey___init : PySem.W.findIn K (.ref C_NoKey) "__init__" = some (some (.ref f_NoKey___init)))
    (i_NoKey___init : PySem.W.isFn K (.ref f_NoKey___init) = true)
    (l_NoKey___init : K.lookup f_NoKey___init = some ⟨oc_NoKey___init, od_NoKey___init, .func (PySem.W.fnOf "__init__" "NoKey.__init__" (defArgs s_NoKey___init) (defBody s_NoKey___init) (defScope s_NoKey___init) .none kV_NoKey___init dc_NoKey___init pm_NoKey___init an_NoKey___init cd_NoKey___init ct_NoKey___init), sl_NoKey___init⟩)
    (c_NoKey___init : PySem.W.codeIn K cd_NoKey___init "NoKey.__init__" = true)
    (k_NoKey___init : PySem.W.keepIn K (.ref f_NoKey___init) = true)
    (a_NoAnswer___init : PySem.W.findIn K (.ref C_NoAnswer) "__init__" = some (some (.ref f_NoAnswer___init)))
    (i_NoAnswer___init : PySem.W.isFn K (.ref f_NoAnswer___init) = true)
    (l_NoAnswer___init : K.lookup f_NoAnswer___init = some ⟨oc_NoAnswer___init, od_NoAnswer___init, .func (PySem.W.fnOf "__init__" "NoAnswer.__init__" (defArgs s_NoAnswer___init) (defBody s_NoAnswer___init) (defScope s_NoAnswer___init) .none kV_NoAnswer___init dc_NoAnswer___init pm_NoAnswer___init an_NoAnswer___init cd_NoAnswer___init ct_NoAnswer___init), sl_NoAnswer___init⟩)
    (c_NoAnswer___init : PySem.W.codeIn K cd_NoAnswer___init "NoAnswer.__init__" = true)
    (k_NoAnswer___init : PySem.W.keepIn K (.ref f_NoAnswer___init) = true)
    (a_law_first : PySem.W.nsIn K mainGlobals "_law_first" = some (some (.ref f_law_first)))
    (l_law_first : K.lookup f_law_first = some ⟨oc_law_first, od_law_first, .func (PySem.W.fnOf "_law_first" "_law_first" (defArgs s_law_first) (defBody s_law_first) (defScope s_law_first) .none kV_law_first dc_law_first pm_law_first an_law_first cd_law_first ct_law_first), sl_law_first⟩)
    (c_law_first : PySem.W.codeIn K cd_law_first "_law_first" = true)
    (k_law_first : PySem.W.keepIn K (.ref f_law_first) = true)
    (a_law_error : PySem.W.nsIn K mainGlobals "_law_error" = some (some (.ref f_law_error)))
    (l_law_error : K.lookup f_law_error = some ⟨oc_law_error, od_law_error, .func (PySem.W.fnOf "_law_error" "_law_error" (defArgs s_law_error) (defBody s_law_error) (defScope s_law_error) .none kV_law_error dc_law_error pm_law_error an_law_error cd_law_error ct_law_error), sl_law_error⟩)
    (c_law_error : PySem.W.codeIn K cd_law_error "_law_error" = true)
    (k_law_error : PySem.W.keepIn K (.ref f_law_error) = true)
    (a_law_kinds : PySem.W.nsIn K mainGlobals "_law_kinds" = some (some (.ref f_law_kinds)))
    (l_law_kinds : K.lookup f_law_kinds = some ⟨oc_law_kinds, od_law_kinds, .func (PySem.W.fnOf "_law_kinds" "_law_kinds" (defArgs s_law_kinds) (defBody s_law_kinds) (defScope s_law_kinds) .none kV_law_kinds dc_law_kinds pm_law_kinds an_law_kinds cd_law_kinds ct_law_kinds), sl_law_kinds⟩)
    (c_law_kinds : PySem.W.codeIn K cd_law_kinds "_law_kinds" = true)
    (k_law_kinds : PySem.W.keepIn K (.ref f_law_kinds) = true)
    (a_law_thing : PySem.W.nsIn K mainGlobals "_law_thing" = some (some (.ref f_law_thing)))
    (l_law_thing : K.lookup f_law_thing = some ⟨oc_law_thing, od_law_thing, .func (PySem.W.fnOf "_law_thing" "_law_thing" (defArgs s_law_thing) (defBody s_law_thing) (defScope s_law_thing) .none kV_law_thing dc_law_thing pm_law_thing an_law_thing cd_law_thing ct_law_thing), sl_law_thing⟩)
    (c_law_thing : PySem.W.codeIn K cd_law_thing "_law_thing" = true)
    (k_law_thing : PySem.W.keepIn K (.ref f_law_thing) = true)
    (a_law : PySem.W.nsIn K mainGlobals "law" = some (some (.ref f_law)))
    (l_law : K.lookup f_law = some ⟨oc_law, od_law, .func (PySem.W.fnOf "law" "law" (defArgs s_law) (defBody s_law) (defScope s_law) .none kV_law dc_law pm_law an_law cd_law ct_law), sl_law⟩)
    (c_law : PySem.W.codeIn K cd_law "law" = true)
    (k_law : PySem.W.keepIn K (.ref f_law) = true)
    (xi_BadEntry : PySem.W.excInitIn K C_BadEntry [.type "ValueError", .type "Exception", .type "BaseException", .type "object"] "ValueError.__new__" = true)
    (xo_BadEntry : PySem.W.excOver K C_BadEntry [.type "ValueError", .type "Exception", .type "BaseException", .type "object"] = true)
    (xs_BadEntry : PySem.W.findIn K (.ref C_BadEntry) "__setattr__" = some (some (.builtin "object.__setattr__")))
    (xh_BadEntry : PySem.W.hasDictIn K C_BadEntry = true)
    (xg_BadEntry : PySem.W.findIn K (.ref C_BadEntry) "__getattribute__" = some (some (.builtin "BaseException.__getattribute__")))
    (xt_BadEntry : PySem.W.findIn K (.ref C_BadEntry) "__getattr__" = some none)
    (xb_BadEntry : PySem.W.subIn K (.ref C_BadEntry) (.type "BaseException") = some true)
    (xy_BadEntry : PySem.W.typeIn K (.ref C_BadEntry) = some (.type "type"))
    (xk_BadEntry : PySem.W.keepIn K (.ref C_BadEntry) = true)
    (xc_BadEntry : PySem.W.findIn K (.ref C_BadEntry) "__class__" = some (some (.builtin "object.__class__")))
    (xm_BadEntry : PySem.W.mroIn K C_BadEntry (.type "object") = some true)
    (xi_BadMerge : PySem.W.excInitIn K C_BadMerge [.type "ValueError", .type "Exception", .type "BaseException", .type "object"] "ValueError.__new__" = true)
    (xo_BadMerge : PySem.W.excOver K C_BadMerge [.type "ValueError", .type "Exception", .type "BaseException", .type "object"] = true)
    (xs_BadMerge : PySem.W.findIn K (.ref C_BadMerge) "__setattr__" = some (some (.builtin "object.__setattr__")))
    (xh_BadMerge : PySem.W.hasDictIn K C_BadMerge = true)
    (xg_BadMerge : PySem.W.findIn K (.ref C_BadMerge) "__getattribute__" = some (some (.builtin "BaseException.__getattribute__")))
    (xt_BadMerge : PySem.W.findIn K (.ref C_BadMerge) "__getattr__" = some none)
    (xb_BadMerge : PySem.W.subIn K (.ref C_BadMerge) (.type "BaseException") = some true)
    (xy_BadMerge : PySem.W.typeIn K (.ref C_BadMerge) = some (.type "type"))
    (xk_BadMerge : PySem.W.keepIn K (.ref C_BadMerge) = true)
    (xc_BadMerge : PySem.W.findIn K (.ref C_BadMerge) "__class__" = some (some (.builtin "object.__class__")))
    (xm_BadMerge : PySem.W.mroIn K C_BadMerge (.type "object") = some true)
    (xi_BadProgram : PySem.W.excInitIn K C_BadProgram [.type "ValueError", .type "Exception", .type "BaseException", .type "object"] "ValueError.__new__" = true)
    (xo_BadProgram : PySem.W.excOver K C_BadProgram [.type "ValueError", .type "Exception", .type "BaseException", .type "object"] = true)
    (xs_BadProgram : PySem.W.findIn K (.ref C_BadProgram) "__setattr__" = some (some (.builtin "object.__setattr__")))
    (xh_BadProgram : PySem.W.hasDictIn K C_BadProgram = true)
    (xg_BadProgram : PySem.W.findIn K (.ref C_BadProgram) "__getattribute__" = some (some (.builtin "BaseException.__getattribute__")))
    (xt_BadProgram : PySem.W.findIn K (.ref C_BadProgram) "__getattr__" = some none)
    (xb_BadProgram : PySem.W.subIn K (.ref C_BadProgram) (.type "BaseException") = some true)
    (xy_BadProgram : PySem.W.typeIn K (.ref C_BadProgram) = some (.type "type"))
    (xk_BadProgram : PySem.W.keepIn K (.ref C_BadProgram) = true)
    (xc_BadProgram : PySem.W.findIn K (.ref C_BadProgram) "__class__" = some (some (.builtin "object.__class__")))
    (xm_BadProgram : PySem.W.mroIn K C_BadProgram (.type "object") = some true)
    (xi_BadRule : PySem.W.excInitIn K C_BadRule [.type "ValueError", .type "Exception", .type "BaseException", .type "object"] "ValueError.__new__" = true)
    (xo_BadRule : PySem.W.excOver K C_BadRule [.type "ValueError", .type "Exception", .type "BaseException", .type "object"] = true)
    (xs_BadRule : PySem.W.findIn K (.ref C_BadRule) "__setattr__" = some (some (.builtin "object.__setattr__")))
    (xh_BadRule : PySem.W.hasDictIn K C_BadRule = true)
    (xg_BadRule : PySem.W.findIn K (.ref C_BadRule) "__getattribute__" = some (some (.builtin "BaseException.__getattribute__")))
    (xt_BadRule : PySem.W.findIn K (.ref C_BadRule) "__getattr__" = some none)
    (xb_BadRule : PySem.W.subIn K (.ref C_BadRule) (.type "BaseException") = some true)
    (xy_BadRule : PySem.W.typeIn K (.ref C_BadRule) = some (.type "type"))
    (xk_BadRule : PySem.W.keepIn K (.ref C_BadRule) = true)
    (xc_BadRule : PySem.W.findIn K (.ref C_BadRule) "__class__" = some (some (.builtin "object.__class__")))
    (xm_BadRule : PySem.W.mroIn K C_BadRule (.type "object") = some true)
    (xi_BadSeries : PySem.W.excInitIn K C_BadSeries [.type "ValueError", .type "Exception", .type "BaseException", .type "object"] "ValueError.__new__" = true)
    (xo_BadSeries : PySem.W.excOver K C_BadSeries [.type "ValueError", .type "Exception", .type "BaseException", .type "object"] = true)
    (xs_BadSeries : PySem.W.findIn K (.ref C_BadSeries) "__setattr__" = some (some (.builtin "object.__setattr__")))
    (xh_BadSeries : PySem.W.hasDictIn K C_BadSeries = true)
    (xg_BadSeries : PySem.W.findIn K (.ref C_BadSeries) "__getattribute__" = some (some (.builtin "BaseException.__getattribute__")))
    (xt_BadSeries : PySem.W.findIn K (.ref C_BadSeries) "__getattr__" = some none)
    (xb_BadSeries : PySem.W.subIn K (.ref C_BadSeries) (.type "BaseException") = some true)
    (xy_BadSeries : PySem.W.typeIn K (.ref C_BadSeries) = some (.type "type"))
    (xk_BadSeries : PySem.W.keepIn K (.ref C_BadSeries) = true)
    (xc_BadSeries : PySem.W.findIn K (.ref C_BadSeries) "__class__" = some (some (.builtin "object.__class__")))
    (xm_BadSeries : PySem.W.mroIn K C_BadSeries (.type "object") = some true)
    (xi_BadWay : PySem.W.excInitIn K C_BadWay [.type "ValueError", .type "Exception", .type "BaseException", .type "object"] "ValueError.__new__" = true)
    (xo_BadWay : PySem.W.excOver K C_BadWay [.type "ValueError", .type "Exception", .type "BaseException", .type "object"] = true)
    (xs_BadWay : PySem.W.findIn K (.ref C_BadWay) "__setattr__" = some (some (.builtin "object.__setattr__")))
    (xh_BadWay : PySem.W.hasDictIn K C_BadWay = true)
    (xg_BadWay : PySem.W.findIn K (.ref C_BadWay) "__getattribute__" = some (some (.builtin "BaseException.__getattribute__")))
    (xt_BadWay : PySem.W.findIn K (.ref C_BadWay) "__getattr__" = some none)
    (xb_BadWay : PySem.W.subIn K (.ref C_BadWay) (.type "BaseException") = some true)
    (xy_BadWay : PySem.W.typeIn K (.ref C_BadWay) = some (.type "type"))
    (xk_BadWay : PySem.W.keepIn K (.ref C_BadWay) = true)
    (xc_BadWay : PySem.W.findIn K (.ref C_BadWay) "__class__" = some (some (.builtin "object.__class__")))
    (xm_BadWay : PySem.W.mroIn K C_BadWay (.type "object") = some true)
    (xi_BadWish : PySem.W.excInitIn K C_BadWish [.type "ValueError", .type "Exception", .type "BaseException", .type "object"] "ValueError.__new__" = true)
    (xo_BadWish : PySem.W.excOver K C_BadWish [.type "ValueError", .type "Exception", .type "BaseException", .type "object"] = true)
    (xs_BadWish : PySem.W.findIn K (.ref C_BadWish) "__setattr__" = some (some (.builtin "object.__setattr__")))
    (xh_BadWish : PySem.W.hasDictIn K C_BadWish = true)
    (xg_BadWish : PySem.W.findIn K (.ref C_BadWish) "__getattribute__" = some (some (.builtin "BaseException.__getattribute__")))
    (xt_BadWish : PySem.W.findIn K (.ref C_BadWish) "__getattr__" = some none)
    (xb_BadWish : PySem.W.subIn K (.ref C_BadWish) (.type "BaseException") = some true)
    (xy_BadWish : PySem.W.typeIn K (.ref C_BadWish) = some (.type "type"))
    (xk_BadWish : PySem.W.keepIn K (.ref C_BadWish) = true)
    (xc_BadWish : PySem.W.findIn K (.ref C_BadWish) "__class__" = some (some (.builtin "object.__class__")))
    (xm_BadWish : PySem.W.mroIn K C_BadWish (.type "object") = some true)
    (xi_NoAnswer : PySem.W.excInitIn K C_NoAnswer [.type "LookupError", .type "Exception", .type "BaseException", .type "object"] "LookupError.__new__" = true)
    (xo_NoAnswer : PySem.W.excOver K C_NoAnswer [.type "LookupError", .type "Exception", .type "BaseException", .type "object"] = true)
    (xs_NoAnswer : PySem.W.findIn K (.ref C_NoAnswer) "__setattr__" = some (some (.builtin "object.__setattr__")))
    (xh_NoAnswer : PySem.W.hasDictIn K C_NoAnswer = true)
    (xg_NoAnswer : PySem.W.findIn K (.ref C_NoAnswer) "__getattribute__" = some (some (.builtin "BaseException.__getattribute__")))
    (xt_NoAnswer : PySem.W.findIn K (.ref C_NoAnswer) "__getattr__" = some none)
    (xb_NoAnswer : PySem.W.subIn K (.ref C_NoAnswer) (.type "BaseException") = some true)
    (xy_NoAnswer : PySem.W.typeIn K (.ref C_NoAnswer) = some (.type "type"))
    (xk_NoAnswer : PySem.W.keepIn K (.ref C_NoAnswer) = true)
    (xc_NoAnswer : PySem.W.findIn K (.ref C_NoAnswer) "__class__" = some (some (.builtin "object.__class__")))
    (xm_NoAnswer : PySem.W.mroIn K C_NoAnswer (.type "object") = some true)
    (xi_NoKey : PySem.W.excInitIn K C_NoKey [.type "LookupError", .type "Exception", .type "BaseException", .type "object"] "LookupError.__new__" = true)
    (xo_NoKey : PySem.W.excOver K C_NoKey [.type "LookupError", .type "Exception", .type "BaseException", .type "object"] = true)
    (xs_NoKey : PySem.W.findIn K (.ref C_NoKey) "__setattr__" = some (some (.builtin "object.__setattr__")))
    (xh_NoKey : PySem.W.hasDictIn K C_NoKey = true)
    (xg_NoKey : PySem.W.findIn K (.ref C_NoKey) "__getattribute__" = some (some (.builtin "BaseException.__getattribute__")))
    (xt_NoKey : PySem.W.findIn K (.ref C_NoKey) "__getattr__" = some none)
    (xb_NoKey : PySem.W.subIn K (.ref C_NoKey) (.type "BaseException") = some true)
    (xy_NoKey : PySem.W.typeIn K (.ref C_NoKey) = some (.type "type"))
    (xk_NoKey : PySem.W.keepIn K (.ref C_NoKey) = true)
    (xc_NoKey : PySem.W.findIn K (.ref C_NoKey) "__class__" = some (some (.builtin "object.__class__")))
    (xm_NoKey : PySem.W.mroIn K C_NoKey (.type "object") = some true)
    (xi_NoMatch : PySem.W.excInitIn K C_NoMatch [.type "ValueError", .type "Exception", .type "BaseException", .type "object"] "ValueError.__new__" = true)
    (xo_NoMatch : PySem.W.excOver K C_NoMatch [.type "ValueError", .type "Exception", .type "BaseException", .type "object"] = true)
    (xs_NoMatch : PySem.W.findIn K (.ref C_NoMatch) "__setattr__" = some (some (.builtin "object.__setattr__")))
    (xh_NoMatch : PySem.W.hasDictIn K C_NoMatch = true)
    (xg_NoMatch : PySem.W.findIn K (.ref C_NoMatch) "__getattribute__" = some (some (.builtin "BaseException.__getattribute__")))
    (xt_NoMatch : PySem.W.findIn K (.ref C_NoMatch) "__getattr__" = some none)
    (xb_NoMatch : PySem.W.subIn K (.ref C_NoMatch) (.type "BaseException") = some true)
    (xy_NoMatch : PySem.W.typeIn K (.ref C_NoMatch) = some (.type "type"))
    (xk_NoMatch : PySem.W.keepIn K (.ref C_NoMatch) = true)
    (xc_NoMatch : PySem.W.findIn K (.ref C_NoMatch) "__class__" = some (some (.builtin "object.__class__")))
    (xm_NoMatch : PySem.W.mroIn K C_NoMatch (.type "object") = some true)
    (xi_NoMend : PySem.W.excInitIn K C_NoMend [.type "ValueError", .type "Exception", .type "BaseException", .type "object"] "ValueError.__new__" = true)
    (xo_NoMend : PySem.W.excOver K C_NoMend [.type "ValueError", .type "Exception", .type "BaseException", .type "object"] = true)
    (xs_NoMend : PySem.W.findIn K (.ref C_NoMend) "__setattr__" = some (some (.builtin "object.__setattr__")))
    (xh_NoMend : PySem.W.hasDictIn K C_NoMend = true)
    (xg_NoMend : PySem.W.findIn K (.ref C_NoMend) "__getattribute__" = some (some (.builtin "BaseException.__getattribute__")))
    (xt_NoMend : PySem.W.findIn K (.ref C_NoMend) "__getattr__" = some none)
    (xb_NoMend : PySem.W.subIn K (.ref C_NoMend) (.type "BaseException") = some true)
    (xy_NoMend : PySem.W.typeIn K (.ref C_NoMend) = some (.type "type"))
    (xk_NoMend : PySem.W.keepIn K (.ref C_NoMend) = true)
    (xc_NoMend : PySem.W.findIn K (.ref C_NoMend) "__class__" = some (some (.builtin "object.__class__")))
    (xm_NoMend : PySem.W.mroIn K C_NoMend (.type "object") = some true)
    (xi_TooMany : PySem.W.excInitIn K C_TooMany [.type "ValueError", .type "Exception", .type "BaseException", .type "object"] "ValueError.__new__" = true)
    (xo_TooMany : PySem.W.excOver K C_TooMany [.type "ValueError", .type "Exception", .type "BaseException", .type "object"] = true)
    (xs_TooMany : PySem.W.findIn K (.ref C_TooMany) "__setattr__" = some (some (.builtin "object.__setattr__")))
    (xh_TooMany : PySem.W.hasDictIn K C_TooMany = true)
    (xg_TooMany : PySem.W.findIn K (.ref C_TooMany) "__getattribute__" = some (some (.builtin "BaseException.__getattribute__")))
    (xt_TooMany : PySem.W.findIn K (.ref C_TooMany) "__getattr__" = some none)
    (xb_TooMany : PySem.W.subIn K (.ref C_TooMany) (.type "BaseException") = some true)
    (xy_TooMany : PySem.W.typeIn K (.ref C_TooMany) = some (.type "type"))
    (xk_TooMany : PySem.W.keepIn K (.ref C_TooMany) = true)
    (xc_TooMany : PySem.W.findIn K (.ref C_TooMany) "__class__" = some (some (.builtin "object.__class__")))
    (xm_TooMany : PySem.W.mroIn K C_TooMany (.type "object") = some true)
    (xi_Unlike : PySem.W.excInitIn K C_Unlike [.type "ValueError", .type "Exception", .type "BaseException", .type "object"] "ValueError.__new__" = true)
    (xo_Unlike : PySem.W.excOver K C_Unlike [.type "ValueError", .type "Exception", .type "BaseException", .type "object"] = true)
    (xs_Unlike : PySem.W.findIn K (.ref C_Unlike) "__setattr__" = some (some (.builtin "object.__setattr__")))
    (xh_Unlike : PySem.W.hasDictIn K C_Unlike = true)
    (xg_Unlike : PySem.W.findIn K (.ref C_Unlike) "__getattribute__" = some (some (.builtin "BaseException.__getattribute__")))
    (xt_Unlike : PySem.W.findIn K (.ref C_Unlike) "__getattr__" = some none)
    (xb_Unlike : PySem.W.subIn K (.ref C_Unlike) (.type "BaseException") = some true)
    (xy_Unlike : PySem.W.typeIn K (.ref C_Unlike) = some (.type "type"))
    (xk_Unlike : PySem.W.keepIn K (.ref C_Unlike) = true)
    (xc_Unlike : PySem.W.findIn K (.ref C_Unlike) "__class__" = some (some (.builtin "object.__class__")))
    (xm_Unlike : PySem.W.mroIn K C_Unlike (.type "object") = some true)
    (pg_Unnumbered : PySem.W.plainGet K C_Unnumbered Str.empty = true)
    (hd_Unnumbered : PySem.W.hasDictIn K C_Unnumbered = true)
    (po_Unnumbered : PySem.W.plainOver K C_Unnumbered = true)
    (sa_Unnumbered : PySem.W.findIn K (.ref C_Unnumbered) "__setattr__" = some (some (.builtin "object.__setattr__")))
    (ca_Unnumbered : PySem.W.findIn K (.ref C_Unnumbered) "__class__" = some (some (.builtin "object.__class__")))
    (cm_Unnumbered : PySem.W.mroIn K C_Unnumbered (.type "object") = some true)
    (mk_Unnumbered : PySem.W.makesIn K C_Unnumbered = true)
    (kc_Unnumbered : PySem.W.keepIn K (.ref C_Unnumbered) = true)
    (ocn : PySem.W.specialIn K (.builtin "object.__class__") "__get__" = some (some (.builtin "getset_descriptor.__get__")))
    (oct : PySem.W.takesIn K (.builtin "object.__class__") = some true)
    (no_BadEntry_entry : PySem.W.findIn K (.ref C_BadEntry) "entry" = some none)
    (no_BadMerge_line : PySem.W.findIn K (.ref C_BadMerge) "line" = some none)
    (no_BadProgram_line : PySem.W.findIn K (.ref C_BadProgram) "line" = some none)
    (no_BadRule_side : PySem.W.findIn K (.ref C_BadRule) "side" = some none)
    (no_BadSeries_at : PySem.W.findIn K (.ref C_BadSeries) "at" = some none)
    (no_BadWay_way : PySem.W.findIn K (.ref C_BadWay) "way" = some none)
    (no_BadWish_name : PySem.W.findIn K (.ref C_BadWish) "name" = some none)
    (no_NoAnswer_name : PySem.W.findIn K (.ref C_NoAnswer) "name" = some none)
    (no_NoKey_key : PySem.W.findIn K (.ref C_NoKey) "key" = some none)
    (no_NoMatch_number : PySem.W.findIn K (.ref C_NoMatch) "number" = some none)
    (no_NoMend_mend : PySem.W.findIn K (.ref C_NoMend) "mend" = some none)
    (no_TooMany_what : PySem.W.findIn K (.ref C_TooMany) "what" = some none)
    (no_Unlike_name : PySem.W.findIn K (.ref C_Unlike) "name" = some none)
    (no_Unnumbered_name : PySem.W.findIn K (.ref C_Unnumbered) "name" = some none)
    (z_KeyError : PySem.W.nsIn K mainGlobals "KeyError" = some none)
    (z_LookupError : PySem.W.nsIn K mainGlobals "LookupError" = some none)
    (z_ValueError : PySem.W.nsIn K mainGlobals "ValueError" = some none)
    (z_abs : PySem.W.nsIn K mainGlobals "abs" = some none)
    (z_bool : PySem.W.nsIn K mainGlobals "bool" = some none)
    (z_int : PySem.W.nsIn K mainGlobals "int" = some none)
    (z_isinstance : PySem.W.nsIn K mainGlobals "isinstance" = some none)
    (z_len : PySem.W.nsIn K mainGlobals "len" = some none)
    (z_max : PySem.W.nsIn K mainGlobals "max" = some none)
    (z_min : PySem.W.nsIn K mainGlobals "min" = some none)
    (z_range : PySem.W.nsIn K mainGlobals "range" = some none)
    (ki_BadSeries_BadSeries : PySem.W.kitOne K (.ref C_BadSeries) (.ref C_BadSeries) = some true)
    (ki_BadSeries_BadProgram : PySem.W.kitOne K (.ref C_BadSeries) (.ref C_BadProgram) = some false)
    (ki_BadSeries_BadMerge : PySem.W.kitOne K (.ref C_BadSeries) (.ref C_BadMerge) = some false)
    (ki_BadSeries_BadRule : PySem.W.kitOne K (.ref C_BadSeries) (.ref C_BadRule) = some false)
    (ki_BadSeries_BadWish : PySem.W.kitOne K (.ref C_BadSeries) (.ref C_BadWish) = some false)
    (ki_BadSeries_BadEntry : PySem.W.kitOne K (.ref C_BadSeries) (.ref C_BadEntry) = some false)
    (ki_BadSeries_BadWay : PySem.W.kitOne K (.ref C_BadSeries) (.ref C_BadWay) = some false)
    (ki_BadSeries_Unlike : PySem.W.kitOne K (.ref C_BadSeries) (.ref C_Unlike) = some false)
    (ki_BadSeries_NoMend : PySem.W.kitOne K (.ref C_BadSeries) (.ref C_NoMend) = some false)
    (ki_BadSeries_NoMatch : PySem.W.kitOne K (.ref C_BadSeries) (.ref C_NoMatch) = some false)
    (ki_BadSeries_TooMany : PySem.W.kitOne K (.ref C_BadSeries) (.ref C_TooMany) = some false)
    (ki_BadSeries_NoKey : PySem.W.kitOne K (.ref C_BadSeries) (.ref C_NoKey) = some false)
    (ki_BadSeries_NoAnswer : PySem.W.kitOne K (.ref C_BadSeries) (.ref C_NoAnswer) = some false)
    (ki_BadSeries_UnnumberedError : PySem.W.kitOne K (.ref C_BadSeries) (.ref C_UnnumberedError) = some true)
    (ki_BadSeries_ValueError : PySem.W.kitOne K (.ref C_BadSeries) (.type "ValueError") = some true)
    (ki_BadSeries_LookupError : PySem.W.kitOne K (.ref C_BadSeries) (.type "LookupError") = some false)
    (ki_BadSeries_KeyError : PySem.W.kitOne K (.ref C_BadSeries) (.type "KeyError") = some false)
    (ki_BadProgram_BadSeries : PySem.W.kitOne K (.ref C_BadProgram) (.ref C_BadSeries) = some false)
    (ki_BadProgram_BadProgram : PySem.W.kitOne K (.ref C_BadProgram) (.ref C_BadProgram) = some true)
    (ki_BadProgram_BadMerge : PySem.W.kitOne K (.ref C_BadProgram) (.ref C_BadMerge) = some false)
    (ki_BadProgram_BadRule : PySem.W.kitOne K (.ref C_BadProgram) (.ref C_BadRule) = some false)
    (ki_BadProgram_BadWish : PySem.W.kitOne K (.ref C_BadProgram) (.ref C_BadWish) = some false)
    (ki_BadProgram_BadEntry : PySem.W.kitOne K (.ref C_BadProgram) (.ref C_BadEntry) = some false)
    (ki_BadProgram_BadWay : PySem.W.kitOne K (.ref C_BadProgram) (.ref C_BadWay) = some false)
    (ki_BadProgram_Unlike : PySem.W.kitOne K (.ref C_BadProgram) (.ref C_Unlike) = some false)
    (ki_BadProgram_NoMend : PySem.W.kitOne K (.ref C_BadProgram) (.ref C_NoMend) = some false)
    (ki_BadProgram_NoMatch : PySem.W.kitOne K (.ref C_BadProgram) (.ref C_NoMatch) = some false)
    (ki_BadProgram_TooMany : PySem.W.kitOne K (.ref C_BadProgram) (.ref C_TooMany) = some false)
    (ki_BadProgram_NoKey : PySem.W.kitOne K (.ref C_BadProgram) (.ref C_NoKey) = some false)
    (ki_BadProgram_NoAnswer : PySem.W.kitOne K (.ref C_BadProgram) (.ref C_NoAnswer) = some false)
    (ki_BadProgram_UnnumberedError : PySem.W.kitOne K (.ref C_BadProgram) (.ref C_UnnumberedError) = some true)
    (ki_BadProgram_ValueError : PySem.W.kitOne K (.ref C_BadProgram) (.type "ValueError") = some true)
    (ki_BadProgram_LookupError : PySem.W.kitOne K (.ref C_BadProgram) (.type "LookupError") = some false)
    (ki_BadProgram_KeyError : PySem.W.kitOne K (.ref C_BadProgram) (.type "KeyError") = some false)
    (ki_BadMerge_BadSeries : PySem.W.kitOne K (.ref C_BadMerge) (.ref C_BadSeries) = some false)
    (ki_BadMerge_BadProgram : PySem.W.kitOne K (.ref C_BadMerge) (.ref C_BadProgram) = some false)
    (ki_BadMerge_BadMerge : PySem.W.kitOne K (.ref C_BadMerge) (.ref C_BadMerge) = some true)
    (ki_BadMerge_BadRule : PySem.W.kitOne K (.ref C_BadMerge) (.ref C_BadRule) = some false)
    (ki_BadMerge_BadWish : PySem.W.kitOne K (.ref C_BadMerge) (.ref C_BadWish) = some false)
    (ki_BadMerge_BadEntry : PySem.W.kitOne K (.ref C_BadMerge) (.ref C_BadEntry) = some false)
    (ki_BadMerge_BadWay : PySem.W.kitOne K (.ref C_BadMerge) (.ref C_BadWay) = some false)
    (ki_BadMerge_Unlike : PySem.W.kitOne K (.ref C_BadMerge) (.ref C_Unlike) = some false)
    (ki_BadMerge_NoMend : PySem.W.kitOne K (.ref C_BadMerge) (.ref C_NoMend) = some false)
    (ki_BadMerge_NoMatch : PySem.W.kitOne K (.ref C_BadMerge) (.ref C_NoMatch) = some false)
    (ki_BadMerge_TooMany : PySem.W.kitOne K (.ref C_BadMerge) (.ref C_TooMany) = some false)
    (ki_BadMerge_NoKey : PySem.W.kitOne K (.ref C_BadMerge) (.ref C_NoKey) = some false)
    (ki_BadMerge_NoAnswer : PySem.W.kitOne K (.ref C_BadMerge) (.ref C_NoAnswer) = some false)
    (ki_BadMerge_UnnumberedError : PySem.W.kitOne K (.ref C_BadMerge) (.ref C_UnnumberedError) = some true)
    (ki_BadMerge_ValueError : PySem.W.kitOne K (.ref C_BadMerge) (.type "ValueError") = some true)
    (ki_BadMerge_LookupError : PySem.W.kitOne K (.ref C_BadMerge) (.type "LookupError") = some false)
    (ki_BadMerge_KeyError : PySem.W.kitOne K (.ref C_BadMerge) (.type "KeyError") = some false)
    (ki_BadRule_BadSeries : PySem.W.kitOne K (.ref C_BadRule) (.ref C_BadSeries) = some false)
    (ki_BadRule_BadProgram : PySem.W.kitOne K (.ref C_BadRule) (.ref C_BadProgram) = some false)
    (ki_BadRule_BadMerge : PySem.W.kitOne K (.ref C_BadRule) (.ref C_BadMerge) = some false)
    (ki_BadRule_BadRule : PySem.W.kitOne K (.ref C_BadRule) (.ref C_BadRule) = some true)
    (ki_BadRule_BadWish : PySem.W.kitOne K (.ref C_BadRule) (.ref C_BadWish) = some false)
    (ki_BadRule_BadEntry : PySem.W.kitOne K (.ref C_BadRule) (.ref C_BadEntry) = some false)
    (ki_BadRule_BadWay : PySem.W.kitOne K (.ref C_BadRule) (.ref C_BadWay) = some false)
    (ki_BadRule_Unlike : PySem.W.kitOne K (.ref C_BadRule) (.ref C_Unlike) = some false)
    (ki_BadRule_NoMend : PySem.W.kitOne K (.ref C_BadRule) (.ref C_NoMend) = some false)
    (ki_BadRule_NoMatch : PySem.W.kitOne K (.ref C_BadRule) (.ref C_NoMatch) = some false)
    (ki_BadRule_TooMany : PySem.W.kitOne K (.ref C_BadRule) (.ref C_TooMany) = some false)
    (ki_BadRule_NoKey : PySem.W.kitOne K (.ref C_BadRule) (.ref C_NoKey) = some false)
    (ki_BadRule_NoAnswer : PySem.W.kitOne K (.ref C_BadRule) (.ref C_NoAnswer) = some false)
    (ki_BadRule_UnnumberedError : PySem.W.kitOne K (.ref C_BadRule) (.ref C_UnnumberedError) = some true)
    (ki_BadRule_ValueError : PySem.W.kitOne K (.ref C_BadRule) (.type "ValueError") = some true)
    (ki_BadRule_LookupError : PySem.W.kitOne K (.ref C_BadRule) (.type "LookupError") = some false)
    (ki_BadRule_KeyError : PySem.W.kitOne K (.ref C_BadRule) (.type "KeyError") = some false)
    (ki_BadWish_BadSeries : PySem.W.kitOne K (.ref C_BadWish) (.ref C_BadSeries) = some false)
    (ki_BadWish_BadProgram : PySem.W.kitOne K (.ref C_BadWish) (.ref C_BadProgram) = some false)
    (ki_BadWish_BadMerge : PySem.W.kitOne K (.ref C_BadWish) (.ref C_BadMerge) = some false)
    (ki_BadWish_BadRule : PySem.W.kitOne K (.ref C_BadWish) (.ref C_BadRule) = some false)
    (ki_BadWish_BadWish : PySem.W.kitOne K (.ref C_BadWish) (.ref C_BadWish) = some true)
    (ki_BadWish_BadEntry : PySem.W.kitOne K (.ref C_BadWish) (.ref C_BadEntry) = some false)
    (ki_BadWish_BadWay : PySem.W.kitOne K (.ref C_BadWish) (.ref C_BadWay) = some false)
    (ki_BadWish_Unlike : PySem.W.kitOne K (.ref C_BadWish) (.ref C_Unlike) = some false)
    (ki_BadWish_NoMend : PySem.W.kitOne K (.ref C_BadWish) (.ref C_NoMend) = some false)
    (ki_BadWish_NoMatch : PySem.W.kitOne K (.ref C_BadWish) (.ref C_NoMatch) = some false)
    (ki_BadWish_TooMany : PySem.W.kitOne K (.ref C_BadWish) (.ref C_TooMany) = some false)
    (ki_BadWish_NoKey : PySem.W.kitOne K (.ref C_BadWish) (.ref C_NoKey) = some false)
    (ki_BadWish_NoAnswer : PySem.W.kitOne K (.ref C_BadWish) (.ref C_NoAnswer) = some false)
    (ki_BadWish_UnnumberedError : PySem.W.kitOne K (.ref C_BadWish) (.ref C_UnnumberedError) = some true)
    (ki_BadWish_ValueError : PySem.W.kitOne K (.ref C_BadWish) (.type "ValueError") = some true)
    (ki_BadWish_LookupError : PySem.W.kitOne K (.ref C_BadWish) (.type "LookupError") = some false)
    (ki_BadWish_KeyError : PySem.W.kitOne K (.ref C_BadWish) (.type "KeyError") = some false)
    (ki_BadEntry_BadSeries : PySem.W.kitOne K (.ref C_BadEntry) (.ref C_BadSeries) = some false)
    (ki_BadEntry_BadProgram : PySem.W.kitOne K (.ref C_BadEntry) (.ref C_BadProgram) = some false)
    (ki_BadEntry_BadMerge : PySem.W.kitOne K (.ref C_BadEntry) (.ref C_BadMerge) = some false)
    (ki_BadEntry_BadRule : PySem.W.kitOne K (.ref C_BadEntry) (.ref C_BadRule) = some false)
    (ki_BadEntry_BadWish : PySem.W.kitOne K (.ref C_BadEntry) (.ref C_BadWish) = some false)
    (ki_BadEntry_BadEntry : PySem.W.kitOne K (.ref C_BadEntry) (.ref C_BadEntry) = some true)
    (ki_BadEntry_BadWay : PySem.W.kitOne K (.ref C_BadEntry) (.ref C_BadWay) = some false)
    (ki_BadEntry_Unlike : PySem.W.kitOne K (.ref C_BadEntry) (.ref C_Unlike) = some false)
    (ki_BadEntry_NoMend : PySem.W.kitOne K (.ref C_BadEntry) (.ref C_NoMend) = some false)
    (ki_BadEntry_NoMatch : PySem.W.kitOne K (.ref C_BadEntry) (.ref C_NoMatch) = some false)
    (ki_BadEntry_TooMany : PySem.W.kitOne K (.ref C_BadEntry) (.ref C_TooMany) = some false)
    (ki_BadEntry_NoKey : PySem.W.kitOne K (.ref C_BadEntry) (.ref C_NoKey) = some false)
    (ki_BadEntry_NoAnswer : PySem.W.kitOne K (.ref C_BadEntry) (.ref C_NoAnswer) = some false)
    (ki_BadEntry_UnnumberedError : PySem.W.kitOne K (.ref C_BadEntry) (.ref C_UnnumberedError) = some true)
    (ki_BadEntry_ValueError : PySem.W.kitOne K (.ref C_BadEntry) (.type "ValueError") = some true)
    (ki_BadEntry_LookupError : PySem.W.kitOne K (.ref C_BadEntry) (.type "LookupError") = some false)
    (ki_BadEntry_KeyError : PySem.W.kitOne K (.ref C_BadEntry) (.type "KeyError") = some false)
    (ki_BadWay_BadSeries : PySem.W.kitOne K (.ref C_BadWay) (.ref C_BadSeries) = some false)
    (ki_BadWay_BadProgram : PySem.W.kitOne K (.ref C_BadWay) (.ref C_BadProgram) = some false)
    (ki_BadWay_BadMerge : PySem.W.kitOne K (.ref C_BadWay) (.ref C_BadMerge) = some false)
    (ki_BadWay_BadRule : PySem.W.kitOne K (.ref C_BadWay) (.ref C_BadRule) = some false)
    (ki_BadWay_BadWish : PySem.W.kitOne K (.ref C_BadWay) (.ref C_BadWish) = some false)
    (ki_BadWay_BadEntry : PySem.W.kitOne K (.ref C_BadWay) (.ref C_BadEntry) = some false)
    (ki_BadWay_BadWay : PySem.W.kitOne K (.ref C_BadWay) (.ref C_BadWay) = some true)
    (ki_BadWay_Unlike : PySem.W.kitOne K (.ref C_BadWay) (.ref C_Unlike) = some false)
    (ki_BadWay_NoMend : PySem.W.kitOne K (.ref C_BadWay) (.ref C_NoMend) = some false)
    (ki_BadWay_NoMatch : PySem.W.kitOne K (.ref C_BadWay) (.ref C_NoMatch) = some false)
    (ki_BadWay_TooMany : PySem.W.kitOne K (.ref C_BadWay) (.ref C_TooMany) = some false)
    (ki_BadWay_NoKey : PySem.W.kitOne K (.ref C_BadWay) (.ref C_NoKey) = some false)
    (ki_BadWay_NoAnswer : PySem.W.kitOne K (.ref C_BadWay) (.ref C_NoAnswer) = some false)
    (ki_BadWay_UnnumberedError : PySem.W.kitOne K (.ref C_BadWay) (.ref C_UnnumberedError) = some true)
    (ki_BadWay_ValueError : PySem.W.kitOne K (.ref C_BadWay) (.type "ValueError") = some true)
    (ki_BadWay_LookupError : PySem.W.kitOne K (.ref C_BadWay) (.type "LookupError") = some false)
    (ki_BadWay_KeyError : PySem.W.kitOne K (.ref C_BadWay) (.type "KeyError") = some false)
    (ki_Unlike_BadSeries : PySem.W.kitOne K (.ref C_Unlike) (.ref C_BadSeries) = some false)
    (ki_Unlike_BadProgram : PySem.W.kitOne K (.ref C_Unlike) (.ref C_BadProgram) = some false)
    (ki_Unlike_BadMerge : PySem.W.kitOne K (.ref C_Unlike) (.ref C_BadMerge) = some false)
    (ki_Unlike_BadRule : PySem.W.kitOne K (.ref C_Unlike) (.ref C_BadRule) = some false)
    (ki_Unlike_BadWish : PySem.W.kitOne K (.ref C_Unlike) (.ref C_BadWish) = some false)
    (ki_Unlike_BadEntry : PySem.W.kitOne K (.ref C_Unlike) (.ref C_BadEntry) = some false)
    (ki_Unlike_BadWay : PySem.W.kitOne K (.ref C_Unlike) (.ref C_BadWay) = some false)
    (ki_Unlike_Unlike : PySem.W.kitOne K (.ref C_Unlike) (.ref C_Unlike) = some true)
    (ki_Unlike_NoMend : PySem.W.kitOne K (.ref C_Unlike) (.ref C_NoMend) = some false)
    (ki_Unlike_NoMatch : PySem.W.kitOne K (.ref C_Unlike) (.ref C_NoMatch) = some false)
    (ki_Unlike_TooMany : PySem.W.kitOne K (.ref C_Unlike) (.ref C_TooMany) = some false)
    (ki_Unlike_NoKey : PySem.W.kitOne K (.ref C_Unlike) (.ref C_NoKey) = some false)
    (ki_Unlike_NoAnswer : PySem.W.kitOne K (.ref C_Unlike) (.ref C_NoAnswer) = some false)
    (ki_Unlike_UnnumberedError : PySem.W.kitOne K (.ref C_Unlike) (.ref C_UnnumberedError) = some true)
    (ki_Unlike_ValueError : PySem.W.kitOne K (.ref C_Unlike) (.type "ValueError") = some true)
    (ki_Unlike_LookupError : PySem.W.kitOne K (.ref C_Unlike) (.type "LookupError") = some false)
    (ki_Unlike_KeyError : PySem.W.kitOne K (.ref C_Unlike) (.type "KeyError") = some false)
    (ki_NoMend_BadSeries : PySem.W.kitOne K (.ref C_NoMend) (.ref C_BadSeries) = some false)
    (ki_NoMend_BadProgram : PySem.W.kitOne K (.ref C_NoMend) (.ref C_BadProgram) = some false)
    (ki_NoMend_BadMerge : PySem.W.kitOne K (.ref C_NoMend) (.ref C_BadMerge) = some false)
    (ki_NoMend_BadRule : PySem.W.kitOne K (.ref C_NoMend) (.ref C_BadRule) = some false)
    (ki_NoMend_BadWish : PySem.W.kitOne K (.ref C_NoMend) (.ref C_BadWish) = some false)
    (ki_NoMend_BadEntry : PySem.W.kitOne K (.ref C_NoMend) (.ref C_BadEntry) = some false)
    (ki_NoMend_BadWay : PySem.W.kitOne K (.ref C_NoMend) (.ref C_BadWay) = some false)
    (ki_NoMend_Unlike : PySem.W.kitOne K (.ref C_NoMend) (.ref C_Unlike) = some false)
    (ki_NoMend_NoMend : PySem.W.kitOne K (.ref C_NoMend) (.ref C_NoMend) = some true)
    (ki_NoMend_NoMatch : PySem.W.kitOne K (.ref C_NoMend) (.ref C_NoMatch) = some false)
    (ki_NoMend_TooMany : PySem.W.kitOne K (.ref C_NoMend) (.ref C_TooMany) = some false)
    (ki_NoMend_NoKey : PySem.W.kitOne K (.ref C_NoMend) (.ref C_NoKey) = some false)
    (ki_NoMend_NoAnswer : PySem.W.kitOne K (.ref C_NoMend) (.ref C_NoAnswer) = some false)
    (ki_NoMend_UnnumberedError : PySem.W.kitOne K (.ref C_NoMend) (.ref C_UnnumberedError) = some true)
    (ki_NoMend_ValueError : PySem.W.kitOne K (.ref C_NoMend) (.type "ValueError") = some true)
    (ki_NoMend_LookupError : PySem.W.kitOne K (.ref C_NoMend) (.type "LookupError") = some false)
    (ki_NoMend_KeyError : PySem.W.kitOne K (.ref C_NoMend) (.type "KeyError") = some false)
    (ki_NoMatch_BadSeries : PySem.W.kitOne K (.ref C_NoMatch) (.ref C_BadSeries) = some false)
    (ki_NoMatch_BadProgram : PySem.W.kitOne K (.ref C_NoMatch) (.ref C_BadProgram) = some false)
    (ki_NoMatch_BadMerge : PySem.W.kitOne K (.ref C_NoMatch) (.ref C_BadMerge) = some false)
    (ki_NoMatch_BadRule : PySem.W.kitOne K (.ref C_NoMatch) (.ref C_BadRule) = some false)
    (ki_NoMatch_BadWish : PySem.W.kitOne K (.ref C_NoMatch) (.ref C_BadWish) = some false)
    (ki_NoMatch_BadEntry : PySem.W.kitOne K (.ref C_NoMatch) (.ref C_BadEntry) = some false)
    (ki_NoMatch_BadWay : PySem.W.kitOne K (.ref C_NoMatch) (.ref C_BadWay) = some false)
    (ki_NoMatch_Unlike : PySem.W.kitOne K (.ref C_NoMatch) (.ref C_Unlike) = some false)
    (ki_NoMatch_NoMend : PySem.W.kitOne K (.ref C_NoMatch) (.ref C_NoMend) = some false)
    (ki_NoMatch_NoMatch : PySem.W.kitOne K (.ref C_NoMatch) (.ref C_NoMatch) = some true)
    (ki_NoMatch_TooMany : PySem.W.kitOne K (.ref C_NoMatch) (.ref C_TooMany) = some false)
    (ki_NoMatch_NoKey : PySem.W.kitOne K (.ref C_NoMatch) (.ref C_NoKey) = some false)
    (ki_NoMatch_NoAnswer : PySem.W.kitOne K (.ref C_NoMatch) (.ref C_NoAnswer) = some false)
    (ki_NoMatch_UnnumberedError : PySem.W.kitOne K (.ref C_NoMatch) (.ref C_UnnumberedError) = some true)
    (ki_NoMatch_ValueError : PySem.W.kitOne K (.ref C_NoMatch) (.type "ValueError") = some true)
    (ki_NoMatch_LookupError : PySem.W.kitOne K (.ref C_NoMatch) (.type "LookupError") = some false)
    (ki_NoMatch_KeyError : PySem.W.kitOne K (.ref C_NoMatch) (.type "KeyError") = some false)
    (ki_TooMany_BadSeries : PySem.W.kitOne K (.ref C_TooMany) (.ref C_BadSeries) = some false)
    (ki_TooMany_BadProgram : PySem.W.kitOne K (.ref C_TooMany) (.ref C_BadProgram) = some false)
    (ki_TooMany_BadMerge : PySem.W.kitOne K (.ref C_TooMany) (.ref C_BadMerge) = some false)
    (ki_TooMany_BadRule : PySem.W.kitOne K (.ref C_TooMany) (.ref C_BadRule) = some false)
    (ki_TooMany_BadWish : PySem.W.kitOne K (.ref C_TooMany) (.ref C_BadWish) = some false)
    (ki_TooMany_BadEntry : PySem.W.kitOne K (.ref C_TooMany) (.ref C_BadEntry) = some false)
    (ki_TooMany_BadWay : PySem.W.kitOne K (.ref C_TooMany) (.ref C_BadWay) = some false)
    (ki_TooMany_Unlike : PySem.W.kitOne K (.ref C_TooMany) (.ref C_Unlike) = some false)
    (ki_TooMany_NoMend : PySem.W.kitOne K (.ref C_TooMany) (.ref C_NoMend) = some false)
    (ki_TooMany_NoMatch : PySem.W.kitOne K (.ref C_TooMany) (.ref C_NoMatch) = some false)
    (ki_TooMany_TooMany : PySem.W.kitOne K (.ref C_TooMany) (.ref C_TooMany) = some true)
    (ki_TooMany_NoKey : PySem.W.kitOne K (.ref C_TooMany) (.ref C_NoKey) = some false)
    (ki_TooMany_NoAnswer : PySem.W.kitOne K (.ref C_TooMany) (.ref C_NoAnswer) = some false)
    (ki_TooMany_UnnumberedError : PySem.W.kitOne K (.ref C_TooMany) (.ref C_UnnumberedError) = some true)
    (ki_TooMany_ValueError : PySem.W.kitOne K (.ref C_TooMany) (.type "ValueError") = some true)
    (ki_TooMany_LookupError : PySem.W.kitOne K (.ref C_TooMany) (.type "LookupError") = some false)
    (ki_TooMany_KeyError : PySem.W.kitOne K (.ref C_TooMany) (.type "KeyError") = some false)
    (ki_NoKey_BadSeries : PySem.W.kitOne K (.ref C_NoKey) (.ref C_BadSeries) = some false)
    (ki_NoKey_BadProgram : PySem.W.kitOne K (.ref C_NoKey) (.ref C_BadProgram) = some false)
    (ki_NoKey_BadMerge : PySem.W.kitOne K (.ref C_NoKey) (.ref C_BadMerge) = some false)
    (ki_NoKey_BadRule : PySem.W.kitOne K (.ref C_NoKey) (.ref C_BadRule) = some false)
    (ki_NoKey_BadWish : PySem.W.kitOne K (.ref C_NoKey) (.ref C_BadWish) = some false)
    (ki_NoKey_BadEntry : PySem.W.kitOne K (.ref C_NoKey) (.ref C_BadEntry) = some false)
    (ki_NoKey_BadWay : PySem.W.kitOne K (.ref C_NoKey) (.ref C_BadWay) = some false)
    (ki_NoKey_Unlike : PySem.W.kitOne K (.ref C_NoKey) (.ref C_Unlike) = some false)
    (ki_NoKey_NoMend : PySem.W.kitOne K (.ref C_NoKey) (.ref C_NoMend) = some false)
    (ki_NoKey_NoMatch : PySem.W.kitOne K (.ref C_NoKey) (.ref C_NoMatch) = some false)
    (ki_NoKey_TooMany : PySem.W.kitOne K (.ref C_NoKey) (.ref C_TooMany) = some false)
    (ki_NoKey_NoKey : PySem.W.kitOne K (.ref C_NoKey) (.ref C_NoKey) = some true)
    (ki_NoKey_NoAnswer : PySem.W.kitOne K (.ref C_NoKey) (.ref C_NoAnswer) = some false)
    (ki_NoKey_UnnumberedError : PySem.W.kitOne K (.ref C_NoKey) (.ref C_UnnumberedError) = some false)
    (ki_NoKey_ValueError : PySem.W.kitOne K (.ref C_NoKey) (.type "ValueError") = some false)
    (ki_NoKey_LookupError : PySem.W.kitOne K (.ref C_NoKey) (.type "LookupError") = some true)
    (ki_NoKey_KeyError : PySem.W.kitOne K (.ref C_NoKey) (.type "KeyError") = some false)
    (ki_NoAnswer_BadSeries : PySem.W.kitOne K (.ref C_NoAnswer) (.ref C_BadSeries) = some false)
    (ki_NoAnswer_BadProgram : PySem.W.kitOne K (.ref C_NoAnswer) (.ref C_BadProgram) = some false)
    (ki_NoAnswer_BadMerge : PySem.W.kitOne K (.ref C_NoAnswer) (.ref C_BadMerge) = some false)
    (ki_NoAnswer_BadRule : PySem.W.kitOne K (.ref C_NoAnswer) (.ref C_BadRule) = some false)
    (ki_NoAnswer_BadWish : PySem.W.kitOne K (.ref C_NoAnswer) (.ref C_BadWish) = some false)
    (ki_NoAnswer_BadEntry : PySem.W.kitOne K (.ref C_NoAnswer) (.ref C_BadEntry) = some false)
    (ki_NoAnswer_BadWay : PySem.W.kitOne K (.ref C_NoAnswer) (.ref C_BadWay) = some false)
    (ki_NoAnswer_Unlike : PySem.W.kitOne K (.ref C_NoAnswer) (.ref C_Unlike) = some false)
    (ki_NoAnswer_NoMend : PySem.W.kitOne K (.ref C_NoAnswer) (.ref C_NoMend) = some false)
    (ki_NoAnswer_NoMatch : PySem.W.kitOne K (.ref C_NoAnswer) (.ref C_NoMatch) = some false)
    (ki_NoAnswer_TooMany : PySem.W.kitOne K (.ref C_NoAnswer) (.ref C_TooMany) = some false)
    (ki_NoAnswer_NoKey : PySem.W.kitOne K (.ref C_NoAnswer) (.ref C_NoKey) = some false)
    (ki_NoAnswer_NoAnswer : PySem.W.kitOne K (.ref C_NoAnswer) (.ref C_NoAnswer) = some true)
    (ki_NoAnswer_UnnumberedError : PySem.W.kitOne K (.ref C_NoAnswer) (.ref C_UnnumberedError) = some false)
    (ki_NoAnswer_ValueError : PySem.W.kitOne K (.ref C_NoAnswer) (.type "ValueError") = some false)
    (ki_NoAnswer_LookupError : PySem.W.kitOne K (.ref C_NoAnswer) (.type "LookupError") = some true)
    (ki_NoAnswer_KeyError : PySem.W.kitOne K (.ref C_NoAnswer) (.type "KeyError") = some false)
    (ki_Unnumbered_bool : PySem.W.kitOne K (.ref C_Unnumbered) (.type "bool") = some false)
    : ∃ fd : FuncData, (∀ (s : Shared) (v : Value), BindsTo s fd ⟨[v], []⟩ [("_law_script", v)]) ∧ ∀ base : Heap, K.In base → base.Ns mainGlobals mg → FnOk l.prog w K mg base CX0 5 fa fd ["_law_script"] (sp_law K) := by
  have e := hfa.symm.trans (PySem.W.mg_of X G a_law)
  cases e
  have F_law_draw := fun_mk (st := s_law_draw) l_law_draw c_law_draw k_law_draw
  have B_law_draw := F_law_draw.binds (ps := ["_law_bag_here", "_law_many"]) fun _ _ _ _ _ _ us hl => match us, hl with | [_, _], _ => rfl
  have F_law_bag := fun_mk (st := s_law_bag) l_law_bag c_law_bag k_law_bag
  have B_law_bag := F_law_bag.binds (ps := ["_law_script", "_law_at"]) fun _ _ _ _ _ _ us hl => match us, hl with | [_, _], _ => rfl
  have F_law_number := fun_mk (st := s_law_number) l_law_number c_law_number k_law_number
  have B_law_number := F_law_number.binds (ps := ["_law_bag_here"]) fun _ _ _ _ _ _ us hl => match us, hl with | [_], _ => rfl
  have F_law_word := fun_mk (st := s_law_word) l_law_word c_law_word k_law_word
  have B_law_word := F_law_word.binds (ps := ["_law_bag_here"]) fun _ _ _ _ _ _ us hl => match us, hl with | [_], _ => rfl
  have F_Unnumbered___init := fun_mk (st := s_Unnumbered___init) l_Unnumbered___init c_Unnumbered___init k_Unnumbered___init
  have B_Unnumbered___init := F_Unnumbered___init.binds (ps := ["self", "name"]) fun _ _ _ _ _ _ us hl => match us, hl with | [_, _], _ => rfl
  have F_BadSeries___init := fun_mk (st := s_BadSeries___init) l_BadSeries___init c_BadSeries___init k_BadSeries___init
  have B_BadSeries___init := F_BadSeries___init.binds (ps := ["self", "at"]) fun _ _ _ _ _ _ us hl => match us, hl with | [_, _], _ => rfl
  have F_BadProgram___init := fun_mk (st := s_BadProgram___init) l_BadProgram___init c_BadProgram___init k_BadProgram___init
  have B_BadProgram___init := F_BadProgram___init.binds (ps := ["self", "line"]) fun _ _ _ _ _ _ us hl => match us, hl with | [_, _], _ => rfl
  have F_BadMerge___init := fun_mk (st := s_BadMerge___init) l_BadMerge___init c_BadMerge___init k_BadMerge___init
  have B_BadMerge___init := F_BadMerge___init.binds (ps := ["self", "line"]) fun _ _ _ _ _ _ us hl => match us, hl with | [_, _], _ => rfl
  have F_BadRule___init := fun_mk (st := s_BadRule___init) l_BadRule___init c_BadRule___init k_BadRule___init
  have B_BadRule___init := F_BadRule___init.binds (ps := ["self", "side"]) fun _ _ _ _ _ _ us hl => match us, hl with | [_, _], _ => rfl
  have F_BadWish___init := fun_mk (st := s_BadWish___init) l_BadWish___init c_BadWish___init k_BadWish___init
  have B_BadWish___init := F_BadWish___init.binds (ps := ["self", "name"]) fun _ _ _ _ _ _ us hl => match us, hl with | [_, _], _ => rfl
  have F_BadEntry___init := fun_mk (st := s_BadEntry___init) l_BadEntry___init c_BadEntry___init k_BadEntry___init
  have B_BadEntry___init := F_BadEntry___init.binds (ps := ["self", "entry"]) fun _ _ _ _ _ _ us hl => match us, hl with | [_, _], _ => rfl
  have F_BadWay___init := fun_mk (st := s_BadWay___init) l_BadWay___init c_BadWay___init k_BadWay___init
  have B_BadWay___init := F_BadWay___init.binds (ps := ["self", "way"]) fun _ _ _ _ _ _ us hl => match us, hl with | [_, _], _ => rfl
  have F_Unlike___init := fun_mk (st := s_Unlike___init) l_Unlike___init c_Unlike___init k_Unlike___init
  have B_Unlike___init := F_Unlike___init.binds (ps := ["self", "name"]) fun _ _ _ _ _ _ us hl => match us, hl with | [_, _], _ => rfl
  have F_NoMend___init := fun_mk (st := s_NoMend___init) l_NoMend___init c_NoMend___init k_NoMend___init
  have B_NoMend___init := F_NoMend___init.binds (ps := ["self", "mend"]) fun _ _ _ _ _ _ us hl => match us, hl with | [_, _], _ => rfl
  have F_NoMatch___init := fun_mk (st := s_NoMatch___init) l_NoMatch___init c_NoMatch___init k_NoMatch___init
  have B_NoMatch___init := F_NoMatch___init.binds (ps := ["self", "number"]) fun _ _ _ _ _ _ us hl => match us, hl with | [_, _], _ => rfl
  have F_TooMany___init := fun_mk (st := s_TooMany___init) l_TooMany___init c_TooMany___init k_TooMany___init
  have B_TooMany___init := F_TooMany___init.binds (ps := ["self", "what"]) fun _ _ _ _ _ _ us hl => match us, hl with | [_, _], _ => rfl
  have F_NoKey___init := fun_mk (st := s_NoKey___init) l_NoKey___init c_NoKey___init k_NoKey___init
  have B_NoKey___init := F_NoKey___init.binds (ps := ["self", "key"]) fun _ _ _ _ _ _ us hl => match us, hl with | [_, _], _ => rfl
  have F_NoAnswer___init := fun_mk (st := s_NoAnswer___init) l_NoAnswer___init c_NoAnswer___init k_NoAnswer___init
  have B_NoAnswer___init := F_NoAnswer___init.binds (ps := ["self", "name"]) fun _ _ _ _ _ _ us hl => match us, hl with | [_, _], _ => rfl
  have F_law_first := fun_mk (st := s_law_first) l_law_first c_law_first k_law_first
  have B_law_first := F_law_first.binds (ps := ["_law_kind", "_law_thing_here"]) fun _ _ _ _ _ _ us hl => match us, hl with | [_, _], _ => rfl
  have F_law_error := fun_mk (st := s_law_error) l_law_error c_law_error k_law_error
  have B_law_error := F_law_error.binds (ps := ["_law_kind", "_law_thing_here"]) fun _ _ _ _ _ _ us hl => match us, hl with | [_, _], _ => rfl
  have F_law_kinds := fun_mk (st := s_law_kinds) l_law_kinds c_law_kinds k_law_kinds
  have B_law_kinds := F_law_kinds.binds (ps := ["_law_made"]) fun _ _ _ _ _ _ us hl => match us, hl with | [_], _ => rfl
  have F_law_thing := fun_mk (st := s_law_thing) l_law_thing c_law_thing k_law_thing
  have B_law_thing := F_law_thing.binds (ps := ["_law_bag_here"]) fun _ _ _ _ _ _ us hl => match us, hl with | [_], _ => rfl
  have F_law := fun_mk (st := s_law) l_law c_law k_law
  have B_law := F_law.binds (ps := ["_law_script"]) fun _ _ _ _ _ _ us hl => match us, hl with | [_], _ => rfl
  let T : Top K mg := { C_BadEntry := C_BadEntry, C_BadMerge := C_BadMerge, C_BadProgram := C_BadProgram, C_BadRule := C_BadRule, C_BadSeries := C_BadSeries, C_BadWay := C_BadWay, C_BadWish := C_BadWish, C_NoAnswer := C_NoAnswer, C_NoKey := C_NoKey, C_NoMatch := C_NoMatch, C_NoMend := C_NoMend, C_TooMany := C_TooMany, C_Unlike := C_Unlike, C_Unnumbered := C_Unnumbered, C_UnnumberedError := C_UnnumberedError, f_law_draw := f_law_draw, fd_law_draw := _, F_law_draw := F_law_draw, B_law_draw := B_law_draw, mg_law_draw := PySem.W.mg_of X G a_law_draw, f_law_bag := f_law_bag, fd_law_bag := _, F_law_bag := F_law_bag, B_law_bag := B_law_bag, mg_law_bag := PySem.W.mg_of X G a_law_bag, f_law_number := f_law_number, fd_law_number := _, F_law_number := F_law_number, B_law_number := B_law_number, mg_law_number := PySem.W.mg_of X G a_law_number, f_law_word := f_law_word, fd_law_word := _, F_law_word := F_law_word, B_law_word := B_law_word, mg_law_word := PySem.W.mg_of X G a_law_word, f_Unnumbered___init := f_Unnumbered___init, fd_Unnumbered___init := _, F_Unnumbered___init := F_Unnumbered___init, B_Unnumbered___init := B_Unnumbered___init, f_BadSeries___init := f_BadSeries___init, fd_BadSeries___init := _, F_BadSeries___init := F_BadSeries___init, B_BadSeries___init := B_BadSeries___init, f_BadProgram___init := f_BadProgram___init, fd_BadProgram___init := _, F_BadProgram___init := F_BadProgram___init, B_BadProgram___init := B_BadProgram___init, f_BadMerge___init := f_BadMerge___init, fd_BadMerge___init := _, F_BadMerge___init := F_BadMerge___init, B_BadMerge___init := B_BadMerge___init, f_BadRule___init := f_BadRule___init, fd_BadRule___init := _, F_BadRule___init := F_BadRule___init, B_BadRule___init := B_BadRule___init, f_BadWish___init := f_BadWish___init, fd_BadWish___init := _, F_BadWish___init := F_BadWish___init, B_BadWish___init := B_BadWish___init, f_BadEntry___init := f_BadEntry___init, fd_BadEntry___init := _, F_BadEntry___init := F_BadEntry___init, B_BadEntry___init := B_BadEntry___init, f_BadWay___init := f_BadWay___init, fd_BadWay___init := _, F_BadWay___init := F_BadWay___init, B_BadWay___init := B_BadWay___init, f_Unlike___init := f_Unlike___init, fd_Unlike___init := _, F_Unlike___init := F_Unlike___init, B_Unlike___init := B_Unlike___init, f_NoMend___init := f_NoMend___init, fd_NoMend___init := _, F_NoMend___init := F_NoMend___init, B_NoMend___init := B_NoMend___init, f_NoMatch___init := f_NoMatch___init, fd_NoMatch___init := _, F_NoMatch___init := F_NoMatch___init, B_NoMatch___init := B_NoMatch___init, f_TooMany___init := f_TooMany___init, fd_TooMany___init := _, F_TooMany___init := F_TooMany___init, B_TooMany___init := B_TooMany___init, f_NoKey___init := f_NoKey___init, fd_NoKey___init := _, F_NoKey___init := F_NoKey___init, B_NoKey___init := B_NoKey___init, f_NoAnswer___init := f_NoAnswer___init, fd_NoAnswer___init := _, F_NoAnswer___init := F_NoAnswer___init, B_NoAnswer___init := B_NoAnswer___init, f_law_first := f_law_first, fd_law_first := _, F_law_first := F_law_first, B_law_first := B_law_first, mg_law_first := PySem.W.mg_of X G a_law_first, f_law_error := f_law_error, fd_law_error := _, F_law_error := F_law_error, B_law_error := B_law_error, mg_law_error := PySem.W.mg_of X G a_law_error, f_law_kinds := f_law_kinds, fd_law_kinds := _, F_law_kinds := F_law_kinds, B_law_kinds := B_law_kinds, mg_law_kinds := PySem.W.mg_of X G a_law_kinds, f_law_thing := f_law_thing, fd_law_thing := _, F_law_thing := F_law_thing, B_law_thing := B_law_thing, mg_law_thing := PySem.W.mg_of X G a_law_thing, f_law := fa, fd_law := _, F_law := F_law, B_law := B_law, mg_law := PySem.W.mg_of X G a_law, mgC_BadEntry := PySem.W.mg_of X G aC_BadEntry, ex_BadEntry := ⟨⟨_, _, _, _, PySem.F.excBase_ValueError, xi_BadEntry⟩, ⟨_, _, PySem.F.store_ValueError, xo_BadEntry⟩, a_BadEntry___init, i_BadEntry___init, xs_BadEntry, xh_BadEntry, xg_BadEntry, xt_BadEntry, xb_BadEntry, xy_BadEntry, xk_BadEntry, xc_BadEntry, xm_BadEntry, ocn, oct⟩, mgC_BadMerge := PySem.W.mg_of X G aC_BadMerge, ex_BadMerge := ⟨⟨_, _, _, _, PySem.F.excBase_ValueError, xi_BadMerge⟩, ⟨_, _, PySem.F.store_ValueError, xo_BadMerge⟩, a_BadMerge___init, i_BadMerge___init, xs_BadMerge, xh_BadMerge, xg_BadMerge, xt_BadMerge, xb_BadMerge, xy_BadMerge, xk_BadMerge, xc_BadMerge, xm_BadMerge, ocn, oct⟩, mgC_BadProgram := PySem.W.mg_of X G aC_BadProgram, ex_BadProgram := ⟨⟨_, _, _, _, PySem.F.excBase_ValueError, xi_BadProgram⟩, ⟨_, _, PySem.F.store_ValueError, xo_BadProgram⟩, a_BadProgram___init, i_BadProgram___init, xs_BadProgram, xh_BadProgram, xg_BadProgram, xt_BadProgram, xb_BadProgram, xy_BadProgram, xk_BadProgram, xc_BadProgram, xm_BadProgram, ocn, oct⟩, mgC_BadRule := PySem.W.mg_of X G aC_BadRule, ex_BadRule := ⟨⟨_, _, _, _, PySem.F.excBase_ValueError, xi_BadRule⟩, ⟨_, _, PySem.F.store_ValueError, xo_BadRule⟩, a_BadRule___init, i_BadRule___init, xs_BadRule, xh_BadRule, xg_BadRule, xt_BadRule, xb_BadRule, xy_BadRule, xk_BadRule, xc_BadRule, xm_BadRule, ocn, oct⟩, mgC_BadSeries := PySem.W.mg_of X G aC_BadSeries, ex_BadSeries := ⟨⟨_, _, _, _, PySem.F.excBase_ValueError, xi_BadSeries⟩, ⟨_, _, PySem.F.store_ValueError, xo_BadSeries⟩, a_BadSeries___init, i_BadSeries___init, xs_BadSeries, xh_BadSeries, xg_BadSeries, xt_BadSeries, xb_BadSeries, xy_BadSeries, xk_BadSeries, xc_BadSeries, xm_BadSeries, ocn, oct⟩, mgC_BadWay := PySem.W.mg_of X G aC_BadWay, ex_BadWay := ⟨⟨_, _, _, _, PySem.F.excBase_ValueError, xi_BadWay⟩, ⟨_, _, PySem.F.store_ValueError, xo_BadWay⟩, a_BadWay___init, i_BadWay___init, xs_BadWay, xh_BadWay, xg_BadWay, xt_BadWay, xb_BadWay, xy_BadWay, xk_BadWay, xc_BadWay, xm_BadWay, ocn, oct⟩, mgC_BadWish := PySem.W.mg_of X G aC_BadWish, ex_BadWish := ⟨⟨_, _, _, _, PySem.F.excBase_ValueError, xi_BadWish⟩, ⟨_, _, PySem.F.store_ValueError, xo_BadWish⟩, a_BadWish___init, i_BadWish___init, xs_BadWish, xh_BadWish, xg_BadWish, xt_BadWish, xb_BadWish, xy_BadWish, xk_BadWish, xc_BadWish, xm_BadWish, ocn, oct⟩, mgC_NoAnswer := PySem.W.mg_of X G aC_NoAnswer, ex_NoAnswer := ⟨⟨_, _, _, _, PySem.F.excBase_LookupError, xi_NoAnswer⟩, ⟨_, _, PySem.F.store_LookupError, xo_NoAnswer⟩, a_NoAnswer___init, i_NoAnswer___init, xs_NoAnswer, xh_NoAnswer, xg_NoAnswer, xt_NoAnswer, xb_NoAnswer, xy_NoAnswer, xk_NoAnswer, xc_NoAnswer, xm_NoAnswer, ocn, oct⟩, mgC_NoKey := PySem.W.mg_of X G aC_NoKey, ex_NoKey := ⟨⟨_, _, _, _, PySem.F.excBase_LookupError, xi_NoKey⟩, ⟨_, _, PySem.F.store_LookupError, xo_NoKey⟩, a_NoKey___init, i_NoKey___init, xs_NoKey, xh_NoKey, xg_NoKey, xt_NoKey, xb_NoKey, xy_NoKey, xk_NoKey, xc_NoKey, xm_NoKey, ocn, oct⟩, mgC_NoMatch := PySem.W.mg_of X G aC_NoMatch, ex_NoMatch := ⟨⟨_, _, _, _, PySem.F.excBase_ValueError, xi_NoMatch⟩, ⟨_, _, PySem.F.store_ValueError, xo_NoMatch⟩, a_NoMatch___init, i_NoMatch___init, xs_NoMatch, xh_NoMatch, xg_NoMatch, xt_NoMatch, xb_NoMatch, xy_NoMatch, xk_NoMatch, xc_NoMatch, xm_NoMatch, ocn, oct⟩, mgC_NoMend := PySem.W.mg_of X G aC_NoMend, ex_NoMend := ⟨⟨_, _, _, _, PySem.F.excBase_ValueError, xi_NoMend⟩, ⟨_, _, PySem.F.store_ValueError, xo_NoMend⟩, a_NoMend___init, i_NoMend___init, xs_NoMend, xh_NoMend, xg_NoMend, xt_NoMend, xb_NoMend, xy_NoMend, xk_NoMend, xc_NoMend, xm_NoMend, ocn, oct⟩, mgC_TooMany := PySem.W.mg_of X G aC_TooMany, ex_TooMany := ⟨⟨_, _, _, _, PySem.F.excBase_ValueError, xi_TooMany⟩, ⟨_, _, PySem.F.store_ValueError, xo_TooMany⟩, a_TooMany___init, i_TooMany___init, xs_TooMany, xh_TooMany, xg_TooMany, xt_TooMany, xb_TooMany, xy_TooMany, xk_TooMany, xc_TooMany, xm_TooMany, ocn, oct⟩, mgC_Unlike := PySem.W.mg_of X G aC_Unlike, ex_Unlike := ⟨⟨_, _, _, _, PySem.F.excBase_ValueError, xi_Unlike⟩, ⟨_, _, PySem.F.store_ValueError, xo_Unlike⟩, a_Unlike___init, i_Unlike___init, xs_Unlike, xh_Unlike, xg_Unlike, xt_Unlike, xb_Unlike, xy_Unlike, xk_Unlike, xc_Unlike, xm_Unlike, ocn, oct⟩, mgC_Unnumbered := PySem.W.mg_of X G aC_Unnumbered, cl_Unnumbered := ⟨pg_Unnumbered, hd_Unnumbered, po_Unnumbered, sa_Unnumbered⟩, in_Unnumbered := ⟨ca_Unnumbered, cm_Unnumbered, ocn, oct⟩, mk_Unnumbered := ⟨mk_Unnumbered, a_Unnumbered___init, i_Unnumbered___init, kc_Unnumbered⟩, mgC_UnnumberedError := PySem.W.mg_of X G aC_UnnumberedError, no_BadEntry_entry := no_BadEntry_entry, no_BadMerge_line := no_BadMerge_line, no_BadProgram_line := no_BadProgram_line, no_BadRule_side := no_BadRule_side, no_BadSeries_at := no_BadSeries_at, no_BadWay_way := no_BadWay_way, no_BadWish_name := no_BadWish_name, no_NoAnswer_name := no_NoAnswer_name, no_NoKey_key := no_NoKey_key, no_NoMatch_number := no_NoMatch_number, no_NoMend_mend := no_NoMend_mend, no_TooMany_what := no_TooMany_what, no_Unlike_name := no_Unlike_name, no_Unnumbered_name := no_Unnumbered_name, z_KeyError := PySem.W.mg_none_of X G z_KeyError, z_LookupError := PySem.W.mg_none_of X G z_LookupError, z_ValueError := PySem.W.mg_none_of X G z_ValueError, z_abs := PySem.W.mg_none_of X G z_abs, z_bool := PySem.W.mg_none_of X G z_bool, z_int := PySem.W.mg_none_of X G z_int, z_isinstance := PySem.W.mg_none_of X G z_isinstance, z_len := PySem.W.mg_none_of X G z_len, z_max := PySem.W.mg_none_of X G z_max, z_min := PySem.W.mg_none_of X G z_min, z_range := PySem.W.mg_none_of X G z_range, ki_BadSeries_BadSeries := ki_BadSeries_BadSeries, ki_BadSeries_BadProgram := ki_BadSeries_BadProgram, ki_BadSeries_BadMerge := ki_BadSeries_BadMerge, ki_BadSeries_BadRule := ki_BadSeries_BadRule, ki_BadSeries_BadWish := ki_BadSeries_BadWish, ki_BadSeries_BadEntry := ki_BadSeries_BadEntry, ki_BadSeries_BadWay := ki_BadSeries_BadWay, ki_BadSeries_Unlike := ki_BadSeries_Unlike, ki_BadSeries_NoMend := ki_BadSeries_NoMend, ki_BadSeries_NoMatch := ki_BadSeries_NoMatch, ki_BadSeries_TooMany := ki_BadSeries_TooMany, ki_BadSeries_NoKey := ki_BadSeries_NoKey, ki_BadSeries_NoAnswer := ki_BadSeries_NoAnswer, ki_BadSeries_UnnumberedError := ki_BadSeries_UnnumberedError, ki_BadSeries_ValueError := ki_BadSeries_ValueError, ki_BadSeries_LookupError := ki_BadSeries_LookupError, ki_BadSeries_KeyError := ki_BadSeries_KeyError, ki_BadProgram_BadSeries := ki_BadProgram_BadSeries, ki_BadProgram_BadProgram := ki_BadProgram_BadProgram, ki_BadProgram_BadMerge := ki_BadProgram_BadMerge, ki_BadProgram_BadRule := ki_BadProgram_BadRule, ki_BadProgram_BadWish := ki_BadProgram_BadWish, ki_BadProgram_BadEntry := ki_BadProgram_BadEntry, ki_BadProgram_BadWay := ki_BadProgram_BadWay, ki_BadProgram_Unlike := ki_BadProgram_Unlike, ki_BadProgram_NoMend := ki_BadProgram_NoMend, ki_BadProgram_NoMatch := ki_BadProgram_NoMatch, ki_BadProgram_TooMany := ki_BadProgram_TooMany, ki_BadProgram_NoKey := ki_BadProgram_NoKey, ki_BadProgram_NoAnswer := ki_BadProgram_NoAnswer, ki_BadProgram_UnnumberedError := ki_BadProgram_UnnumberedError, ki_BadProgram_ValueError := ki_BadProgram_ValueError, ki_BadProgram_LookupError := ki_BadProgram_LookupError, ki_BadProgram_KeyError := ki_BadProgram_KeyError, ki_BadMerge_BadSeries := ki_BadMerge_BadSeries, ki_BadMerge_BadProgram := ki_BadMerge_BadProgram, ki_BadMerge_BadMerge := ki_BadMerge_BadMerge, ki_BadMerge_BadRule := ki_BadMerge_BadRule, ki_BadMerge_BadWish := ki_BadMerge_BadWish, ki_BadMerge_BadEntry := ki_BadMerge_BadEntry, ki_BadMerge_BadWay := ki_BadMerge_BadWay, ki_BadMerge_Unlike := ki_BadMerge_Unlike, ki_BadMerge_NoMend := ki_BadMerge_NoMend, ki_BadMerge_NoMatch := ki_BadMerge_NoMatch, ki_BadMerge_TooMany := ki_BadMerge_TooMany, ki_BadMerge_NoKey := ki_BadMerge_NoKey, ki_BadMerge_NoAnswer := ki_BadMerge_NoAnswer, ki_BadMerge_UnnumberedError := ki_BadMerge_UnnumberedError, ki_BadMerge_ValueError := ki_BadMerge_ValueError, ki_BadMerge_LookupError := ki_BadMerge_LookupError, ki_BadMerge_KeyError := ki_BadMerge_KeyError, ki_BadRule_BadSeries := ki_BadRule_BadSeries, ki_BadRule_BadProgram := ki_BadRule_BadProgram, ki_BadRule_BadMerge := ki_BadRule_BadMerge, ki_BadRule_BadRule := ki_BadRule_BadRule, ki_BadRule_BadWish := ki_BadRule_BadWish, ki_BadRule_BadEntry := ki_BadRule_BadEntry, ki_BadRule_BadWay := ki_BadRule_BadWay, ki_BadRule_Unlike := ki_BadRule_Unlike, ki_BadRule_NoMend := ki_BadRule_NoMend, ki_BadRule_NoMatch := ki_BadRule_NoMatch, ki_BadRule_TooMany := ki_BadRule_TooMany, ki_BadRule_NoKey := ki_BadRule_NoKey, ki_BadRule_NoAnswer := ki_BadRule_NoAnswer, ki_BadRule_UnnumberedError := ki_BadRule_UnnumberedError, ki_BadRule_ValueError := ki_BadRule_ValueError, ki_BadRule_LookupError := ki_BadRule_LookupError, ki_BadRule_KeyError := ki_BadRule_KeyError, ki_BadWish_BadSeries := ki_BadWish_BadSeries, ki_BadWish_BadProgram := ki_BadWish_BadProgram, ki_BadWish_BadMerge := ki_BadWish_BadMerge, ki_BadWish_BadRule := ki_BadWish_BadRule, ki_BadWish_BadWish := ki_BadWish_BadWish, ki_BadWish_BadEntry := ki_BadWish_BadEntry, ki_BadWish_BadWay := ki_BadWish_BadWay, ki_BadWish_Unlike := ki_BadWish_Unlike, ki_BadWish_NoMend := ki_BadWish_NoMend, ki_BadWish_NoMatch := ki_BadWish_NoMatch, ki_BadWish_TooMany := ki_BadWish_TooMany, ki_BadWish_NoKey := ki_BadWish_NoKey, ki_BadWish_NoAnswer := ki_BadWish_NoAnswer, ki_BadWish_UnnumberedError := ki_BadWish_UnnumberedError, ki_BadWish_ValueError := ki_BadWish_ValueError, ki_BadWish_LookupError := ki_BadWish_LookupError, ki_BadWish_KeyError := ki_BadWish_KeyError, ki_BadEntry_BadSeries := ki_BadEntry_BadSeries, ki_BadEntry_BadProgram := ki_BadEntry_BadProgram, ki_BadEntry_BadMerge := ki_BadEntry_BadMerge, ki_BadEntry_BadRule := ki_BadEntry_BadRule, ki_BadEntry_BadWish := ki_BadEntry_BadWish, ki_BadEntry_BadEntry := ki_BadEntry_BadEntry, ki_BadEntry_BadWay := ki_BadEntry_BadWay, ki_BadEntry_Unlike := ki_BadEntry_Unlike, ki_BadEntry_NoMend := ki_BadEntry_NoMend, ki_BadEntry_NoMatch := ki_BadEntry_NoMatch, ki_BadEntry_TooMany := ki_BadEntry_TooMany, ki_BadEntry_NoKey := ki_BadEntry_NoKey, ki_BadEntry_NoAnswer := ki_BadEntry_NoAnswer, ki_BadEntry_UnnumberedError := ki_BadEntry_UnnumberedError, ki_BadEntry_ValueError := ki_BadEntry_ValueError, ki_BadEntry_LookupError := ki_BadEntry_LookupError, ki_BadEntry_KeyError := ki_BadEntry_KeyError, ki_BadWay_BadSeries := ki_BadWay_BadSeries, ki_BadWay_BadProgram := ki_BadWay_BadProgram, ki_BadWay_BadMerge := ki_BadWay_BadMerge, ki_BadWay_BadRule := ki_BadWay_BadRule, ki_BadWay_BadWish := ki_BadWay_BadWish, ki_BadWay_BadEntry := ki_BadWay_BadEntry, ki_BadWay_BadWay := ki_BadWay_BadWay, ki_BadWay_Unlike := ki_BadWay_Unlike, ki_BadWay_NoMend := ki_BadWay_NoMend, ki_BadWay_NoMatch := ki_BadWay_NoMatch, ki_BadWay_TooMany := ki_BadWay_TooMany, ki_BadWay_NoKey := ki_BadWay_NoKey, ki_BadWay_NoAnswer := ki_BadWay_NoAnswer, ki_BadWay_UnnumberedError := ki_BadWay_UnnumberedError, ki_BadWay_ValueError := ki_BadWay_ValueError, ki_BadWay_LookupError := ki_BadWay_LookupError, ki_BadWay_KeyError := ki_BadWay_KeyError, ki_Unlike_BadSeries := ki_Unlike_BadSeries, ki_Unlike_BadProgram := ki_Unlike_BadProgram, ki_Unlike_BadMerge := ki_Unlike_BadMerge, ki_Unlike_BadRule := ki_Unlike_BadRule, ki_Unlike_BadWish := ki_Unlike_BadWish, ki_Unlike_BadEntry := ki_Unlike_BadEntry, ki_Unlike_BadWay := ki_Unlike_BadWay, ki_Unlike_Unlike := ki_Unlike_Unlike, ki_Unlike_NoMend := ki_Unlike_NoMend, ki_Unlike_NoMatch := ki_Unlike_NoMatch, ki_Unlike_TooMany := ki_Unlike_TooMany, ki_Unlike_NoKey := ki_Unlike_NoKey, ki_Unlike_NoAnswer := ki_Unlike_NoAnswer, ki_Unlike_UnnumberedError := ki_Unlike_UnnumberedError, ki_Unlike_ValueError := ki_Unlike_ValueError, ki_Unlike_LookupError := ki_Unlike_LookupError, ki_Unlike_KeyError := ki_Unlike_KeyError, ki_NoMend_BadSeries := ki_NoMend_BadSeries, ki_NoMend_BadProgram := ki_NoMend_BadProgram, ki_NoMend_BadMerge := ki_NoMend_BadMerge, ki_NoMend_BadRule := ki_NoMend_BadRule, ki_NoMend_BadWish := ki_NoMend_BadWish, ki_NoMend_BadEntry := ki_NoMend_BadEntry, ki_NoMend_BadWay := ki_NoMend_BadWay, ki_NoMend_Unlike := ki_NoMend_Unlike, ki_NoMend_NoMend := ki_NoMend_NoMend, ki_NoMend_NoMatch := ki_NoMend_NoMatch, ki_NoMend_TooMany := ki_NoMend_TooMany, ki_NoMend_NoKey := ki_NoMend_NoKey, ki_NoMend_NoAnswer := ki_NoMend_NoAnswer, ki_NoMend_UnnumberedError := ki_NoMend_UnnumberedError, ki_NoMend_ValueError := ki_NoMend_ValueError, ki_NoMend_LookupError := ki_NoMend_LookupError, ki_NoMend_KeyError := ki_NoMend_KeyError, ki_NoMatch_BadSeries := ki_NoMatch_BadSeries, ki_NoMatch_BadProgram := ki_NoMatch_BadProgram, ki_NoMatch_BadMerge := ki_NoMatch_BadMerge, ki_NoMatch_BadRule := ki_NoMatch_BadRule, ki_NoMatch_BadWish := ki_NoMatch_BadWish, ki_NoMatch_BadEntry := ki_NoMatch_BadEntry, ki_NoMatch_BadWay := ki_NoMatch_BadWay, ki_NoMatch_Unlike := ki_NoMatch_Unlike, ki_NoMatch_NoMend := ki_NoMatch_NoMend, ki_NoMatch_NoMatch := ki_NoMatch_NoMatch, ki_NoMatch_TooMany := ki_NoMatch_TooMany, ki_NoMatch_NoKey := ki_NoMatch_NoKey, ki_NoMatch_NoAnswer := ki_NoMatch_NoAnswer, ki_NoMatch_UnnumberedError := ki_NoMatch_UnnumberedError, ki_NoMatch_ValueError := ki_NoMatch_ValueError, ki_NoMatch_LookupError := ki_NoMatch_LookupError, ki_NoMatch_KeyError := ki_NoMatch_KeyError, ki_TooMany_BadSeries := ki_TooMany_BadSeries, ki_TooMany_BadProgram := ki_TooMany_BadProgram, ki_TooMany_BadMerge := ki_TooMany_BadMerge, ki_TooMany_BadRule := ki_TooMany_BadRule, ki_TooMany_BadWish := ki_TooMany_BadWish, ki_TooMany_BadEntry := ki_TooMany_BadEntry, ki_TooMany_BadWay := ki_TooMany_BadWay, ki_TooMany_Unlike := ki_TooMany_Unlike, ki_TooMany_NoMend := ki_TooMany_NoMend, ki_TooMany_NoMatch := ki_TooMany_NoMatch, ki_TooMany_TooMany := ki_TooMany_TooMany, ki_TooMany_NoKey := ki_TooMany_NoKey, ki_TooMany_NoAnswer := ki_TooMany_NoAnswer, ki_TooMany_UnnumberedError := ki_TooMany_UnnumberedError, ki_TooMany_ValueError := ki_TooMany_ValueError, ki_TooMany_LookupError := ki_TooMany_LookupError, ki_TooMany_KeyError := ki_TooMany_KeyError, ki_NoKey_BadSeries := ki_NoKey_BadSeries, ki_NoKey_BadProgram := ki_NoKey_BadProgram, ki_NoKey_BadMerge := ki_NoKey_BadMerge, ki_NoKey_BadRule := ki_NoKey_BadRule, ki_NoKey_BadWish := ki_NoKey_BadWish, ki_NoKey_BadEntry := ki_NoKey_BadEntry, ki_NoKey_BadWay := ki_NoKey_BadWay, ki_NoKey_Unlike := ki_NoKey_Unlike, ki_NoKey_NoMend := ki_NoKey_NoMend, ki_NoKey_NoMatch := ki_NoKey_NoMatch, ki_NoKey_TooMany := ki_NoKey_TooMany, ki_NoKey_NoKey := ki_NoKey_NoKey, ki_NoKey_NoAnswer := ki_NoKey_NoAnswer, ki_NoKey_UnnumberedError := ki_NoKey_UnnumberedError, ki_NoKey_ValueError := ki_NoKey_ValueError, ki_NoKey_LookupError := ki_NoKey_LookupError, ki_NoKey_KeyError := ki_NoKey_KeyError, ki_NoAnswer_BadSeries := ki_NoAnswer_BadSeries, ki_NoAnswer_BadProgram := ki_NoAnswer_BadProgram, ki_NoAnswer_BadMerge := ki_NoAnswer_BadMerge, ki_NoAnswer_BadRule := ki_NoAnswer_BadRule, ki_NoAnswer_BadWish := ki_NoAnswer_BadWish, ki_NoAnswer_BadEntry := ki_NoAnswer_BadEntry, ki_NoAnswer_BadWay := ki_NoAnswer_BadWay, ki_NoAnswer_Unlike := ki_NoAnswer_Unlike, ki_NoAnswer_NoMend := ki_NoAnswer_NoMend, ki_NoAnswer_NoMatch := ki_NoAnswer_NoMatch, ki_NoAnswer_TooMany := ki_NoAnswer_TooMany, ki_NoAnswer_NoKey := ki_NoAnswer_NoKey, ki_NoAnswer_NoAnswer := ki_NoAnswer_NoAnswer, ki_NoAnswer_UnnumberedError := ki_NoAnswer_UnnumberedError, ki_NoAnswer_ValueError := ki_NoAnswer_ValueError, ki_NoAnswer_LookupError := ki_NoAnswer_LookupError, ki_NoAnswer_KeyError := ki_NoAnswer_KeyError, ki_Unnumbered_bool := ki_Unnumbered_bool }
  exact ⟨PySem.W.fnOf "law" "law" (defArgs s_law) (defBody s_law) (defScope s_law) .none kV_law dc_law pm_law an_law cd_law ct_law, fun s v => .of_eq rfl, fun base _ _ => ok_law T⟩
theorem walk {l : PySem.W.OpenLaw} {q : Program} {loose : List Str} {XP : (Str → Option Value) → Heap → Prop} {YP : World → Heap → Prop} {d : DefRec} {K : Params → PySem.W.Frag} (hn : l.most = some 63) (hdf : d.params.defaults = [])
    (hY : ∀ (w : World) (h : Heap), YP w h → (K w.params).In h)
    (F : ∀ (w : World) (mg : Str → Option Value) (fa : Addr) (h : Heap), (K w.params).In h → h.Ns mainGlobals mg → mg d.name = some (.ref fa) →
      ∃ fd : FuncData, (∀ (s : Shared) (u : Value), BindsTo s fd ⟨[u], []⟩ [("_law_script", u)]) ∧ ∀ base : Heap, (K w.params).In base → base.Ns mainGlobals mg → FnOk l.prog w (K w.params) mg base CX0 5 fa fd ["_law_script"] (sp_law (K w.params))) :
    PySem.W.WalkO q loose XP YP l.row.toRowW d [] (fun f vs => PySem.call f vs) :=
  L2.walk_of (n := 63) (k := 5) (x := "_law_script") (CX := fun _ => CX0) (sp := fun w => sp_law (K w.params)) hn (by decide) hdf ⟨rfl, by decide, by decide⟩ hY F (fun _ _ a ns hl _ hS => ⟨a, ns, rfl, hS, hl, fun _ => rfl⟩) fun _ _ _ _ _ z => z
end My

open PySem PySem.W PyProof.Rows in
set_option maxRecDepth 100000 in
set_option maxHeartbeats 0 in
theorem PySem.Challenge.cw_unnumbered_k89_errors_made_holds : PySem.Challenge.rw_unnumbered_k89_errors_made.Holds := by
  w_on; o_law; k_head; (case hw => w_witness2)
  k_fill
  refine My.walk (l := PySem.Challenge.rw_unnumbered_k89_errors_made) rfl rfl (fun w h Y => PySem.W.kIn_of Y) ?F
  case F =>
    intro w mg fa h KX G hmg
    refine' My.all_mk KX G hmg ?aC_BadEntry ?aC_BadMerge ?aC_BadProgram ?aC_BadRule ?aC_BadSeries ?aC_BadWay ?aC_BadWish ?aC_NoAnswer ?aC_NoKey ?aC_NoMatch ?aC_NoMend ?aC_TooMany ?aC_Unlike ?aC_Unnumbered ?aC_UnnumberedError ?a_law_draw ?l_law_draw ?c_law_draw ?k_law_draw ?a_law_bag ?l_law_bag ?c_law_bag ?k_law_bag ?a_law_number ?l_law_number ?c_law_number ?k_law_number ?a_law_word ?l_law_word ?c_law_word ?k_law_word ?a_Unnumbered___init ?i_Unnumbered___init ?l_Unnumbered___init ?c_Unnumbered___init ?k_Unnumbered___init ?a_BadSeries___init ?i_BadSeries___init ?l_BadSeries___init ?c_BadSeries___init ?k_BadSeries___init ?a_BadProgram___init ?i_BadProgram___init ?l_BadProgram___init ?c_BadProgram___init ?k_BadProgram___init ?a_BadMerge___init ?i_BadMerge___init ?l_BadMerge___init ?c_BadMerge___init ?k_BadMerge___init ?a_BadRule___init ?i_BadRule___init ?l_BadRule___init ?c_BadRule___init ?k_BadRule___init ?a_BadWish___init ?i_BadWish___init ?l_BadWish___init ?c_BadWish___init ?k_BadWish___init ?a_BadEntry___init ?i_BadEntry___init ?l_BadEntry___init ?c_BadEntry___init ?k_BadEntry___init ?a_BadWay___init ?i_BadWay___init ?l_BadWay___init ?c_BadWay___init ?k_BadWay___init ?a_Unlike___init ?i_Unlike___init ?l_Unlike___init ?c_Unlike___init ?k_Unlike___init ?a_NoMend___init ?i_NoMend___init ?l_NoMend___init ?c_NoMend___init ?k_NoMend___init ?a_NoMatch___init ?i_NoMatch___init ?l_NoMatch___init ?c_NoMatch___init ?k_NoMatch___init ?a_TooMany___init ?i_TooMany___init ?l_TooMany___init ?c_TooMany___init ?k_TooMany___init ?a_NoKey___init ?i_NoKey___init ?l_NoKey___init ?c_NoKey___init ?k_NoKey___init ?a_NoAnswer___init ?i_NoAnswer___init ?l_NoAnswer___init ?c_NoAnswer___init ?k_NoAnswer___init ?a_law_first ?l_law_first ?c_law_first ?k_law_first ?a_law_error ?l_law_error ?c_law_error ?k_law_error ?a_law_kinds ?l_law_kinds ?c_law_kinds ?k_law_kinds ?a_law_thing ?l_law_thing ?c_law_thing ?k_law_thing ?a_law ?l_law ?c_law ?k_law ?xi_BadEntry ?xo_BadEntry ?xs_BadEntry ?xh_BadEntry ?xg_BadEntry ?xt_BadEntry ?xb_BadEntry ?xy_BadEntry ?xk_BadEntry ?xc_BadEntry ?xm_BadEntry ?xi_BadMerge ?xo_BadMerge ?xs_BadMerge ?xh_BadMerge ?xg_BadMerge ?xt_BadMerge ?xb_BadMerge ?xy_BadMerge ?xk_BadMerge ?xc_BadMerge ?xm_BadMerge ?xi_BadProgram ?xo_BadProgram ?xs_BadProgram ?xh_BadProgram ?xg_BadProgram ?xt_BadProgram ?xb_BadProgram ?xy_BadProgram ?xk_BadProgram ?xc_BadProgram ?xm_BadProgram ?xi_BadRule ?xo_BadRule ?xs_BadRule ?xh_BadRule ?xg_BadRule ?xt_BadRule ?xb_BadRule ?xy_BadRule ?xk_BadRule ?xc_BadRule ?xm_BadRule ?xi_BadSeries ?xo_BadSeries ?xs_BadSeries ?xh_BadSeries ?xg_BadSeries ?xt_BadSeries ?xb_BadSeries ?xy_BadSeries ?xk_BadSeries ?xc_BadSeries ?xm_BadSeries ?xi_BadWay ?xo_BadWay ?xs_BadWay ?xh_BadWay ?xg_BadWay ?xt_BadWay ?xb_BadWay ?xy_BadWay ?xk_BadWay ?xc_BadWay ?xm_BadWay ?xi_BadWish ?xo_BadWish ?xs_BadWish ?xh_BadWish ?xg_BadWish ?xt_BadWish ?xb_BadWish ?xy_BadWish ?xk_BadWish ?xc_BadWish ?xm_BadWish ?xi_NoAnswer ?xo_NoAnswer ?xs_NoAnswer ?xh_NoAnswer ?xg_NoAnswer ?xt_NoAnswer ?xb_NoAnswer ?xy_NoAnswer ?xk_NoAnswer ?xc_NoAnswer ?xm_NoAnswer ?xi_NoKey ?xo_NoKey ?xs_NoKey ?xh_NoKey ?xg_NoKey ?xt_NoKey ?xb_NoKey ?xy_NoKey ?xk_NoKey ?xc_NoKey ?xm_NoKey ?xi_NoMatch ?xo_NoMatch ?xs_NoMatch ?xh_NoMatch ?xg_NoMatch ?xt_NoMatch ?xb_NoMatch ?xy_NoMatch ?xk_NoMatch ?xc_NoMatch ?xm_NoMatch ?xi_NoMend ?xo_NoMend ?xs_NoMend ?xh_NoMend ?xg_NoMend ?xt_NoMend ?xb_NoMend ?xy_NoMend ?xk_NoMend ?xc_NoMend ?xm_NoMend ?xi_TooMany ?xo_TooMany ?xs_TooMany ?xh_TooMany ?xg_TooMany ?xt_TooMany ?xb_TooMany ?xy_TooMany ?xk_TooMany ?xc_TooMany ?xm_TooMany ?xi_Unlike ?xo_Unlike ?xs_Unlike ?xh_Unlike ?xg_Unlike ?xt_Unlike ?xb_Unlike ?xy_Unlike ?xk_Unlike ?xc_Unlike ?xm_Unlike ?pg_Unnumbered ?hd_Unnumbered ?po_Unnumbered ?sa_Unnumbered ?ca_Unnumbered ?cm_Unnumbered ?mk_Unnumbered ?kc_Unnumbered ?ocn ?oct ?no_BadEntry_entry ?no_BadMerge_line ?no_BadProgram_line ?no_BadRule_side ?no_BadSeries_at ?no_BadWay_way ?no_BadWish_name ?no_NoAnswer_name ?no_NoKey_key ?no_NoMatch_number ?no_NoMend_mend ?no_TooMany_what ?no_Unlike_name ?no_Unnumbered_name ?z_KeyError ?z_LookupError ?z_ValueError ?z_abs ?z_bool ?z_int ?z_isinstance ?z_len ?z_max ?z_min ?z_range ?ki_BadSeries_BadSeries ?ki_BadSeries_BadProgram ?ki_BadSeries_BadMerge ?ki_BadSeries_BadRule ?ki_BadSeries_BadWish ?ki_BadSeries_BadEntry ?ki_BadSeries_BadWay ?ki_BadSeries_Unlike ?ki_BadSeries_NoMend ?ki_BadSeries_NoMatch ?ki_BadSeries_TooMany ?ki_BadSeries_NoKey ?ki_BadSeries_NoAnswer ?ki_BadSeries_UnnumberedError ?ki_BadSeries_ValueError ?ki_BadSeries_LookupError ?ki_BadSeries_KeyError ?ki_BadProgram_BadSeries ?ki_BadProgram_BadProgram ?ki_BadProgram_BadMerge ?ki_BadProgram_BadRule ?ki_BadProgram_BadWish ?ki_BadProgram_BadEntry ?ki_BadProgram_BadWay ?ki_BadProgram_Unlike ?ki_BadProgram_NoMend ?ki_BadProgram_NoMatch ?ki_BadProgram_TooMany ?ki_BadProgram_NoKey ?ki_BadProgram_NoAnswer ?ki_BadProgram_UnnumberedError ?ki_BadProgram_ValueError ?ki_BadProgram_LookupError ?ki_BadProgram_KeyError ?ki_BadMerge_BadSeries ?ki_BadMerge_BadProgram ?ki_BadMerge_BadMerge ?ki_BadMerge_BadRule ?ki_BadMerge_BadWish ?ki_BadMerge_BadEntry ?ki_BadMerge_BadWay ?ki_BadMerge_Unlike ?ki_BadMerge_NoMend ?ki_BadMerge_NoMatch ?ki_BadMerge_TooMany ?ki_BadMerge_NoKey ?ki_BadMerge_NoAnswer ?ki_BadMerge_UnnumberedError ?ki_BadMerge_ValueError ?ki_BadMerge_LookupError ?ki_BadMerge_KeyError ?ki_BadRule_BadSeries ?ki_BadRule_BadProgram ?ki_BadRule_BadMerge ?ki_BadRule_BadRule ?ki_BadRule_BadWish ?ki_BadRule_BadEntry ?ki_BadRule_BadWay ?ki_BadRule_Unlike ?ki_BadRule_NoMend ?ki_BadRule_NoMatch ?ki_BadRule_TooMany ?ki_BadRule_NoKey ?ki_BadRule_NoAnswer ?ki_BadRule_UnnumberedError ?ki_BadRule_ValueError ?ki_BadRule_LookupError ?ki_BadRule_KeyError ?ki_BadWish_BadSeries ?ki_BadWish_BadProgram ?ki_BadWish_BadMerge ?ki_BadWish_BadRule ?ki_BadWish_BadWish ?ki_BadWish_BadEntry ?ki_BadWish_BadWay ?ki_BadWish_Unlike ?ki_BadWish_NoMend ?ki_BadWish_NoMatch ?ki_BadWish_TooMany ?ki_BadWish_NoKey ?ki_BadWish_NoAnswer ?ki_BadWish_UnnumberedError ?ki_BadWish_ValueError ?ki_BadWish_LookupError ?ki_BadWish_KeyError ?ki_BadEntry_BadSeries ?ki_BadEntry_BadProgram ?ki_BadEntry_BadMerge ?ki_BadEntry_BadRule ?ki_BadEntry_BadWish ?ki_BadEntry_BadEntry ?ki_BadEntry_BadWay ?ki_BadEntry_Unlike ?ki_BadEntry_NoMend ?ki_BadEntry_NoMatch ?ki_BadEntry_TooMany ?ki_BadEntry_NoKey ?ki_BadEntry_NoAnswer ?ki_BadEntry_UnnumberedError ?ki_BadEntry_ValueError ?ki_BadEntry_LookupError ?ki_BadEntry_KeyError ?ki_BadWay_BadSeries ?ki_BadWay_BadProgram ?ki_BadWay_BadMerge ?ki_BadWay_BadRule ?ki_BadWay_BadWish ?ki_BadWay_BadEntry ?ki_BadWay_BadWay ?ki_BadWay_Unlike ?ki_BadWay_NoMend ?ki_BadWay_NoMatch ?ki_BadWay_TooMany ?ki_BadWay_NoKey ?ki_BadWay_NoAnswer ?ki_BadWay_UnnumberedError ?ki_BadWay_ValueError ?ki_BadWay_LookupError ?ki_BadWay_KeyError ?ki_Unlike_BadSeries ?ki_Unlike_BadProgram ?ki_Unlike_BadMerge ?ki_Unlike_BadRule ?ki_Unlike_BadWish ?ki_Unlike_BadEntry ?ki_Unlike_BadWay ?ki_Unlike_Unlike ?ki_Unlike_NoMend ?ki_Unlike_NoMatch ?ki_Unlike_TooMany ?ki_Unlike_NoKey ?ki_Unlike_NoAnswer ?ki_Unlike_UnnumberedError ?ki_Unlike_ValueError ?ki_Unlike_LookupError ?ki_Unlike_KeyError ?ki_NoMend_BadSeries ?ki_NoMend_BadProgram ?ki_NoMend_BadMerge ?ki_NoMend_BadRule ?ki_NoMend_BadWish ?ki_NoMend_BadEntry ?ki_NoMend_BadWay ?ki_NoMend_Unlike ?ki_NoMend_NoMend ?ki_NoMend_NoMatch ?ki_NoMend_TooMany ?ki_NoMend_NoKey ?ki_NoMend_NoAnswer ?ki_NoMend_UnnumberedError ?ki_NoMend_ValueError ?ki_NoMend_LookupError ?ki_NoMend_KeyError ?ki_NoMatch_BadSeries ?ki_NoMatch_BadProgram ?ki_NoMatch_BadMerge ?ki_NoMatch_BadRule ?ki_NoMatch_BadWish ?ki_NoMatch_BadEntry ?ki_NoMatch_BadWay ?ki_NoMatch_Unlike ?ki_NoMatch_NoMend ?ki_NoMatch_NoMatch ?ki_NoMatch_TooMany ?ki_NoMatch_NoKey ?ki_NoMatch_NoAnswer ?ki_NoMatch_UnnumberedError ?ki_NoMatch_ValueError ?ki_NoMatch_LookupError ?ki_NoMatch_KeyError ?ki_TooMany_BadSeries ?ki_TooMany_BadProgram ?ki_TooMany_BadMerge ?ki_TooMany_BadRule ?ki_TooMany_BadWish ?ki_TooMany_BadEntry ?ki_TooMany_BadWay ?ki_TooMany_Unlike ?ki_TooMany_NoMend ?ki_TooMany_NoMatch ?ki_TooMany_TooMany ?ki_TooMany_NoKey ?ki_TooMany_NoAnswer ?ki_TooMany_UnnumberedError ?ki_TooMany_ValueError ?ki_TooMany_LookupError ?ki_TooMany_KeyError ?ki_NoKey_BadSeries ?ki_NoKey_BadProgram ?ki_NoKey_BadMerge ?ki_NoKey_BadRule ?ki_NoKey_BadWish ?ki_NoKey_BadEntry ?ki_NoKey_BadWay ?ki_NoKey_Unlike ?ki_NoKey_NoMend ?ki_NoKey_NoMatch ?ki_NoKey_TooMany ?ki_NoKey_NoKey ?ki_NoKey_NoAnswer ?ki_NoKey_UnnumberedError ?ki_NoKey_ValueError ?ki_NoKey_LookupError ?ki_NoKey_KeyError ?ki_NoAnswer_BadSeries ?ki_NoAnswer_BadProgram ?ki_NoAnswer_BadMerge ?ki_NoAnswer_BadRule ?ki_NoAnswer_BadWish ?ki_NoAnswer_BadEntry ?ki_NoAnswer_BadWay ?ki_NoAnswer_Unlike ?ki_NoAnswer_NoMend ?ki_NoAnswer_NoMatch ?ki_NoAnswer_TooMany ?ki_NoAnswer_NoKey ?ki_NoAnswer_NoAnswer ?ki_NoAnswer_UnnumberedError ?ki_NoAnswer_ValueError ?ki_NoAnswer_LookupError ?ki_NoAnswer_KeyError ?ki_Unnumbered_bool
    (case aC_BadEntry => k_is)
    (case aC_BadMerge => k_is)
    (case aC_BadProgram => k_is)
    (case aC_BadRule => k_is)
    (case aC_BadSeries => k_is)
    (case aC_BadWay => k_is)
    (case aC_BadWish => k_is)
    (case aC_NoAnswer => k_is)
    (case aC_NoKey => k_is)
    (case aC_NoMatch => k_is)
    (case aC_NoMend => k_is)
    (case aC_TooMany => k_is)
    (case aC_Unlike => k_is)
    (case aC_Unnumbered => k_is)
    (case aC_UnnumberedError => k_is)
    (case a_law_draw => k_is)
    (case l_law_draw => k_is)
    (case c_law_draw => k_is)
    (case k_law_draw => k_is)
    (case a_law_bag => k_is)
    (case l_law_bag => k_is)
    (case c_law_bag => k_is)
    (case k_law_bag => k_is)
    (case a_law_number => k_is)
    (case l_law_number => k_is)
    (case c_law_number => k_is)
    (case k_law_number => k_is)
    (case a_law_word => k_is)
    (case l_law_word => k_is)
    (case c_law_word => k_is)
    (case k_law_word => k_is)
    (case a_Unnumbered___init => k_is)
    (case i_Unnumbered___init => k_is)
    (case l_Unnumbered___init => k_is)
    (case c_Unnumbered___init => k_is)
    (case k_Unnumbered___init => k_is)
    (case a_BadSeries___init => k_is)
    (case i_BadSeries___init => k_is)
    (case l_BadSeries___init => k_is)
    (case c_BadSeries___init => k_is)
    (case k_BadSeries___init => k_is)
    (case a_BadProgram___init => k_is)
    (case i_BadProgram___init => k_is)
    (case l_BadProgram___init => k_is)
    (case c_BadProgram___init => k_is)
    (case k_BadProgram___init => k_is)
    (case a_BadMerge___init => k_is)
    (case i_BadMerge___init => k_is)
    (case l_BadMerge___init => k_is)
    (case c_BadMerge___init => k_is)
    (case k_BadMerge___init => k_is)
    (case a_BadRule___init => k_is)
    (case i_BadRule___init => k_is)
    (case l_BadRule___init => k_is)
    (case c_BadRule___init => k_is)
    (case k_BadRule___init => k_is)
    (case a_BadWish___init => k_is)
    (case i_BadWish___init => k_is)
    (case l_BadWish___init => k_is)
    (case c_BadWish___init => k_is)
    (case k_BadWish___init => k_is)
    (case a_BadEntry___init => k_is)
    (case i_BadEntry___init => k_is)
    (case l_BadEntry___init => k_is)
    (case c_BadEntry___init => k_is)
    (case k_BadEntry___init => k_is)
    (case a_BadWay___init => k_is)
    (case i_BadWay___init => k_is)
    (case l_BadWay___init => k_is)
    (case c_BadWay___init => k_is)
    (case k_BadWay___init => k_is)
    (case a_Unlike___init => k_is)
    (case i_Unlike___init => k_is)
    (case l_Unlike___init => k_is)
    (case c_Unlike___init => k_is)
    (case k_Unlike___init => k_is)
    (case a_NoMend___init => k_is)
    (case i_NoMend___init => k_is)
    (case l_NoMend___init => k_is)
    (case c_NoMend___init => k_is)
    (case k_NoMend___init => k_is)
    (case a_NoMatch___init => k_is)
    (case i_NoMatch___init => k_is)
    (case l_NoMatch___init => k_is)
    (case c_NoMatch___init => k_is)
    (case k_NoMatch___init => k_is)
    (case a_TooMany___init => k_is)
    (case i_TooMany___init => k_is)
    (case l_TooMany___init => k_is)
    (case c_TooMany___init => k_is)
    (case k_TooMany___init => k_is)
    (case a_NoKey___init => k_is)
    (case i_NoKey___init => k_is)
    (case l_NoKey___init => k_is)
    (case c_NoKey___init => k_is)
    (case k_NoKey___init => k_is)
    (case a_NoAnswer___init => k_is)
    (case i_NoAnswer___init => k_is)
    (case l_NoAnswer___init => k_is)
    (case c_NoAnswer___init => k_is)
    (case k_NoAnswer___init => k_is)
    (case a_law_first => k_is)
    (case l_law_first => k_is)
    (case c_law_first => k_is)
    (case k_law_first => k_is)
    (case a_law_error => k_is)
    (case l_law_error => k_is)
    (case c_law_error => k_is)
    (case k_law_error => k_is)
    (case a_law_kinds => k_is)
    (case l_law_kinds => k_is)
    (case c_law_kinds => k_is)
    (case k_law_kinds => k_is)
    (case a_law_thing => k_is)
    (case l_law_thing => k_is)
    (case c_law_thing => k_is)
    (case k_law_thing => k_is)
    (case a_law => k_is)
    (case l_law => k_is)
    (case c_law => k_is)
    (case k_law => k_is)
    (case xi_BadEntry => kx_is)
    (case xo_BadEntry => kx_is)
    (case xs_BadEntry => k_is)
    (case xh_BadEntry => k_is)
    (case xg_BadEntry => k_is)
    (case xt_BadEntry => k_is)
    (case xb_BadEntry => k_is)
    (case xy_BadEntry => k_is)
    (case xk_BadEntry => k_is)
    (case xc_BadEntry => k_is)
    (case xm_BadEntry => k_is)
    (case xi_BadMerge => kx_is)
    (case xo_BadMerge => kx_is)
    (case xs_BadMerge => k_is)
    (case xh_BadMerge => k_is)
    (case xg_BadMerge => k_is)
    (case xt_BadMerge => k_is)
    (case xb_BadMerge => k_is)
    (case xy_BadMerge => k_is)
    (case xk_BadMerge => k_is)
    (case xc_BadMerge => k_is)
    (case xm_BadMerge => k_is)
    (case xi_BadProgram => kx_is)
    (case xo_BadProgram => kx_is)
    (case xs_BadProgram => k_is)
    (case xh_BadProgram => k_is)
    (case xg_BadProgram => k_is)
    (case xt_BadProgram => k_is)
    (case xb_BadProgram => k_is)
    (case xy_BadProgram => k_is)
    (case xk_BadProgram => k_is)
    (case xc_BadProgram => k_is)
    (case xm_BadProgram => k_is)
    (case xi_BadRule => kx_is)
    (case xo_BadRule => kx_is)
    (case xs_BadRule => k_is)
    (case xh_BadRule => k_is)
    (case xg_BadRule => k_is)
    (case xt_BadRule => k_is)
    (case xb_BadRule => k_is)
    (case xy_BadRule => k_is)
    (case xk_BadRule => k_is)
    (case xc_BadRule => k_is)
    (case xm_BadRule => k_is)
    (case xi_BadSeries => kx_is)
    (case xo_BadSeries => kx_is)
    (case xs_BadSeries => k_is)
    (case xh_BadSeries => k_is)
    (case xg_BadSeries => k_is)
    (case xt_BadSeries => k_is)
    (case xb_BadSeries => k_is)
    (case xy_BadSeries => k_is)
    (case xk_BadSeries => k_is)
    (case xc_BadSeries => k_is)
    (case xm_BadSeries => k_is)
    (case xi_BadWay => kx_is)
    (case xo_BadWay => kx_is)
    (case xs_BadWay => k_is)
    (case xh_BadWay => k_is)
    (case xg_BadWay => k_is)
    (case xt_BadWay => k_is)
    (case xb_BadWay => k_is)
    (case xy_BadWay => k_is)
    (case xk_BadWay => k_is)
    (case xc_BadWay => k_is)
    (case xm_BadWay => k_is)
    (case xi_BadWish => kx_is)
    (case xo_BadWish => kx_is)
    (case xs_BadWish => k_is)
    (case xh_BadWish => k_is)
    (case xg_BadWish => k_is)
    (case xt_BadWish => k_is)
    (case xb_BadWish => k_is)
    (case xy_BadWish => k_is)
    (case xk_BadWish => k_is)
    (case xc_BadWish => k_is)
    (case xm_BadWish => k_is)
    (case xi_NoAnswer => kx_is)
    (case xo_NoAnswer => kx_is)
    (case xs_NoAnswer => k_is)
    (case xh_NoAnswer => k_is)
    (case xg_NoAnswer => k_is)
    (case xt_NoAnswer => k_is)
    (case xb_NoAnswer => k_is)
    (case xy_NoAnswer => k_is)
    (case xk_NoAnswer => k_is)
    (case xc_NoAnswer => k_is)
    (case xm_NoAnswer => k_is)
    (case xi_NoKey => kx_is)
    (case xo_NoKey => kx_is)
    (case xs_NoKey => k_is)
    (case xh_NoKey => k_is)
    (case xg_NoKey => k_is)
    (case xt_NoKey => k_is)
    (case xb_NoKey => k_is)
    (case xy_NoKey => k_is)
    (case xk_NoKey => k_is)
    (case xc_NoKey => k_is)
    (case xm_NoKey => k_is)
    (case xi_NoMatch => kx_is)
    (case xo_NoMatch => kx_is)
    (case xs_NoMatch => k_is)
    (case xh_NoMatch => k_is)
    (case xg_NoMatch => k_is)
    (case xt_NoMatch => k_is)
    (case xb_NoMatch => k_is)
    (case xy_NoMatch => k_is)
    (case xk_NoMatch => k_is)
    (case xc_NoMatch => k_is)
    (case xm_NoMatch => k_is)
    (case xi_NoMend => kx_is)
    (case xo_NoMend => kx_is)
    (case xs_NoMend => k_is)
    (case xh_NoMend => k_is)
    (case xg_NoMend => k_is)
    (case xt_NoMend => k_is)
    (case xb_NoMend => k_is)
    (case xy_NoMend => k_is)
    (case xk_NoMend => k_is)
    (case xc_NoMend => k_is)
    (case xm_NoMend => k_is)
    (case xi_TooMany => kx_is)
    (case xo_TooMany => kx_is)
    (case xs_TooMany => k_is)
    (case xh_TooMany => k_is)
    (case xg_TooMany => k_is)
    (case xt_TooMany => k_is)
    (case xb_TooMany => k_is)
    (case xy_TooMany => k_is)
    (case xk_TooMany => k_is)
    (case xc_TooMany => k_is)
    (case xm_TooMany => k_is)
    (case xi_Unlike => kx_is)
    (case xo_Unlike => kx_is)
    (case xs_Unlike => k_is)
    (case xh_Unlike => k_is)
    (case xg_Unlike => k_is)
    (case xt_Unlike => k_is)
    (case xb_Unlike => k_is)
    (case xy_Unlike => k_is)
    (case xk_Unlike => k_is)
    (case xc_Unlike => k_is)
    (case xm_Unlike => k_is)
    (case pg_Unnumbered => k_is)
    (case hd_Unnumbered => k_is)
    (case po_Unnumbered => k_is)
    (case sa_Unnumbered => k_is)
    (case ca_Unnumbered => k_is)
    (case cm_Unnumbered => k_is)
    (case mk_Unnumbered => k_is)
    (case kc_Unnumbered => k_is)
    (case ocn => k_is)
    (case oct => k_is)
    (case no_BadEntry_entry => k_is)
    (case no_BadMerge_line => k_is)
    (case no_BadProgram_line => k_is)
    (case no_BadRule_side => k_is)
    (case no_BadSeries_at => k_is)
    (case no_BadWay_way => k_is)
    (case no_BadWish_name => k_is)
    (case no_NoAnswer_name => k_is)
    (case no_NoKey_key => k_is)
    (case no_NoMatch_number => k_is)
    (case no_NoMend_mend => k_is)
    (case no_TooMany_what => k_is)
    (case no_Unlike_name => k_is)
    (case no_Unnumbered_name => k_is)
    (case z_KeyError => k_is)
    (case z_LookupError => k_is)
    (case z_ValueError => k_is)
    (case z_abs => k_is)
    (case z_bool => k_is)
    (case z_int => k_is)
    (case z_isinstance => k_is)
    (case z_len => k_is)
    (case z_max => k_is)
    (case z_min => k_is)
    (case z_range => k_is)
    (case ki_BadSeries_BadSeries => kit_is)
    (case ki_BadSeries_BadProgram => kit_is)
    (case ki_BadSeries_BadMerge => kit_is)
    (case ki_BadSeries_BadRule => kit_is)
    (case ki_BadSeries_BadWish => kit_is)
    (case ki_BadSeries_BadEntry => kit_is)
    (case ki_BadSeries_BadWay => kit_is)
    (case ki_BadSeries_Unlike => kit_is)
    (case ki_BadSeries_NoMend => kit_is)
    (case ki_BadSeries_NoMatch => kit_is)
    (case ki_BadSeries_TooMany => kit_is)
    (case ki_BadSeries_NoKey => kit_is)
    (case ki_BadSeries_NoAnswer => kit_is)
    (case ki_BadSeries_UnnumberedError => kit_is)
    (case ki_BadSeries_ValueError => kit_is)
    (case ki_BadSeries_LookupError => kit_is)
    (case ki_BadSeries_KeyError => kit_is)
    (case ki_BadProgram_BadSeries => kit_is)
    (case ki_BadProgram_BadProgram => kit_is)
    (case ki_BadProgram_BadMerge => kit_is)
    (case ki_BadProgram_BadRule => kit_is)
    (case ki_BadProgram_BadWish => kit_is)
    (case ki_BadProgram_BadEntry => kit_is)
    (case ki_BadProgram_BadWay => kit_is)
    (case ki_BadProgram_Unlike => kit_is)
    (case ki_BadProgram_NoMend => kit_is)
    (case ki_BadProgram_NoMatch => kit_is)
    (case ki_BadProgram_TooMany => kit_is)
    (case ki_BadProgram_NoKey => kit_is)
    (case ki_BadProgram_NoAnswer => kit_is)
    (case ki_BadProgram_UnnumberedError => kit_is)
    (case ki_BadProgram_ValueError => kit_is)
    (case ki_BadProgram_LookupError => kit_is)
    (case ki_BadProgram_KeyError => kit_is)
    (case ki_BadMerge_BadSeries => kit_is)
    (case ki_BadMerge_BadProgram => kit_is)
    (case ki_BadMerge_BadMerge => kit_is)
    (case ki_BadMerge_BadRule => kit_is)
    (case ki_BadMerge_BadWish => kit_is)
    (case ki_BadMerge_BadEntry => kit_is)
    (case ki_BadMerge_BadWay => kit_is)
    (case ki_BadMerge_Unlike => kit_is)
    (case ki_BadMerge_NoMend => kit_is)
    (case ki_BadMerge_NoMatch => kit_is)
    (case ki_BadMerge_TooMany => kit_is)
    (case ki_BadMerge_NoKey => kit_is)
    (case ki_BadMerge_NoAnswer => kit_is)
    (case ki_BadMerge_UnnumberedError => kit_is)
    (case ki_BadMerge_ValueError => kit_is)
    (case ki_BadMerge_LookupError => kit_is)
    (case ki_BadMerge_KeyError => kit_is)
    (case ki_BadRule_BadSeries => kit_is)
    (case ki_BadRule_BadProgram => kit_is)
    (case ki_BadRule_BadMerge => kit_is)
    (case ki_BadRule_BadRule => kit_is)
    (case ki_BadRule_BadWish => kit_is)
    (case ki_BadRule_BadEntry => kit_is)
    (case ki_BadRule_BadWay => kit_is)
    (case ki_BadRule_Unlike => kit_is)
    (case ki_BadRule_NoMend => kit_is)
    (case ki_BadRule_NoMatch => kit_is)
    (case ki_BadRule_TooMany => kit_is)
    (case ki_BadRule_NoKey => kit_is)
    (case ki_BadRule_NoAnswer => kit_is)
    (case ki_BadRule_UnnumberedError => kit_is)
    (case ki_BadRule_ValueError => kit_is)
    (case ki_BadRule_LookupError => kit_is)
    (case ki_BadRule_KeyError => kit_is)
    (case ki_BadWish_BadSeries => kit_is)
    (case ki_BadWish_BadProgram => kit_is)
    (case ki_BadWish_BadMerge => kit_is)
    (case ki_BadWish_BadRule => kit_is)
    (case ki_BadWish_BadWish => kit_is)
    (case ki_BadWish_BadEntry => kit_is)
    (case ki_BadWish_BadWay => kit_is)
    (case ki_BadWish_Unlike => kit_is)
    (case ki_BadWish_NoMend => kit_is)
    (case ki_BadWish_NoMatch => kit_is)
    (case ki_BadWish_TooMany => kit_is)
    (case ki_BadWish_NoKey => kit_is)
    (case ki_BadWish_NoAnswer => kit_is)
    (case ki_BadWish_UnnumberedError => kit_is)
    (case ki_BadWish_ValueError => kit_is)
    (case ki_BadWish_LookupError => kit_is)
    (case ki_BadWish_KeyError => kit_is)
    (case ki_BadEntry_BadSeries => kit_is)
    (case ki_BadEntry_BadProgram => kit_is)
    (case ki_BadEntry_BadMerge => kit_is)
    (case ki_BadEntry_BadRule => kit_is)
    (case ki_BadEntry_BadWish => kit_is)
    (case ki_BadEntry_BadEntry => kit_is)
    (case ki_BadEntry_BadWay => kit_is)
    (case ki_BadEntry_Unlike => kit_is)
    (case ki_BadEntry_NoMend => kit_is)
    (case ki_BadEntry_NoMatch => kit_is)
    (case ki_BadEntry_TooMany => kit_is)
    (case ki_BadEntry_NoKey => kit_is)
    (case ki_BadEntry_NoAnswer => kit_is)
    (case ki_BadEntry_UnnumberedError => kit_is)
    (case ki_BadEntry_ValueError => kit_is)
    (case ki_BadEntry_LookupError => kit_is)
    (case ki_BadEntry_KeyError => kit_is)
    (case ki_BadWay_BadSeries => kit_is)
    (case ki_BadWay_BadProgram => kit_is)
    (case ki_BadWay_BadMerge => kit_is)
    (case ki_BadWay_BadRule => kit_is)
    (case ki_BadWay_BadWish => kit_is)
    (case ki_BadWay_BadEntry => kit_is)
    (case ki_BadWay_BadWay => kit_is)
    (case ki_BadWay_Unlike => kit_is)
    (case ki_BadWay_NoMend => kit_is)
    (case ki_BadWay_NoMatch => kit_is)
    (case ki_BadWay_TooMany => kit_is)
    (case ki_BadWay_NoKey => kit_is)
    (case ki_BadWay_NoAnswer => kit_is)
    (case ki_BadWay_UnnumberedError => kit_is)
    (case ki_BadWay_ValueError => kit_is)
    (case ki_BadWay_LookupError => kit_is)
    (case ki_BadWay_KeyError => kit_is)
    (case ki_Unlike_BadSeries => kit_is)
    (case ki_Unlike_BadProgram => kit_is)
    (case ki_Unlike_BadMerge => kit_is)
    (case ki_Unlike_BadRule => kit_is)
    (case ki_Unlike_BadWish => kit_is)
    (case ki_Unlike_BadEntry => kit_is)
    (case ki_Unlike_BadWay => kit_is)
    (case ki_Unlike_Unlike => kit_is)
    (case ki_Unlike_NoMend => kit_is)
    (case ki_Unlike_NoMatch => kit_is)
    (case ki_Unlike_TooMany => kit_is)
    (case ki_Unlike_NoKey => kit_is)
    (case ki_Unlike_NoAnswer => kit_is)
    (case ki_Unlike_UnnumberedError => kit_is)
    (case ki_Unlike_ValueError => kit_is)
    (case ki_Unlike_LookupError => kit_is)
    (case ki_Unlike_KeyError => kit_is)
    (case ki_NoMend_BadSeries => kit_is)
    (case ki_NoMend_BadProgram => kit_is)
    (case ki_NoMend_BadMerge => kit_is)
    (case ki_NoMend_BadRule => kit_is)
    (case ki_NoMend_BadWish => kit_is)
    (case ki_NoMend_BadEntry => kit_is)
    (case ki_NoMend_BadWay => kit_is)
    (case ki_NoMend_Unlike => kit_is)
    (case ki_NoMend_NoMend => kit_is)
    (case ki_NoMend_NoMatch => kit_is)
    (case ki_NoMend_TooMany => kit_is)
    (case ki_NoMend_NoKey => kit_is)
    (case ki_NoMend_NoAnswer => kit_is)
    (case ki_NoMend_UnnumberedError => kit_is)
    (case ki_NoMend_ValueError => kit_is)
    (case ki_NoMend_LookupError => kit_is)
    (case ki_NoMend_KeyError => kit_is)
    (case ki_NoMatch_BadSeries => kit_is)
    (case ki_NoMatch_BadProgram => kit_is)
    (case ki_NoMatch_BadMerge => kit_is)
    (case ki_NoMatch_BadRule => kit_is)
    (case ki_NoMatch_BadWish => kit_is)
    (case ki_NoMatch_BadEntry => kit_is)
    (case ki_NoMatch_BadWay => kit_is)
    (case ki_NoMatch_Unlike => kit_is)
    (case ki_NoMatch_NoMend => kit_is)
    (case ki_NoMatch_NoMatch => kit_is)
    (case ki_NoMatch_TooMany => kit_is)
    (case ki_NoMatch_NoKey => kit_is)
    (case ki_NoMatch_NoAnswer => kit_is)
    (case ki_NoMatch_UnnumberedError => kit_is)
    (case ki_NoMatch_ValueError => kit_is)
    (case ki_NoMatch_LookupError => kit_is)
    (case ki_NoMatch_KeyError => kit_is)
    (case ki_TooMany_BadSeries => kit_is)
    (case ki_TooMany_BadProgram => kit_is)
    (case ki_TooMany_BadMerge => kit_is)
    (case ki_TooMany_BadRule => kit_is)
    (case ki_TooMany_BadWish => kit_is)
    (case ki_TooMany_BadEntry => kit_is)
    (case ki_TooMany_BadWay => kit_is)
    (case ki_TooMany_Unlike => kit_is)
    (case ki_TooMany_NoMend => kit_is)
    (case ki_TooMany_NoMatch => kit_is)
    (case ki_TooMany_TooMany => kit_is)
    (case ki_TooMany_NoKey => kit_is)
    (case ki_TooMany_NoAnswer => kit_is)
    (case ki_TooMany_UnnumberedError => kit_is)
    (case ki_TooMany_ValueError => kit_is)
    (case ki_TooMany_LookupError => kit_is)
    (case ki_TooMany_KeyError => kit_is)
    (case ki_NoKey_BadSeries => kit_is)
    (case ki_NoKey_BadProgram => kit_is)
    (case ki_NoKey_BadMerge => kit_is)
    (case ki_NoKey_BadRule => kit_is)
    (case ki_NoKey_BadWish => kit_is)
    (case ki_NoKey_BadEntry => kit_is)
    (case ki_NoKey_BadWay => kit_is)
    (case ki_NoKey_Unlike => kit_is)
    (case ki_NoKey_NoMend => kit_is)
    (case ki_NoKey_NoMatch => kit_is)
    (case ki_NoKey_TooMany => kit_is)
    (case ki_NoKey_NoKey => kit_is)
    (case ki_NoKey_NoAnswer => kit_is)
    (case ki_NoKey_UnnumberedError => kit_is)
    (case ki_NoKey_ValueError => kit_is)
    (case ki_NoKey_LookupError => kit_is)
    (case ki_NoKey_KeyError => kit_is)
    (case ki_NoAnswer_BadSeries => kit_is)
    (case ki_NoAnswer_BadProgram => kit_is)
    (case ki_NoAnswer_BadMerge => kit_is)
    (case ki_NoAnswer_BadRule => kit_is)
    (case ki_NoAnswer_BadWish => kit_is)
    (case ki_NoAnswer_BadEntry => kit_is)
    (case ki_NoAnswer_BadWay => kit_is)
    (case ki_NoAnswer_Unlike => kit_is)
    (case ki_NoAnswer_NoMend => kit_is)
    (case ki_NoAnswer_NoMatch => kit_is)
    (case ki_NoAnswer_TooMany => kit_is)
    (case ki_NoAnswer_NoKey => kit_is)
    (case ki_NoAnswer_NoAnswer => kit_is)
    (case ki_NoAnswer_UnnumberedError => kit_is)
    (case ki_NoAnswer_ValueError => kit_is)
    (case ki_NoAnswer_LookupError => kit_is)
    (case ki_NoAnswer_KeyError => kit_is)
    (case ki_Unnumbered_bool => kit_is)
#print axioms PySem.Challenge.cw_unnumbered_k89_errors_made_holds
