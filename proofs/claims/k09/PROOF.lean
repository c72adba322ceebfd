import PyProof.Rows.All
import Wide.All
import OpenK.AllK
import Wide.FinOn
import HandS.ForMost
import HandS.IsInst
import HandS.Style
import HandS.OwnEq
import HandS.SlotsOwn
import KE.RegKIsAll
import KE.KOpsOwn
import HandS.Wide
import HandS.FStr
import PySem.Challenge.RW_unnumbered_k09_results_agree
set_option Elab.async false
set_option linter.all false
set_option maxRecDepth 100000
set_option maxHeartbeats 4000000
set_option autoImplicit false
namespace My
open PySem PySem.Spec PyProof.Rows L2
/-! the text by its places -/
def topS (i : Nat) : Stmt := PySem.Challenge.pw_unnumbered_k09_results_agree.main.body.getD i (.Pass ⟨0, 0, 0, 0⟩)
abbrev s_law_draw : Stmt := topS 11
abbrev s_law_bag : Stmt := topS 10
abbrev s_law_number : Stmt := topS 12
abbrev s_law_word : Stmt := topS 13
abbrev s_is_number : Stmt := topS 1
abbrev s_Unnumbered___init : Stmt := inClass (topS 7) 0
abbrev s_same : Stmt := topS 3
abbrev s_is_entry : Stmt := topS 2
abbrev s_is_value : Stmt := topS 6
abbrev s_Unnumbered___eq : Stmt := inClass (topS 7) 1
abbrev s_Unnumbered___ne : Stmt := inClass (topS 7) 2
abbrev s_Unnumbered___lt : Stmt := inClass (topS 7) 3
abbrev s_Unnumbered___le : Stmt := inClass (topS 7) 4
abbrev s_Unnumbered___gt : Stmt := inClass (topS 7) 5
abbrev s_Unnumbered___ge : Stmt := inClass (topS 7) 6
abbrev s_law_says : Stmt := topS 14
abbrev s_law_tag : Stmt := topS 15
abbrev s_law_made : Stmt := topS 16
abbrev s_Unnumbered___str : Stmt := inClass (topS 7) 21
abbrev s_Unnumbered___repr : Stmt := inClass (topS 7) 22
abbrev s_Told___init : Stmt := inClass (topS 8) 0
abbrev s_Told___eq : Stmt := inClass (topS 8) 1
abbrev s_Told___repr : Stmt := inClass (topS 8) 2
abbrev s_pairs_agree : Stmt := topS 5
abbrev s_agree : Stmt := topS 4
abbrev s_law_result : Stmt := topS 17
abbrev s_law_shaped : Stmt := topS 18
abbrev s_law : Stmt := topS 19
/-! readings, step by step; heaps; short words -/
namespace Z
structure Inst (K : PySem.W.Frag) (C : Addr) : Prop where
  ca : PySem.W.findIn K (.ref C) "__class__" = some (some (.builtin "object.__class__"))
  cm : PySem.W.mroIn K C (.type "object") = some true
  cn : PySem.W.specialIn K (.builtin "object.__class__") "__get__" = some (some (.builtin "getset_descriptor.__get__"))
  ct : PySem.W.takesIn K (.builtin "object.__class__") = some true
/-- all but b stands -/
def But (b : Addr) (H H' : Hp) : Prop := ∀ a o, a ≠ b → H a = some o → H' a = some o
theorem But.refl {b : Addr} (H : Hp) : But b H H := fun _ _ _ h => h
theorem But.trans {b : Addr} {H H1 H2 : Hp} (x : But b H H1) (y : But b H1 H2) : But b H H2 := fun a o n h => y a o n (x a o n h)
theorem But.same {b : Addr} {H H1 : Hp} (x : Same H H1) : But b H H1 := fun a o _ h => x a o h
theorem But.upd {b : Addr} {H : Hp} {o : HO} : But b H (upd H b o) := fun a u n h => by
  rw [upd_ne n]; exact h
theorem same_upd {H : Hp} {p : Addr} {o : HO} (h : H p = none) : Same H (upd H p o) := fun b x e => by
  rw [upd_ne (ne_of_none e h)]; exact e
theorem But.free {b p : Addr} {H H1 : Hp} (e : But b H H1) (n : p ≠ b) (h : H1 p = none) : H p = none := by
  cases q : H p with
  | none => rfl
  | some o => rw [e p o n q] at h; cases h
/-- what was fresh may change: all the old stands -/
theorem But.back {b : Addr} {H H1 H2 : Hp} (s : Same H H1) (n : H b = none) (e : But b H1 H2) : Same H H2 := fun a o h => e a o (ne_of_none h n) (s a o h)
theorem But.seq {K : PySem.W.Frag} {b a : Addr} {H H' : Hp} {xs : List V} (e : But b H H') (n : a ≠ b) (h : SqL K H a xs) : SqL K H' a xs := by
  rcases h with (h | ⟨o, h⟩) | h
  · exact .inl (.inl (e _ _ n h))
  · exact .inl (.inr ⟨o, e _ _ n h⟩)
  · exact .inr h
section
variable {K : PySem.W.Frag} {σ : L2.St} {H : Hp} {Q : VK} {D : Ends} {t u : TS} {ta tb te tc : TE} {tt tu : TT} {i j : Nat} {v x y : V} {r : R2} {A : TA} {sp : Sp} {E : XK}
theorem r_start {σ' : L2.St} (e : σ = σ') (h : t D σ' H) : t D σ H := e ▸ h
theorem r_seq (h : t { D with nx := u D } σ H) : tSeq t u D σ H := h
theorem r_next (h : D.nx σ H) : tNext D σ H := h
theorem r_asg (h : te σ H fun x H1 => D.nx (σ.set i (some x)) H1) : tAsg te (gName i) D σ H := h
theorem r_asgG {g : TG} (h : te σ H fun x H1 => g x σ H1 D.nx) : tAsg te g D σ H := h
theorem r_gName {N : L2.St → Hp → Prop} (h : N (σ.set i (some v)) H) : gName i v σ H N := h
theorem r_ret (h : te σ H D.rt) : tRet te D σ H := h
theorem r_retN (h : D.rt .non H) : tRetN D σ H := h
theorem r_drop (h : te σ H fun _ H1 => D.nx σ H1) : tDrop te D σ H := h
theorem r_if (h : tt σ H fun b H1 => if b = true then t D σ H1 else u D σ H1) : tIfS tt t u D σ H := h
theorem r_par (h : A σ H fun vs H1 => ∃ v w, vs = [v, w] ∧ D.nx ((σ.set i (some v)).set j (some w)) H1) : tPar i j A D σ H := h
theorem r_aug {ti : TIp} (e : σ[i]? = some (some x)) (h : te σ H fun y H1 => ti x y H1 fun z H2 => D.nx (σ.set i (some z)) H2) : tAug i te ti D σ H := ⟨x, e, h⟩
theorem r_par3 {l : Nat} (h : A σ H fun vs H1 => ∃ u v w, vs = [u, v, w] ∧ D.nx (((σ.set i (some u)).set j (some v)).set l (some w)) H1) : tPar3 i j l A D σ H := h
theorem r_gTup {n : Nat} {w : TGs} {a : Addr} {xs : List V} {N : L2.St → Hp → Prop} (e : H a = some (.tup xs)) (hn : xs.length = n) (h : w xs σ H N) : gTup K n w (.ref a) σ H N := ⟨a, xs, rfl, SqT.of e, hn, h⟩
theorem r_gCons {g : TG} {w : TGs} {xs : List V} {N : L2.St → Hp → Prop} (h : g v σ H fun σ1 H1 => w xs σ1 H1 N) : gCons g w (v :: xs) σ H N := ⟨v, xs, rfl, h⟩
theorem r_gNil {N : L2.St → Hp → Prop} (h : N σ H) : gNil [] σ H N := ⟨rfl, h⟩
theorem r_vs2 {N : V → V → Prop} (h : N x y) : ∃ v w, [x, y] = [v, w] ∧ N v w := ⟨x, y, rfl, h⟩
theorem r_vs3 {z : V} {N : V → V → V → Prop} (h : N x y z) : ∃ u v w, [x, y, z] = [u, v, w] ∧ N u v w := ⟨x, y, z, rfl, h⟩
theorem r_var (e : σ[i]? = some (some v)) (h : Q v H) : tVar i σ H Q := ⟨v, e, h⟩
theorem r_c (h : Q v H) : tC v σ H Q := h
theorem r_op (h : ta σ H fun x H1 => tb σ H1 fun y H2 => r x y H2 Q) : tOp r ta tb σ H Q := h
theorem r_un {r : V → Hp → VK → Prop} (h : ta σ H fun x H1 => r x H1 Q) : tUn r ta σ H Q := h
theorem r_test {N : Bool → Hp → Prop} (h : te σ H fun x H' => ∃ k, x = .bl k ∧ N k H') : tTest te σ H N := h
theorem r_tB {N : Bool → Hp → Prop} (h : te σ H fun x H1 => ∃ c, x = .bl c ∧ N c H1) : tB te σ H N := h
theorem r_bl {k : Bool} {N : Bool → Prop} (h : N k) : ∃ c, V.bl k = .bl c ∧ N c := ⟨k, rfl, h⟩
theorem r_and {N : Bool → Hp → Prop} (h : tt σ H fun c H1 => if c = true then tu σ H1 N else N false H1) : tAnd tt tu σ H N := h
theorem r_or {N : Bool → Hp → Prop} (h : tt σ H fun c H1 => if c = true then N true H1 else tu σ H1 N) : tOr tt tu σ H N := h
theorem r_not {N : Bool → Hp → Prop} (h : tt σ H fun c H1 => N (!c) H1) : tNot tt σ H N := h
theorem r_andV (h : ta σ H fun x H1 => ∃ c, x = .bl c ∧ if c = true then tb σ H1 Q else Q (.bl false) H1) : tAndV ta tb σ H Q := h
theorem r_orV (h : ta σ H fun x H1 => ∃ c, x = .bl c ∧ if c = true then Q (.bl true) H1 else tb σ H1 Q) : tOrV ta tb σ H Q := h
theorem r_notV (h : ta σ H fun x H1 => ∃ c, x = .bl c ∧ Q (.bl (!c)) H1) : tNotV ta σ H Q := h
theorem r_ifE (h : tt σ H fun c H1 => if c = true then ta σ H1 Q else tb σ H1 Q) : tIf tt ta tb σ H Q := h
theorem r_nil {N : List V → Hp → Prop} (h : N [] H) : tNil σ H N := h
theorem r_cons {N : List V → Hp → Prop} (h : te σ H fun x H1 => A σ H1 fun xs H2 => N (x :: xs) H2) : tCons te A σ H N := h
theorem r_call {ds : List V} (h : A σ H fun vs H1 => sp (vs ++ ds) H1 Q E) : tCall sp ds E A σ H Q := h
theorem r_cb {r : List V → Hp → VK → Prop} (h : A σ H fun vs H1 => r vs H1 Q) : tCB r A σ H Q := h
/-- a new list, a new tuple -/
def nwL (xs : List V) (H : Hp) (Q : VK) : Prop := xs.length ≤ sizeLine ∧ ∀ p, H p = none → Q (.ref p) (upd H p (.lst xs))
def nwT (xs : List V) (H : Hp) (Q : VK) : Prop := xs.length ≤ sizeLine ∧ ∀ p, H p = none → Q (.ref p) (upd H p (.tup xs))
theorem r_tup (h : A σ H fun xs H1 => nwT xs H1 Q) : tTup A σ H Q := h
theorem r_lst (h : A σ H fun xs H1 => nwL xs H1 Q) : tLst A σ H Q := h
theorem r_nwL {xs : List V} (z : xs.length ≤ 1000) (h : ∀ p H1, H p = none → Same H H1 → H1 p = some (.lst xs) → Q (.ref p) H1) : nwL xs H Q := ⟨Nat.le_trans z (by decide), fun p np => h p _ np (same_upd np) upd_same⟩
theorem r_nwT {xs : List V} (z : xs.length ≤ 1000) (h : ∀ p H1, H p = none → Same H H1 → H1 p = some (.tup xs) → Q (.ref p) H1) : nwT xs H Q := ⟨Nat.le_trans z (by decide), fun p np => h p _ np (same_upd np) upd_same⟩
def fldR (K : PySem.W.Frag) (f : Str) (x : V) (H : Hp) (Q : VK) : Prop := ∃ a C dx fs v, x = .ref a ∧ H a = some (.ins C dx fs) ∧ Cls K C ∧ NoAttr K C f ∧ fs.lookup f = some v ∧ Q v H
theorem r_fld {f : Str} (h : ta σ H fun x H1 => fldR K f x H1 Q) : tFld K ta f σ H Q := h
theorem r_fldV {f : Str} {a C dx : Addr} {fs : List (Str × V)} (e : H a = some (.ins C dx fs)) (c : Cls K C) (n : NoAttr K C f) (l : fs.lookup f = some v) (h : Q v H) : fldR K f (.ref a) H Q := ⟨a, C, dx, fs, v, rfl, e, c, n, l, h⟩
/-! operators on values that are known -/
theorem r_I0 {g : Int → Int → V} {a b : Int} (h : Q (g a b) H) : rI0 g (.int a) (.int b) H Q := ⟨a, b, rfl, rfl, h⟩
theorem r_I {C : Int → Int → Prop} {g : Int → Int → V} {a b : Int} (c : C a b) (h : Q (g a b) H) : rI C g (.int a) (.int b) H Q := ⟨a, b, rfl, rfl, c, h⟩
theorem r_U {g : Int → V} {a : Int} (h : Q (g a) H) : rU g (.int a) H Q := ⟨a, rfl, h⟩
theorem r_eqI {a b : Int} (h : Q (.bl (decide (a = b))) H) : rEq (.int a) (.int b) H Q := ⟨rfl, by
  have e : decide (V.int a = V.int b) = decide (a = b) := by
    by_cases q : a = b <;> simp [q]
  rw [e]; exact h⟩
theorem r_eqB {a b : Bool} (h : Q (.bl (decide (a = b))) H) : rEq (.bl a) (.bl b) H Q := ⟨rfl, by
  have e : decide (V.bl a = V.bl b) = decide (a = b) := by
    by_cases q : a = b <;> simp [q]
  rw [e]; exact h⟩
theorem r_eqS {a b : Str} (h : Q (.bl (decide (a = b))) H) : rEq (.str a) (.str b) H Q := ⟨rfl, by
  have e : decide (V.str a = V.str b) = decide (a = b) := by
    by_cases q : a = b <;> simp [q]
  rw [e]; exact h⟩
theorem r_neI {a b : Int} (h : Q (.bl (!decide (a = b))) H) : rNe (.int a) (.int b) H Q := ⟨rfl, by
  have e : decide (V.int a = V.int b) = decide (a = b) := by
    by_cases q : a = b <;> simp [q]
  rw [e]; exact h⟩
theorem r_neB {a b : Bool} (h : Q (.bl (!decide (a = b))) H) : rNe (.bl a) (.bl b) H Q := ⟨rfl, by
  have e : decide (V.bl a = V.bl b) = decide (a = b) := by
    by_cases q : a = b <;> simp [q]
  rw [e]; exact h⟩
theorem r_neS {a b : Str} (h : Q (.bl (!decide (a = b))) H) : rNe (.str a) (.str b) H Q := ⟨rfl, by
  have e : decide (V.str a = V.str b) = decide (a = b) := by
    by_cases q : a = b <;> simp [q]
  rw [e]; exact h⟩
theorem r_ixL {p : Addr} {xs : List V} {a : Int} (h : SqL K H p xs) (e : atI xs a = some v) (k : Q v H) : rIx K (.ref p) (.int a) H Q := .inl ⟨p, xs, a, v, rfl, rfl, h, e, k⟩
theorem r_ixT {p : Addr} {xs : List V} {a : Int} (h : SqT K H p xs) (e : atI xs a = some v) (k : Q v H) : rIx K (.ref p) (.int a) H Q := .inr (.inl ⟨p, xs, a, v, rfl, rfl, h, e, k⟩)
theorem r_ixS {z : Str} {a : Int} {c : Nat} (l : z.length ≤ sizeLine) (e : atI z.cps.toList a = some c) (k : Q (.str ⟨#[c]⟩) H) : rIx K (.str z) (.int a) H Q := .inr (.inr ⟨z, a, c, rfl, rfl, l, e, k⟩)
theorem r_setL {p : Addr} {xs : List V} {a : Int} {m : Nat} {N : Hp → Prop} (h : H p = some (.lst xs)) (e : ixN xs.length a = some m) (k : ∀ H1, But p H H1 → H1 p = some (.lst (xs.set m v)) → N H1) : rSetL (.ref p) (.int a) v H N :=
  ⟨p, xs, a, m, rfl, rfl, h, e, k _ But.upd upd_same⟩
theorem r_gSub {to ti : TE} {s : TSet} {N : L2.St → Hp → Prop} (h : to σ H fun o H1 => ti σ H1 fun i H2 => s o i v H2 fun H3 => N σ H3) : gSub to ti s v σ H N := h
theorem yes {c : Bool} {P1 P2 : Prop} (h : c = true) (k : P1) : if c = true then P1 else P2 := by
  rw [h, if_pos rfl]; exact k
theorem no {c : Bool} {P1 P2 : Prop} (h : c = false) (k : P2) : if c = true then P1 else P2 := by
  rw [h, if_neg Bool.false_ne_true]; exact k
theorem ways {c P1 P2 : Prop} [Decidable c] (h : c → P1) (k : ¬ c → P2) : if decide c = true then P1 else P2 := by
  by_cases q : c
  · rw [decide_eq_true q, if_pos rfl]; exact h q
  · rw [decide_eq_false q, if_neg Bool.false_ne_true]; exact k q
theorem waysN {c P1 P2 : Prop} [Decidable c] (h : ¬ c → P1) (k : c → P2) : if (!decide c) = true then P1 else P2 := by
  by_cases q : c
  · rw [decide_eq_true q]; exact k q
  · rw [decide_eq_false q]; exact h q
theorem waysB {c : Bool} {P1 P2 : Prop} (h : c = true → P1) (k : c = false → P2) : if c = true then P1 else P2 := by
  cases c with
  | true => rw [if_pos rfl]; exact h rfl
  | false => rw [if_neg Bool.false_ne_true]; exact k rfl
/-! calls of built-ins, their readings by name -/
def rInt1 : List V → Hp → VK → Prop := fun xs H Q => (∃ i, xs = [.int i] ∧ Q (.int i) H) ∨ ∃ k, xs = [.bl k] ∧ Q (.int (if k then 1 else 0)) H
def rAbs : List V → Hp → VK → Prop := fun xs H Q => ∃ i, xs = [.int i] ∧ Q (.int (if i < 0 then -i else i)) H
def rMax2 : List V → Hp → VK → Prop := fun xs H Q => ∃ i j, xs = [.int i, .int j] ∧ Q (.int (if j > i then j else i)) H
def rMin2 : List V → Hp → VK → Prop := fun xs H Q => ∃ i j, xs = [.int i, .int j] ∧ Q (.int (if j < i then j else i)) H
def rLen (K : PySem.W.Frag) : List V → Hp → VK → Prop := fun xs H Q => ∃ p ys, xs = [.ref p] ∧ (SqL K H p ys ∨ SqT K H p ys) ∧ Q (.int ys.length) H
def rLenS : List V → Hp → VK → Prop := fun xs H Q => ∃ z, xs = [.str z] ∧ z.length ≤ sizeLine ∧ Q (.int z.length) H
def rStrI : List V → Hp → VK → Prop := fun xs H Q => ∃ i, xs = [.int i] ∧ i.natAbs.log2 < 1920 ∧ Q (.str (toString i)) H
def rAddS : R2 := fun x y H Q => ∃ i j, x = .str i ∧ y = .str j ∧ i.length + j.length ≤ sizeLine ∧ Q (.str (i ++ j)) H
theorem c_int1 {X : Cx} : CallR X (.type "int") rInt1 := call_int1
theorem c_abs {X : Cx} : CallR X (.builtin "abs") rAbs := call_abs
theorem c_max2 {X : Cx} (hc : X.calm = true) : CallR X (.builtin "max") rMax2 := call_max2 hc
theorem c_min2 {X : Cx} (hc : X.calm = true) : CallR X (.builtin "min") rMin2 := call_min2 hc
theorem c_len {X : Cx} : CallR X (.builtin "len") (rLen X.K) := call_len_seq
theorem c_lenS {X : Cx} : CallR X (.builtin "len") rLenS := call_len_str
theorem c_strI {X : Cx} : CallR X (.type "str") rStrI := call_str_int
theorem o_addS {X : Cx} : OpR X (binaryOp .Add) rAddS := op_add_str
theorem r_int1 {a : Int} (h : Q (.int a) H) : rInt1 [.int a] H Q := .inl ⟨a, rfl, h⟩
theorem r_abs {a : Int} (h : Q (.int (if a < 0 then -a else a)) H) : rAbs [.int a] H Q := ⟨a, rfl, h⟩
theorem r_max2 {a b : Int} (h : Q (.int (if b > a then b else a)) H) : rMax2 [.int a, .int b] H Q := ⟨a, b, rfl, h⟩
theorem r_min2 {a b : Int} (h : Q (.int (if b < a then b else a)) H) : rMin2 [.int a, .int b] H Q := ⟨a, b, rfl, h⟩
theorem r_lenL {p : Addr} {ys : List V} (e : SqL K H p ys) (h : Q (.int ys.length) H) : rLen K [.ref p] H Q := ⟨p, ys, rfl, .inl e, h⟩
theorem r_lenT {p : Addr} {ys : List V} (e : SqT K H p ys) (h : Q (.int ys.length) H) : rLen K [.ref p] H Q := ⟨p, ys, rfl, .inr e, h⟩
theorem r_strI {a : Int} (e : a.natAbs.log2 < 1920) (h : Q (.str (toString a)) H) : rStrI [.int a] H Q := ⟨a, rfl, e, h⟩
theorem r_addS {a b : Str} (e : a.length + b.length ≤ sizeLine) (h : Q (.str (a ++ b)) H) : rAddS (.str a) (.str b) H Q := ⟨a, b, rfl, rfl, e, h⟩
/-! loops, comprehensions -/
theorem r_rng {tb : TS} {k : Nat} {j : Int} (h0 : 0 ≤ j) (h1 : j ≤ 100000) (Pv : Nat → L2.St → Hp → Prop) (hp : Pv 0 σ H)
    (ht : ∀ (i : Nat) σ' H', (i : Int) < j → Pv i σ' H' → tb { D with nx := Pv (i + 1), ct := Pv (i + 1), bk := D.nx } (σ'.set k (some (.int (i : Int)))) H') (hd : ∀ σ' H', Pv j.toNat σ' H' → D.nx σ' H') :
    ∃ j' : Int, [V.int j] = [V.int j'] ∧ -(2 ^ 62) ≤ j' ∧ j' < 2 ^ 62 ∧ ∃ W : Nat → Nat → L2.St → Hp → Prop, (∃ m, W 0 m σ H) ∧ ∀ i m σ H, W i m σ H →
      (((Itr 0 j'.toNat).stop i H ∧ D.nx σ H) ∨ ((Itr 0 j'.toNat).go i H ∧ ∃ N : L2.St → Hp → Prop, (∀ σ' H', N σ' H' → ∃ m', m' < m ∧ W (i + 1) m' σ' H') ∧ ∀ x H', (Itr 0 j'.toNat).yld i H x H' → gName k x σ H' fun σ2 H2 => tb { D with nx := N, ct := N, bk := D.nx } σ2 H2)) := by
  refine ⟨j, rfl, by omega, by omega, for_range (lo := 0) (n := j.toNat) Pv hp (fun i σ' H' hi p => ?_) hd⟩
  have e : (0 : Int) + (i : Int) = (i : Int) := Int.zero_add _
  show tb _ (σ'.set k (some (.int ((0 : Int) + (i : Int))))) H'
  rw [e]
  exact ht i σ' H' (by omega) p
theorem r_forRng {A : TA} {tb : TS} {k : Nat} (h : A σ H fun vs H1 => ∃ j : Int, vs = [.int j] ∧ -(2 ^ 62) ≤ j ∧ j < 2 ^ 62 ∧ ∃ W : Nat → Nat → L2.St → Hp → Prop, (∃ m, W 0 m σ H1) ∧ ∀ i m σ H, W i m σ H →
      (((Itr 0 j.toNat).stop i H ∧ D.nx σ H) ∨ ((Itr 0 j.toNat).go i H ∧ ∃ N : L2.St → Hp → Prop, (∀ σ' H', N σ' H' → ∃ m', m' < m ∧ W (i + 1) m' σ' H') ∧ ∀ x H', (Itr 0 j.toNat).yld i H x H' → gName k x σ H' fun σ2 H2 => tb { D with nx := N, ct := N, bk := D.nx } σ2 H2))) :
    tFor (iRng1 A) (gName k) tb D σ H := h
theorem r_forL0 {tl : TE} {g : TG} {tb : TS} (h : tl σ H fun x H1 => ∃ a, x = .ref a ∧ (∃ xs, SqL K H1 a xs) ∧ ∃ W : Nat → Nat → L2.St → Hp → Prop, (∃ m, W 0 m σ H1) ∧ ∀ i m σ H, W i m σ H →
      (((Itl K a).stop i H ∧ D.nx σ H) ∨ ((Itl K a).go i H ∧ ∃ N : L2.St → Hp → Prop, (∀ σ' H', N σ' H' → ∃ m', m' < m ∧ W (i + 1) m' σ' H') ∧ ∀ x H', (Itl K a).yld i H x H' → g x σ H' fun σ2 H2 => tb { D with nx := N, ct := N, bk := D.nx } σ2 H2))) :
    tFor (iList K tl) g tb D σ H := h
theorem r_lst_by {g : TG} {tb : TS} {a : Addr} {xs : List V} (hs : SqL K H a xs) (Pv : Nat → L2.St → Hp → Prop) (h0 : Pv 0 σ H) (hl : ∀ i σ' H', Pv i σ' H' → SqL K H' a xs)
    (ht : ∀ i x σ' H', xs[i]? = some x → Pv i σ' H' → g x σ' H' fun σ2 H2 => tb { D with nx := Pv (i + 1), ct := Pv (i + 1), bk := D.nx } σ2 H2) (hd : ∀ σ' H', Pv xs.length σ' H' → D.nx σ' H') :
    ∃ a', V.ref a = .ref a' ∧ (∃ xs, SqL K H a' xs) ∧ ∃ W : Nat → Nat → L2.St → Hp → Prop, (∃ m, W 0 m σ H) ∧ ∀ i m σ H, W i m σ H →
      (((Itl K a').stop i H ∧ D.nx σ H) ∨ ((Itl K a').go i H ∧ ∃ N : L2.St → Hp → Prop, (∀ σ' H', N σ' H' → ∃ m', m' < m ∧ W (i + 1) m' σ' H') ∧ ∀ x H', (Itl K a').yld i H x H' → g x σ H' fun σ2 H2 => tb { D with nx := N, ct := N, bk := D.nx } σ2 H2)) :=
  ⟨a, rfl, ⟨xs, hs⟩, for_list (xs := xs) Pv h0 (fun i σ' H' _ p => hl i σ' H' p) ht hd⟩
theorem r_eqD {d e : PyData} (hd : Dp K H x d) (he : Dp K H y e) (sd : SeqAt.shaped d = true) (se : SeqAt.shaped e = true) (h : Q (.bl (PyData.eqv d e)) H) : rEqD K x y H Q := ⟨d, e, hd, he, sd, se, h⟩
theorem r_cat {p q : Addr} {xs zs : List V} (h1 : H p = some (.lst xs)) (h2 : H q = some (.lst zs)) (l : xs.length + zs.length ≤ 100000) (k : ∀ p H1, H p = none → Same H H1 → H1 p = some (.lst (xs ++ zs)) → Q (.ref p) H1) : rCat (.ref p) (.ref q) H Q :=
  ⟨p, q, xs, zs, rfl, rfl, h1, h2, Nat.le_trans l (by decide), fun p np => k p _ np (same_upd np) upd_same⟩
theorem turns (z m : Int) (hm : 1 ≤ m) (hm2 : m ≤ 100000) : 0 ≤ (if (if z < m then z else m) > 1 then (if z < m then z else m) else 1) ∧ (if (if z < m then z else m) > 1 then (if z < m then z else m) else 1) ≤ 100000 := by
  constructor <;> (split <;> split <;> omega)
theorem turns_le (z m : Int) (hm : 1 ≤ m) : (if (if z < m then z else m) > 1 then (if z < m then z else m) else 1) ≤ m := by
  split <;> split <;> omega
/-- two ways that meet -/
theorem join {c : Prop} [Decidable c] {A B : VK → Prop} {N : VK} (R : V → Hp → Prop) (ha : c → ∀ M : VK, (∀ v H', R v H' → M v H') → A M) (hb : ¬ c → ∀ M : VK, (∀ v H', R v H' → M v H') → B M) (k : ∀ v H', R v H' → N v H') :
    if decide c = true then A N else B N := by
  by_cases q : c
  · rw [decide_eq_true q, if_pos rfl]; exact ha q N k
  · rw [decide_eq_false q, if_neg Bool.false_ne_true]; exact hb q N k
theorem get_int {ns : List Int} {i : Nat} (h : i < ns.length) : ∃ c, atI (ns.map V.int) (i : Int) = some (.int c) := by
  refine ⟨ns[i], atI_nat ?_⟩
  rw [List.getElem?_map, List.getElem?_eq_getElem h]; rfl
/-- [e for name in range(j)], [e for name in a list] -/
def lcR (j : Int) (k : Nat) (te : TE) (vs : List Nat) (σ : L2.St) (H : Hp) (Q : VK) : Prop := -(2 ^ 62) ≤ j ∧ j < 2 ^ 62 ∧ ∀ D, H D = none → ∃ W : Nat → Nat → Hp → Prop, (∃ m, W 0 m (L2.upd H D (.lst []))) ∧ ∀ i m H, W i m H →
  ((Itr 0 j.toNat).stop i H ∧ Q (.ref D) H) ∨ ((Itr 0 j.toNat).go i H ∧ ∃ Nx : Hp → Prop, (∀ H', Nx H' → ∃ m', m' < m ∧ W (i + 1) m' H') ∧ ∀ x H', (Itr 0 j.toNat).yld i H x H' → gName k x (wipe σ vs) H' fun σ2 H2 => wipe σ2 vs = wipe σ vs ∧ tYes σ2 H2 fun b H3 =>
    if b = true then te σ2 H3 fun y H4 => ∃ acc, H4 D = some (.lst acc) ∧ acc.length < sizeLine ∧ Nx (L2.upd H4 D (.lst (acc ++ [y]))) else Nx H3)
theorem r_lcRng {k : Nat} {vs : List Nat} (h : A σ H fun ws H1 => ∃ j : Int, ws = [.int j] ∧ lcR j k te vs σ H1 Q) : tLc (iRng1 A) (gName k) tYes te vs σ H Q := h
/-- what is made is put behind the list at Dl -/
def apR (Dl : Addr) (N : Hp → Prop) (y : V) (H : Hp) : Prop := ∃ acc, H Dl = some (.lst acc) ∧ acc.length < sizeLine ∧ N (L2.upd H Dl (.lst (acc ++ [y])))
theorem r_ap {Dl : Addr} {N : Hp → Prop} {acc : List V} (h : H Dl = some (.lst acc)) (l : acc.length ≤ 100000) (k : ∀ H1, But Dl H H1 → H1 Dl = some (.lst (acc ++ [y])) → N H1) : apR Dl N y H :=
  ⟨acc, h, Nat.lt_of_le_of_lt l (by decide), k _ But.upd upd_same⟩
theorem r_lcR {J : Int} {k : Nat} {vs : List Nat} (h0 : 0 ≤ J) (h1 : J ≤ 100000) (hw : ∀ x, wipe ((wipe σ vs).set k (some x)) vs = wipe σ vs) (Pv : Addr → Nat → Hp → Prop)
    (hs : ∀ Dl H1, H Dl = none → Same H H1 → H1 Dl = some (.lst []) → Pv Dl 0 H1)
    (ht : ∀ Dl (i : Nat) H', H Dl = none → (i : Int) < J → Pv Dl i H' → te ((wipe σ vs).set k (some (.int (i : Int)))) H' (apR Dl (Pv Dl (i + 1))))
    (hd : ∀ Dl H', H Dl = none → Pv Dl J.toNat H' → Q (.ref Dl) H') : ∃ j' : Int, [V.int J] = [V.int j'] ∧ lcR j' k te vs σ H Q := by
  refine ⟨J, rfl, by omega, by omega, fun Dl hD => ?_⟩
  refine lc_range (lo := 0) (n := J.toNat) (tt := tYes) (Pv Dl) (hs Dl _ hD (same_upd hD) upd_same) (fun i H' hi p => ?_) (fun H' p => hd Dl H' hD p)
  have e : (0 : Int) + (i : Int) = (i : Int) := Int.zero_add _
  show wipe ((wipe σ vs).set k (some (.int ((0 : Int) + (i : Int))))) vs = wipe σ vs ∧ (if true = true then te ((wipe σ vs).set k (some (.int ((0 : Int) + (i : Int))))) H' (apR Dl (Pv Dl (i + 1))) else Pv Dl (i + 1) H')
  rw [e, if_pos rfl]
  exact ⟨hw _, ht Dl i H' hD (by omega) p⟩
def lcL (K : PySem.W.Frag) (a : Addr) (k : Nat) (te : TE) (vs : List Nat) (σ : L2.St) (H : Hp) (Q : VK) : Prop := (∃ xs, SqL K H a xs) ∧ ∀ D, H D = none → ∃ W : Nat → Nat → Hp → Prop, (∃ m, W 0 m (L2.upd H D (.lst []))) ∧ ∀ i m H, W i m H →
  ((Itl K a).stop i H ∧ Q (.ref D) H) ∨ ((Itl K a).go i H ∧ ∃ Nx : Hp → Prop, (∀ H', Nx H' → ∃ m', m' < m ∧ W (i + 1) m' H') ∧ ∀ x H', (Itl K a).yld i H x H' → gName k x (wipe σ vs) H' fun σ2 H2 => wipe σ2 vs = wipe σ vs ∧ tYes σ2 H2 fun b H3 =>
    if b = true then te σ2 H3 fun y H4 => ∃ acc, H4 D = some (.lst acc) ∧ acc.length < sizeLine ∧ Nx (L2.upd H4 D (.lst (acc ++ [y]))) else Nx H3)
theorem r_lcLst {k : Nat} {vs : List Nat} {tl : TE} (h : tl σ H fun x H1 => ∃ a, x = .ref a ∧ lcL K a k te vs σ H1 Q) : tLc (iList K tl) (gName k) tYes te vs σ H Q := h
theorem r_lcL {a : Addr} {xs : List V} {k : Nat} {vs : List Nat} (hx : SqL K H a xs) (hw : ∀ x, wipe ((wipe σ vs).set k (some x)) vs = wipe σ vs) (Pv : Addr → Nat → Hp → Prop)
    (hs : ∀ Dl H1, H Dl = none → Same H H1 → H1 Dl = some (.lst []) → Pv Dl 0 H1) (hl : ∀ Dl i H', H Dl = none → Pv Dl i H' → SqL K H' a xs)
    (ht : ∀ Dl (i : Nat) x H', H Dl = none → xs[i]? = some x → Pv Dl i H' → te ((wipe σ vs).set k (some x)) H' (apR Dl (Pv Dl (i + 1))))
    (hd : ∀ Dl H', H Dl = none → Pv Dl xs.length H' → Q (.ref Dl) H') : ∃ a', V.ref a = .ref a' ∧ lcL K a' k te vs σ H Q := by
  refine ⟨a, rfl, ⟨xs, hx⟩, fun Dl hD => ?_⟩
  refine lc_list (xs := xs) (tt := tYes) (Pv Dl) (hs Dl _ hD (same_upd hD) upd_same) (fun i H' _ p => hl Dl i H' hD p) (fun i x H' hi p => ?_) (fun H' p => hd Dl H' hD p)
  show wipe ((wipe σ vs).set k (some x)) vs = wipe σ vs ∧ (if true = true then te ((wipe σ vs).set k (some x)) H' (apR Dl (Pv Dl (i + 1))) else Pv Dl (i + 1) H')
  rw [if_pos rfl]
  exact ⟨hw _, ht Dl i x H' hD hi p⟩
def lcF (K : PySem.W.Frag) (a : Addr) (k : Nat) (tt : TT) (te : TE) (vs : List Nat) (σ : L2.St) (H : Hp) (Q : VK) : Prop := (∃ xs, SqL K H a xs) ∧ ∀ D, H D = none → ∃ W : Nat → Nat → Hp → Prop, (∃ m, W 0 m (L2.upd H D (.lst []))) ∧ ∀ i m H, W i m H →
  ((Itl K a).stop i H ∧ Q (.ref D) H) ∨ ((Itl K a).go i H ∧ ∃ Nx : Hp → Prop, (∀ H', Nx H' → ∃ m', m' < m ∧ W (i + 1) m' H') ∧ ∀ x H', (Itl K a).yld i H x H' → gName k x (wipe σ vs) H' fun σ2 H2 => wipe σ2 vs = wipe σ vs ∧ tt σ2 H2 fun b H3 =>
    if b = true then te σ2 H3 fun y H4 => ∃ acc, H4 D = some (.lst acc) ∧ acc.length < sizeLine ∧ Nx (L2.upd H4 D (.lst (acc ++ [y]))) else Nx H3)
theorem r_lcFLst {k : Nat} {vs : List Nat} {tl : TE} {tt : TT} (h : tl σ H fun x H1 => ∃ a, x = .ref a ∧ lcF K a k tt te vs σ H1 Q) : tLc (iList K tl) (gName k) tt te vs σ H Q := h
theorem r_lcF {a : Addr} {xs : List V} {k : Nat} {vs : List Nat} {tt : TT} (hx : SqL K H a xs) (hw : ∀ x, wipe ((wipe σ vs).set k (some x)) vs = wipe σ vs) (Pv : Addr → Nat → Hp → Prop)
    (hs : ∀ Dl H1, H Dl = none → Same H H1 → H1 Dl = some (.lst []) → Pv Dl 0 H1) (hl : ∀ Dl i H', H Dl = none → Pv Dl i H' → SqL K H' a xs)
    (ht : ∀ Dl (i : Nat) x H', H Dl = none → xs[i]? = some x → Pv Dl i H' → tt ((wipe σ vs).set k (some x)) H' fun b H3 => if b = true then te ((wipe σ vs).set k (some x)) H3 (apR Dl (Pv Dl (i + 1))) else Pv Dl (i + 1) H3)
    (hd : ∀ Dl H', H Dl = none → Pv Dl xs.length H' → Q (.ref Dl) H') : ∃ a', V.ref a = .ref a' ∧ lcF K a' k tt te vs σ H Q := by
  refine ⟨a, rfl, ⟨xs, hx⟩, fun Dl hD => ?_⟩
  exact lc_list (xs := xs) (tt := tt) (Pv Dl) (hs Dl _ hD (same_upd hD) upd_same) (fun i H' _ p => hl Dl i H' hD p) (fun i x H' hi p => ⟨hw _, ht Dl i x H' hD hi p⟩) (fun H' p => hd Dl H' hD p)
theorem r_bmA {to : TE} {t : TA} (h : to σ H fun x H1 => tyV K "list" x H1 ∧ t σ H1 fun xs H2 => rAppend x xs H2 Q) : tBM K "list" rAppend to t σ H Q := h
theorem r_tyL {l : Addr} {xs : List V} {G : Prop} (e : H l = some (.lst xs)) (h : G) : tyV K "list" (.ref l) H ∧ G := ⟨.inl ⟨rfl, xs, SqL.of e⟩, h⟩
theorem r_app {l : Addr} {xs : List V} (e : H l = some (.lst xs)) (n : xs.length ≤ 100000) (k : ∀ H1, But l H H1 → H1 l = some (.lst (xs ++ [y])) → Q .non H1) : rAppend (.ref l) [y] H Q :=
  ⟨l, xs, y, rfl, rfl, e, Nat.lt_of_le_of_lt n (by decide), k _ But.upd upd_same⟩
theorem r_rep {l : Addr} {n : Int} {xs : List V} (e : H l = some (.lst xs)) (h0 : 0 ≤ n) (h1 : n ≤ 1000) (hl : xs.length * n.toNat ≤ 100000) (k : ∀ p H1, H p = none → Same H H1 → H1 p = some (.lst (List.replicate n.toNat xs).flatten) → Q (.ref p) H1) : rRep (.ref l) (.int n) H Q :=
  ⟨l, n, xs, rfl, rfl, e, by omega, by omega, Nat.le_trans hl (by decide), fun p np => k p _ np (same_upd np) upd_same⟩
theorem r_sl {te : TE} {tl th : TO} {r : V → Option Int → Option Int → Hp → VK → Prop} (h : te σ H fun x H1 => tl σ H1 fun l H2 => th σ H2 fun u H3 => r x l u H3 Q) : tSl r te tl th σ H Q := h
def prt (Q : Option Int → Hp → Prop) : VK := fun x H => ∃ i : Int, x = .int i ∧ Q (some i) H
theorem r_part {Q : Option Int → Hp → Prop} (h : te σ H (prt Q)) : tPart te σ H Q := h
theorem r_prt {Q : Option Int → Hp → Prop} {i : Int} (h : Q (some i) H) : prt Q (.int i) H := ⟨i, rfl, h⟩
theorem r_nopart {Q : Option Int → Hp → Prop} (h : Q none H) : tNoPart σ H Q := h
theorem r_slL {a : Addr} {xs : List V} {lo hi : Option Int} (e : H a = some (.lst xs)) (k : ∀ p H1, H p = none → Same H H1 → H1 p = some (.lst (cutV xs lo hi)) → Q (.ref p) H1) : rSlL K (.ref a) lo hi H Q :=
  ⟨a, xs, rfl, SqL.of e, fun p np => k p _ np (same_upd np) upd_same⟩
theorem r_anyB {a : Addr} {bs : List Bool} (hs : SqL K H a (bs.map V.bl)) (h : Q (.bl (bs.any id)) H) : rAny K [.ref a] H Q := ⟨a, bs, rfl, hs, h⟩
/-! dicts with keys that are texts -/
def dgR (x y : V) (H : Hp) (Q : VK) : Prop := ∃ a v, x = .ref a ∧ DGet H a y (some v) ∧ Q v H
theorem r_dget (h : ta σ H fun x H1 => tb σ H1 fun y H2 => dgR x y H2 Q) : tDGet ta tb σ H Q := h
theorem r_dgS {a : Addr} {g : Str} {kvs : List (Key × V)} (e : H a = some (.dK kvs)) (l : valV kvs (.inr g) = some v) (k : Q v H) : dgR (.ref a) (.str g) H Q := ⟨a, v, rfl, by
  have z := DGet.k (H := H) (a := a) (kvs := kvs) (k := .inr g) e
  rw [l] at z
  exact z, k⟩
def dpR (x y v : V) (H : Hp) (N : Hp → Prop) : Prop := ∃ a H1, x = .ref a ∧ DPut H a y v H1 ∧ N H1
theorem r_dput (h : tc σ H fun v H1 => ta σ H1 fun x H2 => tb σ H2 fun y H3 => dpR x y v H3 (D.nx σ)) : sDPut ta tb tc D σ H := h
theorem r_dpS {a : Addr} {g : Str} {kvs : List (Key × V)} {N : Hp → Prop} (e : H a = some (.dK kvs)) (l : kvs.length ≤ 1000) (k : ∀ H1, But a H H1 → H1 a = some (.dK (putK kvs (.inr g) v)) → N H1) : dpR (.ref a) (.str g) v H N :=
  ⟨a, _, rfl, DPut.k (k := .inr g) e (Nat.lt_of_le_of_lt l (by decide)), k _ But.upd upd_same⟩
def dspR (p : Addr) (ps : List (V × V)) (H : Hp) (Q : VK) : Prop := H p = some (.dK []) ∧ ∃ kvs : List (Key × V), ps = kvs.map (fun kv => (kV kv.1, kv.2)) ∧ kvs.length ≤ 15 ∧ Q (.ref p) (L2.upd H p (.dK (mergeK [] kvs)))
theorem r_disp {trs : List (TE × TE)} (h : ∀ p H1, H p = none → Same H H1 → H1 p = some (.dK []) → tPairs trs σ H1 fun ps H2 => dspR p ps H2 Q) : tDisp trs σ H Q := fun p np => h p _ np (same_upd np) upd_same
theorem r_pnil {N : List (V × V) → Hp → Prop} (h : N [] H) : tPairs [] σ H N := h
theorem r_pcons {trs : List (TE × TE)} {N : List (V × V) → Hp → Prop} (h : ta σ H fun x H1 => tb σ H1 fun y H2 => tPairs trs σ H2 fun ps H3 => N ((x, y) :: ps) H3) : tPairs ((ta, tb) :: trs) σ H N := h
theorem r_dsp {p : Addr} {ps : List (V × V)} (kvs : List (Key × V)) (e : H p = some (.dK [])) (hps : ps = kvs.map (fun kv => (kV kv.1, kv.2))) (l : kvs.length ≤ 15) (k : ∀ H1, But p H H1 → H1 p = some (.dK (mergeK [] kvs)) → Q (.ref p) H1) : dspR p ps H Q :=
  ⟨e, kvs, hps, l, k _ But.upd upd_same⟩
theorem pow10_le {a b : Nat} (h : a ≤ b) : (10 : Int) ^ a ≤ 10 ^ b := by
  have e : ∀ k : Nat, (10 : Int) ^ k = ((10 ^ k : Nat) : Int) := fun k => by rw [Int.natCast_pow]; rfl
  rw [e, e]
  exact Int.ofNat_le.mpr (Nat.pow_le_pow_right (by decide) h)
theorem letters {n : Nat} (h : n < 26) : ∃ c, ("abcdefghijklmnopqrstuvwxyz" : Str).cps.toList[n]? = some c ∧ 97 ≤ c ∧ c ≤ 122 := by
  have e : ("abcdefghijklmnopqrstuvwxyz" : Str).cps.toList = List.range' 97 26 := by decide +kernel
  refine ⟨97 + n, ?_, by omega, by omega⟩
  rw [e, List.getElem?_range' (by omega)]
  simp
theorem ty_ins {a C dx : Addr} {fs : List (Str × V)} (c : Cls K C) (i : Inst K C) (e : H a = some (.ins C dx fs)) : TyX K H (.ref a) (.ref C) := .base (.ins e c i.ca i.cn i.ct i.cm)
theorem ix_seqG {X : Cx} {K : PySem.W.Frag} (e : X.K = K) : IxR X (rIx K) := e ▸ ix_seq
theorem c_isi {X : Cx} {K : PySem.W.Frag} (e : X.K = K) : CallR X (.builtin "isinstance") (rIsi K) := e ▸ call_isi
theorem r_isiT {t : Value} {n : String} {b : Bool} (ty : TyX K H x t) (k : PySem.W.kitOne K t (.type n) = some b) (h : Q (.bl b) H) : rIsi K [x, .ty n] H Q := ⟨x, .ty n, t, .type n, b, rfl, .ty n, ty, k, h⟩
theorem r_isiC {t : Value} {C : Addr} {b : Bool} (ty : TyX K H x t) (k : PySem.W.kitOne K t (.ref C) = some b) (h : Q (.bl b) H) : rIsi K [x, .ref C] H Q := ⟨x, .ref C, t, .ref C, b, rfl, .own C, ty, k, h⟩
/-- a new instance, its dict made, its __init__ asked -/
def mkI (C : Addr) (sp : Sp) (ds vs : List V) (H : Hp) (Q : VK) (E : XK) : Prop := ∀ x dx, H x = none → H dx = none → dx ≠ x →
  sp (.ref x :: (vs ++ ds)) (L2.upd (L2.upd H dx (.own x)) x (.ins C dx [])) (fun v H2 => v = .non ∧ Q (.ref x) H2) E
theorem r_make {C : Addr} {ds : List V} (h : A σ H fun vs H1 => mkI C sp ds vs H1 Q E) : tMake C sp ds E A σ H Q := h
theorem look1 {f : Str} : ([(f, v)] : List (Str × V)).lookup f = some v := by simp [List.lookup]
/-- o.f = value -/
def stF (K : PySem.W.Frag) (f : Str) (y x : V) (H : Hp) (N : Hp → Prop) : Prop := ∃ a C dx fs, x = .ref a ∧ H a = some (.ins C dx fs) ∧ Cls K C ∧ NoAttr K C f ∧ fs.length < 1000 ∧ N (L2.upd H a (.ins C dx (putF f y fs)))
theorem r_sfld {f : Str} {tv : TE} (h : tv σ H fun y H1 => ta σ H1 fun x H2 => stF K f y x H2 (D.nx σ)) : sFld K ta tv f D σ H := h
theorem r_stF {f : Str} {a C dx : Addr} {fs : List (Str × V)} {N : Hp → Prop} (e : H a = some (.ins C dx fs)) (c : Cls K C) (n : NoAttr K C f) (l : fs.length ≤ 900) (h : ∀ H1, But a H H1 → H1 a = some (.ins C dx (putF f y fs)) → N H1) :
    stF K f y (.ref a) H N := ⟨a, C, dx, fs, rfl, e, c, n, by omega, h _ But.upd upd_same⟩
def rIsN : R2 := fun x y H Q => y = .non ∧ Q (.bl (decide (x = .non))) H
def rNotN : R2 := fun x y H Q => y = .non ∧ Q (.bl (!decide (x = .non))) H
theorem o_isN {X : Cx} : OpR X (compareOp .Is) rIsN := op_isN
theorem o_notN {X : Cx} : OpR X (compareOp .IsNot) rNotN := op_notN
theorem r_isN (h : Q (.bl (decide (x = .non))) H) : rIsN x .non H Q := ⟨rfl, h⟩
theorem r_notN (h : Q (.bl (!decide (x = .non))) H) : rNotN x .non H Q := ⟨rfl, h⟩
theorem z4 : (4 : Nat) ≤ sizeLine := by decide
theorem szle {n : Nat} (h : n ≤ 1000) : n ≤ sizeLine := Nat.le_trans h (by decide)
end
end Z
namespace Z
open PySem PySem.Spec PyProof.Rows L2
/-- what of the text an own operator leans on, the class of instances over object alone -/
structure BinF (K : PySem.W.Frag) (C : Addr) (nm : String) (f g : Addr) : Prop where
  sf : PySem.W.selfFirst K C = true
  at_ : PySem.W.findIn K (.ref C) (PySem.dunder nm) = some (some (.ref f))
  fn : PySem.W.isFn K (.ref f) = true
  rat : PySem.W.findIn K (.ref C) (PySem.dunderR nm) = some (some (.ref g))
  rfn : PySem.W.isFn K (.ref g) = true
  fo : ∃ fo, PySem.W.findIn K (.type "int") (PySem.dunder nm) = some fo
  ro : ∃ ro, PySem.W.findIn K (.type "int") (PySem.dunderR nm) = some ro
  sub : PySem.W.subIn K (.ref C) (.type "int") = some false
  isub : PySem.W.subIn K (.type "int") (.ref C) = some false
  cls : ∃ cd, PySem.W.clsIn K C = some cd ∧ cd.mro = [.ref C, .type "object"]
  ni : PySem.W.findIn K (.ref C) (PySem.dunderI nm) = some none
  noi : PySem.W.findIn K (.type "object") (PySem.dunderI nm) = some none
/-- what the formatting of an own object leans on -/
structure TxF (K : PySem.W.Frag) (C : Addr) : Prop where
  fm : PySem.W.findIn K (.ref C) "__format__" = some (some (.builtin "object.__format__"))
  mo : PySem.W.mroIn K C (.type "object") = some true
/-- != of an own class is the one of all objects -/
structure NeD (K : PySem.W.Frag) (C : Addr) : Prop where
  ne : PySem.W.findIn K (.ref C) "__ne__" = some (some (.builtin "object.__ne__"))
  mo : PySem.W.mroIn K C (.type "object") = some true
end Z

structure Top (K : PySem.W.Frag) (mg : Str → Option Value) where
  C_Told : Addr
  C_Unnumbered : Addr
  f_law_draw : Addr
  fd_law_draw : FuncData
  F_law_draw : Fun K "_law_draw" "_law_draw" s_law_draw f_law_draw fd_law_draw
  B_law_draw : Binds K fd_law_draw ["_law_bag_here", "_law_many"] []
  f_law_bag : Addr
  fd_law_bag : FuncData
  F_law_bag : Fun K "_law_bag" "_law_bag" s_law_bag f_law_bag fd_law_bag
  B_law_bag : Binds K fd_law_bag ["_law_script", "_law_at"] []
  f_law_number : Addr
  fd_law_number : FuncData
  F_law_number : Fun K "_law_number" "_law_number" s_law_number f_law_number fd_law_number
  B_law_number : Binds K fd_law_number ["_law_bag_here"] []
  f_law_word : Addr
  fd_law_word : FuncData
  F_law_word : Fun K "_law_word" "_law_word" s_law_word f_law_word fd_law_word
  B_law_word : Binds K fd_law_word ["_law_bag_here"] []
  f_is_number : Addr
  fd_is_number : FuncData
  F_is_number : Fun K "is_number" "is_number" s_is_number f_is_number fd_is_number
  B_is_number : Binds K fd_is_number ["thing"] []
  f_Unnumbered___init : Addr
  fd_Unnumbered___init : FuncData
  F_Unnumbered___init : Fun K "__init__" "Unnumbered.__init__" s_Unnumbered___init f_Unnumbered___init fd_Unnumbered___init
  B_Unnumbered___init : Binds K fd_Unnumbered___init ["self", "name"] []
  f_same : Addr
  fd_same : FuncData
  F_same : Fun K "same" "same" s_same f_same fd_same
  B_same : Binds K fd_same ["one", "other"] []
  f_is_entry : Addr
  fd_is_entry : FuncData
  F_is_entry : Fun K "is_entry" "is_entry" s_is_entry f_is_entry fd_is_entry
  B_is_entry : Binds K fd_is_entry ["thing"] []
  f_is_value : Addr
  fd_is_value : FuncData
  F_is_value : Fun K "_is_value" "_is_value" s_is_value f_is_value fd_is_value
  B_is_value : Binds K fd_is_value ["thing"] []
  f_Unnumbered___eq : Addr
  fd_Unnumbered___eq : FuncData
  F_Unnumbered___eq : Fun K "__eq__" "Unnumbered.__eq__" s_Unnumbered___eq f_Unnumbered___eq fd_Unnumbered___eq
  B_Unnumbered___eq : Binds K fd_Unnumbered___eq ["self", "other"] []
  f_Unnumbered___ne : Addr
  fd_Unnumbered___ne : FuncData
  F_Unnumbered___ne : Fun K "__ne__" "Unnumbered.__ne__" s_Unnumbered___ne f_Unnumbered___ne fd_Unnumbered___ne
  B_Unnumbered___ne : Binds K fd_Unnumbered___ne ["self", "other"] []
  f_Unnumbered___lt : Addr
  fd_Unnumbered___lt : FuncData
  F_Unnumbered___lt : Fun K "__lt__" "Unnumbered.__lt__" s_Unnumbered___lt f_Unnumbered___lt fd_Unnumbered___lt
  B_Unnumbered___lt : Binds K fd_Unnumbered___lt ["self", "other"] []
  f_Unnumbered___le : Addr
  fd_Unnumbered___le : FuncData
  F_Unnumbered___le : Fun K "__le__" "Unnumbered.__le__" s_Unnumbered___le f_Unnumbered___le fd_Unnumbered___le
  B_Unnumbered___le : Binds K fd_Unnumbered___le ["self", "other"] []
  f_Unnumbered___gt : Addr
  fd_Unnumbered___gt : FuncData
  F_Unnumbered___gt : Fun K "__gt__" "Unnumbered.__gt__" s_Unnumbered___gt f_Unnumbered___gt fd_Unnumbered___gt
  B_Unnumbered___gt : Binds K fd_Unnumbered___gt ["self", "other"] []
  f_Unnumbered___ge : Addr
  fd_Unnumbered___ge : FuncData
  F_Unnumbered___ge : Fun K "__ge__" "Unnumbered.__ge__" s_Unnumbered___ge f_Unnumbered___ge fd_Unnumbered___ge
  B_Unnumbered___ge : Binds K fd_Unnumbered___ge ["self", "other"] []
  f_law_says : Addr
  fd_law_says : FuncData
  F_law_says : Fun K "_law_says" "_law_says" s_law_says f_law_says fd_law_says
  B_law_says : Binds K fd_law_says ["_law_told", "_law_due"] []
  f_law_tag : Addr
  fd_law_tag : FuncData
  F_law_tag : Fun K "_law_tag" "_law_tag" s_law_tag f_law_tag fd_law_tag
  B_law_tag : Binds K fd_law_tag ["_law_bag_here", "_law_words"] []
  f_law_made : Addr
  fd_law_made : FuncData
  F_law_made : Fun K "_law_made" "_law_made" s_law_made f_law_made fd_law_made
  B_law_made : Binds K fd_law_made ["_law_tag_here"] []
  f_Unnumbered___str : Addr
  fd_Unnumbered___str : FuncData
  F_Unnumbered___str : Fun K "__str__" "Unnumbered.__str__" s_Unnumbered___str f_Unnumbered___str fd_Unnumbered___str
  B_Unnumbered___str : Binds K fd_Unnumbered___str ["self"] []
  f_Unnumbered___repr : Addr
  fd_Unnumbered___repr : FuncData
  F_Unnumbered___repr : Fun K "__repr__" "Unnumbered.__repr__" s_Unnumbered___repr f_Unnumbered___repr fd_Unnumbered___repr
  B_Unnumbered___repr : Binds K fd_Unnumbered___repr ["self"] []
  f_Told___init : Addr
  fd_Told___init : FuncData
  F_Told___init : Fun K "__init__" "Told.__init__" s_Told___init f_Told___init fd_Told___init
  B_Told___init : Binds K fd_Told___init ["self", "place"] []
  f_Told___eq : Addr
  fd_Told___eq : FuncData
  F_Told___eq : Fun K "__eq__" "Told.__eq__" s_Told___eq f_Told___eq fd_Told___eq
  B_Told___eq : Binds K fd_Told___eq ["self", "other"] []
  f_Told___repr : Addr
  fd_Told___repr : FuncData
  F_Told___repr : Fun K "__repr__" "Told.__repr__" s_Told___repr f_Told___repr fd_Told___repr
  B_Told___repr : Binds K fd_Told___repr ["self"] []
  f_pairs_agree : Addr
  fd_pairs_agree : FuncData
  F_pairs_agree : Fun K "_pairs_agree" "_pairs_agree" s_pairs_agree f_pairs_agree fd_pairs_agree
  B_pairs_agree : Binds K fd_pairs_agree ["one", "other"] []
  f_agree : Addr
  fd_agree : FuncData
  F_agree : Fun K "agree" "agree" s_agree f_agree fd_agree
  B_agree : Binds K fd_agree ["one", "other"] []
  f_law_result : Addr
  fd_law_result : FuncData
  F_law_result : Fun K "_law_result" "_law_result" s_law_result f_law_result fd_law_result
  B_law_result : Binds K fd_law_result ["_law_bag_here", "_law_words"] []
  f_law_shaped : Addr
  fd_law_shaped : FuncData
  F_law_shaped : Fun K "_law_shaped" "_law_shaped" s_law_shaped f_law_shaped fd_law_shaped
  B_law_shaped : Binds K fd_law_shaped ["_law_result_here"] []
  f_law : Addr
  fd_law : FuncData
  F_law : Fun K "law" "law" s_law f_law fd_law
  B_law : Binds K fd_law ["_law_script"] []
  mgC_Told : mg "Told" = some (.ref C_Told)
  cl_Told : Cls K C_Told
  in_Told : Z.Inst K C_Told
  mk_Told : Mk K C_Told f_Told___init
  mgC_Unnumbered : mg "Unnumbered" = some (.ref C_Unnumbered)
  cl_Unnumbered : Cls K C_Unnumbered
  in_Unnumbered : Z.Inst K C_Unnumbered
  mk_Unnumbered : Mk K C_Unnumbered f_Unnumbered___init
  me_Told___eq : Meth K C_Told "__eq__" f_Told___eq
  me_Told___repr : Meth K C_Told "__repr__" f_Told___repr
  ne_Told : Z.NeD K C_Told
  no_Told_place : NoAttr K C_Told "place"
  no_Unnumbered_name : NoAttr K C_Unnumbered "name"
  mg_law_draw : mg "_law_draw" = some (.ref f_law_draw)
  mg_law_bag : mg "_law_bag" = some (.ref f_law_bag)
  mg_law_number : mg "_law_number" = some (.ref f_law_number)
  mg_law_word : mg "_law_word" = some (.ref f_law_word)
  mg_is_number : mg "is_number" = some (.ref f_is_number)
  mg_same : mg "same" = some (.ref f_same)
  mg_is_entry : mg "is_entry" = some (.ref f_is_entry)
  mg_is_value : mg "_is_value" = some (.ref f_is_value)
  mg_law_says : mg "_law_says" = some (.ref f_law_says)
  mg_law_tag : mg "_law_tag" = some (.ref f_law_tag)
  mg_law_made : mg "_law_made" = some (.ref f_law_made)
  mg_pairs_agree : mg "_pairs_agree" = some (.ref f_pairs_agree)
  mg_agree : mg "agree" = some (.ref f_agree)
  mg_law_result : mg "_law_result" = some (.ref f_law_result)
  mg_law_shaped : mg "_law_shaped" = some (.ref f_law_shaped)
  mg_law : mg "law" = some (.ref f_law)
  z_abs : mg "abs" = none
  z_bool : mg "bool" = none
  z_int : mg "int" = none
  z_isinstance : mg "isinstance" = none
  z_len : mg "len" = none
  z_max : mg "max" = none
  z_min : mg "min" = none
  z_range : mg "range" = none
  z_repr : mg "repr" = none
  z_str : mg "str" = none
  z_tuple : mg "tuple" = none
  ki_NoneType_Told : PySem.W.kitOne K (.type "NoneType") (.ref C_Told) = some false
  ki_bool_Told : PySem.W.kitOne K (.type "bool") (.ref C_Told) = some false
  ki_int_Told : PySem.W.kitOne K (.type "int") (.ref C_Told) = some false
  ki_str_Told : PySem.W.kitOne K (.type "str") (.ref C_Told) = some false
  ki_list_Told : PySem.W.kitOne K (.type "list") (.ref C_Told) = some false
  ki_tuple_Told : PySem.W.kitOne K (.type "tuple") (.ref C_Told) = some false
  ki_Told_Told : PySem.W.kitOne K (.ref C_Told) (.ref C_Told) = some true
  ki_Unnumbered_Told : PySem.W.kitOne K (.ref C_Unnumbered) (.ref C_Told) = some false
  ki_NoneType_Unnumbered : PySem.W.kitOne K (.type "NoneType") (.ref C_Unnumbered) = some false
  ki_bool_Unnumbered : PySem.W.kitOne K (.type "bool") (.ref C_Unnumbered) = some false
  ki_int_Unnumbered : PySem.W.kitOne K (.type "int") (.ref C_Unnumbered) = some false
  ki_str_Unnumbered : PySem.W.kitOne K (.type "str") (.ref C_Unnumbered) = some false
  ki_list_Unnumbered : PySem.W.kitOne K (.type "list") (.ref C_Unnumbered) = some false
  ki_tuple_Unnumbered : PySem.W.kitOne K (.type "tuple") (.ref C_Unnumbered) = some false
  ki_Told_Unnumbered : PySem.W.kitOne K (.ref C_Told) (.ref C_Unnumbered) = some false
  ki_Unnumbered_Unnumbered : PySem.W.kitOne K (.ref C_Unnumbered) (.ref C_Unnumbered) = some true
  ki_Told_bool : PySem.W.kitOne K (.ref C_Told) (.type "bool") = some false
  ki_Unnumbered_bool : PySem.W.kitOne K (.ref C_Unnumbered) (.type "bool") = some false
  ki_Told_int : PySem.W.kitOne K (.ref C_Told) (.type "int") = some false
  ki_Unnumbered_int : PySem.W.kitOne K (.ref C_Unnumbered) (.type "int") = some false
  ki_Told_tuple : PySem.W.kitOne K (.ref C_Told) (.type "tuple") = some false
  ki_Unnumbered_tuple : PySem.W.kitOne K (.ref C_Unnumbered) (.type "tuple") = some false
theorem kb_NoneType_int : kitB "NoneType" "int" = some false := by decide +kernel
theorem kb_NoneType_bool : kitB "NoneType" "bool" = some false := by decide +kernel
theorem kb_NoneType_tuple : kitB "NoneType" "tuple" = some false := by decide +kernel
theorem kb_bool_int : kitB "bool" "int" = some true := by decide +kernel
theorem kb_bool_bool : kitB "bool" "bool" = some true := by decide +kernel
theorem kb_bool_tuple : kitB "bool" "tuple" = some false := by decide +kernel
theorem kb_int_int : kitB "int" "int" = some true := by decide +kernel
theorem kb_int_bool : kitB "int" "bool" = some false := by decide +kernel
theorem kb_int_tuple : kitB "int" "tuple" = some false := by decide +kernel
theorem kb_str_int : kitB "str" "int" = some false := by decide +kernel
theorem kb_str_bool : kitB "str" "bool" = some false := by decide +kernel
theorem kb_str_tuple : kitB "str" "tuple" = some false := by decide +kernel
theorem kb_list_int : kitB "list" "int" = some false := by decide +kernel
theorem kb_list_bool : kitB "list" "bool" = some false := by decide +kernel
theorem kb_list_tuple : kitB "list" "tuple" = some false := by decide +kernel
theorem kb_tuple_int : kitB "tuple" "int" = some false := by decide +kernel
theorem kb_tuple_bool : kitB "tuple" "bool" = some false := by decide +kernel
theorem kb_tuple_tuple : kitB "tuple" "tuple" = some true := by decide +kernel
local macro_rules | `(tactic| walk_at "ki") => `(tactic| first
  | assumption
  | exact kit_ty kb_NoneType_int
  | exact kit_ty kb_NoneType_bool
  | exact kit_ty kb_NoneType_tuple
  | exact kit_ty kb_bool_int
  | exact kit_ty kb_bool_bool
  | exact kit_ty kb_bool_tuple
  | exact kit_ty kb_int_int
  | exact kit_ty kb_int_bool
  | exact kit_ty kb_int_tuple
  | exact kit_ty kb_str_int
  | exact kit_ty kb_str_bool
  | exact kit_ty kb_str_tuple
  | exact kit_ty kb_list_int
  | exact kit_ty kb_list_bool
  | exact kit_ty kb_list_tuple
  | exact kit_ty kb_tuple_int
  | exact kit_ty kb_tuple_bool
  | exact kit_ty kb_tuple_tuple
  | exact Top.ki_NoneType_Told (by assumption)
  | exact Top.ki_bool_Told (by assumption)
  | exact Top.ki_int_Told (by assumption)
  | exact Top.ki_str_Told (by assumption)
  | exact Top.ki_list_Told (by assumption)
  | exact Top.ki_tuple_Told (by assumption)
  | exact Top.ki_Told_Told (by assumption)
  | exact Top.ki_Unnumbered_Told (by assumption)
  | exact Top.ki_NoneType_Unnumbered (by assumption)
  | exact Top.ki_bool_Unnumbered (by assumption)
  | exact Top.ki_int_Unnumbered (by assumption)
  | exact Top.ki_str_Unnumbered (by assumption)
  | exact Top.ki_list_Unnumbered (by assumption)
  | exact Top.ki_tuple_Unnumbered (by assumption)
  | exact Top.ki_Told_Unnumbered (by assumption)
  | exact Top.ki_Unnumbered_Unnumbered (by assumption)
  | exact Top.ki_Told_bool (by assumption)
  | exact Top.ki_Unnumbered_bool (by assumption)
  | exact Top.ki_Told_int (by assumption)
  | exact Top.ki_Unnumbered_int (by assumption)
  | exact Top.ki_Told_tuple (by assumption)
  | exact Top.ki_Unnumbered_tuple (by assumption))
local macro_rules | `(tactic| walk_at "no") => `(tactic| first
  | exact Top.no_Told_place (by assumption)
  | exact Top.no_Unnumbered_name (by assumption)
  | assumption)
local macro_rules | `(tactic| walk_at "cl") => `(tactic| first
  | exact Top.cl_Told (by assumption)
  | exact Top.cl_Unnumbered (by assumption)
  | assumption)
local macro_rules | `(tactic| walk_at "ty") => `(tactic| first
  | assumption
  | exact .base (.int _)
  | exact .base .non
  | exact .base (.bl _)
  | exact .base (.str _)
  | exact .base (.lst (by walk_at "hp"))
  | exact .base (.tup (by walk_at "hp"))
  | exact Z.ty_ins (Top.cl_Told (by assumption)) (Top.in_Told (by assumption)) (by walk_at "hp")
  | exact Z.ty_ins (Top.cl_Unnumbered (by assumption)) (Top.in_Unnumbered (by assumption)) (by walk_at "hp"))

/-! what stands at an address; which way a test goes; one step; as many as go -/
local macro_rules | `(tactic| walk_at "hp") => `(tactic| first
  | assumption
  | exact upd_same
  | (refine (‹Same _ _› : Same _ _) _ _ ?_; walk_at "hp")
  | (refine (‹Z.But _ _ _› : Z.But _ _ _) _ _ ?_ ?_; (first | assumption | (apply Ne.symm; assumption) | exact ne_of_none (by assumption) (by assumption)); walk_at "hp"))
local macro_rules | `(tactic| walk_at "sq") => `(tactic| first
  | assumption
  | exact SqL.of (by walk_at "hp")
  | (refine Same.seq (by assumption) ?_; walk_at "sq")
  | (refine Z.But.seq (by assumption) (by assumption) ?_; walk_at "sq"))
local macro_rules | `(tactic| walk_at "look") => `(tactic| first | assumption | exact Z.look1 | (simp [List.lookup]; done))
local macro_rules | `(tactic| walk_at "side") => `(tactic| first
  | (show (0 : Int) < _; omega)
  | (show CDiv _ _; exact ⟨by omega, by omega⟩)
  | (show CMul _ _; first | exact .inl ⟨by omega, by omega⟩ | exact .inr ⟨by omega, by omega⟩)
  | (show CPow _ _; exact ⟨by omega, by omega, by omega⟩))
local macro_rules | `(tactic| walk_at "st") => `(tactic| first
  | ((with_reducible refine' Z.r_var ?e ?_); (case e => exact rfl))
  | with_reducible refine Z.r_op ?_
  | with_reducible refine Z.r_c ?_
  | with_reducible refine Z.r_cons ?_
  | with_reducible refine Z.r_nil ?_
  | with_reducible refine Z.r_seq ?_
  | with_reducible refine Z.r_asg ?_
  | with_reducible refine Z.r_call ?_
  | with_reducible refine Z.r_cb ?_
  | with_reducible refine Z.r_asgG ?_
  | with_reducible refine Z.r_gName ?_
  | with_reducible refine Z.r_gSub ?_
  | with_reducible refine Z.r_ret ?_
  | with_reducible refine Z.r_retN ?_
  | with_reducible refine Z.r_next ?_
  | with_reducible refine Z.r_drop ?_
  | with_reducible refine Z.r_if ?_
  | with_reducible refine Z.r_par ?_
  | with_reducible refine Z.r_par3 ?_
  | with_reducible refine Z.r_vs3 ?_
  | with_reducible refine Z.r_gCons ?_
  | with_reducible refine Z.r_gNil ?_
  | ((with_reducible refine' Z.r_gTup ?e ?hn ?_); (case e => walk_at "hp"); (case hn => exact rfl))
  | with_reducible refine Z.r_vs2 ?_
  | ((with_reducible refine' Z.r_aug ?e ?_); (case e => exact rfl))
  | with_reducible refine Z.r_un ?_
  | with_reducible refine Z.r_test ?_
  | with_reducible refine Z.r_tB ?_
  | with_reducible refine Z.r_bl ?_
  | with_reducible refine Z.r_and ?_
  | with_reducible refine Z.r_or ?_
  | with_reducible refine Z.r_not ?_
  | with_reducible refine Z.r_andV ?_
  | with_reducible refine Z.r_orV ?_
  | with_reducible refine Z.r_notV ?_
  | with_reducible refine Z.r_ifE ?_
  | with_reducible refine Z.r_tup ?_
  | with_reducible refine Z.r_lst ?_
  | with_reducible refine Z.r_fld ?_
  | ((with_reducible refine' Z.r_fldV ?e ?c ?n ?l ?_); (case e => walk_at "hp"); (case c => walk_at "cl"); (case n => walk_at "no"); (case l => walk_at "look"))
  | ((with_reducible refine' Z.r_isiT ?ty ?k ?_); (case ty => walk_at "ty"); (case k => walk_at "ki"))
  | ((with_reducible refine' Z.r_isiC ?ty ?k ?_); (case ty => walk_at "ty"); (case k => walk_at "ki"))
  | with_reducible refine Z.r_make ?_
  | with_reducible refine Z.r_dget ?_
  | with_reducible refine Z.r_dput ?_
  | with_reducible refine Z.r_disp ?_
  | with_reducible refine Z.r_pnil ?_
  | with_reducible refine Z.r_pcons ?_
  | with_reducible refine Z.r_sfld ?_
  | ((with_reducible refine' Z.r_stF ?e ?c ?n ?l ?_); (case e => walk_at "hp"); (case c => walk_at "cl"); (case n => walk_at "no"); (case l => exact Nat.le_of_ble_eq_true rfl))
  | ((with_reducible refine' Z.r_nwL ?z ?_); (case z => exact Nat.le_of_ble_eq_true rfl))
  | ((with_reducible refine' Z.r_nwT ?z ?_); (case z => exact Nat.le_of_ble_eq_true rfl))
  | with_reducible refine Z.r_I0 ?_
  | with_reducible refine Z.r_U ?_
  | with_reducible refine Z.r_forRng ?_
  | with_reducible refine Z.r_forL0 ?_
  | with_reducible refine Z.r_lcRng ?_
  | with_reducible refine Z.r_lcLst ?_
  | with_reducible refine Z.r_sl ?_
  | with_reducible refine Z.r_part ?_
  | with_reducible refine Z.r_prt ?_
  | with_reducible refine Z.r_nopart ?_
  | with_reducible refine Z.r_bmA ?_
  | ((with_reducible refine' Z.r_tyL ?e ?_); (case e => walk_at "hp"))
  | with_reducible refine Z.r_lcFLst ?_
  | ((with_reducible refine' Z.r_I ?c ?_); (case c => walk_at "side"))
  | with_reducible refine Z.r_int1 ?_
  | with_reducible refine Z.r_abs ?_
  | with_reducible refine Z.r_max2 ?_
  | with_reducible refine Z.r_min2 ?_
  | ((with_reducible refine' Z.r_lenL ?e ?_); (case e => walk_at "sq"))
  | with_reducible refine Z.r_isN ?_
  | with_reducible refine Z.r_notN ?_
  | with_reducible refine Z.r_eqI ?_
  | with_reducible refine Z.r_eqB ?_
  | with_reducible refine Z.r_eqS ?_
  | with_reducible refine Z.r_neI ?_
  | with_reducible refine Z.r_neB ?_
  | with_reducible refine Z.r_neS ?_
  | ((with_reducible refine' Z.r_ixL ?h ?e ?_); (case h => walk_at "sq"); (case e => first | assumption | exact rfl))
  | ((with_reducible refine' Z.r_ixT ?h ?e ?_); (case h => exact SqT.of (by walk_at "hp")); (case e => first | assumption | exact rfl))
  | ((with_reducible refine' Z.r_setL ?h ?e ?_); (case h => walk_at "hp"); (case e => exact rfl))
  | ((with_reducible refine Z.yes ?_ ?_); (first | exact rfl | decide +kernel))
  | ((with_reducible refine Z.no ?_ ?_); (first | exact rfl | decide +kernel))
  | walk_at "call")
local macro_rules | `(tactic| walk_at "go") => `(tactic| repeat (first
  | ((with_reducible refine' Z.r_var ?e ?_); (case e => exact rfl))
  | with_reducible refine Z.r_op ?_
  | with_reducible refine Z.r_c ?_
  | with_reducible refine Z.r_cons ?_
  | with_reducible refine Z.r_nil ?_
  | with_reducible refine Z.r_seq ?_
  | with_reducible refine Z.r_asg ?_
  | with_reducible refine Z.r_call ?_
  | with_reducible refine Z.r_cb ?_
  | with_reducible refine Z.r_asgG ?_
  | with_reducible refine Z.r_gName ?_
  | with_reducible refine Z.r_gSub ?_
  | with_reducible refine Z.r_ret ?_
  | with_reducible refine Z.r_retN ?_
  | with_reducible refine Z.r_next ?_
  | with_reducible refine Z.r_drop ?_
  | with_reducible refine Z.r_if ?_
  | with_reducible refine Z.r_par ?_
  | with_reducible refine Z.r_par3 ?_
  | with_reducible refine Z.r_vs3 ?_
  | with_reducible refine Z.r_gCons ?_
  | with_reducible refine Z.r_gNil ?_
  | ((with_reducible refine' Z.r_gTup ?e ?hn ?_); (case e => walk_at "hp"); (case hn => exact rfl))
  | with_reducible refine Z.r_vs2 ?_
  | ((with_reducible refine' Z.r_aug ?e ?_); (case e => exact rfl))
  | with_reducible refine Z.r_un ?_
  | with_reducible refine Z.r_test ?_
  | with_reducible refine Z.r_tB ?_
  | with_reducible refine Z.r_bl ?_
  | with_reducible refine Z.r_and ?_
  | with_reducible refine Z.r_or ?_
  | with_reducible refine Z.r_not ?_
  | with_reducible refine Z.r_andV ?_
  | with_reducible refine Z.r_orV ?_
  | with_reducible refine Z.r_notV ?_
  | with_reducible refine Z.r_ifE ?_
  | with_reducible refine Z.r_tup ?_
  | with_reducible refine Z.r_lst ?_
  | with_reducible refine Z.r_fld ?_
  | ((with_reducible refine' Z.r_fldV ?e ?c ?n ?l ?_); (case e => walk_at "hp"); (case c => walk_at "cl"); (case n => walk_at "no"); (case l => walk_at "look"))
  | ((with_reducible refine' Z.r_isiT ?ty ?k ?_); (case ty => walk_at "ty"); (case k => walk_at "ki"))
  | ((with_reducible refine' Z.r_isiC ?ty ?k ?_); (case ty => walk_at "ty"); (case k => walk_at "ki"))
  | with_reducible refine Z.r_make ?_
  | with_reducible refine Z.r_dget ?_
  | with_reducible refine Z.r_dput ?_
  | with_reducible refine Z.r_disp ?_
  | with_reducible refine Z.r_pnil ?_
  | with_reducible refine Z.r_pcons ?_
  | with_reducible refine Z.r_sfld ?_
  | ((with_reducible refine' Z.r_stF ?e ?c ?n ?l ?_); (case e => walk_at "hp"); (case c => walk_at "cl"); (case n => walk_at "no"); (case l => exact Nat.le_of_ble_eq_true rfl))
  | ((with_reducible refine' Z.r_nwL ?z ?_); (case z => exact Nat.le_of_ble_eq_true rfl))
  | ((with_reducible refine' Z.r_nwT ?z ?_); (case z => exact Nat.le_of_ble_eq_true rfl))
  | with_reducible refine Z.r_I0 ?_
  | with_reducible refine Z.r_U ?_
  | with_reducible refine Z.r_forRng ?_
  | with_reducible refine Z.r_forL0 ?_
  | with_reducible refine Z.r_lcRng ?_
  | with_reducible refine Z.r_lcLst ?_
  | with_reducible refine Z.r_sl ?_
  | with_reducible refine Z.r_part ?_
  | with_reducible refine Z.r_prt ?_
  | with_reducible refine Z.r_nopart ?_
  | with_reducible refine Z.r_bmA ?_
  | ((with_reducible refine' Z.r_tyL ?e ?_); (case e => walk_at "hp"))
  | with_reducible refine Z.r_lcFLst ?_
  | ((with_reducible refine' Z.r_I ?c ?_); (case c => walk_at "side"))
  | with_reducible refine Z.r_int1 ?_
  | with_reducible refine Z.r_abs ?_
  | with_reducible refine Z.r_max2 ?_
  | with_reducible refine Z.r_min2 ?_
  | ((with_reducible refine' Z.r_lenL ?e ?_); (case e => walk_at "sq"))
  | with_reducible refine Z.r_isN ?_
  | with_reducible refine Z.r_notN ?_
  | with_reducible refine Z.r_eqI ?_
  | with_reducible refine Z.r_eqB ?_
  | with_reducible refine Z.r_eqS ?_
  | with_reducible refine Z.r_neI ?_
  | with_reducible refine Z.r_neB ?_
  | with_reducible refine Z.r_neS ?_
  | ((with_reducible refine' Z.r_ixL ?h ?e ?_); (case h => walk_at "sq"); (case e => first | assumption | exact rfl))
  | ((with_reducible refine' Z.r_ixT ?h ?e ?_); (case h => exact SqT.of (by walk_at "hp")); (case e => first | assumption | exact rfl))
  | ((with_reducible refine' Z.r_setL ?h ?e ?_); (case h => walk_at "hp"); (case e => exact rfl))
  | ((with_reducible refine Z.yes ?_ ?_); (first | exact rfl | decide +kernel))
  | ((with_reducible refine Z.no ?_ ?_); (first | exact rfl | decide +kernel))
  | walk_at "call"))
local macro_rules | `(tactic| walk_at "bag") => `(tactic| first
  | assumption
  | (refine Bag.mono (by omega) ?_; assumption)
  | (refine Bag.same (by assumption) ?_; walk_at "bag")
  | (refine Bag.but (by assumption) (by first | assumption | (apply Ne.symm; assumption)) ?_; walk_at "bag"))
local macro_rules | `(tactic| walk_at "len") => `(tactic| exact Z.szle (Nat.le_of_ble_eq_true rfl))
local macro_rules | `(tactic| walk_at "draw") => `(tactic| (refine' ⟨_, _, _, rfl, ?bg, ?m0, ?m1, ?n1, ?_⟩; (case bg => walk_at "bag"); (case m0 => omega); (case m1 => omega); (case n1 => omega)))
/-! the bag of a script's cell, its draws -/
/-- a bag: what is left of the digits, the seed, the number of draws (at most n) -/
def Bag (H : Hp) (b : Addr) (n : Nat) : Prop := ∃ g s k : Int, H b = some (.lst [.int g, .int s, .int k]) ∧ 0 ≤ g ∧ 0 ≤ s ∧ s < 1099511627776 ∧ 0 ≤ k ∧ k ≤ n
theorem Bag.mono {H : Hp} {b : Addr} {n m : Nat} (h : n ≤ m) (x : Bag H b n) : Bag H b m := by
  obtain ⟨g, s, k, h1, h2, h3, h4, h5, h6⟩ := x
  exact ⟨g, s, k, h1, h2, h3, h4, h5, by omega⟩
theorem Bag.same {H H' : Hp} {b : Addr} {n : Nat} (e : Same H H') (x : Bag H b n) : Bag H' b n := by
  obtain ⟨g, s, k, h1, h2⟩ := x
  exact ⟨g, s, k, e _ _ h1, h2⟩
theorem Bag.ne {H : Hp} {b p : Addr} {n : Nat} (x : Bag H b n) (h : H p = none) : p ≠ b := fun e => by
  obtain ⟨g, s, k, h1, _⟩ := x
  rw [e, h1] at h; cases h
theorem Bag.ne' {H : Hp} {b p : Addr} {n : Nat} {o : HO} (x : Bag H b n) (h : H p = some o) (d : ∀ xs, o ≠ .lst xs) : p ≠ b := fun e => by
  obtain ⟨g, s, k, h1, _⟩ := x
  rw [e, h1] at h; cases h; exact d _ rfl
theorem Bag.but {H H' : Hp} {b c : Addr} {n : Nat} (e : Z.But c H H') (ne : b ≠ c) (x : Bag H b n) : Bag H' b n := by
  obtain ⟨g, s, k, h1, h2⟩ := x
  exact ⟨g, s, k, e _ _ ne h1, h2⟩
local macro_rules | `(tactic| walk_at "bag") => `(tactic| first
  | assumption
  | (refine Bag.same (by assumption) ?_; walk_at "bag")
  | (refine Bag.but (by assumption) (by first | assumption | (apply Ne.symm; assumption)) ?_; walk_at "bag")
  | (refine Bag.mono (by omega) ?_; assumption))
/-- a word of one to eight small letters -/
def Word (x : Str) : Prop := 1 ≤ x.length ∧ x.length ≤ 8 ∧ ∀ c ∈ x.cps.toList, 97 ≤ c ∧ c ≤ 122
theorem Word.ok {x : Str} (h : Word x) : PyData.strOk x = true := by
  unfold PyData.strOk
  rw [Array.all_eq_true']
  intro c hc
  have := (h.2.2 c (Array.mem_toList_iff.mpr hc)).2
  exact decide_eq_true (by omega)
/-- a beginning of a word, of at most n letters -/
def Wd (n : Nat) (x : Str) : Prop := x.length = n ∧ ∀ c ∈ x.cps.toList, 97 ≤ c ∧ c ≤ 122
theorem Wd.add {n c : Nat} {x : Str} (h : Wd n x) (h1 : 97 ≤ c) (h2 : c ≤ 122) : Wd (n + 1) (x ++ (⟨#[c]⟩ : Str)) := by
  obtain ⟨h3, h4⟩ := h
  have e : (x ++ (⟨#[c]⟩ : Str)).cps = x.cps ++ #[c] := rfl
  constructor
  · show (x ++ (⟨#[c]⟩ : Str)).cps.size = n + 1
    rw [e, Array.size_append]
    have : x.cps.size = n := h3
    rw [this]; rfl
  · intro d hd
    rw [e, Array.toList_append, List.mem_append] at hd
    rcases hd with hd | hd
    · exact h4 d hd
    · have : d = c := by simpa using hd
      omega

/-- a value of the law's: nothing, an unnumbered value (an instance of the class at C) of this name, a number -/
inductive Tag where
  | non | mark (n : Str) | num (i : Int)
  deriving DecidableEq
def Rep (C : Addr) (H : Hp) (x : V) : Tag → Prop
  | .non => x = .non
  | .num i => x = .int i
  | .mark n => ∃ a dx, x = .ref a ∧ H a = some (.ins C dx [("name", .str n)])
theorem Rep.same {C : Addr} {H H' : Hp} {x : V} {t : Tag} (e : Same H H') (h : Rep C H x t) : Rep C H' x t := by
  cases t with
  | non => exact h
  | num i => exact h
  | mark n =>
    obtain ⟨a, dx, h1, h2⟩ := h
    exact ⟨a, dx, h1, e _ _ h2⟩
theorem Rep.but {C b : Addr} {H H' : Hp} {x : V} {t : Tag} {xs : List V} (e : Z.But b H H') (hb : H b = some (.lst xs)) (h : Rep C H x t) : Rep C H' x t := by
  cases t with
  | non => exact h
  | num i => exact h
  | mark n =>
    obtain ⟨a, dx, h1, h2⟩ := h
    exact ⟨a, dx, h1, e _ _ (ne_of h2 hb (by intro z; cases z)) h2⟩
/-! operators and comparisons of instances of an own class -/
namespace Z
open PySem PySem.Spec PyProof.Rows L2
section
variable {prog : Program} {w : World} {A : Around} {E : Value → Shared → Prop} {s : Shared} {x : Addr} {o : Obj} {a : Int} {t : Tok}
/-- what a built-in's operation on ints says of an instance -/
def Declines (B : Builtin) : Prop := ∀ (prog : Program) (w : World) (A : Around) (E : Value → Shared → Prop) (s : Shared) (x : Addr) (o : Obj) (a : Int) (t : Tok) (Q : Fin → Shared → Prop),
  s.heap.get? x = some o → o.data = .plain → Q (.done (.ret .notImplemented)) s → wpAny (model prog w) A (B ⟨[.int a t, .ref x], []⟩) Q E s
theorem dec_lt : Declines Builtin.«int.__lt__» := fun prog w A E s x o a t Q hx hd h => by
  obtain ⟨oc, od, data, sl⟩ := o
  simp only at hd
  subst hd
  obtain ⟨hp, g, d, tk, os⟩ := s
  wp_walk using AutoSeq1.wpAny_loadPart' hx
  exact h
theorem dec_le : Declines Builtin.«int.__le__» := fun prog w A E s x o a t Q hx hd h => by
  obtain ⟨oc, od, data, sl⟩ := o
  simp only at hd
  subst hd
  obtain ⟨hp, g, d, tk, os⟩ := s
  wp_walk using AutoSeq1.wpAny_loadPart' hx
  exact h
theorem dec_gt : Declines Builtin.«int.__gt__» := fun prog w A E s x o a t Q hx hd h => by
  obtain ⟨oc, od, data, sl⟩ := o
  simp only at hd
  subst hd
  obtain ⟨hp, g, d, tk, os⟩ := s
  wp_walk using AutoSeq1.wpAny_loadPart' hx
  exact h
theorem dec_ge : Declines Builtin.«int.__ge__» := fun prog w A E s x o a t Q hx hd h => by
  obtain ⟨oc, od, data, sl⟩ := o
  simp only at hd
  subst hd
  obtain ⟨hp, g, d, tk, os⟩ := s
  wp_walk using AutoSeq1.wpAny_loadPart' hx
  exact h
theorem dec_eq : Declines Builtin.«int.__eq__» := fun prog w A E s x o a t Q hx hd h => by
  obtain ⟨oc, od, data, sl⟩ := o
  simp only at hd
  subst hd
  obtain ⟨hp, g, d, tk, os⟩ := s
  wp_walk using AutoSeq1.wpAny_loadPart' hx
  exact h
theorem dec_ne : Declines Builtin.«int.__ne__» := fun prog w A E s x o a t Q hx hd h => by
  obtain ⟨oc, od, data, sl⟩ := o
  simp only at hd
  subst hd
  obtain ⟨hp, g, d, tk, os⟩ := s
  wp_walk using AutoSeq1.wpAny_loadPart' hx
  exact h
theorem dec_call {T : String} {name : Str} {id : String} {B : Builtin} (slot : Slot "int" name id) (entry : entryFor table id = some B) (args : ∀ a b, argsOk id ⟨[a, b], []⟩) (D : Declines B) {Q : Value → Shared → Prop}
    (hx : s.heap.get? x = some o) (hd : o.data = .plain) (h : Q .notImplemented s) : wpAny (model prog w) A (call (.builtin id) [.int a t, .ref x]) Q E s :=
  GQ.call_here slot (typeIs_int s a t) entry (args _ _) (D _ _ _ _ _ _ _ _ _ _ hx hd h)
/-- an int, a comparison, an instance: the instance's reflected def is asked -/
theorem cmp_int {K : PySem.W.Frag} {C f : Addr} {od : Option Obj} {op : CmpOp} {id : String} {B : Builtin} {Q : Value → Shared → Prop} (hu : A.units < cLine) (X : K.In s.heap) (I : PySem.W.InstAt s.heap x o C od) (hd : o.data = .plain)
    (slot : Slot "int" (cmpInfo op).2.1 id) (entry : entryFor table id = some B) (args : ∀ a b, argsOk id ⟨[a, b], []⟩) (D : Declines B)
    (sub : PySem.W.subIn K (.ref C) (.type "int") = some false) (hs : PySem.W.findIn K (.ref C) (cmpInfo op).2.2 = some (some (.ref f))) (hf : PySem.W.isFn K (.ref f) = true)
    (h : wpAny (model prog w) A (call (.ref f) [.ref x, .int a t]) (PySem.W.CmpBack Q) E s) : wpAny (model prog w) A (richCompare op (.int a t) (.ref x)) Q E s := by
  rcases hi : cmpInfo op with ⟨sym, nf, nr⟩
  rw [hi] at slot hs
  dsimp only at slot hs
  have one : wpAny (model prog w) A (tryCompare (.ref x) nr (.int a t)) (fun r s' => ∃ v, r = some v ∧ Q v s') E s := by
    unfold tryCompare
    refine wpAny_bind (PySem.W.ifBound_K X I hs hf (wpAny_mono h (fun v s' hv => ?_) fun _ _ e => e))
    cases v <;> first | exact hv.elim | exact wpAny_pure ⟨_, rfl, hv⟩
  simp only [richCompare, hi, (typeIs_int s a t).oneThing_none]
  refine wpAny_holding (wpAny_bind (wpAny_cRoomFor hu ?_))
  refine wpAny_bind (wpAny_typeOf (typeIs_int s a t) (wpAny_bind (I.type.here ?_)))
  have hne : (Value.type "int" != Value.ref C) = true := by simp
  simp only [hne, if_true]
  refine wpAny_bind ((PySem.W.looks_subIn X sub).here ?_)
  simp only [Bool.false_eq_true, if_false, Bool.not_false, if_true]
  refine wpAny_bind (m := tryCompare (.int a t) _ (.ref x)) (wpAny_tryCompare_declines (typeIs_int s a t) slot (dec_call (T := "int") slot entry args D I.at_ hd ⟨rfl, ?_⟩))
  refine wpAny_bind (m := tryCompare (.ref x) _ (.int a t)) (wpAny_mono one (fun r s' z => ?_) fun _ _ e => e)
  obtain ⟨v, rfl, hq⟩ := z
  exact wpAny_pure hq
end
section
variable {X : Cx} {C f : Addr} {fd : FuncData} {k : Nat} {ps : List Str} {sp : Sp} {op : CmpOp}
/-- x op y, x an instance of the class at C whose def for op keeps sp -/
def rCmpL (K : PySem.W.Frag) (C : Addr) (sp : Sp) : R2 := fun x y H Q => ∃ a dx fs t, x = .ref a ∧ H a = some (.ins C dx fs) ∧ TyX K H y t ∧ PySem.W.notFirst K C t = true ∧ sp ([x, y] ++ []) H Q E0
theorem o_cmpL (hop : ∀ a b, compareOp op a b = richCompare op a b) (M : Meth X.K C (cmpInfo op).2.1 f) (F : FnOk X.prog X.w X.K X.mg X.base CX0 k f fd ps sp) (hr : Room k X.A) (hb : Binds X.K fd ps []) : OpR X (compareOp op) (rCmpL X.K C sp) := by
  intro pins s σ H x y v u Q I rx ry h
  obtain ⟨a, dx, fs, t, rfl, ha, ty, hn, q⟩ := h
  cases (show v = Value.ref a from rx)
  obtain ⟨mA, O, _⟩ := ins_get I.hok ha
  obtain ⟨od, J, _⟩ := O.look
  obtain ⟨P, Z, p, _⟩ := kit_of I ry ty
  obtain ⟨m, hF⟩ := I.fr
  rw [hop]
  refine PySem.W.cmp_K (op := op) (tb := t) hr.units0 hF I.ok.mod.kin J (Z.ty _ _ I.kIn p) hn M.at_ M.fn ?_
  refine wpAny_mono (run_fn (us := [.ref a, u]) (vs := [.ref a, y]) F hr hb .nil pass0 I (.cons rfl (.cons ry .nil)) q) (fun w s' z => ?_) fun _ _ x => x
  obtain ⟨z', H', I', rz, qz⟩ := z
  exact SlX.cmpback rz ⟨z', H', I', rz, qz⟩
def rCmpR (K : PySem.W.Frag) (C : Addr) (sp : Sp) : R2 := fun x y H Q => ∃ i b dx fs, x = .int i ∧ y = .ref b ∧ H b = some (.ins C dx fs) ∧ PySem.W.subIn K (.ref C) (.type "int") = some false ∧ sp ([y, x] ++ []) H Q E0
theorem o_cmpR {id : String} {B : Builtin} (hop : ∀ a b, compareOp op a b = richCompare op a b) (slot : Slot "int" (cmpInfo op).2.1 id) (entry : entryFor table id = some B) (args : ∀ a b, argsOk id ⟨[a, b], []⟩) (D : Declines B)
    (M : Meth X.K C (cmpInfo op).2.2 f) (F : FnOk X.prog X.w X.K X.mg X.base CX0 k f fd ps sp) (hr : Room k X.A) (hb : Binds X.K fd ps []) : OpR X (compareOp op) (rCmpR X.K C sp) := by
  intro pins s σ H x y v u Q I rx ry h
  obtain ⟨i, b, dx, fs, rfl, rfl, hB, sub, q⟩ := h
  obtain ⟨t, rfl⟩ := (show ∃ t, v = Value.int i t from rx)
  cases (show u = Value.ref b from ry)
  obtain ⟨mA, O, _⟩ := ins_get I.hok hB
  obtain ⟨od, J, _⟩ := O.look
  rw [hop]
  refine cmp_int hr.units0 I.kIn J rfl slot entry args D sub M.at_ M.fn ?_
  refine wpAny_mono (run_fn (us := [.ref b, .int i t]) (vs := [.ref b, .int i]) F hr hb .nil pass0 I (.cons rfl (.cons ⟨t, rfl⟩ .nil)) q) (fun w s' z => ?_) fun _ _ x => x
  obtain ⟨z', H', I', rz, qz⟩ := z
  exact SlX.cmpback rz ⟨z', H', I', rz, qz⟩
/-- x in [x], the very object -/
def rInSelf : R2 := fun x y H Q => ∃ a p, x = .ref a ∧ y = .ref p ∧ H p = some (.lst [.ref a]) ∧ Q (.bl true) H
theorem o_inSelf : OpR X (compareOp .In) rInSelf := by
  intro pins s σ H x y v u Q I rx ry h
  obtain ⟨a, p, rfl, rfl, hp, q⟩ := h
  cases (show v = Value.ref a from rx)
  cases (show u = Value.ref p from ry)
  obtain ⟨its, r, pl, hz⟩ := I.list (SqL.of hp)
  have e : its = [Value.ref a] := by
    cases r with
    | cons r1 r2 =>
      cases r2
      cases r1
      rfl
  subst e
  refine SeqAt.in_listAt (fun _ => true) pl.isList (fun w hw => ?_) ⟨.bl true, H, I, (show Value.bool (#[Value.ref a].any fun _ => true) = Value.bool true by simp), q⟩
  have : w = Value.ref a := by simpa using hw
  subst this
  exact SeqAt.EqAt.same (.ref a)
/-- three kinds of one operator -/
def rAny3 (r1 r2 r3 : R2) : R2 := fun x y H Q => r1 x y H Q ∨ r2 x y H Q ∨ r3 x y H Q
theorem o_any3 {f : Value → Value → Sem Value} {r1 r2 r3 : R2} (h1 : OpR X f r1) (h2 : OpR X f r2) (h3 : OpR X f r3) : OpR X f (rAny3 r1 r2 r3) := OpR.or h1 (OpR.or h2 h3)
end
section
variable {K : PySem.W.Frag} {H : Hp} {Q : VK} {r1 r2 r3 : R2} {x y : V} {a b C dx : Addr} {fs : List (Str × V)} {t : Value} {sp : Sp} {i j : Int}
theorem r_anyII (h : r1 (.int i) (.int j) H Q) : rAny3 r1 r2 r3 (.int i) (.int j) H Q := .inl h
theorem r_anyR (h : r2 (.ref a) y H Q) : rAny3 r1 r2 r3 (.ref a) y H Q := .inr (.inl h)
theorem r_anyIR (h : r3 (.int i) (.ref b) H Q) : rAny3 r1 r2 r3 (.int i) (.ref b) H Q := .inr (.inr h)
theorem nf_self : PySem.W.notFirst K C (.ref C) = true := by
  unfold PySem.W.notFirst
  rw [beq_self_eq_true]; rfl
theorem nf_kit (h : PySem.W.kitOne K t (.ref C) = some false) : PySem.W.notFirst K C t = true := by
  unfold PySem.W.kitOne PySem.W.kitCls at h
  unfold PySem.W.notFirst
  split at h
  · cases h
  · split at h
    · rename_i C' he
      cases he
      split at h
      · rw [h]; simp
      · cases h
    · rename_i he; cases he
    · rename_i h1 h2; exact absurd rfl (h1 _)
theorem sub_kit {n : String} (h : PySem.W.kitOne K (.ref C) (.type n) = some false) : PySem.W.subIn K (.ref C) (.type n) = some false := by
  unfold PySem.W.kitOne PySem.W.kitCls at h
  split at h
  · cases h
  · split at h
    · rename_i he; cases he
    · rename_i T he
      cases he
      split at h
      · exact h
      · cases h
    · rename_i h1 h2; exact absurd rfl (h2 _)
theorem r_inSelf (e : H b = some (.lst [.ref a])) (h : Q (.bl true) H) : rInSelf (.ref a) (.ref b) H Q := ⟨a, b, rfl, rfl, e, h⟩
theorem r_cmpL (e : H a = some (.ins C dx fs)) (ty : TyX K H y t) (nf : PySem.W.notFirst K C t = true) (h : sp ([.ref a, y] ++ []) H Q E0) : rCmpL K C sp (.ref a) y H Q := ⟨a, dx, fs, t, rfl, e, ty, nf, h⟩
theorem r_cmpR (e : H b = some (.ins C dx fs)) (k : PySem.W.kitOne K (.ref C) (.type "int") = some false) (h : sp ([.ref b, .int i] ++ []) H Q E0) : rCmpR K C sp (.int i) (.ref b) H Q := ⟨i, b, dx, fs, rfl, rfl, e, sub_kit k, h⟩
end
end Z
local macro_rules | `(tactic| walk_at "nf") => `(tactic| first | exact Z.nf_self | exact Z.nf_kit (by walk_at "ki"))
local macro_rules | `(tactic| walk_at "call") => `(tactic| first
  | with_reducible refine Z.r_anyII ?_
  | ((with_reducible refine' Z.r_inSelf ?e ?_); (case e => walk_at "hp"))
  | with_reducible refine Z.r_anyR ?_
  | with_reducible refine Z.r_anyIR ?_
  | ((with_reducible refine' Z.r_cmpL ?e ?ty ?nf ?_); (case e => walk_at "hp"); (case ty => walk_at "ty"); (case nf => walk_at "nf"))
  | ((with_reducible refine' Z.r_cmpR ?e ?k ?_); (case e => walk_at "hp"); (case k => walk_at "ki")))
namespace Z
open PySem PySem.Spec PyProof.Rows L2 PySem.SeqAt
open MeetsSeq MeetsSeq2 MeetsSeq3 SeqRoads2
section
variable {prog : Program} {w : World} {A : Around} {R : Result → Shared → Prop}
def anyFrom (e : Nat → Bool) : Nat → Nat → Bool
  | _, 0 => false
  | i, k + 1 => e i || anyFrom e (i + 1) k
/-- at each turn the list is read anew; its i-th item's == with x tells e i -/
def Reads1 (prog : Program) (w : World) (A : Around) (R : Result → Shared → Prop) (l : Addr) (x : Value) (N : Nat) (e : Nat → Bool) (I : Shared → Prop) : Prop :=
  ∀ s, I s → ∃ (items : Array Value) (n : Nat), s.heap.get? l = some { cls := .type "list", data := .seq items n } ∧ items.size = N ∧
    ∀ (i : Nat) (h : i < items.size), wpAny (model prog w) A.in1 (eqBool items[i] x) (fun r s' => r = e i ∧ I s') (fun e s' => R (.error e) s') s
theorem contains_loopG (l : Addr) (x : Value) (N : Nat) (e : Nat → Bool) (I : Shared → Prop) (rd : Reads1 prog w A R l x N e I) (k : Nat) :
    ∀ i : Nat, N = i + k → (∀ s, I s → R (.ok (.ret (.bool (anyFrom e i k)))) s) → ∀ s, I s →
      wpAny (model prog w) A.in1 (Builtin.«list.__contains__.loop» ⟨[.ref l, x, rawInt i], []⟩) (GQ.FinOf prog w A R) (fun e s' => R (.error e) s') s := by
  induction k with
  | zero =>
    intro i hk fin s h
    obtain ⟨items, n, hl1, hs1, _⟩ := rd s h
    have hR := fin s h
    obtain ⟨hp, g, d, tk, os⟩ := s
    wp_walk using AutoSeq1.wpAny_loadPart' hl1
    have hi : items[((i : Nat) : Int).toNat]? = none := by simp; omega
    rw [hi]
    wp_walk
    exact hR
  | succ k ih =>
    intro i hk fin s h
    obtain ⟨items, n, hl1, hs1, turn⟩ := rd s h
    have hlt : i < items.size := by omega
    have ht := turn i hlt
    obtain ⟨hp, g, d, tk, os⟩ := s
    wp_walk using AutoSeq1.wpAny_loadPart' hl1
    have hi : items[((i : Nat) : Int).toNat]? = some items[i] := by simp [hlt]
    rw [hi]
    refine wpAny_bind (wpAny_mono ht (fun r s2 h2 => ?_) fun _ _ x => x)
    obtain ⟨hr, h2⟩ := h2
    subst hr
    cases hb : e i with
    | true =>
      have z := fin s2 h2
      rw [show anyFrom e i (k + 1) = (e i || anyFrom e (i + 1) k) from rfl, hb] at z
      obtain ⟨hp2, g2, d2, tk2, os2⟩ := s2
      wp_walk
      exact z
    | false =>
      have hrec := ih (i + 1) (by omega) (fun s q => by
        have z := fin s q
        rw [show anyFrom e i (k + 1) = (e i || anyFrom e (i + 1) k) from rfl, hb] at z
        exact z) s2 h2
      have hc : ((i : Int) + 1) = ((i + 1 : Nat) : Int) := by push_cast; rfl
      obtain ⟨hp2, g2, d2, tk2, os2⟩ := s2
      wp_walk
      rw [hc]
      exact ⟨plainId_quiet plain_contains_loop _, codeAny_builtin entry_contains_loop (by
        rw [Around.under_plainId plain_contains_loop _]
        exact hrec)⟩
theorem list_containsG (l : Addr) (x : Value) (N : Nat) (e : Nat → Bool) (I : Shared → Prop) (rd : Reads1 prog w A R l x N e I) (fin : ∀ s, I s → R (.ok (.ret (.bool (anyFrom e 0 N)))) s) {s : Shared} (h : I s) :
    wpAny (model prog w) A.in1 (Builtin.«list.__contains__» ⟨[.ref l, x], []⟩) (GQ.FinOf prog w A R) (fun e s' => R (.error e) s') s := by
  obtain ⟨items, n, hl1, _, _⟩ := rd s h
  have hrec := contains_loopG (A := A) (R := R) l x N e I rd N 0 (by omega) fin s h
  obtain ⟨hp, g, d, tk, os⟩ := s
  wp_walk using AutoSeq1.wpAny_loadPart' hl1
  exact ⟨plainId_quiet plain_contains_loop _, codeAny_builtin entry_contains_loop (by
    rw [Around.under_plainId plain_contains_loop _]
    exact hrec)⟩
end
end Z
namespace Z
open PySem PySem.Spec PyProof.Rows L2
section
variable {X : Cx} {k : Nat} {f : Addr} {fd : FuncData} {ps : List Str} {sp : Sp} {pins : List (Addr × Obj)} {σ : L2.St} {H : Hp} {s : Shared} {Q : VK} {us : List Value} {vs : List V}
/-- a def that is called somewhere below the running body -/
theorem run_below {A : Around} (sb : Sub X k A) (F : FnOk X.prog X.w X.K X.mg X.base CX0 k f fd ps sp) (hb : Binds X.K fd ps []) (I : Inv X pins σ H s) (r : Vals vs us) (h : sp vs H Q E0) :
    wpAny (model X.prog X.w) A (call (.ref f) us) (EP X pins σ Q) X.xe s := by
  have e0 : Env0 X.prog X.w X.K X.mg X.base A X.stack s H := by
    have e := I.env0
    exact ⟨by rw [sb.fr]; exact e.frames, e.mod, e.bs, e.bsz, e.funs, e.frf, e.hok, e.bare⟩
  have hl := F.len _ _ _ _ h
  have hl2 : us.length = ps.length := by rw [← r.length]; exact hl
  refine wpAny_call (codeAny_mono (F.run A X.stack s H ⟨us, []⟩ us vs Q E0 sb.room e0 (by simpa using hb s us I.kIn (by simpa using hl2)) r h) fun r s' hq => ?_)
  cases r with
  | error e => exact hq.elim
  | ok fl =>
    cases fl with
    | ret u => exact I.after hq
    | next => exact False.elim hq
    | brk => exact False.elim hq
    | cont => exact False.elim hq
/-- == within a built-in, of two values, tells b and leaves all as it was -/
def EqB (X : Cx) (k : Nat) (y x : V) (H : Hp) (b : Bool) : Prop :=
  ∀ (A : Around) (pins : List (Addr × Obj)) (σ : L2.St) (s : Shared) (u v : Value), Sub X k A → Inv X pins σ H s → RelV y u → RelV x v → wpAny (model X.prog X.w) A (eqBool u v) (fun r s' => r = b ∧ Inv X pins σ H s') X.xe s
theorem EqB.same {a : Addr} : EqB X k (.ref a) (.ref a) H true := by
  intro A pins σ s u v sb I ru rv
  cases (show u = Value.ref a from ru)
  cases (show v = Value.ref a from rv)
  exact SeqAt.EqAt.same (A := A) (s := s) (.ref a) X.prog X.w X.xe _ ⟨rfl, I⟩
theorem EqB.flat {x y : V} (fx : flatV x = true) (fy : flatV y = true) : EqB X k x y H (eqV x y) := by
  intro A pins σ s u v sb I ru rv
  exact eqAt_V (A := A) (s := s) ru rv fx fy X.prog X.w X.xe _ ⟨rfl, I⟩
/-- an instance whose own == says b of x, the very object excepted -/
theorem EqB.own {C a dx : Addr} {fs : List (Str × V)} {x : V} {t : Value} {b : Bool} (M : Meth X.K C "__eq__" f) (F : FnOk X.prog X.w X.K X.mg X.base CX0 k f fd ps sp) (hb : Binds X.K fd ps [])
    (ha : H a = some (.ins C dx fs)) (ty : TyX X.K H x t) (nf : PySem.W.notFirst X.K C t = true) (ne : x ≠ .ref a) (h : sp [.ref a, x] H (fun v H' => v = .bl b ∧ H' = H) E0) : EqB X k (.ref a) x H b := by
  intro A pins σ s u v sb I ru rv
  cases (show u = Value.ref a from ru)
  have hne : ¬ (Value.ref a == v) = true := by
    intro q
    have e : Value.ref a = v := eq_of_beq q
    subst e
    cases x with
    | ref c => exact ne (by cases (show Value.ref a = Value.ref c from rv); rfl)
    | int i => obtain ⟨_, e⟩ := (show ∃ t, Value.ref a = Value.int i t from rv); cases e
    | str i => obtain ⟨_, e⟩ := (show ∃ t, Value.ref a = Value.str i t from rv); cases e
    | byt i => obtain ⟨_, e⟩ := (show ∃ t, Value.ref a = Value.bytes i t from rv); cases e
    | flt i => obtain ⟨_, e⟩ := (show ∃ t, Value.ref a = Value.float i t from rv); cases e
    | non => cases (show Value.ref a = Value.none from rv)
    | bl i => cases (show Value.ref a = Value.bool i from rv)
    | ty n => cases (show Value.ref a = Value.type n from rv)
  obtain ⟨mA, O, _⟩ := ins_get I.hok ha
  obtain ⟨od, J, _⟩ := O.look
  obtain ⟨P, Z, p, _⟩ := kit_of I rv ty
  obtain ⟨m, hF⟩ := I.fr
  have rc : wpAny (model X.prog X.w) A (richCompare .Eq (.ref a) v) (fun r s' => ∃ z, r = .bool z ∧ z = b ∧ Inv X pins σ H s') X.xe s := by
    refine PySem.W.cmp_K (op := .Eq) (tb := t) sb.room.units0 hF I.ok.mod.kin J (Z.ty _ _ I.kIn p) nf M.at_ M.fn ?_
    refine wpAny_mono (run_below (us := [.ref a, v]) (vs := [.ref a, x]) sb F hb I (.cons rfl (.cons rv .nil)) h) (fun w s' z => ?_) fun _ _ x => x
    obtain ⟨z', H', I', rz, e1, e2⟩ := z
    subst e1 e2
    cases (show w = Value.bool b from rz)
    exact ⟨b, rfl, rfl, I'⟩
  unfold eqBool
  refine wpAny_holding ?_
  refine wpAny_ite_split (fun hab => absurd hab hne) (fun _ => ?_)
  refine wpAny_bind (wpAny_mono rc (fun r s' hv => ?_) fun _ _ x => x)
  obtain ⟨z, rfl, hz, hI⟩ := hv
  exact wpAny_truthy_bool ⟨hz, hI⟩
/-- an int beside an instance whose own == says b of it -/
theorem EqB.int {C a dx : Addr} {fs : List (Str × V)} {i : Int} {b : Bool} (M : Meth X.K C "__eq__" f) (F : FnOk X.prog X.w X.K X.mg X.base CX0 k f fd ps sp) (hb : Binds X.K fd ps [])
    (ha : H a = some (.ins C dx fs)) (sub : PySem.W.subIn X.K (.ref C) (.type "int") = some false) (h : sp [.ref a, .int i] H (fun v H' => v = .bl b ∧ H' = H) E0) : EqB X k (.int i) (.ref a) H b := by
  intro A pins σ s u v sb I ru rv
  obtain ⟨t, rfl⟩ := (show ∃ t, u = Value.int i t from ru)
  cases (show v = Value.ref a from rv)
  obtain ⟨mA, O, _⟩ := ins_get I.hok ha
  obtain ⟨od, J, _⟩ := O.look
  have rc : wpAny (model X.prog X.w) A (richCompare .Eq (.int i t) (.ref a)) (fun r s' => ∃ z, r = .bool z ∧ z = b ∧ Inv X pins σ H s') X.xe s := by
    refine cmp_int (op := .Eq) sb.room.units0 I.kIn J rfl PySem.F.slot_int_eq PySem.F.entry_int_eq PySem.F.args_int_eq_2 dec_eq sub M.at_ M.fn ?_
    refine wpAny_mono (run_below (us := [.ref a, .int i t]) (vs := [.ref a, .int i]) sb F hb I (.cons rfl (.cons ⟨t, rfl⟩ .nil)) h) (fun w s' z => ?_) fun _ _ x => x
    obtain ⟨z', H', I', rz, e1, e2⟩ := z
    subst e1 e2
    cases (show w = Value.bool b from rz)
    exact ⟨b, rfl, rfl, I'⟩
  unfold eqBool
  refine wpAny_holding ?_
  refine wpAny_ite_split (fun hab => absurd (eq_of_beq hab) nofun) (fun _ => ?_)
  refine wpAny_bind (wpAny_mono rc (fun r s' hv => ?_) fun _ _ x => x)
  obtain ⟨z, rfl, hz, hI⟩ := hv
  exact wpAny_truthy_bool ⟨hz, hI⟩
theorem any_from (f : V → Bool) : ∀ (xs ys : List V), anyFrom (fun i => f ((ys ++ xs).getD i .non)) ys.length xs.length = xs.any f
  | [], _ => rfl
  | x :: xs, ys => by
    have ih := any_from f xs (ys ++ [x])
    rw [List.append_assoc] at ih
    have h0 : (ys ++ x :: xs).getD ys.length .non = x := by simp [List.getD_eq_getElem?_getD]
    show (f ((ys ++ x :: xs).getD ys.length .non) || anyFrom _ (ys.length + 1) xs.length) = (x :: xs).any f
    rw [h0, List.any_cons, ← ih]
    simp
/-- x in a list, by what == says of each item -/
theorem in_ok {p : Addr} {xs : List V} {x : V} {v : Value} (e : V → Bool) (hr : Room (k + 1) X.A) (I : Inv X pins σ H s) (hp : H p = some (.lst xs)) (rx : RelV x v) (he : ∀ z ∈ xs, EqB X k z x H (e z)) {Q : Value → Shared → Prop}
    (q : ∀ s', Inv X pins σ H s' → Q (.bool (xs.any e)) s') : wpAny (model X.prog X.w) X.A (call (.builtin "list.__contains__") [.ref p, v]) Q X.xe s := by
  obtain ⟨hz, its, n, r, hl⟩ := (show ObjOk X.prog X.w H s.heap p (.lst xs) from I.hok p _ hp)
  refine GQ.call_here PySem.F.slot_list_contains ⟨_, hl, rfl⟩ PySem.F.entry_list_contains (PySem.F.args_list_contains_2 _ _) ?_
  refine list_containsG p v xs.length (fun i => e (xs.getD i .non)) (fun s' => Inv X pins σ H s') (fun s' I' => ?_) (fun s' I' => ?_) I
  · obtain ⟨hz', its', n', r', hl'⟩ := (show ObjOk X.prog X.w H s'.heap p (.lst xs) from I'.hok p _ hp)
    refine ⟨its'.toArray, n', hl', by rw [List.size_toArray, ← r'.length], fun i hi => ?_⟩
    have h1 : i < its'.length := by simpa using hi
    have h2 : i < xs.length := by rw [r'.length]; exact h1
    obtain ⟨u, hu, ru⟩ := r'.get (List.getElem?_eq_getElem h2)
    rw [List.getElem?_eq_getElem h1] at hu
    have e1 : its'.toArray[i] = u := by simpa using Option.some.inj hu
    have e2 : xs.getD i .non = xs[i] := by simp [List.getD_eq_getElem?_getD, h2]
    rw [e1]
    show wpAny _ _ _ (fun r s'' => r = e (xs.getD i .non) ∧ Inv X pins σ H s'') _ _
    rw [e2]
    exact he _ (List.getElem_mem h2) X.A.in1 pins σ s' u v ⟨hr.in1, rfl⟩ I' ru rx
  · have z := any_from e xs []
    rw [List.nil_append, List.length_nil] at z
    show Q (.bool (anyFrom _ 0 xs.length)) s'
    rw [z]
    exact q s' I'
/-- the same of every place of the program -/
def EqG (P : Program) (w : World) (K : PySem.W.Frag) (mg : Str → Option Value) (base : Heap) (k : Nat) (y x : V) (H : Hp) (b : Bool) : Prop := ∀ X : Cx, X.prog = P → X.w = w → X.K = K → X.mg = mg → X.base = base → EqB X k y x H b
section
variable {P : Program} {w : World} {K : PySem.W.Frag} {mg : Str → Option Value} {base : Heap}
theorem EqG.same {a : Addr} : EqG P w K mg base k (.ref a) (.ref a) H true := fun _ _ _ _ _ _ => EqB.same
theorem EqG.flat {x y : V} (fx : flatV x = true) (fy : flatV y = true) : EqG P w K mg base k x y H (eqV x y) := fun _ _ _ _ _ _ => EqB.flat fx fy
theorem EqG.own {C a dx : Addr} {fs : List (Str × V)} {x : V} {t : Value} {b : Bool} (M : Meth K C "__eq__" f) (F : FnOk P w K mg base CX0 k f fd ps sp) (hb : Binds K fd ps [])
    (ha : H a = some (.ins C dx fs)) (ty : TyX K H x t) (nf : PySem.W.notFirst K C t = true) (ne : x ≠ .ref a) (h : sp [.ref a, x] H (fun v H' => v = .bl b ∧ H' = H) E0) : EqG P w K mg base k (.ref a) x H b := by
  intro X e1 e2 e3 e4 e5
  subst e1 e2 e3 e4 e5
  exact EqB.own M F hb ha ty nf ne h
theorem EqG.int {C a dx : Addr} {fs : List (Str × V)} {i : Int} {b : Bool} (M : Meth K C "__eq__" f) (F : FnOk P w K mg base CX0 k f fd ps sp) (hb : Binds K fd ps [])
    (ha : H a = some (.ins C dx fs)) (sub : PySem.W.subIn K (.ref C) (.type "int") = some false) (h : sp [.ref a, .int i] H (fun v H' => v = .bl b ∧ H' = H) E0) : EqG P w K mg base k (.int i) (.ref a) H b := by
  intro X e1 e2 e3 e4 e5
  subst e1 e2 e3 e4 e5
  exact EqB.int M F hb ha sub h
end
/-- x in p, x not in p: all that == says of the items is told -/
def rInO (P : Program) (w : World) (K : PySem.W.Frag) (mg : Str → Option Value) (base : Heap) (k : Nat) (neg : Bool) : R2 := fun x y H Q => ∃ (p : Addr) (xs : List V) (e : V → Bool), y = .ref p ∧ H p = some (.lst xs) ∧ (∀ z ∈ xs, EqG P w K mg base k z x H (e z)) ∧ Q (.bl (if neg = true then !xs.any e else xs.any e)) H
section
variable {P : Program} {w : World} {K : PySem.W.Frag} {mg : Str → Option Value} {base : Heap}
theorem o_inO (e1 : X.prog = P) (e2 : X.w = w) (e3 : X.K = K) (e4 : X.mg = mg) (e5 : X.base = base) (hr : Room (k + 1) X.A) : OpR X (compareOp .In) (rInO P w K mg base k false) := by
  intro pins s σ H x y v u Q I rx ry h
  obtain ⟨p, xs, e, rfl, hp, he, q⟩ := h
  cases (show u = Value.ref p from ry)
  obtain ⟨hz, its, n, r, hl⟩ := (show ObjOk X.prog X.w H s.heap p (.lst xs) from I.hok p _ hp)
  show wpAny _ X.A (do return Value.bool (← contains (.ref p) v)) _ _ s
  refine wpAny_bind (wpAny_contains_slot ⟨_, hl, rfl⟩ PySem.F.slot_list_contains (in_ok e hr I hp rx (fun z hz => he z hz X e1 e2 e3 e4 e5) fun s' I' => ?_))
  exact wpAny_truthy_bool (wpAny_pure ⟨.bl _, H, I', rfl, q⟩)
theorem o_notInO (e1 : X.prog = P) (e2 : X.w = w) (e3 : X.K = K) (e4 : X.mg = mg) (e5 : X.base = base) (hr : Room (k + 1) X.A) : OpR X (compareOp .NotIn) (rInO P w K mg base k true) := by
  intro pins s σ H x y v u Q I rx ry h
  obtain ⟨p, xs, e, rfl, hp, he, q⟩ := h
  cases (show u = Value.ref p from ry)
  obtain ⟨hz, its, n, r, hl⟩ := (show ObjOk X.prog X.w H s.heap p (.lst xs) from I.hok p _ hp)
  show wpAny _ X.A (do return Value.bool (!(← contains (.ref p) v))) _ _ s
  refine wpAny_bind (wpAny_contains_slot ⟨_, hl, rfl⟩ PySem.F.slot_list_contains (in_ok e hr I hp rx (fun z hz => he z hz X e1 e2 e3 e4 e5) fun s' I' => ?_))
  exact wpAny_truthy_bool (wpAny_pure ⟨.bl _, H, I', rfl, q⟩)
end
end
end Z
namespace Z
open PySem PySem.Spec PyProof.Rows L2
section
variable {prog : Program} {w : World} {A : Around} {E : Value → Shared → Prop} {s : Shared} {K : PySem.W.Frag} {x y C f : Addr} {ox oy : Obj} {od od' : Option Obj} {nm : String}
theorem bin1_same {Q : Value → Shared → Prop} (X : K.In s.heap) (I : PySem.W.InstAt s.heap x ox C od) (J : PySem.W.InstAt s.heap y oy C od') (hc : PySem.W.selfFirst K C = true)
    (hs : PySem.W.findIn K (.ref C) (PySem.dunder nm) = some (some (.ref f))) (hf : PySem.W.isFn K (.ref f) = true)
    (h : wpAny (model prog w) A (call (.ref f) [.ref x, .ref y]) (PySem.W.CmpBack Q) E s) : wpAny (model prog w) A (binaryOp1 nm (.ref x) (.ref y)) (fun r s' => ∃ v, r = some v ∧ Q v s') E s := by
  obtain ⟨cd, rest, hcd, hm⟩ := PySem.W.ksp_first hc
  have one := PySem.W.ksp_try X I hs hf h
  obtain ⟨hh, g, d, tt, os⟩ := s
  have L1 : PySem.W.Looks (model prog w) hh (typeOf (.ref x)) (.ref C) := I.type
  have L2 : PySem.W.Looks (model prog w) hh (typeOf (.ref y)) (.ref C) := J.type
  have L3 : PySem.W.Looks (model prog w) hh (fillsNumberSlot (.ref C) nm) true := PySem.W.fills_K X hcd hm hs
  have heq : (Value.ref C == Value.ref C) = true := beq_self_eq_true _
  unfold binaryOp1
  refine wpAny_bind (L1.at (wpAny_bind (L2.at (wpAny_bind (L3.at ?_)))))
  simp only [heq, if_true]
  ksp_lk
  refine wpAny_mono one (fun r s' hr' => ?_) fun _ _ e => e
  obtain ⟨v, rfl, hq⟩ := hr'
  ksp_lk
  exact ⟨v, rfl, hq⟩
theorem bin1_own {b : Value} {T : String} {fo ro rc : Option Value} {Q : Value → Shared → Prop} (X : K.In s.heap) (I : PySem.W.InstAt s.heap x ox C od) (hb : typeOf b = pure (.type T)) (hc : PySem.W.selfFirst K C = true)
    (hs : PySem.W.findIn K (.ref C) (PySem.dunder nm) = some (some (.ref f))) (hf : PySem.W.isFn K (.ref f) = true) (hr : PySem.W.findIn K (.ref C) (PySem.dunderR nm) = some rc) (hp : rc = none ∨ ∃ g : Addr, rc = some (.ref g))
    (h1 : PySem.W.findIn K (.type T) (PySem.dunder nm) = some fo) (h2 : PySem.W.findIn K (.type T) (PySem.dunderR nm) = some ro) (hsub : PySem.W.subIn K (.type T) (.ref C) = some false)
    (h : wpAny (model prog w) A (call (.ref f) [.ref x, b]) (PySem.W.CmpBack Q) E s) : wpAny (model prog w) A (binaryOp1 nm (.ref x) b) (fun r s' => ∃ v, r = some v ∧ Q v s') E s := by
  obtain ⟨cd, rest, hcd, hm⟩ := PySem.W.ksp_first hc
  have one := PySem.W.ksp_try X I hs hf h
  obtain ⟨hh, g, d, tt, os⟩ := s
  have L1 : PySem.W.Looks (model prog w) hh (typeOf (.ref x)) (.ref C) := I.type
  have L2 : PySem.W.Looks (model prog w) hh (typeOf b) (.type T) := PySem.W.Looks.of_pure hb
  have L3 : PySem.W.Looks (model prog w) hh (fillsNumberSlot (.ref C) nm) true := PySem.W.fills_K X hcd hm hs
  have L4 : PySem.W.Looks (model prog w) hh (fillsNumberSlot (.type T) nm) ((fo.isSome && !isSeqSlot fo) || (ro.isSome && !isSeqSlot ro)) := PySem.W.ksp_fillsT X h1 h2
  have L5 : PySem.W.Looks (model prog w) hh (isSubtype (.type T) (.ref C)) false := PySem.W.looks_subIn X hsub
  have L6 : PySem.W.Looks (model prog w) hh (numberSlotInPython (.ref C) nm) true := PySem.W.ksp_inPy X hs hr hp
  have L7 : PySem.W.Looks (model prog w) hh (numberSlotInPython (.type T) nm) false := PySem.W.Looks.of_pure rfl
  have L8 : PySem.W.Looks (model prog w) hh (typeLookup (.type T) (PySem.dunderR nm)) ro := PySem.W.looks_findIn X h2
  generalize ((fo.isSome && !isSeqSlot fo) || (ro.isSome && !isSeqSlot ro)) = right at L4
  have hne : (Value.ref C == Value.type T) = false := Bool.eq_false_iff.mpr fun q => by cases beq_iff_eq.mp q
  unfold binaryOp1
  refine wpAny_bind (L1.at (wpAny_bind (L2.at (wpAny_bind (L3.at ?_)))))
  simp only [hne, Bool.false_eq_true, if_false]
  cases right with
  | false =>
    ksp_lk
    refine wpAny_mono one (fun r s' hr' => ?_) fun _ _ e => e
    obtain ⟨v, rfl, hq⟩ := hr'
    ksp_lk
    exact ⟨v, rfl, hq⟩
  | true =>
    ksp_lk
    refine wpAny_mono one (fun r s' hr' => ?_) fun _ _ e => e
    obtain ⟨v, rfl, hq⟩ := hr'
    ksp_lk
    exact ⟨v, rfl, hq⟩
theorem bin1_int {i : Int} {t : Tok} {id : String} {B : Builtin} {Q : Value → Shared → Prop} (X : K.In s.heap) (I : PySem.W.InstAt s.heap x ox C od) (hd : ox.data = .plain) (hc : PySem.W.selfFirst K C = true)
    (slot : Slot "int" (PySem.dunder nm) id) (entry : entryFor table id = some B) (args : ∀ a b, argsOk id ⟨[a, b], []⟩) (D : Declines B) (fills : fillsNumberSlot (.type "int") nm = pure true)
    (hl : PySem.W.findIn K (.ref C) (PySem.dunder nm) = some (some (.ref y))) (hs : PySem.W.findIn K (.ref C) (PySem.dunderR nm) = some (some (.ref f))) (hf : PySem.W.isFn K (.ref f) = true) (sub : PySem.W.subIn K (.ref C) (.type "int") = some false)
    (h : wpAny (model prog w) A (call (.ref f) [.ref x, .int i t]) (PySem.W.CmpBack Q) E s) : wpAny (model prog w) A (binaryOp1 nm (.int i t) (.ref x)) (fun r s' => ∃ v, r = some v ∧ Q v s') E s := by
  obtain ⟨cd, rest, hcd, hm⟩ := PySem.W.ksp_first hc
  have one := PySem.W.ksp_try X I hs hf h
  have dec : ∀ {Q : Option Value → Shared → Prop}, Q none s → wpAny (model prog w) A (tryMethod (.int i t) (PySem.dunder nm) (.ref x)) Q E s := fun q =>
    wpAny_tryMethod_declines (typeIs_int s i t) slot (dec_call (T := "int") slot entry args D I.at_ hd ⟨rfl, q⟩)
  obtain ⟨hh, g, d, tt, os⟩ := s
  have L1 : PySem.W.Looks (model prog w) hh (typeOf (.int i t)) (.type "int") := PySem.W.Looks.of_pure rfl
  have L2 : PySem.W.Looks (model prog w) hh (typeOf (.ref x)) (.ref C) := I.type
  have L3 : PySem.W.Looks (model prog w) hh (fillsNumberSlot (.type "int") nm) true := PySem.W.Looks.of_pure fills
  have L4 : PySem.W.Looks (model prog w) hh (fillsNumberSlot (.ref C) nm) true := PySem.W.fills_K X hcd hm hl
  have L5 : PySem.W.Looks (model prog w) hh (isSubtype (.ref C) (.type "int")) false := PySem.W.looks_subIn X sub
  have L7 : PySem.W.Looks (model prog w) hh (numberSlotInPython (.type "int") nm) false := PySem.W.Looks.of_pure rfl
  have hne : (Value.type "int" == Value.ref C) = false := Bool.eq_false_iff.mpr fun q => by cases beq_iff_eq.mp q
  unfold binaryOp1
  refine wpAny_bind (L1.at (wpAny_bind (L2.at (wpAny_bind (L3.at ?_)))))
  simp only [hne, Bool.false_eq_true, if_false]
  ksp_lk
  refine dec ?_
  ksp_lk
  refine wpAny_mono one (fun r s' hr' => ?_) fun _ _ e => e
  obtain ⟨v, rfl, hq⟩ := hr'
  ksp_lk
  exact ⟨v, rfl, hq⟩
theorem bin_of1 {op : Operator} {a b : Value} {Q : Value → Shared → Prop} (h : wpAny (model prog w) A (binaryOp1 op.info.2 a b) (fun r s' => ∃ v, r = some v ∧ Q v s') E s) : wpAny (model prog w) A (binaryOp op a b) Q E s := by
  rcases hi : op.info with ⟨sym, nm'⟩
  rw [hi] at h
  simp only [binaryOp, hi]
  refine wpAny_holding (wpAny_bind (wpAny_mono h (fun r s' hr => ?_) fun _ _ e => e))
  obtain ⟨v, rfl, hq⟩ := hr
  exact wpAny_pure hq
/-- op= where the left type has no in-place def -/
theorem inp_of1 {op : Operator} {a b ta : Value} {Q : Value → Shared → Prop} (L1 : PySem.W.Looks (model prog w) s.heap (typeOf a) ta) (L2 : PySem.W.Looks (model prog w) s.heap (fillsInplaceSlot ta op.info.2 (op == .Add)) false)
    (h : wpAny (model prog w) A (binaryOp1 op.info.2 a b) (fun r s' => ∃ v, r = some v ∧ Q v s') E s) : wpAny (model prog w) A (inplaceOp op a b) Q E s := by
  obtain ⟨hh, g, d, tt, os⟩ := s
  unfold inplaceOp
  refine wpAny_holding (wpAny_bind (L1.at (wpAny_bind (L2.at ?_))))
  simp only [Bool.false_eq_true, if_false]
  refine wpAny_bind (wpAny_mono h (fun r s' hr => ?_) fun _ _ e => e)
  obtain ⟨v, rfl, hq⟩ := hr
  exact wpAny_pure hq
theorem dec_add : Declines Builtin.«int.__add__» := fun prog w A E s x o a t Q hx hd h => by
  obtain ⟨oc, od, data, sl⟩ := o
  simp only at hd
  subst hd
  obtain ⟨hp, g, d, tk, os⟩ := s
  wp_walk using AutoSeq1.wpAny_loadPart' hx
  exact h
theorem dec_sub : Declines Builtin.«int.__sub__» := fun prog w A E s x o a t Q hx hd h => by
  obtain ⟨oc, od, data, sl⟩ := o
  simp only at hd
  subst hd
  obtain ⟨hp, g, d, tk, os⟩ := s
  wp_walk using AutoSeq1.wpAny_loadPart' hx
  exact h
theorem dec_mul : Declines Builtin.«int.__mul__» := fun prog w A E s x o a t Q hx hd h => by
  obtain ⟨oc, od, data, sl⟩ := o
  simp only at hd
  subst hd
  obtain ⟨hp, g, d, tk, os⟩ := s
  wp_walk using AutoSeq1.wpAny_loadPart' hx
  exact h
theorem dec_floordiv : Declines Builtin.«int.__floordiv__» := fun prog w A E s x o a t Q hx hd h => by
  obtain ⟨oc, od, data, sl⟩ := o
  simp only at hd
  subst hd
  obtain ⟨hp, g, d, tk, os⟩ := s
  wp_walk using AutoSeq1.wpAny_loadPart' hx
  exact h
theorem dec_mod : Declines Builtin.«int.__mod__» := fun prog w A E s x o a t Q hx hd h => by
  obtain ⟨oc, od, data, sl⟩ := o
  simp only at hd
  subst hd
  obtain ⟨hp, g, d, tk, os⟩ := s
  wp_walk using AutoSeq1.wpAny_loadPart' hx
  exact h
end
end Z
namespace Z
open PySem PySem.Spec PyProof.Rows L2
section
variable {K : PySem.W.Frag} {C f : Addr} {nm : String}
theorem inpl_own {M : Model} {h : Heap} {add : Bool} {cd : ClassData} (X : K.In h) (hc : PySem.W.clsIn K C = some cd) (hm : cd.mro = [.ref C, .type "object"]) (h1 : PySem.W.findIn K (.ref C) (PySem.dunderI nm) = some none) (h2 : PySem.W.findIn K (.type "object") (PySem.dunderI nm) = some none) :
    PySem.W.Looks M h (fillsInplaceSlot (.ref C) nm add) false := by
  intro A Q E s k q
  have Lm : PySem.W.Looks M h (mroOf (.ref C)) cd.mro := (PySem.W.looks_clsIn X hc).andThen (f := fun cd => pure cd.mro) .now
  have Lm' := Lm.keeps k
  obtain ⟨hh, g, d, tt, os⟩ := s
  have X' : K.In hh := X.keeps k
  have L1 : PySem.W.Looks M hh (typeLookup (.ref C) (PySem.dunderI nm)) none := PySem.W.looks_findIn X' h1
  have L2 : PySem.W.Looks M hh (typeLookup (.type "object") (PySem.dunderI nm)) none := PySem.W.looks_findIn X' h2
  unfold fillsInplaceSlot
  refine wpAny_bind (Lm'.at ?_)
  rw [hm, List.anyM_cons]
  refine wpAny_bind ?_
  refine wpAny_bind (L1.at ?_)
  refine wpAny_pure ?_
  simp only [Bool.false_eq_true, if_false]
  rw [List.anyM_cons]
  refine wpAny_bind ?_
  refine wpAny_bind (L2.at ?_)
  refine wpAny_pure ?_
  simp only [Bool.false_eq_true, if_false]
  exact wpAny_pure q
end
section
variable {X : Cx} {C f g : Addr} {fd : FuncData} {k : Nat} {ps : List Str} {sp : Sp} {op : Operator}
/-- an int, or another instance of the class -/
def NumOr (C : Addr) (H : Hp) (y : V) : Prop := (∃ i, y = .int i) ∨ ∃ b dy gs, y = .ref b ∧ H b = some (.ins C dy gs)
def rBinL (C : Addr) (sp : Sp) : R2 := fun x y H Q => ∃ a dx fs, x = .ref a ∧ H a = some (.ins C dx fs) ∧ NumOr C H y ∧ sp ([x, y] ++ []) H Q E0
def rBinR (C : Addr) (sp : Sp) : R2 := fun x y H Q => ∃ i b dx fs, x = .int i ∧ y = .ref b ∧ H b = some (.ins C dx fs) ∧ sp ([y, x] ++ []) H Q E0
theorem bin1_L {pins : List (Addr × Obj)} {s : Shared} {σ : L2.St} {H : Hp} {x y : V} {v u : Value} {Q : VK} (B : BinF X.K C op.info.2 f g) (F : FnOk X.prog X.w X.K X.mg X.base CX0 k f fd ps sp) (hr : Room k X.A) (hb : Binds X.K fd ps [])
    (I : Inv X pins σ H s) (rx : RelV x v) (ry : RelV y u) (h : rBinL C sp x y H Q) : wpAny (model X.prog X.w) X.A (binaryOp1 op.info.2 v u) (fun r s' => ∃ v, r = some v ∧ EP X pins σ Q v s') X.xe s := by
  obtain ⟨a, dx, fs, rfl, ha, hy, q⟩ := h
  cases (show v = Value.ref a from rx)
  obtain ⟨mA, O, _⟩ := ins_get I.hok ha
  obtain ⟨od, J, _⟩ := O.look
  have call : wpAny (model X.prog X.w) X.A (PySem.call (.ref f) [.ref a, u]) (PySem.W.CmpBack (EP X pins σ Q)) X.xe s := by
    refine wpAny_mono (run_fn (us := [.ref a, u]) (vs := [.ref a, y]) F hr hb .nil pass0 I (.cons rfl (.cons ry .nil)) q) (fun w s' z => ?_) fun _ _ x => x
    obtain ⟨z', H', I', rz, qz⟩ := z
    exact SlX.cmpback rz ⟨z', H', I', rz, qz⟩
  rcases hy with ⟨i, rfl⟩ | ⟨b, dy, gs, rfl, hB⟩
  · obtain ⟨t, rfl⟩ := (show ∃ t, u = Value.int i t from ry)
    obtain ⟨fo, hfo⟩ := B.fo
    obtain ⟨ro, hro⟩ := B.ro
    exact bin1_own I.kIn J rfl B.sf B.at_ B.fn B.rat (.inr ⟨g, rfl⟩) hfo hro B.isub call
  · cases (show u = Value.ref b from ry)
    obtain ⟨mB, O', _⟩ := ins_get I.hok hB
    obtain ⟨od', J', _⟩ := O'.look
    exact bin1_same I.kIn J J' B.sf B.at_ B.fn call
theorem o_binL (B : BinF X.K C op.info.2 f g) (F : FnOk X.prog X.w X.K X.mg X.base CX0 k f fd ps sp) (hr : Room k X.A) (hb : Binds X.K fd ps []) : OpR X (binaryOp op) (rBinL C sp) := by
  intro pins s σ H x y v u Q I rx ry h
  exact bin_of1 (bin1_L B F hr hb I rx ry h)
theorem o_inpL (B : BinF X.K C op.info.2 f g) (F : FnOk X.prog X.w X.K X.mg X.base CX0 k f fd ps sp) (hr : Room k X.A) (hb : Binds X.K fd ps []) : OpR X (inplaceOp op) (rBinL C sp) := by
  intro pins s σ H x y v u Q I rx ry h
  obtain ⟨a, dx, fs, ex, ha, _⟩ := id h
  subst ex
  cases (show v = Value.ref a from rx)
  obtain ⟨mA, O, _⟩ := ins_get I.hok ha
  obtain ⟨od, J, _⟩ := O.look
  obtain ⟨cd, hc, hm⟩ := B.cls
  exact inp_of1 J.type (inpl_own I.kIn hc hm B.ni B.noi) (bin1_L B F hr hb I rx ry h)
theorem bin1_R {id : String} {Bi : Builtin} {pins : List (Addr × Obj)} {s : Shared} {σ : L2.St} {H : Hp} {x y : V} {v u : Value} {Q : VK} (B : BinF X.K C op.info.2 g f) (slot : Slot "int" (PySem.dunder op.info.2) id) (entry : entryFor table id = some Bi) (args : ∀ a b, argsOk id ⟨[a, b], []⟩) (D : Declines Bi)
    (fills : fillsNumberSlot (.type "int") op.info.2 = pure true) (F : FnOk X.prog X.w X.K X.mg X.base CX0 k f fd ps sp) (hr : Room k X.A) (hb : Binds X.K fd ps [])
    (I : Inv X pins σ H s) (rx : RelV x v) (ry : RelV y u) (h : rBinR C sp x y H Q) : wpAny (model X.prog X.w) X.A (binaryOp1 op.info.2 v u) (fun r s' => ∃ v, r = some v ∧ EP X pins σ Q v s') X.xe s := by
  obtain ⟨i, b, dx, fs, rfl, rfl, hB, q⟩ := h
  obtain ⟨t, rfl⟩ := (show ∃ t, v = Value.int i t from rx)
  cases (show u = Value.ref b from ry)
  obtain ⟨mA, O, _⟩ := ins_get I.hok hB
  obtain ⟨od, J, _⟩ := O.look
  refine bin1_int I.kIn J rfl B.sf slot entry args D fills B.at_ B.rat B.rfn B.sub ?_
  refine wpAny_mono (run_fn (us := [.ref b, .int i t]) (vs := [.ref b, .int i]) F hr hb .nil pass0 I (.cons rfl (.cons ⟨t, rfl⟩ .nil)) q) (fun w s' z => ?_) fun _ _ x => x
  obtain ⟨z', H', I', rz, qz⟩ := z
  exact SlX.cmpback rz ⟨z', H', I', rz, qz⟩
theorem o_binR {id : String} {Bi : Builtin} (B : BinF X.K C op.info.2 g f) (slot : Slot "int" (PySem.dunder op.info.2) id) (entry : entryFor table id = some Bi) (args : ∀ a b, argsOk id ⟨[a, b], []⟩) (D : Declines Bi)
    (fills : fillsNumberSlot (.type "int") op.info.2 = pure true) (F : FnOk X.prog X.w X.K X.mg X.base CX0 k f fd ps sp) (hr : Room k X.A) (hb : Binds X.K fd ps []) : OpR X (binaryOp op) (rBinR C sp) := by
  intro pins s σ H x y v u Q I rx ry h
  exact bin_of1 (bin1_R B slot entry args D fills F hr hb I rx ry h)
theorem o_inpR {id : String} {Bi : Builtin} (B : BinF X.K C op.info.2 g f) (slot : Slot "int" (PySem.dunder op.info.2) id) (entry : entryFor table id = some Bi) (args : ∀ a b, argsOk id ⟨[a, b], []⟩) (D : Declines Bi)
    (fills : fillsNumberSlot (.type "int") op.info.2 = pure true) (hno : typeLookup (.type "int") (dunderI op.info.2) = pure none) (F : FnOk X.prog X.w X.K X.mg X.base CX0 k f fd ps sp) (hr : Room k X.A) (hb : Binds X.K fd ps []) : OpR X (inplaceOp op) (rBinR C sp) := by
  intro pins s σ H x y v u Q I rx ry h
  obtain ⟨i, b, dx, fs, ex, _⟩ := _root_.id h
  subst ex
  obtain ⟨t, e⟩ := (show ∃ t, v = Value.int i t from rx)
  subst e
  have noi : fillsInplaceSlot (.type "int") op.info.2 (op == .Add) = pure false := by
    unfold fillsInplaceSlot
    show (typeLookup (.type "int") (dunderI op.info.2) >>= fun fi => pure (fi.isSome && !isSeqSlot fi)) = pure false
    rw [hno]; rfl
  exact inp_of1 (ta := .type "int") (PySem.W.Looks.of_pure rfl) (PySem.W.Looks.of_pure noi) (bin1_R B slot entry args D fills F hr hb I rx ry h)
end
section
variable {X : Cx} {k : Nat} {C f : Addr} {fd : FuncData} {ps : List Str} {sp : Sp}
def rUO (C : Addr) (sp : Sp) : V → Hp → VK → Prop := fun x H Q => ∃ a dx fs, x = .ref a ∧ H a = some (.ins C dx fs) ∧ sp ([.ref a] ++ []) H Q E0
def rAbsO (C : Addr) (sp : Sp) : List V → Hp → VK → Prop := fun xs H Q => ∃ a dx fs, xs = [.ref a] ∧ H a = some (.ins C dx fs) ∧ sp ([.ref a] ++ []) H Q E0
theorem un_negO (M : Meth X.K C "__neg__" f) (F : FnOk X.prog X.w X.K X.mg X.base CX0 k f fd ps sp) (hr : Room k X.A) (hb : Binds X.K fd ps []) : UnR X (unaryOp .USub) (rUO C sp) := by
  intro pins s σ H x v Q I rx h
  obtain ⟨a, dx, fs, rfl, ha, q⟩ := h
  cases (show v = Value.ref a from rx)
  obtain ⟨mA, O, _⟩ := ins_get I.hok ha
  obtain ⟨od, J, _⟩ := O.look
  unfold unaryOp
  refine wpAny_holding ?_
  exact wpAny_bind (PySem.W.special_fn I.kIn J M.at_ (beq_iff_eq.mp M.fn) (wpAny_mono (run_fn (us := [.ref a]) (vs := [.ref a]) F hr hb .nil pass0 I (.cons rfl .nil) q) (fun w s' z => wpAny_pure z) fun _ _ x => x))
theorem un_posO (M : Meth X.K C "__pos__" f) (F : FnOk X.prog X.w X.K X.mg X.base CX0 k f fd ps sp) (hr : Room k X.A) (hb : Binds X.K fd ps []) : UnR X (unaryOp .UAdd) (rUO C sp) := by
  intro pins s σ H x v Q I rx h
  obtain ⟨a, dx, fs, rfl, ha, q⟩ := h
  cases (show v = Value.ref a from rx)
  obtain ⟨mA, O, _⟩ := ins_get I.hok ha
  obtain ⟨od, J, _⟩ := O.look
  unfold unaryOp
  refine wpAny_holding ?_
  exact wpAny_bind (PySem.W.special_fn I.kIn J M.at_ (beq_iff_eq.mp M.fn) (wpAny_mono (run_fn (us := [.ref a]) (vs := [.ref a]) F hr hb .nil pass0 I (.cons rfl .nil) q) (fun w s' z => wpAny_pure z) fun _ _ x => x))
theorem c_absO (M : Meth X.K C "__abs__" f) (F : FnOk X.prog X.w X.K X.mg X.base CX0 k f fd ps sp) (hr : Room (k + 1) X.A) (hb : Binds X.K fd ps []) : CallR X (.builtin "abs") (rAbsO C sp) := by
  intro pins s σ H xs us Q I r h
  obtain ⟨a, dx, fs, rfl, ha, q⟩ := h
  obtain ⟨u, rfl, ru⟩ := vals1 r
  cases (show u = Value.ref a from ru)
  obtain ⟨mA, O, _⟩ := ins_get I.hok ha
  obtain ⟨od, J, _⟩ := O.look
  refine PySem.Calls.call_function_entry kind_abs plain_abs entry_abs (args_abs _) ?_
  unfold Builtin.«abs»
  refine wpAny_bind (m := oneArg "abs" _) (wpAny_pure ?_)
  refine wpAny_bind (m := callSpecial? (.ref a) (Str.ofString "__abs__")) (PySem.W.special_fn I.kIn J M.at_ (beq_iff_eq.mp M.fn) (wpAny_mono (run_below (us := [.ref a]) (vs := [.ref a]) (A := X.A.in1) ⟨hr.in1, rfl⟩ F hb I (.cons rfl .nil) q) (fun w s' z => ?_) fun _ _ x => x))
  exact wpAny_pure ⟨_, rfl, z⟩
end
section
variable {H : Hp} {Q : VK} {a C dx : Addr} {fs : List (Str × V)} {sp : Sp}
theorem r_UO (e : H a = some (.ins C dx fs)) (h : sp ([.ref a] ++ []) H Q E0) : rUO C sp (.ref a) H Q := ⟨a, dx, fs, rfl, e, h⟩
theorem r_absO (e : H a = some (.ins C dx fs)) (h : sp ([.ref a] ++ []) H Q E0) : rAbsO C sp [.ref a] H Q := ⟨a, dx, fs, rfl, e, h⟩
end
section
variable {H : Hp} {Q : VK} {x y : V} {a b C dx : Addr} {fs : List (Str × V)} {sp : Sp} {i : Int}
theorem r_binL (e : H a = some (.ins C dx fs)) (n : NumOr C H y) (h : sp ([.ref a, y] ++ []) H Q E0) : rBinL C sp (.ref a) y H Q := ⟨a, dx, fs, rfl, e, n, h⟩
theorem r_binR (e : H b = some (.ins C dx fs)) (h : sp ([.ref b, .int i] ++ []) H Q E0) : rBinR C sp (.int i) (.ref b) H Q := ⟨i, b, dx, fs, rfl, rfl, e, h⟩
theorem nm_int : NumOr C H (.int i) := .inl ⟨i, rfl⟩
theorem nm_ref (e : H b = some (.ins C dx fs)) : NumOr C H (.ref b) := .inr ⟨b, dx, fs, rfl, e⟩
end
section
variable {X : Cx} {k : Nat} {H : Hp} {Q : VK} {x : V} {p : Addr} {xs : List V} {neg : Bool}
theorem r_inO {P : Program} {w : World} {K : PySem.W.Frag} {mg : Str → Option Value} {base : Heap} (e : V → Bool) (hp : H p = some (.lst xs)) (he : ∀ z ∈ xs, EqG P w K mg base k z x H (e z)) (q : Q (.bl (if neg = true then !xs.any e else xs.any e)) H) : rInO P w K mg base k neg x (.ref p) H Q := ⟨p, xs, e, rfl, hp, he, q⟩
end
end Z
local macro_rules | `(tactic| walk_at "num") => `(tactic| first | exact Z.nm_int | exact Z.nm_ref (by walk_at "hp") | assumption)
local macro_rules | `(tactic| walk_at "call") => `(tactic| first
  | ((with_reducible refine' Z.r_binL ?e ?n ?_); (case e => walk_at "hp"); (case n => walk_at "num"))
  | ((with_reducible refine' Z.r_binR ?e ?_); (case e => walk_at "hp"))
  | ((with_reducible refine' Z.r_UO ?e ?_); (case e => walk_at "hp"))
  | ((with_reducible refine' Z.r_absO ?e ?_); (case e => walk_at "hp")))

theorem rep_non {C : Addr} {H : Hp} : Rep C H .non .non := rfl
theorem rep_num {C : Addr} {H : Hp} {i : Int} : Rep C H (.int i) (.num i) := rfl
theorem rep_mark {C a dx : Addr} {H : Hp} {n : Str} (h : H a = some (.ins C dx [("name", .str n)])) : Rep C H (.ref a) (.mark n) := ⟨a, dx, rfl, h⟩
local macro_rules | `(tactic| walk_at "rep") => `(tactic| first | exact rep_non | exact rep_num | exact rep_mark (by walk_at "hp") | assumption)
/-- a tuple of the law's that tells a value -/
def tagV : Tag → List V
  | .non => [.str "nothing"]
  | .mark n => [.str "mark", .str n]
  | .num i => [.str "number", .int i]
def tagD : Tag → PyData
  | .non => .tuple [.str "nothing"]
  | .mark n => .tuple [.str "mark", .str n]
  | .num i => .tuple [.str "number", .int i]
/-- the word that tells the kind -/
def tagN : Tag → Str
  | .non => "nothing"
  | .mark _ => "mark"
  | .num _ => "number"
theorem tag_at0 (t : Tag) : atI (tagV t) 0 = some (.str (tagN t)) := by cases t <;> rfl
theorem tagN_num {t : Tag} (h : tagN t = "number") : ∃ i, t = .num i := by
  cases t with
  | non => exact absurd h (by decide +kernel)
  | mark n => exact absurd h (by show ¬ (("mark" : Str) = "number"); decide +kernel)
  | num i => exact ⟨i, rfl⟩
def Tag.ok : Tag → Prop
  | .mark n => Word n
  | _ => True
def TagAt (H : Hp) (p : Addr) (t : Tag) : Prop := H p = some (.tup (tagV t)) ∧ t.ok
theorem TagAt.same {H H' : Hp} {p : Addr} {t : Tag} (e : Same H H') (h : TagAt H p t) : TagAt H' p t := ⟨e _ _ h.1, h.2⟩
theorem TagAt.but {H H' : Hp} {p b : Addr} {t : Tag} (e : Z.But b H H') (n : p ≠ b) (h : TagAt H p t) : TagAt H' p t := ⟨e _ _ n h.1, h.2⟩
theorem TagAt.ne {H : Hp} {p b : Addr} {t : Tag} {xs : List V} (h : TagAt H p t) (hb : H b = some (.lst xs)) : p ≠ b := ne_of h.1 hb (by intro z; cases z)
theorem TagAt.ne' {H : Hp} {p b : Addr} {t : Tag} {n : Nat} (h : TagAt H p t) (g : Bag H b n) : p ≠ b := by
  obtain ⟨_, _, _, hb, _⟩ := g
  exact h.ne hb
theorem TagAt.dp {K : PySem.W.Frag} {H : Hp} {p : Addr} {t : Tag} (h : TagAt H p t) : Dp K H (.ref p) (tagD t) := by
  cases t with
  | non => exact .tup (SqT.of h.1) (.cons (.str _) .nil)
  | mark n => exact .tup (SqT.of h.1) (.cons (.str _) (.cons (.str _) .nil))
  | num i => exact .tup (SqT.of h.1) (.cons (.str _) (.cons (.int _) .nil))
theorem Tag.shaped {t : Tag} (h : t.ok) : SeqAt.shaped (tagD t) = true := by
  have e1 : PyData.strOk "nothing" = true := by decide +kernel
  have e2 : PyData.strOk "mark" = true := by decide +kernel
  have e3 : PyData.strOk "number" = true := by decide +kernel
  cases t with
  | non => simp [SeqAt.shaped, tagD, PyData.canLay0, PyData.canLayAll0, PyData.depth, PyData.depthAll, e1]
  | mark n => simp [SeqAt.shaped, tagD, PyData.canLay0, PyData.canLayAll0, PyData.depth, PyData.depthAll, e2, Word.ok h]
  | num i => simp [SeqAt.shaped, tagD, PyData.canLay0, PyData.canLayAll0, PyData.depth, PyData.depthAll, e3]
theorem tag_eqv {s t : Tag} : PyData.eqv (tagD s) (tagD t) = decide (s = t) := by
  have a1 : (("nothing" : Str) == "mark") = false := by decide +kernel
  have a2 : (("nothing" : Str) == "number") = false := by decide +kernel
  have a3 : (("mark" : Str) == "nothing") = false := by decide +kernel
  have a4 : (("mark" : Str) == "number") = false := by decide +kernel
  have a5 : (("number" : Str) == "nothing") = false := by decide +kernel
  have a6 : (("number" : Str) == "mark") = false := by decide +kernel
  cases s <;> cases t <;> simp [tagD, PyData.eqv, PyData.eqvAll, a1, a2, a3, a4, a5, a6]
  · rename_i a b
    by_cases h : a = b <;> simp [h]
  · rename_i a b
    by_cases h : a = b <;> simp [h]
namespace Z
open PySem PySem.Spec PyProof.Rows L2 PySem.Builtin PySem.Builtin.Str
section
variable {X : Cx} {k : Nat} {C f : Addr} {fd : FuncData} {ps : List Str} {sp : Sp}
def txB (Q : VK) : VK := fun v H => ∃ y, v = .str y ∧ Q (.str y) H
def rTxO (C : Addr) (sp : Sp) : List V → Hp → VK → Prop := fun xs H Q => ∃ a dx fs, xs = [.ref a] ∧ H a = some (.ins C dx fs) ∧ sp ([.ref a] ++ []) H (txB Q) E0
theorem tx_back {pins : List (Addr × Obj)} {σ : L2.St} {Q : VK} {w : Value} {s' : Shared} (z : EP X pins σ (txB Q) w s') : PySem.W.StrBack (EP X pins σ Q) w s' := by
  obtain ⟨z', H', I', rz, y, e, qz⟩ := z
  subst e
  obtain ⟨t, rfl⟩ := rz
  exact ⟨.str y, H', I', ⟨t, rfl⟩, qz⟩
theorem c_strO (M : Meth X.K C "__str__" f) (F : FnOk X.prog X.w X.K X.mg X.base CX0 k f fd ps sp) (hr : Room (k + 2) X.A) (hb : Binds X.K fd ps []) : CallR X (.type "str") (rTxO C sp) := by
  intro pins s σ H xs us Q I r h
  obtain ⟨a, dx, fs, rfl, ha, q⟩ := h
  obtain ⟨u, rfl, ru⟩ := vals1 r
  cases (show u = Value.ref a from ru)
  obtain ⟨mA, O, _⟩ := ins_get I.hok ha
  obtain ⟨od, J, _⟩ := O.look
  exact PySem.W.kso_call (hr.in1.in1).units0 I.kIn J M.at_ M.fn (wpAny_mono (run_below (us := [.ref a]) (vs := [.ref a]) (A := X.A.in1.in1) ⟨hr.in1.in1, rfl⟩ F hb I (.cons rfl .nil) q) (fun w s' z => tx_back z) fun _ _ x => x)
theorem c_reprO (M : Meth X.K C "__repr__" f) (F : FnOk X.prog X.w X.K X.mg X.base CX0 k f fd ps sp) (hr : Room (k + 2) X.A) (hb : Binds X.K fd ps []) : CallR X (.builtin "repr") (rTxO C sp) := by
  intro pins s σ H xs us Q I r h
  obtain ⟨a, dx, fs, rfl, ha, q⟩ := h
  obtain ⟨u, rfl, ru⟩ := vals1 r
  cases (show u = Value.ref a from ru)
  obtain ⟨mA, O, _⟩ := ins_get I.hok ha
  obtain ⟨od, J, _⟩ := O.look
  obtain ⟨m, hF⟩ := I.fr
  exact PySem.W.repr_K (hr.in1).units0 hF I.ok.mod.kin J M.at_ M.fn (wpAny_mono (run_below (us := [.ref a]) (vs := [.ref a]) (A := X.A.in1) ⟨hr.in1.mono (by omega), rfl⟩ F hb I (.cons rfl .nil) q) (fun w s' z => tx_back z) fun _ _ x => x)
def tFmtO (C : Addr) (sp : Sp) (te : TE) : TE := fun σ H Q => te σ H fun x H1 => rTxO C sp [x] H1 Q
theorem pe_fmtO {e : Expr} {te : TE} {pos : Pos} (TX : TxF X.K C) (M : Meth X.K C "__str__" f) (F : FnOk X.prog X.w X.K X.mg X.base CX0 k f fd ps sp) (hr : Room (k + 2) X.A) (hb : Binds X.K fd ps []) (he : PE X e te) : PE X (.FormattedValue e (-1) none pos) (tFmtO C sp te) := by
  refine ⟨fun pins s σ H Q I h => ?_⟩
  refine wpAny_FormattedValue_plain (thn (he.run pins s σ H _ I h) fun v s1 hv => ?_)
  obtain ⟨x, H1, I1, r1, a, dx, fs, ex, ha, q⟩ := hv
  cases ex
  cases (show v = Value.ref a from r1)
  have I2 := I1.tok (s1.toks + 1)
  obtain ⟨mA, O, _⟩ := ins_get I1.hok ha
  obtain ⟨od, J, _⟩ := O.look
  exact PySem.W.kfo_fieldS (hr.in1).units0 I1.kIn J TX.fm TX.mo M.at_ M.fn (wpAny_mono (run_below (us := [.ref a]) (vs := [.ref a]) (A := X.A.in1) ⟨hr.in1.mono (by omega), rfl⟩ F hb I2 (.cons rfl .nil) q) (fun w s' z => tx_back z) fun _ _ x => x)
end
section
variable {H : Hp} {Q : VK} {σ : L2.St} {te : TE} {ts : List TE} {a C dx : Addr} {fs : List (Str × V)} {sp : Sp} {acc y : Str} {v : V}
theorem r_txO (e : H a = some (.ins C dx fs)) (h : sp ([.ref a] ++ []) H (txB Q) E0) : rTxO C sp [.ref a] H Q := ⟨a, dx, fs, rfl, e, h⟩
theorem r_txB (h : Q (.str y) H) : txB Q (.str y) H := ⟨y, rfl, h⟩
theorem r_fmtO (h : te σ H fun x H1 => rTxO C sp [x] H1 Q) : tFmtO C sp te σ H Q := h
def fmP (Q : VK) : VK := fun x H1 => (∃ y : Str, x = .str y ∧ y.length ≤ sizeLine ∧ Q (.str y) H1) ∨ ∃ i : Int, x = .int i ∧ i.natAbs.log2 < 1920 ∧ Q (.str (toString i)) H1
theorem r_fmt (h : te σ H (fmP Q)) : tFmt te σ H Q := h
theorem r_fmP (l : y.length ≤ sizeLine) (h : Q (.str y) H) : fmP Q (.str y) H := .inl ⟨y, rfl, l, h⟩
def fmR (Q : VK) : VK := fun x H1 => (∃ y : Str, x = .str y ∧ (reprText y).length ≤ sizeLine ∧ Q (.str (reprText y)) H1) ∨ ∃ i : Int, x = .int i ∧ i.natAbs.log2 < 1920 ∧ Q (.str (toString i)) H1
theorem r_fmtR (h : te σ H (fmR Q)) : tFmtR te σ H Q := h
theorem r_fmR (l : (reprText y).length ≤ sizeLine) (h : Q (.str (reprText y)) H) : fmR Q (.str y) H := .inl ⟨y, rfl, l, h⟩
def jsP (acc : Str) (N : Str → Hp → Prop) : VK := fun x H1 => ∃ y : Str, x = .str y ∧ (acc ++ y).length ≤ sizeLine ∧ N (acc ++ y) H1
theorem r_jsC {N : Str → Hp → Prop} (h : te σ H (jsP acc fun z H1 => tJs ts z σ H1 N)) : tJs (te :: ts) acc σ H N := h
theorem r_jsN {N : Str → Hp → Prop} (h : N acc H) : tJs [] acc σ H N := h
theorem r_jsP {N : Str → Hp → Prop} (l : (acc ++ y).length ≤ sizeLine) (h : N (acc ++ y) H) : jsP acc N (.str y) H := ⟨y, rfl, l, h⟩
end
theorem repr_letter : ∀ k : Fin 26, reprChar 39 (97 + k.val) = [97 + k.val] := by decide +kernel
theorem repr_fold : ∀ (l : List Nat) (acc : Array Nat), (∀ c ∈ l, 97 ≤ c ∧ c ≤ 122) → l.foldl (fun out c => out ++ (reprChar 39 c).toArray) acc = acc ++ l.toArray
  | [], acc, _ => by simp
  | c :: l, acc, h => by
    have hc := h c List.mem_cons_self
    have e : reprChar 39 c = [c] := by
      have z := repr_letter ⟨c - 97, by omega⟩
      rwa [show 97 + (c - 97) = c by omega] at z
    rw [List.foldl_cons, repr_fold l _ (fun x hx => h x (List.mem_cons_of_mem _ hx)), e]
    simp
end Z
open PySem.Builtin PySem.Builtin.Str in
theorem word_repr {n : Str} (h : Word n) : reprText n = ("'" : Str) ++ n ++ ("'" : Str) := by
  have hq : reprQuote n = 39 := by
    unfold reprQuote
    rw [if_neg]
    intro e
    rw [Bool.and_eq_true] at e
    have m := e.1
    rw [Array.contains_iff_mem] at m
    have := h.2.2 39 (by simpa using m)
    omega
  have e1 : reprText n = ⟨(#[39] ++ n.cps).push 39⟩ := by
    unfold reprText
    rw [hq, ← Array.foldl_toList, Z.repr_fold _ _ h.2.2]
  have e2 : (("'" : Str) ++ n ++ ("'" : Str)) = ⟨(#[39] ++ n.cps) ++ #[39]⟩ := rfl
  rw [e1, e2, Array.push_eq_append]
local macro_rules | `(tactic| walk_at "call") => `(tactic| first
  | ((with_reducible refine' Z.r_txO ?e ?_); (case e => walk_at "hp"))
  | with_reducible refine Z.r_txB ?_
  | with_reducible refine Z.r_fmtO ?_
  | with_reducible refine Z.r_fmt ?_
  | with_reducible refine Z.r_fmtR ?_
  | with_reducible refine Z.r_jsC ?_
  | with_reducible refine Z.r_jsN ?_
  | ((with_reducible refine' Z.r_fmP ?l ?_); (case l => walk_at "tlen"))
  | ((with_reducible refine' Z.r_fmR ?l ?_); (case l => walk_at "tlen"))
  | ((with_reducible refine' Z.r_jsP ?l ?_); (case l => walk_at "tlen")))
local macro_rules | `(tactic| walk_at "tlen") => `(tactic| first | assumption | exact Z.szle (Nat.le_of_ble_eq_true rfl))
/-! != of instances whose class has an own == alone -/
namespace Z
open PySem PySem.Spec PyProof.Rows L2
section
variable {prog : Program} {w : World} {A : Around} {E : Value → Shared → Prop} {s : Shared} {K : PySem.W.Frag} {x C L f : Addr} {h₀ : Heap} {m : Str → Option Value} {ox : Obj} {od : Option Obj} {b tb : Value}
theorem ifBound_B {M : Model} {name : Str} {id B : String} {args : List Value} {Q : Option Value → Shared → Prop} (X : K.In s.heap) (I : PySem.W.InstAt s.heap x ox C od) (hs : PySem.W.findIn K (.ref C) name = some (some (.builtin id))) (S : Slot B name id)
    (h : wpAny M A (call (.builtin id) (.ref x :: args)) (fun v => Q (some v)) E s) : wpAny M A (callSpecialIfBound? (.ref x) name args) Q E s := by
  simp only [callSpecialIfBound?, bindSpecialIfBound?]
  refine wpAny_holding (wpAny_bind (wpAny_bind (wpAny_bind (I.type.here ((PySem.W.looks_findIn X hs).here ?_)))))
  simp only [S.bind]
  refine wpAny_bind (wpAny_askSetting (wpAny_ite ?_))
  have fin : wpAny M A (call (.builtin id) ([.ref x] ++ args) >>= fun v => pure (some v)) Q E s := wpAny_bind (wpAny_mono h (fun v s' h' => wpAny_pure h') fun _ _ h' => h')
  split
  · exact wpAny_bind (wpAny_pure (wpAny_pure fin))
  · exact wpAny_tryCatch (wpAny_bind (wpAny_pure (wpAny_pure fin)))
theorem ne_entry {Q : Fin → Shared → Prop} (hu : A.units < cLine) (X : K.In s.heap) (I : PySem.W.InstAt s.heap x ox C od) (hs : PySem.W.findIn K (.ref C) "__eq__" = some (some (.ref f))) (hf : PySem.W.isFn K (.ref f) = true)
    (h : wpAny (model prog w) A (call (.ref f) [.ref x, b]) (fun v s' => ∃ c, v = .bool c ∧ Q (.done (.ret (.bool (!c)))) s') E s) :
    wpAny (model prog w) A (Builtin.«object.__ne__» ⟨[.ref x, b], []⟩) Q E s := by
  unfold Builtin.«object.__ne__»
  repeat (first
    | with_reducible refine wpAny_cRoomFor hu ?_
    | (refine wpAny_bind (m := callSpecialIfBound? (.ref x) (Str.ofString "__eq__") [b])
        (PySem.W.ifBound_K X I hs hf (wpAny_mono h (fun r s' hr => by
          obtain ⟨b, rfl, hq⟩ := hr
          repeat (first | exact hq | exact wpAny_pure hq | exact wpAny_truthy_bool hq | (refine wpAny_bind (m := truthy (.bool _)) (wpAny_truthy_bool ?_)) | wp_step)) fun _ _ e => e)))
    | wp_step)
theorem cmp_neD {Q : Value → Shared → Prop} (hu : A.units < cLine) (hu1 : A.in1.units < cLine) (X : K.In s.heap) (I : PySem.W.InstAt s.heap x ox C od) (hb : PySem.W.Looks (model prog w) s.heap (typeOf b) tb) (hn : PySem.W.notFirst K C tb = true)
    (D : NeD K C) (hs : PySem.W.findIn K (.ref C) "__eq__" = some (some (.ref f))) (hf : PySem.W.isFn K (.ref f) = true)
    (h : wpAny (model prog w) A.in1 (call (.ref f) [.ref x, b]) (fun v s' => ∃ c, v = .bool c ∧ Q (.bool (!c)) s') E s) : wpAny (model prog w) A (richCompare .NotEq (.ref x) b) Q E s := by
  have S := PySem.F.cmp_object.ne
  have sub : PySem.W.Looks (model prog w) s.heap (isInstance (.ref x) (.type "object")) true := I.type.andThen (PySem.W.looks_mroIn X D.mo)
  have one : wpAny (model prog w) A (tryCompare (.ref x) "__ne__" b) (fun r s' => ∃ v, r = some v ∧ Q v s') E s := by
    unfold tryCompare
    refine wpAny_bind (ifBound_B X I D.ne S (wpAny_call (codeAny_call_builtin S.plain PySem.F.cmpEntry_ne (@PySem.W.check_slot (model prog w) _ _ s "object.__ne__" "object" "__ne__" (.ref x) [b] [] _ PySem.F.cmpKind_ne PySem.F.cmpSplit_ne sub (PySem.F.cmpArgs_ne _ _)
      (ne_entry (A := A.in1) hu1 X I hs hf (wpAny_mono h (fun v s' hv => ?_) fun _ _ e => e))))))
    obtain ⟨c, rfl, hq⟩ := hv
    first | exact ⟨c, rfl, wpAny_pure ⟨_, rfl, hq⟩⟩ | exact ⟨c, rfl, wpAny_pure (wpAny_pure ⟨_, rfl, hq⟩)⟩ | exact ⟨c, rfl, _, rfl, hq⟩
  unfold richCompare
  simp only [oneThing_ref]
  refine wpAny_holding (wpAny_bind (wpAny_cRoomFor hu ?_))
  refine wpAny_bind (I.type.here (wpAny_bind (hb.here ?_)))
  split
  · rename_i q
    have e : PySem.W.subIn K tb (.ref C) = some false := by
      rcases Bool.or_eq_true_iff.mp hn with e | e
      · rw [beq_iff_eq.mp e] at q; simp at q
      · exact beq_iff_eq.mp e
    refine wpAny_bind ((PySem.W.looks_subIn X e).here ?_)
    simp only [Bool.false_eq_true, if_false]
    refine wpAny_bind (wpAny_mono one (fun r s' z => ?_) fun _ _ e => e)
    obtain ⟨v, rfl, hq⟩ := z
    exact wpAny_pure hq
  · refine wpAny_bind (wpAny_pure ?_)
    simp only [Bool.false_eq_true, if_false]
    refine wpAny_bind (wpAny_mono one (fun r s' z => ?_) fun _ _ e => e)
    obtain ⟨v, rfl, hq⟩ := z
    exact wpAny_pure hq
end
section
variable {X : Cx} {C f : Addr} {fd : FuncData} {k : Nat} {ps : List Str} {sp : Sp}
/-- x != y, x an instance of a class with an own == and no own != -/
def neB (Q : VK) : VK := fun v H' => ∃ c, v = .bl c ∧ Q (.bl (!c)) H'
def rNeX (K : PySem.W.Frag) (C : Addr) (sp : Sp) : R2 := fun x y H Q => ∃ a dx fs t, x = .ref a ∧ H a = some (.ins C dx fs) ∧ TyX K H y t ∧ PySem.W.notFirst K C t = true ∧ sp ([x, y] ++ []) H (neB Q) E0
theorem o_neX (D : NeD X.K C) (M : Meth X.K C "__eq__" f) (F : FnOk X.prog X.w X.K X.mg X.base CX0 k f fd ps sp) (hr : Room (k + 1) X.A) (hb : Binds X.K fd ps []) : OpR X (compareOp .NotEq) (rNeX X.K C sp) := by
  intro pins s σ H x y v u Q I rx ry h
  obtain ⟨a, dx, fs, t, rfl, ha, ty, hn, q⟩ := h
  cases (show v = Value.ref a from rx)
  obtain ⟨mA, O, _⟩ := ins_get I.hok ha
  obtain ⟨od, J, _⟩ := O.look
  obtain ⟨P, Z, p, _⟩ := kit_of I ry ty
  show wpAny _ X.A (richCompare .NotEq (.ref a) u) _ _ s
  refine cmp_neD (tb := t) (hr.mono (by omega) : Room k X.A).units0 hr.in1.units0 I.kIn J (Z.ty _ _ I.kIn p) hn D M.at_ M.fn ?_
  refine wpAny_mono (run_below (us := [.ref a, u]) (vs := [.ref a, y]) (A := X.A.in1) ⟨hr.in1, rfl⟩ F hb I (.cons rfl (.cons ry .nil)) q) (fun w s' z => ?_) fun _ _ x => x
  obtain ⟨z', H', I', rz, c, e, qz⟩ := z
  subst e
  cases (show w = Value.bool c from rz)
  exact ⟨c, rfl, .bl (!c), H', I', rfl, qz⟩
end
section
variable {K : PySem.W.Frag} {H : Hp} {Q : VK} {y : V} {a C dx : Addr} {fs : List (Str × V)} {t : Value} {sp : Sp} {c : Bool}
theorem r_neX (e : H a = some (.ins C dx fs)) (ty : TyX K H y t) (nf : PySem.W.notFirst K C t = true) (h : sp ([.ref a, y] ++ []) H (neB Q) E0) : rNeX K C sp (.ref a) y H Q := ⟨a, dx, fs, t, rfl, e, ty, nf, h⟩
theorem r_neXB (h : Q (.bl (!c)) H) : neB Q (.bl c) H := ⟨c, rfl, h⟩
end
def optV : Option Int → V
  | none => .non
  | some i => .int i
theorem r_eqO {o p : Option Int} {H : Hp} {Q : VK} (h : Q (.bl (decide (o = p))) H) : rEq (optV o) (optV p) H Q := by
  have e : decide (optV o = optV p) = decide (o = p) := by
    cases o <;> cases p <;> simp [optV]
  refine ⟨by cases o <;> cases p <;> rfl, ?_⟩
  rw [e]
  exact h
theorem r_neO {o p : Option Int} {H : Hp} {Q : VK} (h : Q (.bl (!decide (o = p))) H) : rNe (optV o) (optV p) H Q := by
  have e : decide (optV o = optV p) = decide (o = p) := by
    cases o <;> cases p <;> simp [optV]
  refine ⟨by cases o <;> cases p <;> rfl, ?_⟩
  rw [e]
  exact h
def optS : Option Int → Str
  | none => "None"
  | some i => toString i
def optOk (o : Option Int) : Prop := ∀ i, o = some i → 0 ≤ i ∧ i ≤ 100000
theorem log_small {n : Nat} (h : n ≤ 100000) : n.log2 < 1920 := by
  by_cases e : n = 0
  · subst e; decide
  · rw [Nat.log2_lt e]
    exact Nat.lt_of_le_of_lt h (Nat.lt_of_lt_of_le (by decide : 100000 < 2 ^ 17) (Nat.pow_le_pow_right (by decide) (by decide)))
theorem optOk.log {i : Int} (h : optOk (some i)) : i.natAbs.log2 < 1920 := log_small (by have := h i rfl; omega)
theorem optOk.len {o : Option Int} (h : optOk o) : (optS o).length ≤ 100 := by
  cases o with
  | none => decide +kernel
  | some i =>
    have h1 := h i rfl
    have e := int_text_length_le10 (a := i) (k := 6) (by decide) (by omega)
    show (Str.ofString (toString i)).length ≤ 100
    rw [PySem.ofString_length]
    omega
theorem r_neP {K : PySem.W.Frag} {x y : V} {H : Hp} {Q : VK} {d e : PyData} (hd : Dp K H x d) (he : Dp K H y e) (sd : SeqAt.shaped d = true) (se : SeqAt.shaped e = true) (h : Q (.bl (!PyData.eqv d e)) H) : L2.rNeD K x y H Q := ⟨d, e, hd, he, sd, se, h⟩
/-- str of nothing or an int -/
def rStrO : List V → Hp → VK → Prop := fun xs H Q => ∃ o : Option Int, xs = [optV o] ∧ (∀ i, o = some i → i.natAbs.log2 < 1920) ∧ Q (.str (optS o)) H
theorem c_strOpt {X : Cx} : CallR X (.type "str") rStrO := by
  intro pins s σ H xs us Q I r h
  obtain ⟨o, rfl, hz, q⟩ := h
  cases o with
  | none =>
    obtain ⟨u, rfl, ru⟩ := vals1 r
    cases (show u = Value.none from ru)
    exact PySem.P.str_of_none ⟨.str _, H, I.tok _, ⟨_, rfl⟩, q⟩
  | some i =>
    obtain ⟨u, rfl, t, rfl⟩ := vals1 r
    exact PySem.P.str_of_int (hz i rfl) ⟨.str _, H, I.tok _, ⟨_, rfl⟩, q⟩
theorem r_strOpt {o : Option Int} {H : Hp} {Q : VK} (h : ∀ i, o = some i → i.natAbs.log2 < 1920) (q : Q (.str (optS o)) H) : rStrO [optV o] H Q := ⟨o, rfl, h, q⟩
/-- {x!r}: nothing or an int -/
def foP (Q : VK) : VK := fun x H1 => ∃ o : Option Int, x = optV o ∧ (∀ i, o = some i → i.natAbs.log2 < 1920) ∧ Q (.str (optS o)) H1
def tFmtRO (te : TE) : TE := fun σ H Q => te σ H (foP Q)
theorem pe_fmtRO {X : Cx} {e : Expr} {te : TE} {pos : Pos} (he : PE X e te) : PE X (.FormattedValue e 114 none pos) (tFmtRO te) := by
  refine ⟨fun pins s σ H Q I h => ?_⟩
  refine wpAny_FormattedValue_repr (thn (he.run pins s σ H _ I h) fun v s1 hv => ?_)
  obtain ⟨x, H1, I1, r1, o, rfl, hz, q⟩ := hv
  cases o with
  | none =>
    cases (show v = Value.none from r1)
    exact pyReprObj_none (wpAny_formatField_str ⟨.str "None", H1, I1.tok _, ⟨_, rfl⟩, q⟩ ⟨.str "None", H1, I1.tok _, ⟨_, rfl⟩, q⟩ (by decide))
  | some i =>
    obtain ⟨t, rfl⟩ := r1
    exact pyReprObj_int (hz i rfl) (wpAny_formatField_str ⟨.str (toString i), H1, I1.tok _, ⟨_, rfl⟩, q⟩ ⟨.str (toString i), H1, I1.tok _, ⟨_, rfl⟩, q⟩ (int_text_fits (hz i rfl)))
theorem r_fmtRO {σ : L2.St} {H : Hp} {Q : VK} {te : TE} (h : te σ H (foP Q)) : tFmtRO te σ H Q := h
theorem r_foP {o : Option Int} {H : Hp} {Q : VK} (h : ∀ i, o = some i → i.natAbs.log2 < 1920) (q : Q (.str (optS o)) H) : foP Q (optV o) H := ⟨o, rfl, h, q⟩
end Z
local macro_rules | `(tactic| walk_at "call") => `(tactic| first
  | ((with_reducible refine' Z.r_neX ?e ?ty ?nf ?_); (case e => walk_at "hp"); (case ty => walk_at "ty"); (case nf => walk_at "nf"))
  | with_reducible refine Z.r_neXB ?_
  | ((with_reducible refine' Z.r_lenT ?e ?_); (case e => exact SqT.of (by walk_at "hp")))
  | with_reducible refine Z.r_fmtRO ?_)

/-! results of answers -/
inductive Res where
  | tru (b : Bool) | val (t : Tag) | mean (t : Tag) (i : Int) | told (o : Option Int)
  deriving DecidableEq
def RepR (C D : Addr) (H : Hp) (x : V) : Res → Prop
  | .tru b => x = .bl b
  | .val t => Rep C H x t
  | .mean t i => ∃ p y, x = .ref p ∧ H p = some (.tup [y, .int i]) ∧ Rep C H y t
  | .told o => ∃ a dx, x = .ref a ∧ H a = some (.ins D dx [("place", Z.optV o)])
theorem RepR.same {C D : Addr} {H H' : Hp} {x : V} {r : Res} (e : Same H H') (h : RepR C D H x r) : RepR C D H' x r := by
  cases r with
  | tru b => exact h
  | val t => exact Rep.same e h
  | mean t i =>
    obtain ⟨p, y, h1, h2, h3⟩ := h
    exact ⟨p, y, h1, e _ _ h2, h3.same e⟩
  | told o =>
    obtain ⟨a, dx, h1, h2⟩ := h
    exact ⟨a, dx, h1, e _ _ h2⟩
def yn : Bool → Str
  | true => "yes"
  | false => "no"
def ResAt (H : Hp) (p : Addr) : Res → Prop
  | .tru b => H p = some (.tup [.str "truth", .str (yn b)])
  | .val t => ∃ q, H p = some (.tup [.str "value", .ref q]) ∧ TagAt H q t
  | .mean t i => ∃ q, H p = some (.tup [.str "mean", .ref q, .int i]) ∧ TagAt H q t
  | .told o => H p = some (.tup [.str "told", Z.optV o]) ∧ Z.optOk o
def resN : Res → Str
  | .tru _ => "truth"
  | .val _ => "value"
  | .mean _ _ => "mean"
  | .told _ => "told"
def resD : Res → PyData
  | .tru b => .tuple [.str "truth", .str (yn b)]
  | .val t => .tuple [.str "value", tagD t]
  | .mean t i => .tuple [.str "mean", tagD t, .int i]
  | .told none => .tuple [.str "told", .none]
  | .told (some i) => .tuple [.str "told", .int i]
theorem ResAt.same {H H' : Hp} {p : Addr} {r : Res} (e : Same H H') (h : ResAt H p r) : ResAt H' p r := by
  cases r with
  | tru b => exact e _ _ h
  | val t => obtain ⟨q, h1, h2⟩ := h; exact ⟨q, e _ _ h1, h2.same e⟩
  | mean t i => obtain ⟨q, h1, h2⟩ := h; exact ⟨q, e _ _ h1, h2.same e⟩
  | told o => exact ⟨e _ _ h.1, h.2⟩
theorem ResAt.but {H H' : Hp} {p b : Addr} {r : Res} {xs : List V} (e : Z.But b H H') (hb : H b = some (.lst xs)) (h : ResAt H p r) : ResAt H' p r := by
  cases r with
  | tru t => exact e _ _ (ne_of h hb (by intro z; cases z)) h
  | val t => obtain ⟨q, h1, h2⟩ := h; exact ⟨q, e _ _ (ne_of h1 hb (by intro z; cases z)) h1, h2.but e (h2.ne hb)⟩
  | mean t i => obtain ⟨q, h1, h2⟩ := h; exact ⟨q, e _ _ (ne_of h1 hb (by intro z; cases z)) h1, h2.but e (h2.ne hb)⟩
  | told o => exact ⟨e _ _ (ne_of h.1 hb (by intro z; cases z)) h.1, h.2⟩
theorem ResAt.bag {H H' : Hp} {p b : Addr} {r : Res} {n : Nat} (e : Z.But b H H') (g : Bag H b n) (h : ResAt H p r) : ResAt H' p r := by
  obtain ⟨_, _, _, hb, _⟩ := g
  exact h.but e hb
theorem ResAt.head {K : PySem.W.Frag} {H : Hp} {p : Addr} {r : Res} (h : ResAt H p r) : ∃ xs, SqT K H p xs ∧ atI xs 0 = some (.str (resN r)) := by
  cases r with
  | tru b => exact ⟨_, SqT.of h, rfl⟩
  | val t => obtain ⟨q, h1, h2⟩ := h; exact ⟨_, SqT.of h1, rfl⟩
  | mean t i => obtain ⟨q, h1, h2⟩ := h; exact ⟨_, SqT.of h1, rfl⟩
  | told o => exact ⟨_, SqT.of h.1, rfl⟩
theorem ResAt.dp {K : PySem.W.Frag} {H : Hp} {p : Addr} {r : Res} (h : ResAt H p r) : Dp K H (.ref p) (resD r) := by
  cases r with
  | tru b => exact .tup (SqT.of h) (.cons (.str _) (.cons (.str _) .nil))
  | val t => obtain ⟨q, h1, h2⟩ := h; exact .tup (SqT.of h1) (.cons (.str _) (.cons h2.dp .nil))
  | mean t i => obtain ⟨q, h1, h2⟩ := h; exact .tup (SqT.of h1) (.cons (.str _) (.cons h2.dp (.cons (.int _) .nil)))
  | told o =>
    cases o with
    | none => exact .tup (SqT.of h.1) (.cons (.str _) (.cons .non .nil))
    | some i => exact .tup (SqT.of h.1) (.cons (.str _) (.cons (.int _) .nil))
def ResOk : Res → Prop
  | .val t => t.ok
  | .mean t _ => t.ok
  | _ => True
theorem ResAt.ok {H : Hp} {p : Addr} {r : Res} (h : ResAt H p r) : ResOk r := by
  cases r with
  | tru b => trivial
  | val t => obtain ⟨q, h1, h2⟩ := h; exact h2.2
  | mean t i => obtain ⟨q, h1, h2⟩ := h; exact h2.2
  | told o => trivial
theorem res_shaped {r : Res} (h : ResOk r) : SeqAt.shaped (resD r) = true := by
  have e1 : PyData.strOk "truth" = true := by decide +kernel
  have e2 : PyData.strOk "value" = true := by decide +kernel
  have e3 : PyData.strOk "mean" = true := by decide +kernel
  have e4 : PyData.strOk "told" = true := by decide +kernel
  have e5 : PyData.strOk "nothing" = true := by decide +kernel
  have e6 : PyData.strOk "mark" = true := by decide +kernel
  have e7 : PyData.strOk "number" = true := by decide +kernel
  have e8 : PyData.strOk "yes" = true := by decide +kernel
  have e9 : PyData.strOk "no" = true := by decide +kernel
  cases r with
  | tru b => cases b <;> simp [SeqAt.shaped, resD, yn, PyData.canLay0, PyData.canLayAll0, PyData.depth, PyData.depthAll, e1, e8, e9]
  | val t =>
    cases t with
    | non => simp [SeqAt.shaped, resD, tagD, PyData.canLay0, PyData.canLayAll0, PyData.depth, PyData.depthAll, e2, e5]
    | mark n => simp [SeqAt.shaped, resD, tagD, PyData.canLay0, PyData.canLayAll0, PyData.depth, PyData.depthAll, e2, e6, Word.ok h]
    | num i => simp [SeqAt.shaped, resD, tagD, PyData.canLay0, PyData.canLayAll0, PyData.depth, PyData.depthAll, e2, e7]
  | mean t i =>
    cases t with
    | non => simp [SeqAt.shaped, resD, tagD, PyData.canLay0, PyData.canLayAll0, PyData.depth, PyData.depthAll, e3, e5]
    | mark n => simp [SeqAt.shaped, resD, tagD, PyData.canLay0, PyData.canLayAll0, PyData.depth, PyData.depthAll, e3, e6, Word.ok h]
    | num j => simp [SeqAt.shaped, resD, tagD, PyData.canLay0, PyData.canLayAll0, PyData.depth, PyData.depthAll, e3, e7]
  | told o => cases o <;> simp [SeqAt.shaped, resD, PyData.canLay0, PyData.canLayAll0, PyData.depth, PyData.depthAll, e4]
theorem yn_eq {a b : Bool} : (yn a == yn b) = decide (a = b) := by
  cases a <;> cases b <;> decide +kernel
def resX : Res → List PyData
  | .tru b => [.str (yn b)]
  | .val t => [tagD t]
  | .mean t i => [tagD t, .int i]
  | .told none => [.none]
  | .told (some i) => [.int i]
theorem res_split (r : Res) : resD r = .tuple (.str (resN r) :: resX r) := by
  cases r with
  | tru b => rfl
  | val t => rfl
  | mean t i => rfl
  | told o => cases o <;> rfl
theorem eqv_head {x y : Str} {xs ys : List PyData} : PyData.eqv (.tuple (.str x :: xs)) (.tuple (.str y :: ys)) = ((x == y) && PyData.eqvAll xs ys) := by
  simp [PyData.eqv, PyData.eqvAll]
theorem eqv_one {d e : PyData} : PyData.eqvAll [d] [e] = PyData.eqv d e := by simp [PyData.eqvAll]
theorem eqv_two {d e f g : PyData} : PyData.eqvAll [d, f] [e, g] = (PyData.eqv d e && PyData.eqv f g) := by simp [PyData.eqvAll]
theorem eqv_int {i j : Int} : PyData.eqv (.int i) (.int j) = decide (i = j) := by
  show (i == j) = _
  by_cases h : i = j <;> simp [h]
theorem res_off {r s : Res} (h : resN r ≠ resN s) : PyData.eqv (resD r) (resD s) = decide (r = s) := by
  have e : r ≠ s := fun q => h (by rw [q])
  rw [res_split, res_split, eqv_head, beq_false_of_ne h, Bool.false_and, decide_eq_false e]
theorem res_on {r s : Res} (h : resN r = resN s) (k : PyData.eqvAll (resX r) (resX s) = decide (r = s)) : PyData.eqv (resD r) (resD s) = decide (r = s) := by
  rw [res_split, res_split, eqv_head, h, beq_self_eq_true, Bool.true_and, k]
theorem res_eqv {r s : Res} : PyData.eqv (resD r) (resD s) = decide (r = s) := by
  have a1 : ("truth" : Str) ≠ "value" := by decide +kernel
  have a2 : ("truth" : Str) ≠ "mean" := by decide +kernel
  have a3 : ("truth" : Str) ≠ "told" := by decide +kernel
  have a4 : ("value" : Str) ≠ "mean" := by decide +kernel
  have a5 : ("value" : Str) ≠ "told" := by decide +kernel
  have a6 : ("mean" : Str) ≠ "told" := by decide +kernel
  cases r with
  | tru a =>
    cases s with
    | tru b =>
      refine res_on rfl ?_
      show PyData.eqvAll [.str (yn a)] [.str (yn b)] = _
      rw [eqv_one]
      show (yn a == yn b) = _
      rw [yn_eq]
      cases a <;> cases b <;> rfl
    | val t => exact res_off a1
    | mean t i => exact res_off a2
    | told o => exact res_off a3
  | val a =>
    cases s with
    | tru b => exact res_off a1.symm
    | val t =>
      refine res_on rfl ?_
      show PyData.eqvAll [tagD a] [tagD t] = _
      rw [eqv_one, tag_eqv]
      by_cases h : a = t <;> simp [h]
    | mean t i => exact res_off a4
    | told o => exact res_off a5
  | mean a j =>
    cases s with
    | tru b => exact res_off a2.symm
    | val t => exact res_off a4.symm
    | mean t i =>
      refine res_on rfl ?_
      show PyData.eqvAll [tagD a, .int j] [tagD t, .int i] = _
      rw [eqv_two, tag_eqv, eqv_int]
      by_cases h : a = t <;> by_cases k : j = i <;> simp [h, k]
    | told o => exact res_off a6
  | told p =>
    cases s with
    | tru b => exact res_off a3.symm
    | val t => exact res_off a5.symm
    | mean t i => exact res_off a6.symm
    | told o =>
      refine res_on rfl ?_
      cases p <;> cases o
      · rfl
      · rfl
      · rfl
      · rename_i i j
        show PyData.eqvAll [.int i] [.int j] = _
        rw [eqv_one, eqv_int]
        by_cases h : i = j <;> simp [h]
theorem repr_ty {K : PySem.W.Frag} {mg : Str → Option Value} (T : Top K mg) {H : Hp} {y : V} {r : Res} (h : RepR T.C_Unnumbered T.C_Told H y r) : ∃ t, TyX K H y t ∧ PySem.W.notFirst K T.C_Told t = true := by
  cases r with
  | tru b => cases h; exact ⟨_, by walk_at "ty", by walk_at "nf"⟩
  | val t =>
    cases t with
    | non => cases h; exact ⟨_, by walk_at "ty", by walk_at "nf"⟩
    | num i => cases h; exact ⟨_, by walk_at "ty", by walk_at "nf"⟩
    | mark n => obtain ⟨a, dx, rfl, ha⟩ := h; exact ⟨_, by walk_at "ty", by walk_at "nf"⟩
  | mean t i => obtain ⟨p, y, rfl, hp, _⟩ := h; exact ⟨_, by walk_at "ty", by walk_at "nf"⟩
  | told o => obtain ⟨a, dx, rfl, ha⟩ := h; exact ⟨_, by walk_at "ty", by walk_at "nf"⟩
section
variable {P : Program} {w : World} {K : PySem.W.Frag} {mg : Str → Option Value} {base : Heap}
theorem sc_law_draw : FnScope ["_law_bag_here", "_law_many", "_law_first", "_law_second", "_law_digit"] ["_law_bag_here", "_law_many"] (defScope s_law_draw) := ⟨rfl, rfl, rfl, by decide +kernel, rfl, by decide +kernel, by decide +kernel⟩
def sp_law_draw : Sp := fun vs H Q _ => ∃ (b : Addr) (m : Int) (n : Nat), vs = [.ref b, .int m] ∧ Bag H b n ∧ 0 < m ∧ m < 1073741824 ∧ n < 1073741824 ∧
  ∀ r H', 0 ≤ r → r < m → Z.But b H H' → Bag H' b (n + 1) → Q (.int r) H'
theorem ok_law_draw (T : Top K mg) : FnOk P w K mg base CX0 1 T.f_law_draw T.fd_law_draw ["_law_bag_here", "_law_many"] sp_law_draw := by
  refine T.F_law_draw.ok sc_law_draw (fun vs H Q E h => ?_) (fun cdv A outer s H vs Q E hr h => ?_)
  · obtain ⟨b, m, n, rfl, _⟩ := h
    rfl
  · obtain ⟨b, m, n, rfl, ⟨g, sd, k, hb, hg, hs0, hs1, hk0, hk1⟩, hm0, hm1, hn, q⟩ := h
    refine ⟨_, pss_cons (ps_if (pt_cmpR op_gt (pe_ix (Z.ix_seqG (K := K) rfl) (pv 0) (pe_int) (fun _ _ => rfl)) (pe_int) (nomark _)) (pss_cons (ps_set (i := 4) sc_law_draw.nd rfl (.inl rfl) (pe_op op_mod (pe_callTy Z.c_int1 (by rfl) T.z_int (by decide +kernel) (pa_cons (pe_ix (Z.ix_seqG (K := K) rfl) (pv 0) (pe_int) (fun _ _ => rfl)) (pa_nil))) (pv 1))) (pss_cons (ps_asg (pe_op op_fdiv (pe_ix (Z.ix_seqG (K := K) rfl) (pv 0) (pe_int) (fun _ _ => rfl)) (pv 1)) (pg_sub (pv 0) (pe_int) set_list)) (pss_one (ps_ret (pv 4))))) (pss_nil)) (pss_cons (ps_asg (pe_op op_add (pe_ix (Z.ix_seqG (K := K) rfl) (pv 0) (pe_int) (fun _ _ => rfl)) (pe_int)) (pg_sub (pv 0) (pe_int) set_list)) (pss_cons (ps_set (i := 2) sc_law_draw.nd rfl (.inl rfl) (pe_op op_mod (pe_callTy Z.c_int1 (by rfl) T.z_int (by decide +kernel) (pa_cons (pe_op op_add (pe_op op_pow (pe_op op_add (pe_ix (Z.ix_seqG (K := K) rfl) (pv 0) (pe_int) (fun _ _ => rfl)) (pe_op op_mul (pe_int) (pe_ix (Z.ix_seqG (K := K) rfl) (pv 0) (pe_int) (fun _ _ => rfl)))) (pe_int)) (pe_op op_mul (pe_ix (Z.ix_seqG (K := K) rfl) (pv 0) (pe_int) (fun _ _ => rfl)) (pe_int))) (pa_nil))) (pe_int))) (pss_cons (ps_set (i := 3) sc_law_draw.nd rfl (.inl rfl) (pe_op op_mod (pe_callTy Z.c_int1 (by rfl) T.z_int (by decide +kernel) (pa_cons (pe_op op_add (pe_op op_mul (pv 2) (pv 2)) (pe_op op_mul (pe_int) (pe_ix (Z.ix_seqG (K := K) rfl) (pv 0) (pe_int) (fun _ _ => rfl)))) (pa_nil))) (pe_int))) (pss_one (ps_ret (pe_op op_mod (pe_callTy Z.c_int1 (by rfl) T.z_int (by decide +kernel) (pa_cons (pe_op op_fdiv (pv 3) (pe_int)) (pa_nil))) (pv 1))))))), ?_⟩
    refine Z.r_start (σ' := [some (.ref b), some (.int m), none, none, none]) rfl ?_
    walk_at "go"
    refine Z.ways (fun c => ?_) (fun c => ?_)
    · walk_at "go"
      intro H1 b1 h1
      walk_at "go"
      refine q _ _ ?_ ?_ b1 ⟨_, _, _, h1, ?_, hs0, hs1, hk0, ?_⟩
      · exact Int.emod_nonneg _ (by omega)
      · exact Int.emod_lt_of_pos _ hm0
      · exact Int.ediv_nonneg hg (by omega)
      · omega
    · walk_at "go"
      intro H1 b1 h1
      walk_at "go"
      refine q _ _ (Int.emod_nonneg _ (by omega)) (Int.emod_lt_of_pos _ hm0) b1 ⟨_, _, _, h1, hg, hs0, hs1, by omega, by omega⟩
theorem sc_law_bag : FnScope ["_law_script", "_law_at", "_law_cell", "_law_great"] ["_law_script", "_law_at"] (defScope s_law_bag) := ⟨rfl, rfl, rfl, by decide +kernel, rfl, by decide +kernel, by decide +kernel⟩
def sp_law_bag (K : PySem.W.Frag) : Sp := fun vs H Q _ => ∃ (a : Addr) (ns : List Int) (at_ : Nat), vs = [.ref a, .int at_] ∧ SqL K H a (ns.map V.int) ∧ at_ ≤ 100 ∧
  ∀ p H', Same H H' → H p = none → Bag H' p 0 → Q (.ref p) H'
theorem ok_law_bag (T : Top K mg) : FnOk P w K mg base CX0 1 T.f_law_bag T.fd_law_bag ["_law_script", "_law_at"] (sp_law_bag K) := by
  refine T.F_law_bag.ok sc_law_bag (fun vs H Q E h => ?_) (fun cdv A outer s H vs Q E hr h => ?_)
  · obtain ⟨a, ns, at_, rfl, _⟩ := h
    rfl
  · obtain ⟨a, ns, at_, rfl, hS, hat, q⟩ := h
    refine ⟨_, pss_cons (ps_set (i := 2) sc_law_bag.nd rfl (.inl rfl) (pe_ifExp (pt_cmpR op_lt (pv 1) (pe_callB Z.c_len (by rfl) T.z_len (by decide +kernel) (pa_cons (pv 0) (pa_nil))) (nomark _)) (pe_ix (Z.ix_seqG (K := K) rfl) (pv 0) (pv 1) (fun _ _ => rfl)) (pe_int))) (pss_cons (ps_set (i := 3) sc_law_bag.nd rfl (.inl rfl) (pe_ifExp (pt_cmpR op_ge (pe_callB Z.c_abs (by rfl) T.z_abs (by decide +kernel) (pa_cons (pv 2) (pa_nil))) (pe_op op_pow (pe_int) (pe_int)) (nomark _)) (pe_callB Z.c_abs (by rfl) T.z_abs (by decide +kernel) (pa_cons (pv 2) (pa_nil))) (pe_int))) (pss_one (ps_ret (pe_lst (pa_cons (pv 3) (pa_cons (pe_op op_add (pe_op op_add (pe_op op_mul (pe_op op_mod (pe_callTy Z.c_int1 (by rfl) T.z_int (by decide +kernel) (pa_cons (pv 2) (pa_nil))) (pe_int)) (pe_int)) (pe_op op_mul (pe_int) (pv 1))) (pe_int)) (pa_cons (pe_int) (pa_nil)))))))), ?_⟩
    refine Z.r_start (σ' := [some (.ref a), some (.int at_), none, none]) rfl ?_
    walk_at "go"
    refine Z.join (fun v H' => (∃ c : Int, v = .int c) ∧ H' = H) (fun c M k => ?_) (fun c M k => ?_) (fun v H' hv => ?_)
    · obtain ⟨z, hz⟩ := Z.get_int (ns := ns) (i := at_) (by rw [List.length_map] at c; omega)
      refine' Z.r_op ?_
      walk_at "go"
      exact k _ _ ⟨⟨z, rfl⟩, rfl⟩
    · exact k _ _ ⟨⟨0, rfl⟩, rfl⟩
    · obtain ⟨⟨z, rfl⟩, rfl⟩ := hv
      walk_at "go"
      refine Z.join (fun v H'' => (∃ c : Int, v = .int c ∧ 0 ≤ c) ∧ H'' = H') (fun c M k => ?_) (fun c M k => ?_) (fun v H'' hv => ?_)
      · walk_at "go"
        refine k _ _ ⟨⟨_, rfl, ?_⟩, rfl⟩
        split <;> omega
      · exact k _ _ ⟨⟨0, rfl, Int.le_refl 0⟩, rfl⟩
      · obtain ⟨⟨y, rfl, hy⟩, rfl⟩ := hv
        walk_at "go"
        intro p H1 np s1 hp
        exact q _ _ s1 np ⟨_, _, _, hp, hy, by omega, by omega, Int.le_refl 0, Int.le_refl _⟩
theorem k_law_bag {K : PySem.W.Frag} {a : Addr} {ns : List Int} {at_ : Nat} {H : Hp} {Q : VK} {E : XK} (hS : SqL K H a (ns.map V.int)) (h : at_ ≤ 100) (q : ∀ p H', Same H H' → H p = none → Bag H' p 0 → Q (.ref p) H') :
    sp_law_bag K ([.ref a, .int at_] ++ []) H Q E := ⟨a, ns, at_, rfl, hS, h, q⟩
theorem sc_law_number : FnScope ["_law_bag_here", "_law_road", "_law_number_here", "_law_turn"] ["_law_bag_here"] (defScope s_law_number) := ⟨rfl, rfl, rfl, by decide +kernel, rfl, by decide +kernel, by decide +kernel⟩
def sp_law_number : Sp := fun vs H Q _ => ∃ (b : Addr) (n : Nat), vs = [.ref b] ∧ Bag H b n ∧ n < 1073741000 ∧ ∀ (i : Int) (H' : Hp), i.natAbs < 10 ^ 246 → Z.But b H H' → Bag H' b (n + 60) → Q (.int i) H'
theorem ok_law_number (T : Top K mg) : FnOk P w K mg base CX0 2 T.f_law_number T.fd_law_number ["_law_bag_here"] sp_law_number := by
  refine T.F_law_number.ok sc_law_number (fun vs H Q E h => ?_) (fun cdv A outer s H vs Q E hr h => ?_)
  · obtain ⟨b, n, rfl, _⟩ := h
    rfl
  · obtain ⟨b, n, rfl, hb, hn, q⟩ := h
    refine ⟨_, pss_cons (ps_set (i := 1) sc_law_number.nd rfl (.inl rfl) (pe_call (ok_law_draw T) (hr.mono (by decide)) (by rfl) T.mg_law_draw T.F_law_draw.kp T.B_law_draw .nil pass0 (pa_cons (pv 0) (pa_cons (pe_int) (pa_nil))))) (pss_cons (ps_if (pt_cmpR op_eq (pv 1) (pe_int) (nomark _)) (pss_one (ps_ret (pe_int))) (pss_nil)) (pss_cons (ps_if (pt_cmpR op_lt (pv 1) (pe_int) (nomark _)) (pss_one (ps_ret (pe_op op_sub (pe_call (ok_law_draw T) (hr.mono (by decide)) (by rfl) T.mg_law_draw T.F_law_draw.kp T.B_law_draw .nil pass0 (pa_cons (pv 0) (pa_cons (pe_int) (pa_nil)))) (pe_int)))) (pss_nil)) (pss_cons (ps_if (pt_cmpR op_eq (pv 1) (pe_int) (nomark _)) (pss_one (ps_ret (pe_op op_sub (pe_call (ok_law_draw T) (hr.mono (by decide)) (by rfl) T.mg_law_draw T.F_law_draw.kp T.B_law_draw .nil pass0 (pa_cons (pv 0) (pa_cons (pe_int) (pa_nil)))) (pe_int)))) (pss_nil)) (pss_cons (ps_set (i := 2) sc_law_number.nd rfl (.inl rfl) (pe_op op_add (pe_int) (pe_call (ok_law_draw T) (hr.mono (by decide)) (by rfl) T.mg_law_draw T.F_law_draw.kp T.B_law_draw .nil pass0 (pa_cons (pv 0) (pa_cons (pe_int) (pa_nil)))))) (pss_cons (ps_for PassesOwn.never rfl (pi_range1 (by rfl) T.z_range (pa_cons (pe_call (ok_law_draw T) (hr.mono (by decide)) (by rfl) T.mg_law_draw T.F_law_draw.kp T.B_law_draw .nil pass0 (pa_cons (pv 0) (pa_cons (pe_int) (pa_nil)))) (pa_nil))) (pg_name (i := 3) sc_law_number.nd rfl (.inl rfl)) (pss_one (ps_set (i := 2) sc_law_number.nd rfl (.inl rfl) (pe_op op_add (pe_op op_mul (pv 2) (pe_int)) (pe_call (ok_law_draw T) (hr.mono (by decide)) (by rfl) T.mg_law_draw T.F_law_draw.kp T.B_law_draw .nil pass0 (pa_cons (pv 0) (pa_cons (pe_int) (pa_nil)))))))) (pss_one (ps_ret (pe_ifExp (pt_cmpR op_eq (pe_call (ok_law_draw T) (hr.mono (by decide)) (by rfl) T.mg_law_draw T.F_law_draw.kp T.B_law_draw .nil pass0 (pa_cons (pv 0) (pa_cons (pe_int) (pa_nil)))) (pe_int) (nomark _)) (pv 2) (pe_op op_sub (pe_int) (pv 2)))))))))), ?_⟩
    refine Z.r_start (σ' := [some (.ref b), none, none, none]) rfl ?_
    walk_at "go"
    walk_at "draw"
    intro r H1 r0 r1 t1 g1
    walk_at "go"
    refine Z.ways (fun c => ?_) (fun c => ?_)
    · walk_at "go"
      exact q 0 H1 (by decide) t1 (g1.mono (by omega))
    walk_at "go"
    refine Z.ways (fun c2 => ?_) (fun c2 => ?_)
    · walk_at "go"
      walk_at "draw"
      intro r2 H2 r20 r21 t2 g2
      walk_at "go"
      exact q _ _ (Nat.lt_of_lt_of_le (show (r2 - 4).natAbs < 10000 by omega) (by decide)) (t1.trans t2) (g2.mono (by omega))
    walk_at "go"
    refine Z.ways (fun c3 => ?_) (fun c3 => ?_)
    · walk_at "go"
      walk_at "draw"
      intro r2 H2 r20 r21 t2 g2
      walk_at "go"
      exact q _ _ (Nat.lt_of_lt_of_le (show (r2 - 2000).natAbs < 10000 by omega) (by decide)) (t1.trans t2) (g2.mono (by omega))
    walk_at "go"
    walk_at "draw"
    intro x H2 x0 x1 t2 g2
    walk_at "go"
    walk_at "draw"
    intro j H3 j0 j1 t3 g3
    walk_at "go"
    refine Z.r_rng j0 (by omega) (fun i σ' H' => ∃ (x : Int) (v : Option V), σ' = [some (.ref b), some (.int r), some (.int x), v] ∧ 0 < x ∧ x < 2 * 10 ^ (6 * (i + 1)) ∧ Z.But b H H' ∧ Bag H' b (n + 3 + i)) ?_ ?_ ?_
    · exact ⟨_, _, rfl, by omega, by omega, (t1.trans t2).trans t3, g3⟩
    · rintro i σ' H' hi ⟨x, v, rfl, hx0, hx1, t, gb⟩
      walk_at "go"
      walk_at "draw"
      intro d H4 d0 d1 t4 g4
      walk_at "go"
      refine ⟨_, _, rfl, by omega, ?_, t.trans t4, g4⟩
      have e : (10 : Int) ^ (6 * (i + 1 + 1)) = 10 ^ (6 * (i + 1)) * 1000000 := by
        rw [show 6 * (i + 1 + 1) = 6 * (i + 1) + 6 by omega, Int.pow_add]
        rfl
      rw [e]
      omega
    · rintro σ' H' ⟨x, v, rfl, hx0, hx1, t, gb⟩
      have hb2 : x < 10 ^ 246 := by
        have h2 : (10 : Int) ^ (6 * (j.toNat + 1)) ≤ 10 ^ 240 := by
          exact Z.pow10_le (by omega)
        have e : (10 : Int) ^ 246 = 10 ^ 240 * 1000000 := by decide
        omega
      have hb3 : x.natAbs < 10 ^ 246 := by
        have : ((x.natAbs : Nat) : Int) < ((10 ^ 246 : Nat) : Int) := by
          rw [Int.natAbs_of_nonneg (by omega)]
          exact hb2
        omega
      walk_at "go"
      walk_at "draw"
      intro d H4 d0 d1 t4 g4
      walk_at "go"
      refine Z.ways (fun c => ?_) (fun c => ?_)
      · walk_at "go"
        exact q _ _ hb3 (t.trans t4) (g4.mono (by omega))
      · walk_at "go"
        refine q _ _ ?_ (t.trans t4) (g4.mono (by omega))
        rw [Int.zero_sub, Int.natAbs_neg]
        exact hb3
theorem k_law_number {b : Addr} {n : Nat} {H : Hp} {Q : VK} {E : XK} (bg : Bag H b n) (hn : n < 1073741000) (q : ∀ (i : Int) (H' : Hp), i.natAbs < 10 ^ 246 → Z.But b H H' → Bag H' b (n + 60) → Q (.int i) H') :
    sp_law_number ([.ref b] ++ []) H Q E := ⟨b, n, rfl, bg, hn, q⟩
theorem sc_law_word : FnScope ["_law_bag_here", "_law_word_here", "_law_turn"] ["_law_bag_here"] (defScope s_law_word) := ⟨rfl, rfl, rfl, by decide +kernel, rfl, by decide +kernel, by decide +kernel⟩
def sp_law_word : Sp := fun vs H Q _ => ∃ (b : Addr) (n : Nat), vs = [.ref b] ∧ Bag H b n ∧ n < 1073741000 ∧ ∀ (x : Str) (H' : Hp), Word x → Z.But b H H' → Bag H' b (n + 60) → Q (.str x) H'
theorem ok_law_word (T : Top K mg) : FnOk P w K mg base CX0 2 T.f_law_word T.fd_law_word ["_law_bag_here"] sp_law_word := by
  refine T.F_law_word.ok sc_law_word (fun vs H Q E h => ?_) (fun cdv A outer s H vs Q E hr h => ?_)
  · obtain ⟨b, n, rfl, _⟩ := h
    rfl
  · obtain ⟨b, n, rfl, hb, hn, q⟩ := h
    refine ⟨_, pss_cons (ps_if (pt_cmpR op_eq (pe_call (ok_law_draw T) (hr.mono (by decide)) (by rfl) T.mg_law_draw T.F_law_draw.kp T.B_law_draw .nil pass0 (pa_cons (pv 0) (pa_cons (pe_int) (pa_nil)))) (pe_int) (nomark _)) (pss_one (ps_ret (pe_ix (Z.ix_seqG (K := K) rfl) (pe_lst (pa_cons (pe_str) (pa_cons (pe_str) (pa_cons (pe_str) (pa_cons (pe_str) (pa_nil)))))) (pe_call (ok_law_draw T) (hr.mono (by decide)) (by rfl) T.mg_law_draw T.F_law_draw.kp T.B_law_draw .nil pass0 (pa_cons (pv 0) (pa_cons (pe_int) (pa_nil)))) (fun _ _ => rfl)))) (pss_nil)) (pss_cons (ps_set (i := 1) sc_law_word.nd rfl (.inl rfl) (pe_str)) (pss_cons (ps_for PassesOwn.never rfl (pi_range1 (by rfl) T.z_range (pa_cons (pe_op op_add (pe_int) (pe_call (ok_law_draw T) (hr.mono (by decide)) (by rfl) T.mg_law_draw T.F_law_draw.kp T.B_law_draw .nil pass0 (pa_cons (pv 0) (pa_cons (pe_int) (pa_nil))))) (pa_nil))) (pg_name (i := 2) sc_law_word.nd rfl (.inl rfl)) (pss_one (ps_set (i := 1) sc_law_word.nd rfl (.inl rfl) (pe_op Z.o_addS (pv 1) (pe_ix (Z.ix_seqG (K := K) rfl) (pe_str) (pe_call (ok_law_draw T) (hr.mono (by decide)) (by rfl) T.mg_law_draw T.F_law_draw.kp T.B_law_draw .nil pass0 (pa_cons (pv 0) (pa_cons (pe_int) (pa_nil)))) (fun _ _ => rfl)))))) (pss_one (ps_ret (pv 1))))), ?_⟩
    refine Z.r_start (σ' := [some (.ref b), none, none]) rfl ?_
    walk_at "go"
    walk_at "draw"
    intro r H1 r0 r1 t1 g1
    walk_at "go"
    refine Z.ways (fun c => ?_) (fun c => ?_)
    · walk_at "go"
      intro p H2 np s1 hp
      have nb : p ≠ b := fun e => by
        obtain ⟨_, _, _, hb1, _⟩ := g1
        rw [e, hb1] at np; cases np
      walk_at "go"
      walk_at "draw"
      intro r2 H3 r20 r21 t2 g2
      have fin : ∀ x, Word x → Q (.str x) H3 := fun x hx => q x H3 hx ((t1.trans (Z.But.same s1)).trans t2) (g2.mono (by omega))
      rcases (show r2 = 0 ∨ r2 = 1 ∨ r2 = 2 ∨ r2 = 3 by omega) with rfl | rfl | rfl | rfl
      all_goals
        walk_at "go"
        exact fin _ ⟨by decide +kernel, by decide +kernel, by decide +kernel⟩
    walk_at "go"
    walk_at "draw"
    intro j H2 j0 j1 t2 g2
    walk_at "go"
    refine Z.r_rng (by omega) (by omega) (fun i σ' H' => ∃ (x : Str) (v : Option V), σ' = [some (.ref b), some (.str x), v] ∧ Wd i x ∧ Z.But b H H' ∧ Bag H' b (n + 2 + i)) ?_ ?_ ?_
    · exact ⟨_, _, rfl, ⟨rfl, by decide +kernel⟩, t1.trans t2, g2⟩
    · rintro i σ' H' hi ⟨x, v, rfl, hx, t, gb⟩
      walk_at "go"
      walk_at "draw"
      intro d H3 d0 d1 t3 g3
      obtain ⟨k, rfl⟩ := Int.eq_ofNat_of_zero_le d0
      obtain ⟨c, hc, c0, c1⟩ := Z.letters (n := k) (by omega)
      refine Z.r_ixS (by decide +kernel) (atI_nat hc) ?_
      refine Z.r_addS (Z.szle ?_) ?_
      · have := hx.1
        show x.length + 1 ≤ 1000
        omega
      walk_at "go"
      exact ⟨_, _, rfl, hx.add c0 c1, t.trans t3, g3⟩
    · rintro σ' H' ⟨x, v, rfl, hx, t, gb⟩
      walk_at "go"
      exact q x H' ⟨by have := hx.1; omega, by have := hx.1; omega, hx.2⟩ t (gb.mono (by omega))
theorem k_law_word {b : Addr} {n : Nat} {H : Hp} {Q : VK} {E : XK} (bg : Bag H b n) (hn : n < 1073741000) (q : ∀ (x : Str) (H' : Hp), Word x → Z.But b H H' → Bag H' b (n + 60) → Q (.str x) H') :
    sp_law_word ([.ref b] ++ []) H Q E := ⟨b, n, rfl, bg, hn, q⟩

theorem sc_is_number : FnScope ["thing"] ["thing"] (defScope s_is_number) := ⟨rfl, rfl, rfl, by decide +kernel, rfl, by decide +kernel, by decide +kernel⟩
def sp_is_number (K : PySem.W.Frag) : Sp := fun vs H Q _ => ∃ (x : V) (t : Value) (bi bb : Bool), vs = [x] ∧ TyX K H x t ∧ PySem.W.kitOne K t (.type "int") = some bi ∧ PySem.W.kitOne K t (.type "bool") = some bb ∧ Q (.bl (bi && !bb)) H
theorem ok_is_number (T : Top K mg) : FnOk P w K mg base CX0 1 T.f_is_number T.fd_is_number ["thing"] (sp_is_number K) := by
  refine T.F_is_number.ok sc_is_number (fun vs H Q E h => ?_) (fun cdv A outer s H vs Q E hr h => ?_)
  · obtain ⟨x, t, bi, bb, rfl, _⟩ := h
    rfl
  · obtain ⟨x, t, bi, bb, rfl, ty, ki, kb, q⟩ := h
    refine ⟨_, pss_one (ps_ret (pe_and (pe_callB (Z.c_isi (K := K) rfl) (by rfl) T.z_isinstance (by decide +kernel) (pa_cons (pv 0) (pa_cons (pe_bltn (v := .ty "int") (by rfl) T.z_int (by decide +kernel) rfl) (pa_nil)))) (pe_one (pe_not (pe_callB (Z.c_isi (K := K) rfl) (by rfl) T.z_isinstance (by decide +kernel) (pa_cons (pv 0) (pa_cons (pe_bltn (v := .ty "bool") (by rfl) T.z_bool (by decide +kernel) rfl) (pa_nil)))))))), ?_⟩
    refine Z.r_start (σ' := [some (x)]) rfl ?_
    walk_at "go"
    cases bi with
    | true => walk_at "go"; exact q
    | false => walk_at "go"; exact q
theorem k_is_number {x : V} {t : Value} {bi bb : Bool} {H : Hp} {Q : VK} {E : XK} (ty : TyX K H x t) (ki : PySem.W.kitOne K t (.type "int") = some bi) (kb : PySem.W.kitOne K t (.type "bool") = some bb) (q : Q (.bl (bi && !bb)) H) :
    sp_is_number K ([x] ++ []) H Q E := ⟨x, t, bi, bb, rfl, ty, ki, kb, q⟩
local macro_rules | `(tactic| walk_at "call") => `(tactic| ((with_reducible refine' k_is_number ?ty ?ki ?kb ?_); (case ty => walk_at "ty"); (case ki => walk_at "ki"); (case kb => walk_at "ki")))
theorem sc_Unnumbered___init : FnScope ["self", "name"] ["self", "name"] (defScope s_Unnumbered___init) := ⟨rfl, rfl, rfl, by decide +kernel, rfl, by decide +kernel, by decide +kernel⟩
def sp_Un (C : Addr) : Sp := fun vs H Q _ => ∃ (p dx : Addr) (n : Str), vs = [.ref p, .str n] ∧ H p = some (.ins C dx []) ∧ ∀ H', Z.But p H H' → H' p = some (.ins C dx [("name", .str n)]) → Q .non H'
theorem ok_Unnumbered___init (T : Top K mg) : FnOk P w K mg base CX0 1 T.f_Unnumbered___init T.fd_Unnumbered___init ["self", "name"] (sp_Un T.C_Unnumbered) := by
  refine T.F_Unnumbered___init.ok sc_Unnumbered___init (fun vs H Q E h => ?_) (fun cdv A outer s H vs Q E hr h => ?_)
  · obtain ⟨p, dx, n, rfl, _⟩ := h
    rfl
  · obtain ⟨p, dx, n, rfl, hp, q⟩ := h
    refine ⟨_, pss_one (ps_fld (pv 0) (pv 1) rfl), ?_⟩
    refine Z.r_start (σ' := [some (.ref p), some (.str n)]) rfl ?_
    walk_at "go"
    intro H1 b1 h1
    exact q H1 b1 h1
theorem r_mkUn {C : Addr} {n : Str} {H : Hp} {Q : VK} {E : XK} (h : ∀ x dx H1, H x = none → Same H H1 → H1 x = some (.ins C dx [("name", .str n)]) → Q (.ref x) H1) : Z.mkI C (sp_Un C) [] [.str n] H Q E := by
  intro x dx nx nd ne
  refine ⟨x, dx, n, rfl, upd_same, fun H1 b1 h1 => ⟨rfl, h x dx H1 nx (fun b o e => ?_) h1⟩⟩
  exact b1 _ _ (ne_of_none e nx) (by rw [upd_ne (ne_of_none e nx), upd_ne (ne_of_none e nd)]; exact e)
local macro_rules | `(tactic| walk_at "call") => `(tactic| with_reducible refine r_mkUn ?_)
theorem sc_same : FnScope ["one", "other"] ["one", "other"] (defScope s_same) := ⟨rfl, rfl, rfl, by decide +kernel, rfl, by decide +kernel, by decide +kernel⟩
def sp_same (C : Addr) : Sp := fun vs H Q _ => ∃ (x y : V) (s t : Tag), vs = [x, y] ∧ Rep C H x s ∧ Rep C H y t ∧ Q (.bl (decide (s = t))) H
theorem ok_same (T : Top K mg) : FnOk P w K mg base CX0 2 T.f_same T.fd_same ["one", "other"] (sp_same T.C_Unnumbered) := by
  refine T.F_same.ok sc_same (fun vs H Q E h => ?_) (fun cdv A outer s H vs Q E hr h => ?_)
  · obtain ⟨x, y, s, t, rfl, _⟩ := h
    rfl
  · obtain ⟨x, y, s, t, rfl, hx, hy, q⟩ := h
    refine ⟨_, pss_cons (ps_if (pt_val (pe_call (ok_is_number T) (hr.mono (by decide)) (by rfl) T.mg_is_number T.F_is_number.kp T.B_is_number .nil pass0 (pa_cons (pv 0) (pa_nil)))) (pss_one (ps_ret (pe_and (pe_call (ok_is_number T) (hr.mono (by decide)) (by rfl) T.mg_is_number T.F_is_number.kp T.B_is_number .nil pass0 (pa_cons (pv 1) (pa_nil))) (pe_one (pe_cmpR op_eq (pv 0) (pv 1) (nomark _)))))) (pss_nil)) (pss_cons (ps_if (pt_val (pe_callB (Z.c_isi (K := K) rfl) (by rfl) T.z_isinstance (by decide +kernel) (pa_cons (pv 0) (pa_cons (pe_glob (v := .ref T.C_Unnumbered) (by exact rfl) T.mgC_Unnumbered rfl) (pa_nil))))) (pss_one (ps_ret (pe_and (pe_callB (Z.c_isi (K := K) rfl) (by rfl) T.z_isinstance (by decide +kernel) (pa_cons (pv 1) (pa_cons (pe_glob (v := .ref T.C_Unnumbered) (by exact rfl) T.mgC_Unnumbered rfl) (pa_nil)))) (pe_one (pe_cmpR op_eq (pe_fld (pv 0) rfl) (pe_fld (pv 1) rfl) (nomark _)))))) (pss_nil)) (pss_one (ps_ret (pe_and (pe_cmpR Z.o_isN (pv 0) (pe_non) (nomark _)) (pe_one (pe_cmpR Z.o_isN (pv 1) (pe_non) (nomark _))))))), ?_⟩
    refine Z.r_start (σ' := [some (x), some (y)]) rfl ?_
    cases s with
    | non =>
      cases hx
      cases t with
      | non => cases hy; walk_at "go"; exact q
      | num j => cases hy; walk_at "go"; exact q
      | mark m => obtain ⟨b, dy, rfl, hb⟩ := hy; walk_at "go"; exact q
    | num i =>
      cases hx
      cases t with
      | non => cases hy; walk_at "go"; exact q
      | num j =>
        cases hy; walk_at "go"
        have e : decide (Tag.num i = Tag.num j) = decide (i = j) := by by_cases h : i = j <;> simp [h]
        rw [e] at q
        exact q
      | mark m => obtain ⟨b, dy, rfl, hb⟩ := hy; walk_at "go"; exact q
    | mark n =>
      obtain ⟨a, dx, rfl, ha⟩ := hx
      cases t with
      | non => cases hy; walk_at "go"; exact q
      | num j => cases hy; walk_at "go"; exact q
      | mark m =>
        obtain ⟨b, dy, rfl, hb⟩ := hy
        walk_at "go"
        have e : decide (Tag.mark n = Tag.mark m) = decide (n = m) := by by_cases h : n = m <;> simp [h]
        rw [e] at q
        exact q
theorem k_same {C : Addr} {x y : V} {s t : Tag} {H : Hp} {Q : VK} {E : XK} (hx : Rep C H x s) (hy : Rep C H y t) (q : Q (.bl (decide (s = t))) H) : sp_same C ([x, y] ++ []) H Q E := ⟨x, y, s, t, rfl, hx, hy, q⟩

theorem sc_is_entry : FnScope ["thing"] ["thing"] (defScope s_is_entry) := ⟨rfl, rfl, rfl, by decide +kernel, rfl, by decide +kernel, by decide +kernel⟩
def sp_is_entry (K : PySem.W.Frag) (C : Addr) : Sp := fun vs H Q _ => ∃ (x : V) (t : Value) (bi bb bu : Bool), vs = [x] ∧ TyX K H x t ∧ PySem.W.kitOne K t (.type "int") = some bi ∧ PySem.W.kitOne K t (.type "bool") = some bb ∧ PySem.W.kitOne K t (.ref C) = some bu ∧ Q (.bl ((bi && !bb) || bu)) H
theorem ok_is_entry (T : Top K mg) : FnOk P w K mg base CX0 2 T.f_is_entry T.fd_is_entry ["thing"] (sp_is_entry K T.C_Unnumbered) := by
  refine T.F_is_entry.ok sc_is_entry (fun vs H Q E h => ?_) (fun cdv A outer s H vs Q E hr h => ?_)
  · obtain ⟨x, t, bi, bb, bu, rfl, _⟩ := h
    rfl
  · obtain ⟨x, t, bi, bb, bu, rfl, ty, ki, kb, ku, q⟩ := h
    refine ⟨_, pss_one (ps_ret (pe_or (pe_call (ok_is_number T) (hr.mono (by decide)) (by rfl) T.mg_is_number T.F_is_number.kp T.B_is_number .nil pass0 (pa_cons (pv 0) (pa_nil))) (pe_one (pe_callB (Z.c_isi (K := K) rfl) (by rfl) T.z_isinstance (by decide +kernel) (pa_cons (pv 0) (pa_cons (pe_glob (v := .ref T.C_Unnumbered) (by exact rfl) T.mgC_Unnumbered rfl) (pa_nil))))))), ?_⟩
    refine Z.r_start (σ' := [some (x)]) rfl ?_
    walk_at "go"
    cases bi with
    | true =>
      cases bb with
      | true => walk_at "go"; exact q
      | false => walk_at "go"; exact q
    | false => walk_at "go"; exact q
theorem k_is_entry {K : PySem.W.Frag} {C : Addr} {x : V} {t : Value} {bi bb bu : Bool} {H : Hp} {Q : VK} {E : XK} (ty : TyX K H x t) (ki : PySem.W.kitOne K t (.type "int") = some bi) (kb : PySem.W.kitOne K t (.type "bool") = some bb) (ku : PySem.W.kitOne K t (.ref C) = some bu)
    (q : Q (.bl ((bi && !bb) || bu)) H) : sp_is_entry K C ([x] ++ []) H Q E := ⟨x, t, bi, bb, bu, rfl, ty, ki, kb, ku, q⟩
local macro_rules | `(tactic| walk_at "call") => `(tactic| ((with_reducible refine' k_is_entry ?ty ?ki ?kb ?ku ?_); (case ty => walk_at "ty"); (case ki => walk_at "ki"); (case kb => walk_at "ki"); (case ku => walk_at "ki")))
theorem sc_is_value : FnScope ["thing"] ["thing"] (defScope s_is_value) := ⟨rfl, rfl, rfl, by decide +kernel, rfl, by decide +kernel, by decide +kernel⟩
def sp_is_value (C : Addr) : Sp := fun vs H Q _ => ∃ (x : V) (s : Tag), vs = [x] ∧ Rep C H x s ∧ Q (.bl true) H
theorem ok_is_value (T : Top K mg) : FnOk P w K mg base CX0 3 T.f_is_value T.fd_is_value ["thing"] (sp_is_value T.C_Unnumbered) := by
  refine T.F_is_value.ok sc_is_value (fun vs H Q E h => ?_) (fun cdv A outer s H vs Q E hr h => ?_)
  · obtain ⟨x, s, rfl, _⟩ := h
    rfl
  · obtain ⟨x, s, rfl, hx, q⟩ := h
    refine ⟨_, pss_one (ps_ret (pe_or (pe_cmpR Z.o_isN (pv 0) (pe_non) (nomark _)) (pe_one (pe_call (ok_is_entry T) (hr.mono (by decide)) (by rfl) T.mg_is_entry T.F_is_entry.kp T.B_is_entry .nil pass0 (pa_cons (pv 0) (pa_nil)))))), ?_⟩
    refine Z.r_start (σ' := [some (x)]) rfl ?_
    cases s with
    | non => cases hx; walk_at "go"; exact q
    | num i => cases hx; walk_at "go"; exact q
    | mark n => obtain ⟨a, dx, rfl, ha⟩ := hx; walk_at "go"; exact q
theorem k_is_value {C : Addr} {x : V} {s : Tag} {H : Hp} {Q : VK} {E : XK} (hx : Rep C H x s) (q : Q (.bl true) H) : sp_is_value C ([x] ++ []) H Q E := ⟨x, s, rfl, hx, q⟩
local macro_rules | `(tactic| walk_at "call") => `(tactic| ((with_reducible refine' k_is_value ?hx ?_); (case hx => walk_at "rep")))
theorem sc_Unnumbered___eq : FnScope ["self", "other"] ["self", "other"] (defScope s_Unnumbered___eq) := ⟨rfl, rfl, rfl, by decide +kernel, rfl, by decide +kernel, by decide +kernel⟩
def sp_Un_eq (K : PySem.W.Frag) (C : Addr) : Sp := fun vs H Q _ => ∃ (a dx : Addr) (n : Str) (y : V) (s : Tag), vs = [.ref a, y] ∧ H a = some (.ins C dx [("name", .str n)]) ∧ Rep C H y s ∧ Q (.bl false) H
theorem ok_Unnumbered___eq (T : Top K mg) : FnOk P w K mg base CX0 1 T.f_Unnumbered___eq T.fd_Unnumbered___eq ["self", "other"] (sp_Un_eq K T.C_Unnumbered) := by
  refine T.F_Unnumbered___eq.ok sc_Unnumbered___eq (fun vs H Q E h => ?_) (fun cdv A outer s H vs Q E hr h => ?_)
  · obtain ⟨a, dx, n, y, s, rfl, _⟩ := h
    rfl
  · obtain ⟨a, dx, n, y, s, rfl, ha, hy, q⟩ := h
    refine ⟨_, pss_one (ps_ret (pe_bl)), ?_⟩
    refine Z.r_start (σ' := [some (.ref a), some (y)]) rfl ?_
    cases s with
    | non => cases hy; walk_at "go"; exact q
    | num i => cases hy; walk_at "go"; exact q
    | mark m => obtain ⟨b, dy, rfl, hb⟩ := hy; walk_at "go"; exact q
theorem k_Un_eq {K : PySem.W.Frag} {C a dx : Addr} {n : Str} {y : V} {s : Tag} {H : Hp} {Q : VK} {E : XK} (ha : H a = some (.ins C dx [("name", .str n)])) (hy : Rep C H y s) (q : Q (.bl false) H) : sp_Un_eq K C ([.ref a, y] ++ []) H Q E := ⟨a, dx, n, y, s, rfl, ha, hy, q⟩
local macro_rules | `(tactic| walk_at "call") => `(tactic| ((with_reducible refine' k_Un_eq ?ha ?hy ?_); (case ha => walk_at "hp"); (case hy => walk_at "rep")))
theorem sc_Unnumbered___ne : FnScope ["self", "other"] ["self", "other"] (defScope s_Unnumbered___ne) := ⟨rfl, rfl, rfl, by decide +kernel, rfl, by decide +kernel, by decide +kernel⟩
def sp_Un_ne (K : PySem.W.Frag) (C : Addr) : Sp := fun vs H Q _ => ∃ (a dx : Addr) (n : Str) (y : V) (s : Tag), vs = [.ref a, y] ∧ H a = some (.ins C dx [("name", .str n)]) ∧ Rep C H y s ∧ Q (.bl true) H
theorem ok_Unnumbered___ne (T : Top K mg) : FnOk P w K mg base CX0 1 T.f_Unnumbered___ne T.fd_Unnumbered___ne ["self", "other"] (sp_Un_ne K T.C_Unnumbered) := by
  refine T.F_Unnumbered___ne.ok sc_Unnumbered___ne (fun vs H Q E h => ?_) (fun cdv A outer s H vs Q E hr h => ?_)
  · obtain ⟨a, dx, n, y, s, rfl, _⟩ := h
    rfl
  · obtain ⟨a, dx, n, y, s, rfl, ha, hy, q⟩ := h
    refine ⟨_, pss_one (ps_ret (pe_bl)), ?_⟩
    refine Z.r_start (σ' := [some (.ref a), some (y)]) rfl ?_
    cases s with
    | non => cases hy; walk_at "go"; exact q
    | num i => cases hy; walk_at "go"; exact q
    | mark m => obtain ⟨b, dy, rfl, hb⟩ := hy; walk_at "go"; exact q
theorem k_Un_ne {K : PySem.W.Frag} {C a dx : Addr} {n : Str} {y : V} {s : Tag} {H : Hp} {Q : VK} {E : XK} (ha : H a = some (.ins C dx [("name", .str n)])) (hy : Rep C H y s) (q : Q (.bl true) H) : sp_Un_ne K C ([.ref a, y] ++ []) H Q E := ⟨a, dx, n, y, s, rfl, ha, hy, q⟩
local macro_rules | `(tactic| walk_at "call") => `(tactic| ((with_reducible refine' k_Un_ne ?ha ?hy ?_); (case ha => walk_at "hp"); (case hy => walk_at "rep")))
theorem sc_Unnumbered___lt : FnScope ["self", "other"] ["self", "other"] (defScope s_Unnumbered___lt) := ⟨rfl, rfl, rfl, by decide +kernel, rfl, by decide +kernel, by decide +kernel⟩
def sp_Un_lt (K : PySem.W.Frag) (C : Addr) : Sp := fun vs H Q _ => ∃ (a dx : Addr) (n : Str) (y : V) (s : Tag), vs = [.ref a, y] ∧ H a = some (.ins C dx [("name", .str n)]) ∧ Rep C H y s ∧ Q (.bl false) H
theorem ok_Unnumbered___lt (T : Top K mg) : FnOk P w K mg base CX0 4 T.f_Unnumbered___lt T.fd_Unnumbered___lt ["self", "other"] (sp_Un_lt K T.C_Unnumbered) := by
  refine T.F_Unnumbered___lt.ok sc_Unnumbered___lt (fun vs H Q E h => ?_) (fun cdv A outer s H vs Q E hr h => ?_)
  · obtain ⟨a, dx, n, y, s, rfl, _⟩ := h
    rfl
  · obtain ⟨a, dx, n, y, s, rfl, ha, hy, q⟩ := h
    refine ⟨_, pss_cons (ps_if (pt_not (pt_val (pe_call (ok_is_value T) (hr.mono (by decide)) (by rfl) T.mg_is_value T.F_is_value.kp T.B_is_value .nil pass0 (pa_cons (pv 1) (pa_nil))))) (pss_one (ps_never)) (pss_nil)) (pss_one (ps_ret (pe_bl))), ?_⟩
    refine Z.r_start (σ' := [some (.ref a), some (y)]) rfl ?_
    cases s with
    | non => cases hy; walk_at "go"; exact q
    | num i => cases hy; walk_at "go"; exact q
    | mark m => obtain ⟨b, dy, rfl, hb⟩ := hy; walk_at "go"; exact q
theorem k_Un_lt {K : PySem.W.Frag} {C a dx : Addr} {n : Str} {y : V} {s : Tag} {H : Hp} {Q : VK} {E : XK} (ha : H a = some (.ins C dx [("name", .str n)])) (hy : Rep C H y s) (q : Q (.bl false) H) : sp_Un_lt K C ([.ref a, y] ++ []) H Q E := ⟨a, dx, n, y, s, rfl, ha, hy, q⟩
local macro_rules | `(tactic| walk_at "call") => `(tactic| ((with_reducible refine' k_Un_lt ?ha ?hy ?_); (case ha => walk_at "hp"); (case hy => walk_at "rep")))
theorem sc_Unnumbered___le : FnScope ["self", "other"] ["self", "other"] (defScope s_Unnumbered___le) := ⟨rfl, rfl, rfl, by decide +kernel, rfl, by decide +kernel, by decide +kernel⟩
def sp_Un_le (K : PySem.W.Frag) (C : Addr) : Sp := fun vs H Q _ => ∃ (a dx : Addr) (n : Str) (y : V) (s : Tag), vs = [.ref a, y] ∧ H a = some (.ins C dx [("name", .str n)]) ∧ Rep C H y s ∧ Q (.bl false) H
theorem ok_Unnumbered___le (T : Top K mg) : FnOk P w K mg base CX0 4 T.f_Unnumbered___le T.fd_Unnumbered___le ["self", "other"] (sp_Un_le K T.C_Unnumbered) := by
  refine T.F_Unnumbered___le.ok sc_Unnumbered___le (fun vs H Q E h => ?_) (fun cdv A outer s H vs Q E hr h => ?_)
  · obtain ⟨a, dx, n, y, s, rfl, _⟩ := h
    rfl
  · obtain ⟨a, dx, n, y, s, rfl, ha, hy, q⟩ := h
    refine ⟨_, pss_cons (ps_if (pt_not (pt_val (pe_call (ok_is_value T) (hr.mono (by decide)) (by rfl) T.mg_is_value T.F_is_value.kp T.B_is_value .nil pass0 (pa_cons (pv 1) (pa_nil))))) (pss_one (ps_never)) (pss_nil)) (pss_one (ps_ret (pe_bl))), ?_⟩
    refine Z.r_start (σ' := [some (.ref a), some (y)]) rfl ?_
    cases s with
    | non => cases hy; walk_at "go"; exact q
    | num i => cases hy; walk_at "go"; exact q
    | mark m => obtain ⟨b, dy, rfl, hb⟩ := hy; walk_at "go"; exact q
theorem k_Un_le {K : PySem.W.Frag} {C a dx : Addr} {n : Str} {y : V} {s : Tag} {H : Hp} {Q : VK} {E : XK} (ha : H a = some (.ins C dx [("name", .str n)])) (hy : Rep C H y s) (q : Q (.bl false) H) : sp_Un_le K C ([.ref a, y] ++ []) H Q E := ⟨a, dx, n, y, s, rfl, ha, hy, q⟩
local macro_rules | `(tactic| walk_at "call") => `(tactic| ((with_reducible refine' k_Un_le ?ha ?hy ?_); (case ha => walk_at "hp"); (case hy => walk_at "rep")))
theorem sc_Unnumbered___gt : FnScope ["self", "other"] ["self", "other"] (defScope s_Unnumbered___gt) := ⟨rfl, rfl, rfl, by decide +kernel, rfl, by decide +kernel, by decide +kernel⟩
def sp_Un_gt (K : PySem.W.Frag) (C : Addr) : Sp := fun vs H Q _ => ∃ (a dx : Addr) (n : Str) (y : V) (s : Tag), vs = [.ref a, y] ∧ H a = some (.ins C dx [("name", .str n)]) ∧ Rep C H y s ∧ Q (.bl false) H
theorem ok_Unnumbered___gt (T : Top K mg) : FnOk P w K mg base CX0 4 T.f_Unnumbered___gt T.fd_Unnumbered___gt ["self", "other"] (sp_Un_gt K T.C_Unnumbered) := by
  refine T.F_Unnumbered___gt.ok sc_Unnumbered___gt (fun vs H Q E h => ?_) (fun cdv A outer s H vs Q E hr h => ?_)
  · obtain ⟨a, dx, n, y, s, rfl, _⟩ := h
    rfl
  · obtain ⟨a, dx, n, y, s, rfl, ha, hy, q⟩ := h
    refine ⟨_, pss_cons (ps_if (pt_not (pt_val (pe_call (ok_is_value T) (hr.mono (by decide)) (by rfl) T.mg_is_value T.F_is_value.kp T.B_is_value .nil pass0 (pa_cons (pv 1) (pa_nil))))) (pss_one (ps_never)) (pss_nil)) (pss_one (ps_ret (pe_bl))), ?_⟩
    refine Z.r_start (σ' := [some (.ref a), some (y)]) rfl ?_
    cases s with
    | non => cases hy; walk_at "go"; exact q
    | num i => cases hy; walk_at "go"; exact q
    | mark m => obtain ⟨b, dy, rfl, hb⟩ := hy; walk_at "go"; exact q
theorem k_Un_gt {K : PySem.W.Frag} {C a dx : Addr} {n : Str} {y : V} {s : Tag} {H : Hp} {Q : VK} {E : XK} (ha : H a = some (.ins C dx [("name", .str n)])) (hy : Rep C H y s) (q : Q (.bl false) H) : sp_Un_gt K C ([.ref a, y] ++ []) H Q E := ⟨a, dx, n, y, s, rfl, ha, hy, q⟩
local macro_rules | `(tactic| walk_at "call") => `(tactic| ((with_reducible refine' k_Un_gt ?ha ?hy ?_); (case ha => walk_at "hp"); (case hy => walk_at "rep")))
theorem sc_Unnumbered___ge : FnScope ["self", "other"] ["self", "other"] (defScope s_Unnumbered___ge) := ⟨rfl, rfl, rfl, by decide +kernel, rfl, by decide +kernel, by decide +kernel⟩
def sp_Un_ge (K : PySem.W.Frag) (C : Addr) : Sp := fun vs H Q _ => ∃ (a dx : Addr) (n : Str) (y : V) (s : Tag), vs = [.ref a, y] ∧ H a = some (.ins C dx [("name", .str n)]) ∧ Rep C H y s ∧ Q (.bl false) H
theorem ok_Unnumbered___ge (T : Top K mg) : FnOk P w K mg base CX0 4 T.f_Unnumbered___ge T.fd_Unnumbered___ge ["self", "other"] (sp_Un_ge K T.C_Unnumbered) := by
  refine T.F_Unnumbered___ge.ok sc_Unnumbered___ge (fun vs H Q E h => ?_) (fun cdv A outer s H vs Q E hr h => ?_)
  · obtain ⟨a, dx, n, y, s, rfl, _⟩ := h
    rfl
  · obtain ⟨a, dx, n, y, s, rfl, ha, hy, q⟩ := h
    refine ⟨_, pss_cons (ps_if (pt_not (pt_val (pe_call (ok_is_value T) (hr.mono (by decide)) (by rfl) T.mg_is_value T.F_is_value.kp T.B_is_value .nil pass0 (pa_cons (pv 1) (pa_nil))))) (pss_one (ps_never)) (pss_nil)) (pss_one (ps_ret (pe_bl))), ?_⟩
    refine Z.r_start (σ' := [some (.ref a), some (y)]) rfl ?_
    cases s with
    | non => cases hy; walk_at "go"; exact q
    | num i => cases hy; walk_at "go"; exact q
    | mark m => obtain ⟨b, dy, rfl, hb⟩ := hy; walk_at "go"; exact q
theorem k_Un_ge {K : PySem.W.Frag} {C a dx : Addr} {n : Str} {y : V} {s : Tag} {H : Hp} {Q : VK} {E : XK} (ha : H a = some (.ins C dx [("name", .str n)])) (hy : Rep C H y s) (q : Q (.bl false) H) : sp_Un_ge K C ([.ref a, y] ++ []) H Q E := ⟨a, dx, n, y, s, rfl, ha, hy, q⟩
local macro_rules | `(tactic| walk_at "call") => `(tactic| ((with_reducible refine' k_Un_ge ?ha ?hy ?_); (case ha => walk_at "hp"); (case hy => walk_at "rep")))
theorem sc_law_says : FnScope ["_law_told", "_law_due"] ["_law_told", "_law_due"] (defScope s_law_says) := ⟨rfl, rfl, rfl, by decide +kernel, rfl, by decide +kernel, by decide +kernel⟩
def sp_law_says : Sp := fun vs H Q _ => ∃ (a b : Bool), vs = [.bl a, .bl b] ∧ Q (.bl (decide (a = b))) H
theorem ok_law_says (T : Top K mg) : FnOk P w K mg base CX0 1 T.f_law_says T.fd_law_says ["_law_told", "_law_due"] sp_law_says := by
  refine T.F_law_says.ok sc_law_says (fun vs H Q E h => ?_) (fun cdv A outer s H vs Q E hr h => ?_)
  · obtain ⟨a, b, rfl, _⟩ := h
    rfl
  · obtain ⟨a, b, rfl, q⟩ := h
    refine ⟨_, pss_one (ps_ret (pe_and (pe_callB (Z.c_isi (K := K) rfl) (by rfl) T.z_isinstance (by decide +kernel) (pa_cons (pv 0) (pa_cons (pe_bltn (v := .ty "bool") (by rfl) T.z_bool (by decide +kernel) rfl) (pa_nil)))) (pe_one (pe_cmpR op_eq (pv 0) (pv 1) (nomark _))))), ?_⟩
    refine Z.r_start (σ' := [some (.bl a), some (.bl b)]) rfl ?_
    walk_at "go"
    exact q
theorem k_law_says {a b : Bool} {H : Hp} {Q : VK} {E : XK} (q : Q (.bl (decide (a = b))) H) : sp_law_says ([.bl a, .bl b] ++ []) H Q E := ⟨a, b, rfl, q⟩
local macro_rules | `(tactic| walk_at "call") => `(tactic| with_reducible refine k_law_says ?_)
theorem sc_law_tag : FnScope ["_law_bag_here", "_law_words", "_law_road"] ["_law_bag_here", "_law_words"] (defScope s_law_tag) := ⟨rfl, rfl, rfl, by decide +kernel, rfl, by decide +kernel, by decide +kernel⟩
def sp_law_tag : Sp := fun vs H Q _ => ∃ (b l : Addr) (n : Nat) (ws : List Str), vs = [.ref b, .ref l] ∧ Bag H b n ∧ n < 1073740000 ∧ H l = some (.lst (ws.map V.str)) ∧ l ≠ b ∧ 0 < ws.length ∧ ws.length ≤ 10 ∧ (∀ x ∈ ws, Word x) ∧
  ∀ p t H', H p = none → Z.But b H H' → Bag H' b (n + 70) → TagAt H' p t → Q (.ref p) H'
theorem ok_law_tag (T : Top K mg) : FnOk P w K mg base CX0 3 T.f_law_tag T.fd_law_tag ["_law_bag_here", "_law_words"] sp_law_tag := by
  refine T.F_law_tag.ok sc_law_tag (fun vs H Q E h => ?_) (fun cdv A outer s H vs Q E hr h => ?_)
  · obtain ⟨b, l, n, ws, rfl, _⟩ := h
    rfl
  · obtain ⟨b, l, n, ws, rfl, hb, hn, hl, nlb, w0, w1, hw, q⟩ := h
    refine ⟨_, pss_cons (ps_set (i := 2) sc_law_tag.nd rfl (.inl rfl) (pe_call (ok_law_draw T) (hr.mono (by decide)) (by rfl) T.mg_law_draw T.F_law_draw.kp T.B_law_draw .nil pass0 (pa_cons (pv 0) (pa_cons (pe_int) (pa_nil))))) (pss_cons (ps_if (pt_cmpR op_eq (pv 2) (pe_int) (nomark _)) (pss_one (ps_ret (pe_tup (pa_cons (pe_str) (pa_nil))))) (pss_nil)) (pss_cons (ps_if (pt_cmpR op_lt (pv 2) (pe_int) (nomark _)) (pss_one (ps_ret (pe_tup (pa_cons (pe_str) (pa_cons (pe_ix (Z.ix_seqG (K := K) rfl) (pv 1) (pe_call (ok_law_draw T) (hr.mono (by decide)) (by rfl) T.mg_law_draw T.F_law_draw.kp T.B_law_draw .nil pass0 (pa_cons (pv 0) (pa_cons (pe_callB Z.c_len (by rfl) T.z_len (by decide +kernel) (pa_cons (pv 1) (pa_nil))) (pa_nil)))) (fun _ _ => rfl)) (pa_nil)))))) (pss_nil)) (pss_one (ps_ret (pe_tup (pa_cons (pe_str) (pa_cons (pe_call (ok_law_number T) (hr.mono (by decide)) (by rfl) T.mg_law_number T.F_law_number.kp T.B_law_number .nil pass0 (pa_cons (pv 0) (pa_nil))) (pa_nil)))))))), ?_⟩
    refine Z.r_start (σ' := [some (.ref b), some (.ref l), none]) rfl ?_
    walk_at "go"
    walk_at "draw"
    intro r H1 r0 r1 t1 g1
    walk_at "go"
    refine Z.ways (fun c => ?_) (fun c => ?_)
    · walk_at "go"
      intro p H2 np s2 hp
      exact q p .non H2 (t1.free (g1.ne np) np) (t1.trans (Z.But.same s2)) ((g1.same s2).mono (by omega)) ⟨hp, trivial⟩
    walk_at "go"
    refine Z.ways (fun c => ?_) (fun c => ?_)
    · walk_at "go"
      rw [List.length_map]
      walk_at "draw"
      intro d H2 d0 d1 t2 g2
      obtain ⟨k, rfl⟩ := Int.eq_ofNat_of_zero_le d0
      have hk : k < ws.length := by omega
      have hl2 : H2 l = some (.lst (ws.map V.str)) := t2 _ _ nlb (t1 _ _ nlb hl)
      refine Z.r_ixL (v := .str ws[k]) (SqL.of hl2) (atI_nat (by rw [List.getElem?_map, List.getElem?_eq_getElem hk]; rfl)) ?_
      walk_at "go"
      intro p H3 np s3 hp
      have t12 := t1.trans t2
      exact q p (.mark ws[k]) H3 (t12.free (g2.ne np) np) (t12.trans (Z.But.same s3)) ((g2.same s3).mono (by omega)) ⟨hp, hw _ (List.getElem_mem hk)⟩
    walk_at "go"
    refine' k_law_number ?bg ?n ?_
    case bg => walk_at "bag"
    case n => omega
    intro i H2 hi t2 g2
    walk_at "go"
    intro p H3 np s3 hp
    have t12 := t1.trans t2
    exact q p (.num i) H3 (t12.free (g2.ne np) np) (t12.trans (Z.But.same s3)) ((g2.same s3).mono (by omega)) ⟨hp, trivial⟩
theorem k_law_tag {b l : Addr} {n : Nat} {ws : List Str} {H : Hp} {Q : VK} {E : XK} (bg : Bag H b n) (hn : n < 1073740000) (hl : H l = some (.lst (ws.map V.str))) (nlb : l ≠ b) (w0 : 0 < ws.length) (w1 : ws.length ≤ 10) (hw : ∀ x ∈ ws, Word x)
    (q : ∀ p t H', H p = none → Z.But b H H' → Bag H' b (n + 70) → TagAt H' p t → Q (.ref p) H') : sp_law_tag ([.ref b, .ref l] ++ []) H Q E := ⟨b, l, n, ws, rfl, bg, hn, hl, nlb, w0, w1, hw, q⟩
theorem sc_law_made : FnScope ["_law_tag_here"] ["_law_tag_here"] (defScope s_law_made) := ⟨rfl, rfl, rfl, by decide +kernel, rfl, by decide +kernel, by decide +kernel⟩
def sp_law_made (C : Addr) : Sp := fun vs H Q _ => ∃ (p : Addr) (t : Tag), vs = [.ref p] ∧ TagAt H p t ∧ ∀ x H', Same H H' → Rep C H' x t → Q x H'
theorem ok_law_made (T : Top K mg) : FnOk P w K mg base CX0 3 T.f_law_made T.fd_law_made ["_law_tag_here"] (sp_law_made T.C_Unnumbered) := by
  refine T.F_law_made.ok sc_law_made (fun vs H Q E h => ?_) (fun cdv A outer s H vs Q E hr h => ?_)
  · obtain ⟨p, t, rfl, _⟩ := h
    rfl
  · obtain ⟨p, t, rfl, ⟨hp, ht⟩, q⟩ := h
    refine ⟨_, pss_cons (ps_if (pt_cmpR op_eq (pe_ix (Z.ix_seqG (K := K) rfl) (pv 0) (pe_int) (fun _ _ => rfl)) (pe_str) (nomark _)) (pss_one (ps_ret (pe_non))) (pss_nil)) (pss_one (ps_ret (pe_ifExp (pt_cmpR op_eq (pe_ix (Z.ix_seqG (K := K) rfl) (pv 0) (pe_int) (fun _ _ => rfl)) (pe_str) (nomark _)) (pe_make T.mk_Unnumbered (ok_Unnumbered___init T) (hr.mono (by decide)) (by rfl) T.mgC_Unnumbered T.B_Unnumbered___init .nil pass0 (pa_cons (pe_ix (Z.ix_seqG (K := K) rfl) (pv 0) (pe_int) (fun _ _ => rfl)) (pa_nil))) (pe_ix (Z.ix_seqG (K := K) rfl) (pv 0) (pe_int) (fun _ _ => rfl))))), ?_⟩
    refine Z.r_start (σ' := [some (.ref p)]) rfl ?_
    cases t with
    | non =>
      have hp : H p = some (.tup [.str "nothing"]) := hp
      walk_at "go"
      exact q _ _ (Same.refl _) rfl
    | mark n =>
      have hp : H p = some (.tup [.str "mark", .str n]) := hp
      walk_at "go"
      intro x dx H1 nx s1 hx
      exact q _ _ s1 ⟨x, dx, rfl, hx⟩
    | num i =>
      have hp : H p = some (.tup [.str "number", .int i]) := hp
      walk_at "go"
      exact q _ _ (Same.refl _) rfl
theorem k_law_made {C p : Addr} {t : Tag} {H : Hp} {Q : VK} {E : XK} (h : TagAt H p t) (q : ∀ x H', Same H H' → Rep C H' x t → Q x H') : sp_law_made C ([.ref p] ++ []) H Q E := ⟨p, t, rfl, h, q⟩

theorem sc_Unnumbered___str : FnScope ["self"] ["self"] (defScope s_Unnumbered___str) := ⟨rfl, rfl, rfl, by decide +kernel, rfl, by decide +kernel, by decide +kernel⟩
def sp_Un_str (C : Addr) : Sp := fun vs H Q _ => ∃ (a dx : Addr) (n : Str), vs = [.ref a] ∧ H a = some (.ins C dx [("name", .str n)]) ∧ Word n ∧ Q (.str (("?" : Str) ++ n)) H
theorem ok_Unnumbered___str (T : Top K mg) : FnOk P w K mg base CX0 1 T.f_Unnumbered___str T.fd_Unnumbered___str ["self"] (sp_Un_str T.C_Unnumbered) := by
  refine T.F_Unnumbered___str.ok sc_Unnumbered___str (fun vs H Q E h => ?_) (fun cdv A outer s H vs Q E hr h => ?_)
  · obtain ⟨a, dx, n, rfl, _⟩ := h
    rfl
  · obtain ⟨a, dx, n, rfl, ha, hn, q⟩ := h
    have l8 : n.length ≤ 8 := hn.2.1
    have l1 : n.length ≤ sizeLine := Z.szle (by omega)
    have l2 : (("?" : Str) ++ n).length ≤ sizeLine := Z.szle (by rw [Str.length_append]; have : ("?" : Str).length = 1 := rfl; omega)
    refine ⟨_, pss_one (ps_ret (pe_joined (.cons (pe_str) (.cons (pe_fmt (pe_fld (pv 0) rfl)) (.nil))))), ?_⟩
    refine Z.r_start (σ' := [some (.ref a)]) rfl ?_
    walk_at "go"
    exact q
theorem k_Un_str {C a dx : Addr} {n : Str} {H : Hp} {Q : VK} {E : XK} (ha : H a = some (.ins C dx [("name", .str n)])) (hn : Word n) (q : Q (.str (("?" : Str) ++ n)) H) : sp_Un_str C ([.ref a] ++ []) H Q E := ⟨a, dx, n, rfl, ha, hn, q⟩
theorem sc_Unnumbered___repr : FnScope ["self"] ["self"] (defScope s_Unnumbered___repr) := ⟨rfl, rfl, rfl, by decide +kernel, rfl, by decide +kernel, by decide +kernel⟩
def sp_Un_repr (C : Addr) : Sp := fun vs H Q _ => ∃ (a dx : Addr) (n : Str), vs = [.ref a] ∧ H a = some (.ins C dx [("name", .str n)]) ∧ Word n ∧ Q (.str (("Unnumbered(" : Str) ++ (("'" : Str) ++ n ++ ("'" : Str)) ++ (")" : Str))) H
theorem ok_Unnumbered___repr (T : Top K mg) : FnOk P w K mg base CX0 1 T.f_Unnumbered___repr T.fd_Unnumbered___repr ["self"] (sp_Un_repr T.C_Unnumbered) := by
  refine T.F_Unnumbered___repr.ok sc_Unnumbered___repr (fun vs H Q E h => ?_) (fun cdv A outer s H vs Q E hr h => ?_)
  · obtain ⟨a, dx, n, rfl, _⟩ := h
    rfl
  · obtain ⟨a, dx, n, rfl, ha, hn, q⟩ := h
    have l8 : n.length ≤ 8 := hn.2.1
    refine ⟨_, pss_one (ps_ret (pe_joined (.cons (pe_str) (.cons (pe_fmtR (pe_fld (pv 0) rfl)) (.cons (pe_str) (.nil)))))), ?_⟩
    refine Z.r_start (σ' := [some (.ref a)]) rfl ?_
    have l3 : (("'" : Str) ++ n ++ ("'" : Str)).length ≤ 10 := by
      rw [Str.length_append, Str.length_append]
      have : ("'" : Str).length = 1 := rfl
      omega
    have l4 : (Str.empty ++ ("Unnumbered(" : Str) ++ (("'" : Str) ++ n ++ ("'" : Str))).length ≤ 30 := by
      rw [Str.length_append]
      have : (Str.empty ++ ("Unnumbered(" : Str)).length = 11 := rfl
      omega
    walk_at "go"
    refine Z.r_fmR (by rw [word_repr hn]; exact Z.szle (by omega)) ?_
    rw [word_repr hn]
    refine Z.r_jsP (Z.szle (by omega)) ?_
    walk_at "go"
    refine Z.r_jsP (Z.szle (by rw [Str.length_append]; have : (")" : Str).length = 1 := rfl; omega)) ?_
    walk_at "go"
    exact q
theorem k_Un_repr {C a dx : Addr} {n : Str} {H : Hp} {Q : VK} {E : XK} (ha : H a = some (.ins C dx [("name", .str n)])) (hn : Word n) (q : Q (.str (("Unnumbered(" : Str) ++ (("'" : Str) ++ n ++ ("'" : Str)) ++ (")" : Str))) H) : sp_Un_repr C ([.ref a] ++ []) H Q E := ⟨a, dx, n, rfl, ha, hn, q⟩
local macro_rules | `(tactic| walk_at "call") => `(tactic| first
  | ((with_reducible refine' k_Un_str ?ha ?hn ?_); (case ha => walk_at "hp"); (case hn => assumption))
  | ((with_reducible refine' k_Un_repr ?ha ?hn ?_); (case ha => walk_at "hp"); (case hn => assumption)))

theorem sc_Told___init : FnScope ["self", "place"] ["self", "place"] (defScope s_Told___init) := ⟨rfl, rfl, rfl, by decide +kernel, rfl, by decide +kernel, by decide +kernel⟩
def sp_To (C : Addr) : Sp := fun vs H Q _ => ∃ (p dx : Addr) (n : Option Int), vs = [.ref p, Z.optV n] ∧ H p = some (.ins C dx []) ∧ ∀ H', Z.But p H H' → H' p = some (.ins C dx [("place", Z.optV n)]) → Q .non H'
theorem ok_Told___init (T : Top K mg) : FnOk P w K mg base CX0 1 T.f_Told___init T.fd_Told___init ["self", "place"] (sp_To T.C_Told) := by
  refine T.F_Told___init.ok sc_Told___init (fun vs H Q E h => ?_) (fun cdv A outer s H vs Q E hr h => ?_)
  · obtain ⟨p, dx, n, rfl, _⟩ := h
    rfl
  · obtain ⟨p, dx, n, rfl, hp, q⟩ := h
    refine ⟨_, pss_one (ps_fld (pv 0) (pv 1) rfl), ?_⟩
    refine Z.r_start (σ' := [some (.ref p), some (Z.optV n)]) rfl ?_
    walk_at "go"
    intro H1 b1 h1
    exact q H1 b1 h1
theorem r_mkTo {C : Addr} {n : Option Int} {H : Hp} {Q : VK} {E : XK} (h : ∀ x dx H1, H x = none → Same H H1 → H1 x = some (.ins C dx [("place", Z.optV n)]) → Q (.ref x) H1) : Z.mkI C (sp_To C) [] [Z.optV n] H Q E := by
  intro x dx nx nd ne
  refine ⟨x, dx, n, rfl, upd_same, fun H1 b1 h1 => ⟨rfl, h x dx H1 nx (fun b o e => ?_) h1⟩⟩
  exact b1 _ _ (ne_of_none e nx) (by rw [upd_ne (ne_of_none e nx), upd_ne (ne_of_none e nd)]; exact e)
theorem sc_Told___eq : FnScope ["self", "other"] ["self", "other"] (defScope s_Told___eq) := ⟨rfl, rfl, rfl, by decide +kernel, rfl, by decide +kernel, by decide +kernel⟩
def sp_To_eq (C D : Addr) : Sp := fun vs H Q _ => ∃ (a dx : Addr) (o : Option Int) (y : V) (r : Res), vs = [.ref a, y] ∧ H a = some (.ins D dx [("place", Z.optV o)]) ∧ RepR C D H y r ∧ Q (.bl (decide (Res.told o = r))) H
theorem ok_Told___eq (T : Top K mg) : FnOk P w K mg base CX0 1 T.f_Told___eq T.fd_Told___eq ["self", "other"] (sp_To_eq T.C_Unnumbered T.C_Told) := by
  refine T.F_Told___eq.ok sc_Told___eq (fun vs H Q E h => ?_) (fun cdv A outer s H vs Q E hr h => ?_)
  · obtain ⟨a, dx, o, y, r, rfl, _⟩ := h
    rfl
  · obtain ⟨a, dx, o, y, r, rfl, ha, hy, q⟩ := h
    refine ⟨_, pss_one (ps_ret (pe_and (pe_callB (Z.c_isi (K := K) rfl) (by rfl) T.z_isinstance (by decide +kernel) (pa_cons (pv 1) (pa_cons (pe_glob (v := .ref T.C_Told) (by exact rfl) T.mgC_Told rfl) (pa_nil)))) (pe_one (pe_cmpR op_eq (pe_fld (pv 0) rfl) (pe_fld (pv 1) rfl) (nomark _))))), ?_⟩
    refine Z.r_start (σ' := [some (.ref a), some (y)]) rfl ?_
    cases r with
    | tru b => cases hy; walk_at "go"; exact q
    | val t =>
      cases t with
      | non => cases hy; walk_at "go"; exact q
      | num i => cases hy; walk_at "go"; exact q
      | mark n => obtain ⟨b, dy, rfl, hb⟩ := hy; walk_at "go"; exact q
    | mean t i => obtain ⟨p, z, rfl, hp, hz⟩ := hy; walk_at "go"; exact q
    | told p =>
      obtain ⟨b, dy, rfl, hb⟩ := hy
      walk_at "go"
      refine Z.r_eqO ?_
      have e : decide (Res.told o = Res.told p) = decide (o = p) := by by_cases h : o = p <;> simp [h]
      rw [e] at q
      walk_at "go"
      exact q
theorem k_To_eq {C D a dx : Addr} {o : Option Int} {y : V} {r : Res} {H : Hp} {Q : VK} {E : XK} (ha : H a = some (.ins D dx [("place", Z.optV o)])) (hy : RepR C D H y r) (q : Q (.bl (decide (Res.told o = r))) H) : sp_To_eq C D ([.ref a, y] ++ []) H Q E :=
  ⟨a, dx, o, y, r, rfl, ha, hy, q⟩
theorem sc_Told___repr : FnScope ["self"] ["self"] (defScope s_Told___repr) := ⟨rfl, rfl, rfl, by decide +kernel, rfl, by decide +kernel, by decide +kernel⟩
def sp_To_repr (D : Addr) : Sp := fun vs H Q _ => ∃ (a dx : Addr) (o : Option Int), vs = [.ref a] ∧ H a = some (.ins D dx [("place", Z.optV o)]) ∧ Z.optOk o ∧ Q (.str (("Told(" : Str) ++ Z.optS o ++ (")" : Str))) H
theorem ok_Told___repr (T : Top K mg) : FnOk P w K mg base CX0 1 T.f_Told___repr T.fd_Told___repr ["self"] (sp_To_repr T.C_Told) := by
  refine T.F_Told___repr.ok sc_Told___repr (fun vs H Q E h => ?_) (fun cdv A outer s H vs Q E hr h => ?_)
  · obtain ⟨a, dx, o, rfl, _⟩ := h
    rfl
  · obtain ⟨a, dx, o, rfl, ha, ho, q⟩ := h
    have ls : (Z.optS o).length ≤ 100 := ho.len
    refine ⟨_, pss_one (ps_ret (pe_joined (.cons (pe_str) (.cons (Z.pe_fmtRO (pe_fld (pv 0) rfl)) (.cons (pe_str) (.nil)))))), ?_⟩
    refine Z.r_start (σ' := [some (.ref a)]) rfl ?_
    walk_at "go"
    refine Z.r_foP (fun i e => (by subst e; exact ho.log)) ?_
    refine Z.r_jsP (Z.szle (by rw [Str.length_append]; have : (Str.empty ++ ("Told(" : Str)).length = 5 := rfl; omega)) ?_
    walk_at "go"
    refine Z.r_jsP (Z.szle (by rw [Str.length_append, Str.length_append]; have : (Str.empty ++ ("Told(" : Str)).length = 5 := rfl; have : (")" : Str).length = 1 := rfl; omega)) ?_
    walk_at "go"
    exact q
theorem k_To_repr {D a dx : Addr} {o : Option Int} {H : Hp} {Q : VK} {E : XK} (ha : H a = some (.ins D dx [("place", Z.optV o)])) (ho : Z.optOk o) (q : Q (.str (("Told(" : Str) ++ Z.optS o ++ (")" : Str))) H) : sp_To_repr D ([.ref a] ++ []) H Q E := ⟨a, dx, o, rfl, ha, ho, q⟩
def sp_sameR (C D : Addr) : Sp := fun vs H Q _ => ∃ (x y : V) (s : Tag) (t : Res), vs = [x, y] ∧ Rep C H x s ∧ RepR C D H y t ∧ Q (.bl (decide (Res.val s = t))) H
theorem ok_same_r (T : Top K mg) : FnOk P w K mg base CX0 2 T.f_same T.fd_same ["one", "other"] (sp_sameR T.C_Unnumbered T.C_Told) := by
  refine T.F_same.ok sc_same (fun vs H Q E h => ?_) (fun cdv A outer s H vs Q E hr h => ?_)
  · obtain ⟨x, y, s, t, rfl, _⟩ := h
    rfl
  · obtain ⟨x, y, s, t, rfl, hx, hy, q⟩ := h
    refine ⟨_, pss_cons (ps_if (pt_val (pe_call (ok_is_number T) (hr.mono (by decide)) (by rfl) T.mg_is_number T.F_is_number.kp T.B_is_number .nil pass0 (pa_cons (pv 0) (pa_nil)))) (pss_one (ps_ret (pe_and (pe_call (ok_is_number T) (hr.mono (by decide)) (by rfl) T.mg_is_number T.F_is_number.kp T.B_is_number .nil pass0 (pa_cons (pv 1) (pa_nil))) (pe_one (pe_cmpR op_eq (pv 0) (pv 1) (nomark _)))))) (pss_nil)) (pss_cons (ps_if (pt_val (pe_callB (Z.c_isi (K := K) rfl) (by rfl) T.z_isinstance (by decide +kernel) (pa_cons (pv 0) (pa_cons (pe_glob (v := .ref T.C_Unnumbered) (by exact rfl) T.mgC_Unnumbered rfl) (pa_nil))))) (pss_one (ps_ret (pe_and (pe_callB (Z.c_isi (K := K) rfl) (by rfl) T.z_isinstance (by decide +kernel) (pa_cons (pv 1) (pa_cons (pe_glob (v := .ref T.C_Unnumbered) (by exact rfl) T.mgC_Unnumbered rfl) (pa_nil)))) (pe_one (pe_cmpR op_eq (pe_fld (pv 0) rfl) (pe_fld (pv 1) rfl) (nomark _)))))) (pss_nil)) (pss_one (ps_ret (pe_and (pe_cmpR Z.o_isN (pv 0) (pe_non) (nomark _)) (pe_one (pe_cmpR Z.o_isN (pv 1) (pe_non) (nomark _))))))), ?_⟩
    refine Z.r_start (σ' := [some (x), some (y)]) rfl ?_
    cases s with
    | non =>
      cases hx
      cases t with
      | tru b => cases hy; walk_at "go"; exact q
      | mean t i => obtain ⟨p, z, rfl, hp, hz⟩ := hy; walk_at "go"; exact q
      | told p => obtain ⟨b, dy, rfl, hb⟩ := hy; walk_at "go"; exact q
      | val t =>
        cases t with
        | non => cases hy; walk_at "go"; exact q
        | num j => cases hy; walk_at "go"; exact q
        | mark m => obtain ⟨b, dy, rfl, hb⟩ := hy; walk_at "go"; exact q
    | num i =>
      cases hx
      cases t with
      | tru b => cases hy; walk_at "go"; exact q
      | mean t i => obtain ⟨p, z, rfl, hp, hz⟩ := hy; walk_at "go"; exact q
      | told p => obtain ⟨b, dy, rfl, hb⟩ := hy; walk_at "go"; exact q
      | val t =>
        cases t with
        | non => cases hy; walk_at "go"; exact q
        | num j =>
          cases hy; walk_at "go"
          have e : decide (Res.val (Tag.num i) = Res.val (Tag.num j)) = decide (i = j) := by by_cases h : i = j <;> simp [h]
          rw [e] at q
          exact q
        | mark m => obtain ⟨b, dy, rfl, hb⟩ := hy; walk_at "go"; exact q
    | mark n =>
      obtain ⟨a, dx, rfl, ha⟩ := hx
      cases t with
      | tru b => cases hy; walk_at "go"; exact q
      | mean t i => obtain ⟨p, z, rfl, hp, hz⟩ := hy; walk_at "go"; exact q
      | told p => obtain ⟨b, dy, rfl, hb⟩ := hy; walk_at "go"; exact q
      | val t =>
        cases t with
        | non => cases hy; walk_at "go"; exact q
        | num j => cases hy; walk_at "go"; exact q
        | mark m =>
          obtain ⟨b, dy, rfl, hb⟩ := hy
          walk_at "go"
          have e : decide (Res.val (Tag.mark n) = Res.val (Tag.mark m)) = decide (n = m) := by by_cases h : n = m <;> simp [h]
          rw [e] at q
          exact q
theorem k_sameR {C D : Addr} {x y : V} {s : Tag} {t : Res} {H : Hp} {Q : VK} {E : XK} (hx : Rep C H x s) (hy : RepR C D H y t) (q : Q (.bl (decide (Res.val s = t))) H) : sp_sameR C D ([x, y] ++ []) H Q E := ⟨x, y, s, t, rfl, hx, hy, q⟩
theorem sc_pairs_agree : FnScope ["one", "other"] ["one", "other"] (defScope s_pairs_agree) := ⟨rfl, rfl, rfl, by decide +kernel, rfl, by decide +kernel, by decide +kernel⟩
theorem ok_pairs_agree_f (T : Top K mg) : FnOk P w K mg base CX0 1 T.f_pairs_agree T.fd_pairs_agree ["one", "other"] (fun _ _ _ _ => False) := by
  refine T.F_pairs_agree.ok sc_pairs_agree (fun vs H Q E h => h.elim) (fun cdv A outer s H vs Q E hr h => h.elim)
theorem sc_agree : FnScope ["one", "other"] ["one", "other"] (defScope s_agree) := ⟨rfl, rfl, rfl, by decide +kernel, rfl, by decide +kernel, by decide +kernel⟩
def sp_agree0 (C D : Addr) : Sp := fun vs H Q _ => ∃ (x y : V) (s : Tag) (t : Res), vs = [x, y] ∧ Rep C H x s ∧ RepR C D H y t ∧ Q (.bl (decide (Res.val s = t))) H
theorem ok_agree_0 (T : Top K mg) : FnOk P w K mg base CX0 3 T.f_agree T.fd_agree ["one", "other"] (sp_agree0 T.C_Unnumbered T.C_Told) := by
  refine T.F_agree.ok sc_agree (fun vs H Q E h => ?_) (fun cdv A outer s H vs Q E hr h => ?_)
  · obtain ⟨x, y, s, t, rfl, _⟩ := h
    rfl
  · obtain ⟨x, y, s, t, rfl, hx, hy, q⟩ := h
    refine ⟨_, pss_cons (ps_if (pt_val (pe_callB (Z.c_isi (K := K) rfl) (by rfl) T.z_isinstance (by decide +kernel) (pa_cons (pv 0) (pa_cons (pe_bltn (v := .ty "bool") (by rfl) T.z_bool (by decide +kernel) rfl) (pa_nil))))) (pss_one (ps_ret (pe_and (pe_callB (Z.c_isi (K := K) rfl) (by rfl) T.z_isinstance (by decide +kernel) (pa_cons (pv 1) (pa_cons (pe_bltn (v := .ty "bool") (by rfl) T.z_bool (by decide +kernel) rfl) (pa_nil)))) (pe_one (pe_cmpR (Z.o_any3 op_eq (Z.o_cmpL (fun _ _ => rfl) T.me_Told___eq (ok_Told___eq T) (hr.mono (by decide)) T.B_Told___eq) (Z.o_cmpR (fun _ _ => rfl) F.slot_int_eq F.entry_int_eq F.args_int_eq_2 Z.dec_eq T.me_Told___eq (ok_Told___eq T) (hr.mono (by decide)) T.B_Told___eq)) (pv 0) (pv 1) (nomark _)))))) (pss_nil)) (pss_cons (ps_if (pt_val (pe_callB (Z.c_isi (K := K) rfl) (by rfl) T.z_isinstance (by decide +kernel) (pa_cons (pv 0) (pa_cons (pe_bltn (v := .ty "tuple") (by rfl) T.z_tuple (by decide +kernel) rfl) (pa_nil))))) (pss_one (ps_ret (pe_and (pe_callB (Z.c_isi (K := K) rfl) (by rfl) T.z_isinstance (by decide +kernel) (pa_cons (pv 1) (pa_cons (pe_bltn (v := .ty "tuple") (by rfl) T.z_tuple (by decide +kernel) rfl) (pa_nil)))) (pe_one (pe_call (ok_pairs_agree_f T) (hr.mono (by decide)) (by rfl) T.mg_pairs_agree T.F_pairs_agree.kp T.B_pairs_agree .nil pass0 (pa_cons (pv 0) (pa_cons (pv 1) (pa_nil)))))))) (pss_nil)) (pss_cons (ps_if (pt_val (pe_callB (Z.c_isi (K := K) rfl) (by rfl) T.z_isinstance (by decide +kernel) (pa_cons (pv 0) (pa_cons (pe_glob (v := .ref T.C_Told) (by exact rfl) T.mgC_Told rfl) (pa_nil))))) (pss_one (ps_ret (pe_cmpR (Z.o_any3 op_eq (Z.o_cmpL (fun _ _ => rfl) T.me_Told___eq (ok_Told___eq T) (hr.mono (by decide)) T.B_Told___eq) (Z.o_cmpR (fun _ _ => rfl) F.slot_int_eq F.entry_int_eq F.args_int_eq_2 Z.dec_eq T.me_Told___eq (ok_Told___eq T) (hr.mono (by decide)) T.B_Told___eq)) (pv 0) (pv 1) (nomark _)))) (pss_nil)) (pss_one (ps_ret (pe_call (ok_same_r T) (hr.mono (by decide)) (by rfl) T.mg_same T.F_same.kp T.B_same .nil pass0 (pa_cons (pv 0) (pa_cons (pv 1) (pa_nil)))))))), ?_⟩
    refine Z.r_start (σ' := [some (x), some (y)]) rfl ?_
    cases s with
    | non => cases hx; walk_at "go"; exact k_sameR rep_non hy q
    | num i => cases hx; walk_at "go"; exact k_sameR rep_num hy q
    | mark n => obtain ⟨a, dx, rfl, ha⟩ := hx; walk_at "go"; exact k_sameR (rep_mark ha) hy q
theorem k_agree0 {C D : Addr} {x y : V} {s : Tag} {t : Res} {H : Hp} {Q : VK} {E : XK} (hx : Rep C H x s) (hy : RepR C D H y t) (q : Q (.bl (decide (Res.val s = t))) H) : sp_agree0 C D ([x, y] ++ []) H Q E := ⟨x, y, s, t, rfl, hx, hy, q⟩
def sp_pairs (C : Addr) : Sp := fun vs H Q _ => ∃ (p r : Addr) (x y : V) (i j : Int) (s t : Tag), vs = [.ref p, .ref r] ∧ H p = some (.tup [x, .int i]) ∧ H r = some (.tup [y, .int j]) ∧ Rep C H x s ∧ Rep C H y t ∧ Q (.bl (decide (Res.mean s i = Res.mean t j))) H
theorem ok_pairs_agree (T : Top K mg) : FnOk P w K mg base CX0 4 T.f_pairs_agree T.fd_pairs_agree ["one", "other"] (sp_pairs T.C_Unnumbered) := by
  refine T.F_pairs_agree.ok sc_pairs_agree (fun vs H Q E h => ?_) (fun cdv A outer s H vs Q E hr h => ?_)
  · obtain ⟨p, r, x, y, i, j, s, t, rfl, _⟩ := h
    rfl
  · obtain ⟨p, r, x, y, i, j, s, t, rfl, hp, hr', hx, hy, q⟩ := h
    refine ⟨_, pss_cons (ps_if ((pw_or (pt_cmpR op_ne (pe_callB Z.c_len (by rfl) T.z_len (by decide +kernel) (pa_cons (pv 0) (pa_nil))) (pe_int) (nomark _)) (pw_or1 (pt_cmpR op_ne (pe_callB Z.c_len (by rfl) T.z_len (by decide +kernel) (pa_cons (pv 1) (pa_nil))) (pe_int) (nomark _)))).pt) (pss_one (ps_ret (pe_bl))) (pss_nil)) (pss_one (ps_ret (pe_and (pe_call (ok_agree_0 T) (hr.mono (by decide)) (by rfl) T.mg_agree T.F_agree.kp T.B_agree .nil pass0 (pa_cons (pe_ix (Z.ix_seqG (K := K) rfl) (pv 0) (pe_int) (fun _ _ => rfl)) (pa_cons (pe_ix (Z.ix_seqG (K := K) rfl) (pv 1) (pe_int) (fun _ _ => rfl)) (pa_nil)))) (pe_one (pe_call (ok_agree_0 T) (hr.mono (by decide)) (by rfl) T.mg_agree T.F_agree.kp T.B_agree .nil pass0 (pa_cons (pe_ix (Z.ix_seqG (K := K) rfl) (pv 0) (pe_int) (fun _ _ => rfl)) (pa_cons (pe_ix (Z.ix_seqG (K := K) rfl) (pv 1) (pe_int) (fun _ _ => rfl)) (pa_nil)))))))), ?_⟩
    refine Z.r_start (σ' := [some (.ref p), some (.ref r)]) rfl ?_
    walk_at "go"
    refine k_agree0 (t := .val t) hx hy ?_
    by_cases e : s = t
    · subst e
      refine Z.r_bl ?_
      refine Z.yes (decide_eq_true rfl) ?_
      walk_at "go"
      refine k_agree0 (s := .num i) (t := .val (.num j)) rfl rfl ?_
      have e : decide (Res.mean s i = Res.mean s j) = decide (Res.val (.num i) = Res.val (.num j)) := by by_cases h : i = j <;> simp [h]
      rw [e] at q
      walk_at "go"
      exact q
    · have e1 : decide (Res.mean s i = Res.mean t j) = false := by simp [e]
      rw [e1] at q
      refine Z.r_bl ?_
      refine Z.no (by simp [e]) ?_
      walk_at "go"
      exact q
theorem k_pairs {C p r : Addr} {x y : V} {i j : Int} {s t : Tag} {H : Hp} {Q : VK} {E : XK} (hp : H p = some (.tup [x, .int i])) (hr : H r = some (.tup [y, .int j])) (hx : Rep C H x s) (hy : Rep C H y t) (q : Q (.bl (decide (Res.mean s i = Res.mean t j))) H) :
    sp_pairs C ([.ref p, .ref r] ++ []) H Q E := ⟨p, r, x, y, i, j, s, t, rfl, hp, hr, hx, hy, q⟩
def sp_agree (C D : Addr) : Sp := fun vs H Q _ => ∃ (x y : V) (s t : Res), vs = [x, y] ∧ RepR C D H x s ∧ RepR C D H y t ∧ Q (.bl (decide (s = t))) H
theorem ok_agree (T : Top K mg) : FnOk P w K mg base CX0 5 T.f_agree T.fd_agree ["one", "other"] (sp_agree T.C_Unnumbered T.C_Told) := by
  refine T.F_agree.ok sc_agree (fun vs H Q E h => ?_) (fun cdv A outer s H vs Q E hr h => ?_)
  · obtain ⟨x, y, s, t, rfl, _⟩ := h
    rfl
  · obtain ⟨x, y, s, t, rfl, hx, hy, q⟩ := h
    refine ⟨_, pss_cons (ps_if (pt_val (pe_callB (Z.c_isi (K := K) rfl) (by rfl) T.z_isinstance (by decide +kernel) (pa_cons (pv 0) (pa_cons (pe_bltn (v := .ty "bool") (by rfl) T.z_bool (by decide +kernel) rfl) (pa_nil))))) (pss_one (ps_ret (pe_and (pe_callB (Z.c_isi (K := K) rfl) (by rfl) T.z_isinstance (by decide +kernel) (pa_cons (pv 1) (pa_cons (pe_bltn (v := .ty "bool") (by rfl) T.z_bool (by decide +kernel) rfl) (pa_nil)))) (pe_one (pe_cmpR (Z.o_any3 op_eq (Z.o_cmpL (fun _ _ => rfl) T.me_Told___eq (ok_Told___eq T) (hr.mono (by decide)) T.B_Told___eq) (Z.o_cmpR (fun _ _ => rfl) F.slot_int_eq F.entry_int_eq F.args_int_eq_2 Z.dec_eq T.me_Told___eq (ok_Told___eq T) (hr.mono (by decide)) T.B_Told___eq)) (pv 0) (pv 1) (nomark _)))))) (pss_nil)) (pss_cons (ps_if (pt_val (pe_callB (Z.c_isi (K := K) rfl) (by rfl) T.z_isinstance (by decide +kernel) (pa_cons (pv 0) (pa_cons (pe_bltn (v := .ty "tuple") (by rfl) T.z_tuple (by decide +kernel) rfl) (pa_nil))))) (pss_one (ps_ret (pe_and (pe_callB (Z.c_isi (K := K) rfl) (by rfl) T.z_isinstance (by decide +kernel) (pa_cons (pv 1) (pa_cons (pe_bltn (v := .ty "tuple") (by rfl) T.z_tuple (by decide +kernel) rfl) (pa_nil)))) (pe_one (pe_call (ok_pairs_agree T) (hr.mono (by decide)) (by rfl) T.mg_pairs_agree T.F_pairs_agree.kp T.B_pairs_agree .nil pass0 (pa_cons (pv 0) (pa_cons (pv 1) (pa_nil)))))))) (pss_nil)) (pss_cons (ps_if (pt_val (pe_callB (Z.c_isi (K := K) rfl) (by rfl) T.z_isinstance (by decide +kernel) (pa_cons (pv 0) (pa_cons (pe_glob (v := .ref T.C_Told) (by exact rfl) T.mgC_Told rfl) (pa_nil))))) (pss_one (ps_ret (pe_cmpR (Z.o_any3 op_eq (Z.o_cmpL (fun _ _ => rfl) T.me_Told___eq (ok_Told___eq T) (hr.mono (by decide)) T.B_Told___eq) (Z.o_cmpR (fun _ _ => rfl) F.slot_int_eq F.entry_int_eq F.args_int_eq_2 Z.dec_eq T.me_Told___eq (ok_Told___eq T) (hr.mono (by decide)) T.B_Told___eq)) (pv 0) (pv 1) (nomark _)))) (pss_nil)) (pss_one (ps_ret (pe_call (ok_same_r T) (hr.mono (by decide)) (by rfl) T.mg_same T.F_same.kp T.B_same .nil pass0 (pa_cons (pv 0) (pa_cons (pv 1) (pa_nil)))))))), ?_⟩
    refine Z.r_start (σ' := [some (x), some (y)]) rfl ?_
    cases s with
    | val s =>
      cases s with
      | non => cases hx; walk_at "go"; exact k_sameR rep_non hy q
      | num i => cases hx; walk_at "go"; exact k_sameR rep_num hy q
      | mark n => obtain ⟨a, dx, rfl, ha⟩ := hx; walk_at "go"; exact k_sameR (rep_mark ha) hy q
    | tru b =>
      cases hx
      cases t with
      | tru c =>
        cases hy; walk_at "go"
        have e : decide (Res.tru b = Res.tru c) = decide (b = c) := by by_cases h : b = c <;> simp [h]
        rw [e] at q
        refine Or.inl (Z.r_eqB ?_)
        walk_at "go"
        exact q
      | mean t i => obtain ⟨p, z, rfl, hp, hz⟩ := hy; walk_at "go"; exact q
      | told p => obtain ⟨b, dy, rfl, hb⟩ := hy; walk_at "go"; exact q
      | val t =>
        cases t with
        | non => cases hy; walk_at "go"; exact q
        | num j => cases hy; walk_at "go"; exact q
        | mark m => obtain ⟨b, dy, rfl, hb⟩ := hy; walk_at "go"; exact q
    | mean s i =>
      obtain ⟨p, x', rfl, hp, hx'⟩ := hx
      cases t with
      | tru c => cases hy; walk_at "go"; exact q
      | mean t j => obtain ⟨p', z, rfl, hp', hz⟩ := hy; walk_at "go"; exact k_pairs hp hp' hx' hz q
      | told p => obtain ⟨b, dy, rfl, hb⟩ := hy; walk_at "go"; exact q
      | val t =>
        cases t with
        | non => cases hy; walk_at "go"; exact q
        | num j => cases hy; walk_at "go"; exact q
        | mark m => obtain ⟨b, dy, rfl, hb⟩ := hy; walk_at "go"; exact q
    | told o =>
      obtain ⟨a, dx, rfl, ha⟩ := hx
      cases t with
      | tru c => cases hy; walk_at "go"; exact k_To_eq (r := .tru c) ha rfl q
      | mean t j => obtain ⟨p', z, rfl, hp', hz⟩ := hy; walk_at "go"; exact k_To_eq (r := .mean t j) ha ⟨_, _, rfl, hp', hz⟩ q
      | told p => obtain ⟨b, dy, rfl, hb⟩ := hy; walk_at "go"; exact k_To_eq (r := .told p) ha ⟨_, _, rfl, hb⟩ q
      | val t =>
        cases t with
        | non => cases hy; walk_at "go"; exact k_To_eq (r := .val .non) ha rfl q
        | num j => cases hy; walk_at "go"; exact k_To_eq (r := .val (.num j)) ha rfl q
        | mark m => obtain ⟨b, dy, rfl, hb⟩ := hy; walk_at "go"; exact k_To_eq (r := .val (.mark m)) ha ⟨_, _, rfl, hb⟩ q
theorem k_agree {C D : Addr} {x y : V} {s t : Res} {H : Hp} {Q : VK} {E : XK} (hx : RepR C D H x s) (hy : RepR C D H y t) (q : Q (.bl (decide (s = t))) H) : sp_agree C D ([x, y] ++ []) H Q E := ⟨x, y, s, t, rfl, hx, hy, q⟩

theorem sc_law_result : FnScope ["_law_bag_here", "_law_words", "_law_road"] ["_law_bag_here", "_law_words"] (defScope s_law_result) := ⟨rfl, rfl, rfl, by decide +kernel, rfl, by decide +kernel, by decide +kernel⟩
def sp_law_result : Sp := fun vs H Q _ => ∃ (b l : Addr) (n : Nat) (ws : List Str), vs = [.ref b, .ref l] ∧ Bag H b n ∧ n < 1000000 ∧ H l = some (.lst (ws.map V.str)) ∧ l ≠ b ∧ 0 < ws.length ∧ ws.length ≤ 10 ∧ (∀ x ∈ ws, Word x) ∧
  ∀ p t H', H p = none → Z.But b H H' → Bag H' b (n + 90) → ResAt H' p t → Q (.ref p) H'
theorem ok_law_result (T : Top K mg) : FnOk P w K mg base CX0 4 T.f_law_result T.fd_law_result ["_law_bag_here", "_law_words"] sp_law_result := by
  refine T.F_law_result.ok sc_law_result (fun vs H Q E h => ?_) (fun cdv A outer s H vs Q E hr h => ?_)
  · obtain ⟨b, l, n, ws, rfl, _⟩ := h
    rfl
  · obtain ⟨b, l, n, ws, rfl, hb, hn, hl, nlb, w0, w1, hw, q⟩ := h
    refine ⟨_, pss_cons (ps_set (i := 2) sc_law_result.nd rfl (.inl rfl) (pe_call (ok_law_draw T) (hr.mono (by decide)) (by rfl) T.mg_law_draw T.F_law_draw.kp T.B_law_draw .nil pass0 (pa_cons (pv 0) (pa_cons (pe_int) (pa_nil))))) (pss_cons (ps_if (pt_cmpR op_eq (pv 2) (pe_int) (nomark _)) (pss_one (ps_ret (pe_tup (pa_cons (pe_str) (pa_cons (pe_ix (Z.ix_seqG (K := K) rfl) (pe_lst (pa_cons (pe_str) (pa_cons (pe_str) (pa_nil)))) (pe_call (ok_law_draw T) (hr.mono (by decide)) (by rfl) T.mg_law_draw T.F_law_draw.kp T.B_law_draw .nil pass0 (pa_cons (pv 0) (pa_cons (pe_int) (pa_nil)))) (fun _ _ => rfl)) (pa_nil)))))) (pss_nil)) (pss_cons (ps_if (pt_cmpR op_lt (pv 2) (pe_int) (nomark _)) (pss_one (ps_ret (pe_tup (pa_cons (pe_str) (pa_cons (pe_ifExp (pt_cmpR op_eq (pe_call (ok_law_draw T) (hr.mono (by decide)) (by rfl) T.mg_law_draw T.F_law_draw.kp T.B_law_draw .nil pass0 (pa_cons (pv 0) (pa_cons (pe_int) (pa_nil)))) (pe_int) (nomark _)) (pe_call (ok_law_tag T) (hr.mono (by decide)) (by rfl) T.mg_law_tag T.F_law_tag.kp T.B_law_tag .nil pass0 (pa_cons (pv 0) (pa_cons (pv 1) (pa_nil)))) (pe_tup (pa_cons (pe_str) (pa_cons (pe_call (ok_law_draw T) (hr.mono (by decide)) (by rfl) T.mg_law_draw T.F_law_draw.kp T.B_law_draw .nil pass0 (pa_cons (pv 0) (pa_cons (pe_int) (pa_nil)))) (pa_nil))))) (pa_nil)))))) (pss_nil)) (pss_cons (ps_if (pt_cmpR op_eq (pv 2) (pe_int) (nomark _)) (pss_one (ps_ret (pe_tup (pa_cons (pe_str) (pa_cons (pe_call (ok_law_tag T) (hr.mono (by decide)) (by rfl) T.mg_law_tag T.F_law_tag.kp T.B_law_tag .nil pass0 (pa_cons (pv 0) (pa_cons (pv 1) (pa_nil)))) (pa_cons (pe_call (ok_law_draw T) (hr.mono (by decide)) (by rfl) T.mg_law_draw T.F_law_draw.kp T.B_law_draw .nil pass0 (pa_cons (pv 0) (pa_cons (pe_int) (pa_nil)))) (pa_nil))))))) (pss_nil)) (pss_one (ps_ret (pe_tup (pa_cons (pe_str) (pa_cons (pe_ifExp (pt_cmpR op_eq (pe_call (ok_law_draw T) (hr.mono (by decide)) (by rfl) T.mg_law_draw T.F_law_draw.kp T.B_law_draw .nil pass0 (pa_cons (pv 0) (pa_cons (pe_int) (pa_nil)))) (pe_int) (nomark _)) (pe_non) (pe_op op_add (pe_call (ok_law_draw T) (hr.mono (by decide)) (by rfl) T.mg_law_draw T.F_law_draw.kp T.B_law_draw .nil pass0 (pa_cons (pv 0) (pa_cons (pe_int) (pa_nil)))) (pe_op op_mul (pe_int) (pe_call (ok_law_draw T) (hr.mono (by decide)) (by rfl) T.mg_law_draw T.F_law_draw.kp T.B_law_draw .nil pass0 (pa_cons (pv 0) (pa_cons (pe_int) (pa_nil))))))) (pa_nil))))))))), ?_⟩
    refine Z.r_start (σ' := [some (.ref b), some (.ref l), none]) rfl ?_
    walk_at "go"
    walk_at "draw"
    intro r H1 r0 r1 t1 g1
    have hl1 := t1 _ _ nlb hl
    walk_at "go"
    refine Z.ways (fun c => ?_) (fun c => ?_)
    · walk_at "go"
      intro yl H2 ny s2 hyl
      have g2 := g1.same s2
      have nyb := g1.ne ny
      walk_at "go"
      walk_at "draw"
      intro d H3 d0 d1 t3 g3
      have hyl3 := t3 _ _ nyb hyl
      obtain ⟨bv, hbv⟩ : ∃ bv : Bool, atI [V.str "no", V.str "yes"] d = some (.str (yn bv)) := by
        have : d = 0 ∨ d = 1 := by omega
        rcases this with rfl | rfl
        · exact ⟨false, rfl⟩
        · exact ⟨true, rfl⟩
      walk_at "go"
      intro p H4 np s4 hp
      have t14 := ((t1.trans (Z.But.same s2)).trans t3).trans (Z.But.same s4)
      exact q p (.tru bv) H4 (((t1.trans (Z.But.same s2)).trans t3).free (g3.ne np) np) t14 ((g3.same s4).mono (by omega)) hp
    walk_at "go"
    refine Z.ways (fun c => ?_) (fun c => ?_)
    · walk_at "go"
      walk_at "draw"
      intro d H2 d0 d1 t2 g2
      have hl2 := t2 _ _ nlb hl1
      walk_at "go"
      refine Z.ways (fun c => ?_) (fun c => ?_)
      · walk_at "go"
        refine k_law_tag g2 (by omega) hl2 nlb w0 w1 hw ?_
        intro p t H3 np t3 g3 h3
        walk_at "go"
        intro p' H4 np' s4 hp'
        have t13 := (t1.trans t2).trans t3
        exact q p' (.val t) H4 (t13.free (g3.ne np') np') (t13.trans (Z.But.same s4)) ((g3.same s4).mono (by omega)) ⟨p, hp', h3.same s4⟩
      · walk_at "go"
        walk_at "draw"
        intro e H3 e0 e1 t3 g3
        walk_at "go"
        intro p H4 np s4 hp
        walk_at "go"
        intro p' H5 np' s5 hp'
        have t13 := (t1.trans t2).trans t3
        have t14 := t13.trans (Z.But.same s4)
        have g4 := g3.same s4
        exact q p' (.val (.num e)) H5 (t14.free (g4.ne np') np') (t14.trans (Z.But.same s5)) ((g4.same s5).mono (by omega)) ⟨p, hp', ⟨s5 _ _ hp, trivial⟩⟩
    walk_at "go"
    refine Z.ways (fun c => ?_) (fun c => ?_)
    · walk_at "go"
      refine k_law_tag g1 (by omega) hl1 nlb w0 w1 hw ?_
      intro p t H2 np t2 g2 h2
      walk_at "go"
      walk_at "draw"
      intro d H3 d0 d1 t3 g3
      have h3 := h2.but t3 (h2.ne' g2)
      walk_at "go"
      intro p' H4 np' s4 hp'
      have t13 := (t1.trans t2).trans t3
      exact q p' (.mean t d) H4 (t13.free (g3.ne np') np') (t13.trans (Z.But.same s4)) ((g3.same s4).mono (by omega)) ⟨p, hp', h3.same s4⟩
    walk_at "go"
    walk_at "draw"
    intro d H2 d0 d1 t2 g2
    walk_at "go"
    refine Z.ways (fun c => ?_) (fun c => ?_)
    · walk_at "go"
      intro p H3 np s3 hp
      have t12 := t1.trans t2
      exact q p (.told none) H3 (t12.free (g2.ne np) np) (t12.trans (Z.But.same s3)) ((g2.same s3).mono (by omega)) ⟨hp, fun i e => by cases e⟩
    · walk_at "go"
      walk_at "draw"
      intro e H3 e0 e1 t3 g3
      walk_at "go"
      walk_at "draw"
      intro f H4 f0 f1 t4 g4
      walk_at "go"
      intro p H5 np s5 hp
      have t14 := ((t1.trans t2).trans t3).trans t4
      exact q p (.told (some (e + 9999 * f))) H5 (t14.free (g4.ne np) np) (t14.trans (Z.But.same s5)) ((g4.same s5).mono (by omega)) ⟨hp, fun i z => by cases z; omega⟩
theorem k_law_result {b l : Addr} {n : Nat} {ws : List Str} {H : Hp} {Q : VK} {E : XK} (bg : Bag H b n) (hn : n < 1000000) (hl : H l = some (.lst (ws.map V.str))) (nlb : l ≠ b) (w0 : 0 < ws.length) (w1 : ws.length ≤ 10) (hw : ∀ x ∈ ws, Word x)
    (q : ∀ p t H', H p = none → Z.But b H H' → Bag H' b (n + 90) → ResAt H' p t → Q (.ref p) H') : sp_law_result ([.ref b, .ref l] ++ []) H Q E := ⟨b, l, n, ws, rfl, bg, hn, hl, nlb, w0, w1, hw, q⟩
theorem sc_law_shaped : FnScope ["_law_result_here"] ["_law_result_here"] (defScope s_law_shaped) := ⟨rfl, rfl, rfl, by decide +kernel, rfl, by decide +kernel, by decide +kernel⟩
def sp_law_shaped (C D : Addr) : Sp := fun vs H Q _ => ∃ (p : Addr) (t : Res), vs = [.ref p] ∧ ResAt H p t ∧ ∀ x H', Same H H' → RepR C D H' x t → Q x H'
theorem ok_law_shaped (T : Top K mg) : FnOk P w K mg base CX0 4 T.f_law_shaped T.fd_law_shaped ["_law_result_here"] (sp_law_shaped T.C_Unnumbered T.C_Told) := by
  refine T.F_law_shaped.ok sc_law_shaped (fun vs H Q E h => ?_) (fun cdv A outer s H vs Q E hr h => ?_)
  · obtain ⟨p, t, rfl, _⟩ := h
    rfl
  · obtain ⟨p, t, rfl, hp, q⟩ := h
    refine ⟨_, pss_cons (ps_if (pt_cmpR op_eq (pe_ix (Z.ix_seqG (K := K) rfl) (pv 0) (pe_int) (fun _ _ => rfl)) (pe_str) (nomark _)) (pss_one (ps_ret (pe_cmpR op_eq (pe_ix (Z.ix_seqG (K := K) rfl) (pv 0) (pe_int) (fun _ _ => rfl)) (pe_str) (nomark _)))) (pss_nil)) (pss_cons (ps_if (pt_cmpR op_eq (pe_ix (Z.ix_seqG (K := K) rfl) (pv 0) (pe_int) (fun _ _ => rfl)) (pe_str) (nomark _)) (pss_one (ps_ret (pe_make T.mk_Told (ok_Told___init T) (hr.mono (by decide)) (by rfl) T.mgC_Told T.B_Told___init .nil pass0 (pa_cons (pe_ix (Z.ix_seqG (K := K) rfl) (pv 0) (pe_int) (fun _ _ => rfl)) (pa_nil))))) (pss_nil)) (pss_cons (ps_if (pt_cmpR op_eq (pe_ix (Z.ix_seqG (K := K) rfl) (pv 0) (pe_int) (fun _ _ => rfl)) (pe_str) (nomark _)) (pss_one (ps_ret (pe_tup (pa_cons (pe_call (ok_law_made T) (hr.mono (by decide)) (by rfl) T.mg_law_made T.F_law_made.kp T.B_law_made .nil pass0 (pa_cons (pe_ix (Z.ix_seqG (K := K) rfl) (pv 0) (pe_int) (fun _ _ => rfl)) (pa_nil))) (pa_cons (pe_ix (Z.ix_seqG (K := K) rfl) (pv 0) (pe_int) (fun _ _ => rfl)) (pa_nil)))))) (pss_nil)) (pss_one (ps_ret (pe_call (ok_law_made T) (hr.mono (by decide)) (by rfl) T.mg_law_made T.F_law_made.kp T.B_law_made .nil pass0 (pa_cons (pe_ix (Z.ix_seqG (K := K) rfl) (pv 0) (pe_int) (fun _ _ => rfl)) (pa_nil))))))), ?_⟩
    refine Z.r_start (σ' := [some (.ref p)]) rfl ?_
    cases t with
    | tru b =>
      have hp : H p = some (.tup [.str "truth", .str (yn b)]) := hp
      walk_at "go"
      cases b with
      | true => exact q _ _ (Same.refl _) rfl
      | false => exact q _ _ (Same.refl _) rfl
    | told o =>
      obtain ⟨hp, ho⟩ := hp
      walk_at "go"
      refine r_mkTo ?_
      intro x dx H1 nx s1 hx
      exact q _ _ s1 ⟨x, dx, rfl, hx⟩
    | mean t i =>
      obtain ⟨r, hp, hr'⟩ := hp
      walk_at "go"
      refine k_law_made hr' ?_
      intro x H1 s1 hx
      have hp1 := s1 _ _ hp
      walk_at "go"
      intro y H2 ny s2 hy
      exact q _ _ (s1.trans s2) ⟨y, x, rfl, hy, hx.same s2⟩
    | val t =>
      obtain ⟨r, hp, hr'⟩ := hp
      walk_at "go"
      refine k_law_made hr' ?_
      intro x H1 s1 hx
      exact q _ _ s1 hx
theorem k_law_shaped {C D p : Addr} {t : Res} {H : Hp} {Q : VK} {E : XK} (h : ResAt H p t) (q : ∀ x H', Same H H' → RepR C D H' x t → Q x H') : sp_law_shaped C D ([.ref p] ++ []) H Q E := ⟨p, t, rfl, h, q⟩
theorem sc_law : FnScope ["_law_script", "_law_at", "_law_bag_here", "_law_words", "_law_rows", "_law_one", "_law_two", "_law_turn", "_law_first", "_law_second"] ["_law_script"] (defScope s_law) := ⟨rfl, rfl, rfl, by decide +kernel, rfl, by decide +kernel, by decide +kernel⟩
def sp_law (K : PySem.W.Frag) : Sp := fun vs H Q _ => ∃ (a : Addr) (ns : List Int), vs = [.ref a] ∧ SqL K H a (ns.map V.int) ∧ ns.length ≤ 63 ∧ ∀ H', Q (.bl true) H'
theorem ok_law (T : Top K mg) : FnOk P w K mg base CX0 6 T.f_law T.fd_law ["_law_script"] (sp_law K) := by
  refine T.F_law.ok sc_law (fun vs H Q E h => ?_) (fun cdv A outer s H vs Q E hr h => ?_)
  · obtain ⟨a, ns, rfl, _⟩ := h
    rfl
  · obtain ⟨a, ns, rfl, hS, hlen, q⟩ := h
    refine ⟨_, pss_cons (ps_for PassesOwn.never rfl (pi_range1 (by rfl) T.z_range (pa_cons (pe_callB (Z.c_max2 rfl) (by rfl) T.z_max (by decide +kernel) (pa_cons (pe_int) (pa_cons (pe_callB (Z.c_min2 rfl) (by rfl) T.z_min (by decide +kernel) (pa_cons (pe_int) (pa_cons (pe_callB Z.c_len (by rfl) T.z_len (by decide +kernel) (pa_cons (pv 0) (pa_nil))) (pa_nil)))) (pa_nil)))) (pa_nil))) (pg_name (i := 1) sc_law.nd rfl (.inl rfl)) (pss_cons (ps_set (i := 2) sc_law.nd rfl (.inr rfl) (pe_call (ok_law_bag T) (hr.mono (by decide)) (by rfl) T.mg_law_bag T.F_law_bag.kp T.B_law_bag .nil pass0 (pa_cons (pv 0) (pa_cons (pv 1) (pa_nil))))) (pss_cons (ps_set (i := 3) sc_law.nd rfl (.inr rfl) (pe_lst (pa_cons (pe_call (ok_law_word T) (hr.mono (by decide)) (by rfl) T.mg_law_word T.F_law_word.kp T.B_law_word .nil pass0 (pa_cons (pv 2) (pa_nil))) (pa_cons (pe_str) (pa_nil))))) (pss_cons (ps_setLc (i := 4) (own := [("_law_turn", 7)]) (g := gName 7) (tt := tYes) rfl sc_law.nd rfl rfl (sw_true rfl rfl rfl (by decide +kernel)) (pi_range1 (by rfl) T.z_range (pa_cons (pe_op op_add (pe_int) (pe_call (ok_law_draw T) (hr.mono (by decide)) (by rfl) T.mg_law_draw T.F_law_draw.kp T.B_law_draw .nil pass0 (pa_cons (pv 2) (pa_cons (pe_int) (pa_nil))))) (pa_nil))) (blkOk_by (own := [("_law_turn", 7)]) (N := ["_law_script", "_law_at", "_law_bag_here", "_law_words", "_law_rows", "_law_one", "_law_two", "_law_turn", "_law_first", "_law_second"]) (sc := defScope s_law) (by decide +kernel)) (fun _ _ _ _ _ => pg_name (i := 7) sc_law.nd rfl (.inl rfl)) (fun _ _ _ _ _ => pts_nil) (fun _ _ _ _ _ => pe_call (ok_law_result T) (hr.mono (by decide)) (by rfl) T.mg_law_result T.F_law_result.kp T.B_law_result .nil pass0 (pa_cons (pv 2) (pa_cons (pv 3) (pa_nil))))) (pss_cons (ps_set (i := 4) sc_law.nd rfl (.inl rfl) (pe_op op_cat (pv 4) (pe_lst (pa_cons (pe_ix (Z.ix_seqG (K := K) rfl) (pv 4) (pe_int) (fun _ _ => rfl)) (pa_nil))))) (pss_one (ps_for PassesOwn.never rfl (pi_list (pv 4)) (pg_name (i := 5) sc_law.nd rfl (.inl rfl)) (pss_one (ps_for PassesOwn.never rfl (pi_list (pv 4)) (pg_name (i := 6) sc_law.nd rfl (.inl rfl)) (pss_cons (ps_if (pt_not (pt_val (pe_call (ok_law_says T) (hr.mono (by decide)) (by rfl) T.mg_law_says T.F_law_says.kp T.B_law_says .nil pass0 (pa_cons (pe_call (ok_agree T) (hr.mono (by decide)) (by rfl) T.mg_agree T.F_agree.kp T.B_agree .nil pass0 (pa_cons (pe_call (ok_law_shaped T) (hr.mono (by decide)) (by rfl) T.mg_law_shaped T.F_law_shaped.kp T.B_law_shaped .nil pass0 (pa_cons (pv 5) (pa_nil))) (pa_cons (pe_call (ok_law_shaped T) (hr.mono (by decide)) (by rfl) T.mg_law_shaped T.F_law_shaped.kp T.B_law_shaped .nil pass0 (pa_cons (pv 6) (pa_nil))) (pa_nil)))) (pa_cons (pe_cmpR (op_eqD hr.units) (pv 5) (pv 6) (nomark _)) (pa_nil)))))) (pss_one (ps_ret (pe_bl))) (pss_nil)) (pss_one (ps_if (pt_cmpR op_eq (pe_ix (Z.ix_seqG (K := K) rfl) (pv 5) (pe_int) (fun _ _ => rfl)) (pe_str) (nomark _)) (pss_cons (ps_par (i := 8) (j := 9) rfl sc_law.nd rfl rfl (by decide) rfl rfl (pa_cons (pe_call (ok_law_shaped T) (hr.mono (by decide)) (by rfl) T.mg_law_shaped T.F_law_shaped.kp T.B_law_shaped .nil pass0 (pa_cons (pv 5) (pa_nil))) (pa_cons (pe_call (ok_law_shaped T) (hr.mono (by decide)) (by rfl) T.mg_law_shaped T.F_law_shaped.kp T.B_law_shaped .nil pass0 (pa_cons (pv 6) (pa_nil))) (pa_nil))) (by rfl)) (pss_cons (ps_if ((pw_or (pt_not (pt_val (pe_call (ok_law_says T) (hr.mono (by decide)) (by rfl) T.mg_law_says T.F_law_says.kp T.B_law_says .nil pass0 (pa_cons (pe_cmpR (Z.o_any3 op_eq (Z.o_cmpL (fun _ _ => rfl) T.me_Told___eq (ok_Told___eq T) (hr.mono (by decide)) T.B_Told___eq) (Z.o_cmpR (fun _ _ => rfl) F.slot_int_eq F.entry_int_eq F.args_int_eq_2 Z.dec_eq T.me_Told___eq (ok_Told___eq T) (hr.mono (by decide)) T.B_Told___eq)) (pv 8) (pv 9) (nomark _)) (pa_cons (pe_cmpR (op_eqD hr.units) (pv 5) (pv 6) (nomark _)) (pa_nil)))))) (pw_or1 (pt_not (pt_val (pe_call (ok_law_says T) (hr.mono (by decide)) (by rfl) T.mg_law_says T.F_law_says.kp T.B_law_says .nil pass0 (pa_cons (pe_cmpR (Z.o_neX (k := 1) T.ne_Told T.me_Told___eq (ok_Told___eq T) (hr.mono (by decide)) T.B_Told___eq) (pv 8) (pv 9) (nomark _)) (pa_cons (pe_cmpR (op_neD hr.units) (pv 5) (pv 6) (nomark _)) (pa_nil)))))))).pt) (pss_one (ps_ret (pe_bl))) (pss_nil)) (pss_one (ps_if ((pw_or (pt_cmpR op_ne (pe_callB (Z.c_reprO (k := 1) T.me_Told___repr (ok_Told___repr T) (hr.mono (by decide)) T.B_Told___repr) (by rfl) T.z_repr (by decide +kernel) (pa_cons (pv 8) (pa_nil))) (pe_op Z.o_addS (pe_op Z.o_addS (pe_str) (pe_callTy Z.c_strOpt (by rfl) T.z_str (by decide +kernel) (pa_cons (pe_ix (Z.ix_seqG (K := K) rfl) (pv 5) (pe_int) (fun _ _ => rfl)) (pa_nil)))) (pe_str)) (nomark _)) (pw_or1 (pt_cmpR op_ne (pe_fld (pv 8) rfl) (pe_ix (Z.ix_seqG (K := K) rfl) (pv 5) (pe_int) (fun _ _ => rfl)) (nomark _)))).pt) (pss_one (ps_ret (pe_bl))) (pss_nil))))) (pss_nil))))))))))))) (pss_one (ps_ret (pe_bl))), ?_⟩
    refine Z.r_start (σ' := [some (.ref a), none, none, none, none, none, none, none, none, none]) rfl ?_
    walk_at "go"
    refine Z.r_rng (Z.turns _ 5 (by decide) (by decide)).1 (Z.turns _ 5 (by decide) (by decide)).2 (fun i σ' H' => Same H H' ∧ ∃ v1 v2 v3 v4 v5 v6 v7 v8 v9, σ' = [some (.ref a), v1, v2, v3, v4, v5, v6, v7, v8, v9]) ?_ ?_ ?_
    · exact ⟨Same.refl H, _, _, _, _, _, _, _, _, _, rfl⟩
    · rintro i σ' H0 hi ⟨s0, v1, v2, v3, v4, v5, v6, v7, v8, v9, rfl⟩
      have hi5 := Int.lt_of_lt_of_le hi (Z.turns_le _ 5 (by decide))
      walk_at "go"
      refine k_law_bag (s0.seq hS) (by omega) ?_
      intro b H1 s1 nb g1
      walk_at "go"
      refine k_law_word g1 (by decide) ?_
      intro w1 H2 hw1 t2 g2
      walk_at "go"
      intro wl H4 nwl s4 hwl
      have g4 := g2.same s4
      have nwb : wl ≠ b := g2.ne nwl
      walk_at "go"
      walk_at "draw"
      intro d H5 d0 d1 t5 g5
      walk_at "go"
      have z5 : Same H0 H5 := Z.But.back s1 nb ((t2.trans (Z.But.same s4)).trans t5)
      have hwl5 : H5 wl = some (.lst ([w1, "a"].map V.str)) := t5 _ _ nwb hwl
      have hws : ∀ x ∈ [w1, ("a" : Str)], Word x := by
        intro x hx
        rcases List.mem_cons.mp hx with rfl | hx
        · exact hw1
        rcases List.mem_cons.mp hx with rfl | hx
        · exact ⟨by decide +kernel, by decide +kernel, by decide +kernel⟩
        · cases hx
      refine Z.r_lcR (by omega) (by omega) (fun _ => rfl) (fun D i H' => ∃ ts : List (Addr × Res), ts.length = i ∧ H' D = some (.lst (ts.map fun x => V.ref x.1)) ∧ (∀ x ∈ ts, ResAt H' x.1 x.2) ∧ H' wl = some (.lst ([w1, "a"].map V.str)) ∧
        Bag H' b (121 + 90 * i) ∧ Z.But b H5 H' ∧ D ≠ b ∧ D ≠ wl) ?_ ?_ ?_
      · intro D H6 nD s6 h6
        exact ⟨[], rfl, h6, (fun x hx => by cases hx), s6 _ _ hwl5, (g5.same s6).mono (by omega), Z.But.same s6, g5.ne nD, (ne_of_none hwl5 nD).symm⟩
      · rintro D i H6 nD hi ⟨ts, hl, hD, hts, hwl6, g6, t6, nDb, nDw⟩
        walk_at "go"
        refine k_law_result g6 (by omega) hwl6 nwb (by show 0 < 2; decide) (by show 2 ≤ 10; decide) hws ?_
        intro p t H7 np t7 g7 h7
        refine Z.r_ap (t7 _ _ nDb hD) (by rw [List.length_map]; omega) fun H8 t8 h8 => ?_
        have hD7 := t7 _ _ nDb hD
        refine ⟨ts ++ [(p, t)], by rw [List.length_append, hl]; rfl, by rw [h8, List.map_append]; rfl, fun x hx => ?_, t8 _ _ nDw.symm (t7 _ _ nwb hwl6), (g7.but t8 nDb.symm).mono (by omega), fun b' o n e => t8 _ _ (ne_of_none e nD) (t7 _ _ n (t6 _ _ n e)), nDb, nDw⟩
        rcases List.mem_append.mp hx with hx | hx
        · exact ((hts x hx).bag t7 g6).but t8 hD7
        · have : x = (p, t) := by simpa using hx
          rw [this]
          exact h7.but t8 hD7
      · rintro D H6 nD ⟨ts, hl, hD, hts, hwl6, g6, t6, nDb, nDw⟩
        have z6 : Same H0 H6 := Z.But.back s1 nb (((t2.trans (Z.But.same s4)).trans t5).trans t6)
        have hl2 : 2 ≤ ts.length ∧ ts.length ≤ 5 := by omega
        walk_at "go"
        refine Z.r_ixL (v := .ref ts[0].1) (SqL.of hD) (atI_nat (xs := ts.map fun x => V.ref x.1) (j := 0) (by rw [List.getElem?_map, List.getElem?_eq_getElem (by omega)]; rfl)) ?_
        walk_at "go"
        intro p8 H8 np8 s8 hp8
        refine Z.r_cat (s8 _ _ hD) hp8 (by rw [List.length_map]; show ts.length + 1 ≤ 100000; omega) fun TL H9 nTL s9 hTL => ?_
        have ⟨us, hus⟩ : ∃ us, us = ts ++ [ts[0]] := ⟨_, rfl⟩
        have hTL' : H9 TL = some (.lst (us.map fun x => V.ref x.1)) := by rw [hTL, hus, List.map_append]; rfl
        have hul : us.length = ts.length + 1 := by rw [hus, List.length_append]; rfl
        have htu : ∀ x ∈ us, ResAt H9 x.1 x.2 := fun x hx => by
          have hx' : x ∈ ts := by
            rw [hus] at hx
            rcases List.mem_append.mp hx with h | h
            · exact h
            · rw [List.mem_singleton.mp h]; exact List.getElem_mem _
          exact ((hts x hx').same s8).same s9
        have z9 : Same H0 H9 := (z6.trans s8).trans s9
        clear hts hD
        walk_at "go"
        refine Z.r_lst_by (SqL.of hTL') (fun i' σ' H' => Same H9 H' ∧ ∃ u5 u6 u7 u8 u9, σ' = [some (.ref a), some (.int i), some (.ref b), some (.ref wl), some (.ref TL), u5, u6, u7, u8, u9]) ?_ ?_ ?_ ?_
        · exact ⟨Same.refl _, _, _, _, _, _, rfl⟩
        · rintro i1 σ' H11 ⟨s11, _⟩
          exact SqL.of (s11 _ _ hTL')
        · rintro i1 x σ' H11 hx ⟨s11, u5, u6, u7, u8, u9, rfl⟩
          rw [List.getElem?_map] at hx
          cases hu : us[i1]? with
          | none => rw [hu] at hx; cases hx
          | some o1 =>
          rw [hu] at hx
          cases hx
          have m1 := List.mem_of_getElem? hu
          walk_at "go"
          refine Z.r_lst_by (SqL.of (s11 _ _ hTL')) (fun i' σ' H' => Same H9 H' ∧ ∃ u6 u7 u8 u9, σ' = [some (.ref a), some (.int i), some (.ref b), some (.ref wl), some (.ref TL), some (.ref o1.1), u6, u7, u8, u9]) ?_ ?_ ?_ ?_
          · exact ⟨s11, _, _, _, _, rfl⟩
          · rintro i2 σ' H12 ⟨s12, _⟩
            exact SqL.of (s12 _ _ hTL')
          · rintro i2 x σ' H12 hx ⟨s12, w6, w7, w8, w9, rfl⟩
            rw [List.getElem?_map] at hx
            cases hv : us[i2]? with
            | none => rw [hv] at hx; cases hx
            | some o2 =>
            rw [hv] at hx
            cases hx
            have m2 := List.mem_of_getElem? hv
            have r1 := (htu _ m1).same s12
            have r2 := (htu _ m2).same s12
            walk_at "go"
            refine k_law_shaped r1 ?_
            intro x1 H13 s13 hx1
            walk_at "go"
            refine k_law_shaped (r2.same s13) ?_
            intro x2 H14 s14 hx2
            walk_at "go"
            refine k_agree (hx1.same s14) hx2 ?_
            have r1' := (r1.same s13).same s14
            have r2' := (r2.same s13).same s14
            walk_at "go"
            refine Z.r_eqD r1'.dp r2'.dp (res_shaped r1.ok) (res_shaped r2.ok) ?_
            rw [res_eqv]
            walk_at "go"
            refine Z.no (by simp) ?_
            walk_at "go"
            obtain ⟨ys, hys, hy0⟩ := ResAt.head (K := K) r1'
            refine Z.r_ixT hys hy0 ?_
            walk_at "go"
            have s14' := (s12.trans s13).trans s14
            cases h1 : o1.2 with
            | tru bb =>
              refine Z.no (decide_eq_false (by show ("truth" : Str) ≠ "told"; decide +kernel)) ?_
              walk_at "go"
              exact ⟨s14', _, _, _, _, rfl⟩
            | val bb =>
              refine Z.no (decide_eq_false (by show ("value" : Str) ≠ "told"; decide +kernel)) ?_
              walk_at "go"
              exact ⟨s14', _, _, _, _, rfl⟩
            | mean bb cc =>
              refine Z.no (decide_eq_false (by show ("mean" : Str) ≠ "told"; decide +kernel)) ?_
              walk_at "go"
              exact ⟨s14', _, _, _, _, rfl⟩
            | told o =>
              rw [h1] at r1'
              refine Z.yes (decide_eq_true rfl) ?_
              walk_at "go"
              refine k_law_shaped r1' ?_
              intro y1 H15 s15 hy1
              walk_at "go"
              refine k_law_shaped (r2'.same s15) ?_
              intro y2 H16 s16 hy2
              obtain ⟨A1, dA1, rfl, hA1⟩ := hy1.same s16
              have q1 := (r1'.same s15).same s16
              have q2 := (r2'.same s15).same s16
              have s16' := (s14'.trans s15).trans s16
              obtain ⟨hot, hoo⟩ := id q1
              obtain ⟨ty, hty, hnf⟩ := repr_ty T hy2
              walk_at "go"
              refine Z.r_cmpL hA1 hty hnf (k_To_eq hA1 hy2 ?_)
              walk_at "go"
              refine Z.r_eqD q1.dp q2.dp (res_shaped q1.ok) (res_shaped q2.ok) ?_
              rw [res_eqv]
              walk_at "go"
              refine Z.no (by simp) ?_
              walk_at "go"
              refine Z.r_neX hA1 hty hnf (k_To_eq hA1 hy2 (Z.r_neXB ?_))
              walk_at "go"
              refine Z.r_neP q1.dp q2.dp (res_shaped q1.ok) (res_shaped q2.ok) ?_
              rw [res_eqv]
              walk_at "go"
              refine Z.no (by simp) ?_
              walk_at "go"
              refine k_To_repr hA1 hoo ?_
              have ls := hoo.len
              walk_at "go"
              refine Z.r_strOpt (fun i e => (by subst e; exact hoo.log)) ?_
              have l5 : ("Told(" : Str).length = 5 := rfl
              have l1 : (")" : Str).length = 1 := rfl
              refine Z.r_addS (Z.szle (by omega)) ?_
              walk_at "go"
              refine Z.r_addS (Z.szle (by rw [Str.length_append]; omega)) ?_
              walk_at "go"
              refine Z.no (by simp) ?_
              walk_at "go"
              refine Z.r_neO ?_
              walk_at "go"
              refine Z.no (by simp) ?_
              walk_at "go"
              exact ⟨s16', _, _, _, _, rfl⟩
          · rintro σ' H12 ⟨s12, w6, w7, w8, w9, rfl⟩
            walk_at "go"
            exact ⟨s12, _, _, _, _, _, rfl⟩
        · rintro σ' H11 ⟨s11, u5, u6, u7, u8, u9, rfl⟩
          walk_at "go"
          exact ⟨s0.trans (z9.trans s11), _, _, _, _, _, _, _, _, _, rfl⟩
    · rintro σ' H' ⟨_, v1, v2, v3, v4, v5, v6, v7, v8, v9, rfl⟩
      walk_at "go"
      exact q _

end
theorem all_mk {l : PySem.W.OpenLaw} {w : World} {K : PySem.W.Frag} {h : Heap} {mg : Str → Option Value} {fa : Addr} (X : K.In h) (G : h.Ns mainGlobals mg) (hfa : mg "law" = some (.ref fa)) {C_Told C_Unnumbered f_law_draw f_law_bag f_law_number f_law_word f_is_number f_Unnumbered___init f_same f_is_entry f_is_value f_Unnumbered___eq f_Unnumbered___ne f_Unnumbered___lt f_Unnumbered___le f_Unnumbered___gt f_Unnumbered___ge f_law_says f_law_tag f_law_made f_Unnumbered___str f_Unnumbered___repr f_Told___init f_Told___eq f_Told___repr f_pairs_agree f_agree f_law_result f_law_shaped f_law : Addr}
    {od_law_draw an_law_draw : Option Addr} {sl_law_draw : Array (Option Value)} {oc_law_draw kV_law_draw dc_law_draw pm_law_draw cd_law_draw ct_law_draw : Value}
    {od_law_bag an_law_bag : Option Addr} {sl_law_bag : Array (Option Value)} {oc_law_bag kV_law_bag dc_law_bag pm_law_bag cd_law_bag ct_law_bag : Value}
    {od_law_number an_law_number : Option Addr} {sl_law_number : Array (Option Value)} {oc_law_number kV_law_number dc_law_number pm_law_number cd_law_number ct_law_number : Value}
    {od_law_word an_law_word : Option Addr} {sl_law_word : Array (Option Value)} {oc_law_word kV_law_word dc_law_word pm_law_word cd_law_word ct_law_word : Value}
    {od_is_number an_is_number : Option Addr} {sl_is_number : Array (Option Value)} {oc_is_number kV_is_number dc_is_number pm_is_number cd_is_number ct_is_number : Value}
    {od_Unnumbered___init an_Unnumbered___init : Option Addr} {sl_Unnumbered___init : Array (Option Value)} {oc_Unnumbered___init kV_Unnumbered___init dc_Unnumbered___init pm_Unnumbered___init cd_Unnumbered___init ct_Unnumbered___init : Value}
    {od_same an_same : Option Addr} {sl_same : Array (Option Value)} {oc_same kV_same dc_same pm_same cd_same ct_same : Value}
    {od_is_entry an_is_entry : Option Addr} {sl_is_entry : Array (Option Value)} {oc_is_entry kV_is_entry dc_is_entry pm_is_entry cd_is_entry ct_is_entry : Value}
    {od_is_value an_is_value : Option Addr} {sl_is_value : Array (Option Value)} {oc_is_value kV_is_value dc_is_value pm_is_value cd_is_value ct_is_value : Value}
    {od_Unnumbered___eq an_Unnumbered___eq : Option Addr} {sl_Unnumbered___eq : Array (Option Value)} {oc_Unnumbered___eq kV_Unnumbered___eq dc_Unnumbered___eq pm_Unnumbered___eq cd_Unnumbered___eq ct_Unnumbered___eq : Value}
    {od_Unnumbered___ne an_Unnumbered___ne : Option Addr} {sl_Unnumbered___ne : Array (Option Value)} {oc_Unnumbered___ne kV_Unnumbered___ne dc_Unnumbered___ne pm_Unnumbered___ne cd_Unnumbered___ne ct_Unnumbered___ne : Value}
    {od_Unnumbered___lt an_Unnumbered___lt : Option Addr} {sl_Unnumbered___lt : Array (Option Value)} {oc_Unnumbered___lt kV_Unnumbered___lt dc_Unnumbered___lt pm_Unnumbered___lt cd_Unnumbered___lt ct_Unnumbered___lt : Value}
    {od_Unnumbered___le an_Unnumbered___le : Option Addr} {sl_Unnumbered___le : Array (Option Value)} {oc_Unnumbered___le kV_Unnumbered___le dc_Unnumbered___le pm_Unnumbered___le cd_Unnumbered___le ct_Unnumbered___le : Value}
    {od_Unnumbered___gt an_Unnumbered___gt : Option Addr} {sl_Unnumbered___gt : Array (Option Value)} {oc_Unnumbered___gt kV_Unnumbered___gt dc_Unnumbered___gt pm_Unnumbered___gt cd_Unnumbered___gt ct_Unnumbered___gt : Value}
    {od_Unnumbered___ge an_Unnumbered___ge : Option Addr} {sl_Unnumbered___ge : Array (Option Value)} {oc_Unnumbered___ge kV_Unnumbered___ge dc_Unnumbered___ge pm_Unnumbered___ge cd_Unnumbered___ge ct_Unnumbered___ge : Value}
    {od_law_says an_law_says : Option Addr} {sl_law_says : Array (Option Value)} {oc_law_says kV_law_says dc_law_says pm_law_says cd_law_says ct_law_says : Value}
    {od_law_tag an_law_tag : Option Addr} {sl_law_tag : Array (Option Value)} {oc_law_tag kV_law_tag dc_law_tag pm_law_tag cd_law_tag ct_law_tag : Value}
    {od_law_made an_law_made : Option Addr} {sl_law_made : Array (Option Value)} {oc_law_made kV_law_made dc_law_made pm_law_made cd_law_made ct_law_made : Value}
    {od_Unnumbered___str an_Unnumbered___str : Option Addr} {sl_Unnumbered___str : Array (Option Value)} {oc_Unnumbered___str kV_Unnumbered___str dc_Unnumbered___str pm_Unnumbered___str cd_Unnumbered___str ct_Unnumbered___str : Value}
    {od_Unnumbered___repr an_Unnumbered___repr : Option Addr} {sl_Unnumbered___repr : Array (Option Value)} {oc_Unnumbered___repr kV_Unnumbered___repr dc_Unnumbered___repr pm_Unnumbered___repr cd_Unnumbered___repr ct_Unnumbered___repr : Value}
    {od_Told___init an_Told___init : Option Addr} {sl_Told___init : Array (Option Value)} {oc_Told___init kV_Told___init dc_Told___init pm_Told___init cd_Told___init ct_Told___init : Value}
    {od_Told___eq an_Told___eq : Option Addr} {sl_Told___eq : Array (Option Value)} {oc_Told___eq kV_Told___eq dc_Told___eq pm_Told___eq cd_Told___eq ct_Told___eq : Value}
    {od_Told___repr an_Told___repr : Option Addr} {sl_Told___repr : Array (Option Value)} {oc_Told___repr kV_Told___repr dc_Told___repr pm_Told___repr cd_Told___repr ct_Told___repr : Value}
    {od_pairs_agree an_pairs_agree : Option Addr} {sl_pairs_agree : Array (Option Value)} {oc_pairs_agree kV_pairs_agree dc_pairs_agree pm_pairs_agree cd_pairs_agree ct_pairs_agree : Value}
    {od_agree an_agree : Option Addr} {sl_agree : Array (Option Value)} {oc_agree kV_agree dc_agree pm_agree cd_agree ct_agree : Value}
    {od_law_result an_law_result : Option Addr} {sl_law_result : Array (Option Value)} {oc_law_result kV_law_result dc_law_result pm_law_result cd_law_result ct_law_result : Value}
    {od_law_shaped an_law_shaped : Option Addr} {sl_law_shaped : Array (Option Value)} {oc_law_shaped kV_law_shaped dc_law_shaped pm_law_shaped cd_law_shaped ct_law_shaped : Value}
    {od_law an_law : Option Addr} {sl_law : Array (Option Value)} {oc_law kV_law dc_law pm_law cd_law ct_law : Value}
    (aC_Told : PySem.W.nsIn K mainGlobals "Told" = some (some (.ref C_Told)))
    (aC_Unnumbered : PySem.W.nsIn K mainGlobals "Unnumbered" = some (some (.ref C_Unnumbered)))
    (a_law_draw : PySem.W.nsIn K mainGlobals "_law_draw" = some (some (.ref f_law_draw)))
    (l_law_draw : K.lookup f_law_draw = some ⟨oc_law_draw, od_law_draw, .func (PySem.W.fnOf "_law_draw" "_law_draw" (defArgs s_law_draw) (defBody s_law_draw) (defScope s_law_draw) .none kV_law_draw dc_law_draw pm_law_draw an_law_draw cd_law_draw ct_law_draw), sl_law_draw⟩)
    (c_law_draw : PySem.W.codeIn K cd_law_draw "_law_draw" = true)
    (k_law_draw : PySem.W.keepIn K (.ref f_law_draw) = true)
    (a_law_bag : PySem.W.nsIn K mainGlobals "_law_bag" = some (some (.ref f_law_bag)))
    (l_law_bag : K.lookup f_law_bag = some ⟨oc_law_bag, od_law_bag, .func (PySem.W.fnOf "_law_bag" "_law_bag" (defArgs s_law_bag) (defBody s_law_bag) (defScope s_law_bag) .none kV_law_bag dc_law_bag pm_law_bag an_law_bag cd_law_bag ct_law_bag), sl_law_bag⟩)
    (c_law_bag : PySem.W.codeIn K cd_law_bag "_law_bag" = true)
    (k_law_bag : PySem.W.keepIn K (.ref f_law_bag) = true)
    (a_law_number : PySem.W.nsIn K mainGlobals "_law_number" = some (some (.ref f_law_number)))
    (l_law_number : K.lookup f_law_number = some ⟨oc_law_number, od_law_number, .func (PySem.W.fnOf "_law_number" "_law_number" (defArgs s_law_number) (defBody s_law_number) (defScope s_law_number) .none kV_law_number dc_law_number pm_law_number an_law_number cd_law_number ct_law_number), sl_law_number⟩)
    (c_law_number : PySem.W.codeIn K cd_law_number "_law_number" = true)
    (k_law_number : PySem.W.keepIn K (.ref f_law_number) = true)
    (a_law_word : PySem.W.nsIn K mainGlobals "_law_word" = some (some (.ref f_law_word)))
    (l_law_word : K.lookup f_law_word = some ⟨oc_law_word, od_law_word, .func (PySem.W.fnOf "_law_word" "_law_word" (defArgs s_law_word) (defBody s_law_word) (defScope s_law_word) .none kV_law_word dc_law_word pm_law_word an_law_word cd_law_word ct_law_word), sl_law_word⟩)
    (c_law_word : PySem.W.codeIn K cd_law_word "_law_word" = true)
    (k_law_word : PySem.W.keepIn K (.ref f_law_word) = true)
    (a_is_number : PySem.W.nsIn K mainGlobals "is_number" = some (some (.ref f_is_number)))
    (l_is_number : K.lookup f_is_number = some ⟨oc_is_number, od_is_number, .func (PySem.W.fnOf "is_number" "is_number" (defArgs s_is_number) (defBody s_is_number) (defScope s_is_number) .none kV_is_number dc_is_number pm_is_number an_is_number cd_is_number ct_is_number), sl_is_number⟩)
    (c_is_number : PySem.W.codeIn K cd_is_number "is_number" = true)
    (k_is_number : PySem.W.keepIn K (.ref f_is_number) = true)
    (a_Unnumbered___init : PySem.W.findIn K (.ref C_Unnumbered) "__init__" = some (some (.ref f_Unnumbered___init)))
    (i_Unnumbered___init : PySem.W.isFn K (.ref f_Unnumbered___init) = true)
    (l_Unnumbered___init : K.lookup f_Unnumbered___init = some ⟨oc_Unnumbered___init, od_Unnumbered___init, .func (PySem.W.fnOf "__init__" "Unnumbered.__init__" (defArgs s_Unnumbered___init) (defBody s_Unnumbered___init) (defScope s_Unnumbered___init) .none kV_Unnumbered___init dc_Unnumbered___init pm_Unnumbered___init an_Unnumbered___init cd_Unnumbered___init ct_Unnumbered___init), sl_Unnumbered___init⟩)
    (c_Unnumbered___init : PySem.W.codeIn K cd_Unnumbered___init "Unnumbered.__init__" = true)
    (k_Unnumbered___init : PySem.W.keepIn K (.ref f_Unnumbered___init) = true)
    (a_same : PySem.W.nsIn K mainGlobals "same" = some (some (.ref f_same)))
    (l_same : K.lookup f_same = some ⟨oc_same, od_same, .func (PySem.W.fnOf "same" "same" (defArgs s_same) (defBody s_same) (defScope s_same) .none kV_same dc_same pm_same an_same cd_same ct_same), sl_same⟩)
    (c_same : PySem.W.codeIn K cd_same "same" = true)
    (k_same : PySem.W.keepIn K (.ref f_same) = true)
    (a_is_entry : PySem.W.nsIn K mainGlobals "is_entry" = some (some (.ref f_is_entry)))
    (l_is_entry : K.lookup f_is_entry = some ⟨oc_is_entry, od_is_entry, .func (PySem.W.fnOf "is_entry" "is_entry" (defArgs s_is_entry) (defBody s_is_entry) (defScope s_is_entry) .none kV_is_entry dc_is_entry pm_is_entry an_is_entry cd_is_entry ct_is_entry), sl_is_entry⟩)
    (c_is_entry : PySem.W.codeIn K cd_is_entry "is_entry" = true)
    (k_is_entry : PySem.W.keepIn K (.ref f_is_entry) = true)
    (a_is_value : PySem.W.nsIn K mainGlobals "_is_value" = some (some (.ref f_is_value)))
    (l_is_value : K.lookup f_is_value = some ⟨oc_is_value, od_is_value, .func (PySem.W.fnOf "_is_value" "_is_value" (defArgs s_is_value) (defBody s_is_value) (defScope s_is_value) .none kV_is_value dc_is_value pm_is_value an_is_value cd_is_value ct_is_value), sl_is_value⟩)
    (c_is_value : PySem.W.codeIn K cd_is_value "_is_value" = true)
    (k_is_value : PySem.W.keepIn K (.ref f_is_value) = true)
    (a_Unnumbered___eq : PySem.W.findIn K (.ref C_Unnumbered) "__eq__" = some (some (.ref f_Unnumbered___eq)))
    (i_Unnumbered___eq : PySem.W.isFn K (.ref f_Unnumbered___eq) = true)
    (l_Unnumbered___eq : K.lookup f_Unnumbered___eq = some ⟨oc_Unnumbered___eq, od_Unnumbered___eq, .func (PySem.W.fnOf "__eq__" "Unnumbered.__eq__" (defArgs s_Unnumbered___eq) (defBody s_Unnumbered___eq) (defScope s_Unnumbered___eq) .none kV_Unnumbered___eq dc_Unnumbered___eq pm_Unnumbered___eq an_Unnumbered___eq cd_Unnumbered___eq ct_Unnumbered___eq), sl_Unnumbered___eq⟩)
    (c_Unnumbered___eq : PySem.W.codeIn K cd_Unnumbered___eq "Unnumbered.__eq__" = true)
    (k_Unnumbered___eq : PySem.W.keepIn K (.ref f_Unnumbered___eq) = true)
    (a_Unnumbered___ne : PySem.W.findIn K (.ref C_Unnumbered) "__ne__" = some (some (.ref f_Unnumbered___ne)))
    (i_Unnumbered___ne : PySem.W.isFn K (.ref f_Unnumbered___ne) = true)
    (l_Unnumbered___ne : K.lookup f_Unnumbered___ne = some ⟨oc_Unnumbered___ne, od_Unnumbered___ne, .func (PySem.W.fnOf "__ne__" "Unnumbered.__ne__" (defArgs s_Unnumbered___ne) (defBody s_Unnumbered___ne) (defScope s_Unnumbered___ne) .none kV_Unnumbered___ne dc_Unnumbered___ne pm_Unnumbered___ne an_Unnumbered___ne cd_Unnumbered___ne ct_Unnumbered___ne), sl_Unnumbered___ne⟩)
    (c_Unnumbered___ne : PySem.W.codeIn K cd_Unnumbered___ne "Unnumbered.__ne__" = true)
    (k_Unnumbered___ne : PySem.W.keepIn K (.ref f_Unnumbered___ne) = true)
    (a_Unnumbered___lt : PySem.W.findIn K (.ref C_Unnumbered) "__lt__" = some (some (.ref f_Unnumbered___lt)))
    (i_Unnumbered___lt : PySem.W.isFn K (.ref f_Unnumbered___lt) = true)
    (l_Unnumbered___lt : K.lookup f_Unnumbered___lt = some ⟨oc_Unnumbered___lt, od_Unnumbered___lt, .func (PySem.W.fnOf "__lt__" "Unnumbered.__lt__" (defArgs s_Unnumbered___lt) (defBody s_Unnumbered___lt) (defScope s_Unnumbered___lt) .none kV_Unnumbered___lt dc_Unnumbered___lt pm_Unnumbered___lt an_Unnumbered___lt cd_Unnumbered___lt ct_Unnumbered___lt), sl_Unnumbered___lt⟩)
    (c_Unnumbered___lt : PySem.W.codeIn K cd_Unnumbered___lt "Unnumbered.__lt__" = true)
    (k_Unnumbered___lt : PySem.W.keepIn K (.ref f_Unnumbered___lt) = true)
    (a_Unnumbered___le : PySem.W.findIn K (.ref C_Unnumbered) "__le__" = some (some (.ref f_Unnumbered___le)))
    (i_Unnumbered___le : PySem.W.isFn K (.ref f_Unnumbered___le) = true)
    (l_Unnumbered___le : K.lookup f_Unnumbered___le = some ⟨oc_Unnumbered___le, od_Unnumbered___le, .func (PySem.W.fnOf "__le__" "Unnumbered.__le__" (defArgs s_Unnumbered___le) (defBody s_Unnumbered___le) (defScope s_Unnumbered___le) .none kV_Unnumbered___le dc_Unnumbered___le pm_Unnumbered___le an_Unnumbered___le cd_Unnumbered___le ct_Unnumbered___le), sl_Unnumbered___le⟩)
    (c_Unnumbered___le : PySem.W.codeIn K cd_Unnumbered___le "Unnumbered.__le__" = true)
    (k_Unnumbered___le : PySem.W.keepIn K (.ref f_Unnumbered___le) = true)
    (a_Unnumbered___gt : PySem.W.findIn K (.ref C_Unnumbered) "__gt__" = some (some (.ref f_Unnumbered___gt)))
    (i_Unnumbered___gt : PySem.W.isFn K (.ref f_Unnumbered___gt) = true)
    (l_Unnumbered___gt : K.lookup f_Unnumbered___gt = some ⟨oc_Unnumbered___gt, od_Unnumbered___gt, .func (PySem.W.fnOf "__gt__" "Unnumbered.__gt__" (defArgs s_Unnumbered___gt) (defBody s_Unnumbered___gt) (defScope s_Unnumbered___gt) .none kV_Unnumbered___gt dc_Unnumbered___gt pm_Unnumbered___gt an_Unnumbered___gt cd_Unnumbered___gt ct_Unnumbered___gt), sl_Unnumbered___gt⟩)
    (c_Unnumbered___gt : PySem.W.codeIn K cd_Unnumbered___gt "Unnumbered.__gt__" = true)
    (k_Unnumbered___gt : PySem.W.keepIn K (.ref f_Unnumbered___gt) = true)
    (a_Unnumbered___ge : PySem.W.findIn K (.ref C_Unnumbered) "__ge__" = some (some (.ref f_Unnumbered___ge)))
    (i_Unnumbered___ge : PySem.W.isFn K (.ref f_Unnumbered___ge) = true)
    (l_Unnumbered___ge : K.lookup f_Unnumbered___ge = some ⟨oc_Unnumbered___ge, od_Unnumbered___ge, .func (PySem.W.fnOf "__ge__" "Unnumbered.__ge__" (defArgs s_Unnumbered___ge) (defBody s_Unnumbered___ge) (defScope s_Unnumbered___ge) .none kV_Unnumbered___ge dc_Unnumbered___ge pm_Unnumbered___ge an_Unnumbered___ge cd_Unnumbered___ge ct_Unnumbered___ge), sl_Unnumbered___ge⟩)
    (c_Unnumbered___ge : PySem.W.codeIn K cd_Unnumbered___ge "Unnumbered.__ge__" = true)
    (k_Unnumbered___ge : PySem.W.keepIn K (.ref f_Unnumbered___ge) = true)
    (a_law_says : PySem.W.nsIn K mainGlobals "_law_says" = some (some (.ref f_law_says)))
    (l_law_says : K.lookup f_law_says = some ⟨oc_law_says, od_law_says, .func (PySem.W.fnOf "_law_says" "_law_says" (defArgs s_law_says) (defBody s_law_says) (defScope s_law_says) .none kV_law_says dc_law_says pm_law_says an_law_says cd_law_says ct_law_says), sl_law_says⟩)
    (c_law_says : PySem.W.codeIn K cd_law_says "_law_says" = true)
    (k_law_says : PySem.W.keepIn K (.ref f_law_says) = true)
    (a_law_tag : PySem.W.nsIn K mainGlobals "_law_tag" = some (some (.ref f_law_tag)))
    (l_law_tag : K.lookup f_law_tag = some ⟨oc_law_tag, od_law_tag, .func (PySem.W.fnOf "_law_tag" "_law_tag" (defArgs s_law_tag) (defBody s_law_tag) (defScope s_law_tag) .none kV_law_tag dc_law_tag pm_law_tag an_law_tag cd_law_tag ct_law_tag), sl_law_tag⟩)
    (c_law_tag : PySem.W.codeIn K cd_law_tag "_law_tag" = true)
    (k_law_tag : PySem.W.keepIn K (.ref f_law_tag) = true)
    (a_law_made : PySem.W.nsIn K mainGlobals "_law_made" = some (some (.ref f_law_made)))
    (l_law_made : K.lookup f_law_made = some ⟨oc_law_made, od_law_made, .func (PySem.W.fnOf "_law_made" "_law_made" (defArgs s_law_made) (defBody s_law_made) (defScope s_law_made) .none kV_law_made dc_law_made pm_law_made an_law_made cd_law_made ct_law_made), sl_law_made⟩)
    (c_law_made : PySem.W.codeIn K cd_law_made "_law_made" = true)
    (k_law_made : PySem.W.keepIn K (.ref f_law_made) = true)
    (a_Unnumbered___str : PySem.W.findIn K (.ref C_Unnumbered) "__str__" = some (some (.ref f_Unnumbered___str)))
    (i_Unnumbered___str : PySem.W.isFn K (.ref f_Unnumbered___str) = true)
    (l_Unnumbered___str : K.lookup f_Unnumbered___str = some ⟨oc_Unnumbered___str, od_Unnumbered___str, .func (PySem.W.fnOf "__str__" "Unnumbered.__str__" (defArgs s_Unnumbered___str) (defBody s_Unnumbered___str) (defScope s_Unnumbered___str) .none kV_Unnumbered___str dc_Unnumbered___str pm_Unnumbered___str an_Unnumbered___str cd_Unnumbered___str ct_Unnumbered___str), sl_Unnumbered___str⟩)
    (c_Unnumbered___str : PySem.W.codeIn K cd_Unnumbered___str "Unnumbered.__str__" = true)
    (k_Unnumbered___str : PySem.W.keepIn K (.ref f_Unnumbered___str) = true)
    (a_Unnumbered___repr : PySem.W.findIn K (.ref C_Unnumbered) "__repr__" = some (some (.ref f_Unnumbered___repr)))
    (i_Unnumbered___repr : PySem.W.isFn K (.ref f_Unnumbered___repr) = true)
    (l_Unnumbered___repr : K.lookup f_Unnumbered___repr = some ⟨oc_Unnumbered___repr, od_Unnumbered___repr, .func (PySem.W.fnOf "__repr__" "Unnumbered.__repr__" (defArgs s_Unnumbered___repr) (defBody s_Unnumbered___repr) (defScope s_Unnumbered___repr) .none kV_Unnumbered___repr dc_Unnumbered___repr pm_Unnumbered___repr an_Unnumbered___repr cd_Unnumbered___repr ct_Unnumbered___repr), sl_Unnumbered___repr⟩)
    (c_Unnumbered___repr : PySem.W.codeIn K cd_Unnumbered___repr "Unnumbered.__repr__" = true)
    (k_Unnumbered___repr : PySem.W.keepIn K (.ref f_Unnumbered___repr) = true)
    (a_Told___init : PySem.W.findIn K (.ref C_Told) "__init__" = some (some (.ref f_Told___init)))
    (i_Told___init : PySem.W.isFn K (.ref f_Told___init) = true)
    (l_Told___init : K.lookup f_Told___init = some ⟨oc_Told___init, od_Told___init, .func (PySem.W.fnOf "__init__" "Told.__init__" (defArgs s_Told___init) (defBody s_Told___init) (defScope s_Told___init) .none kV_Told___init dc_Told___init pm_Told___init an_Told___init cd_Told___init ct_Told___init), sl_Told___init⟩)
    (c_Told___init : PySem.W.codeIn K cd_Told___init "Told.__init__" = true)
    (k_Told___init : PySem.W.keepIn K (.ref f_Told___init) = true)
    (a_Told___eq : PySem.W.findIn K (.ref C_Told) "__eq__" = some (some (.ref f_Told___eq)))
    (i_Told___eq : PySem.W.isFn K (.ref f_Told___eq) = true)
    (l_Told___eq : K.lookup f_Told___eq = some ⟨oc_Told___eq, od_Told___eq, .func (PySem.W.fnOf "__eq__" "Told.__eq__" (defArgs s_Told___eq) (defBody s_Told___eq) (defScope s_Told___eq) .none kV_Told___eq dc_Told___eq pm_Told___eq an_Told___eq cd_Told___eq ct_Told___eq), sl_Told___eq⟩)
    (c_Told___eq : PySem.W.codeIn K cd_Told___eq "Told.__eq__" = true)
    (k_Told___eq : PySem.W.keepIn K (.ref f_Told___eq) = true)
    (a_Told___repr : PySem.W.findIn K (.ref C_Told) "__repr__" = some (some (.ref f_Told___repr)))
    (i_Told___repr : PySem.W.isFn K (.ref f_Told___repr) = true)
    (l_Told___repr : K.lookup f_Told___repr = some ⟨oc_Told___repr, od_Told___repr, .func (PySem.W.fnOf "__repr__" "Told.__repr__" (defArgs s_Told___repr) (defBody s_Told___repr) (defScope s_Told___repr) .none kV_Told___repr dc_Told___repr pm_Told___repr an_Told___repr cd_Told___repr ct_Told___repr), sl_Told___repr⟩)
    (c_Told___repr : PySem.W.codeIn K cd_Told___repr "Told.__repr__" = true)
    (k_Told___repr : PySem.W.keepIn K (.ref f_Told___repr) = true)
    (a_pairs_agree : PySem.W.nsIn K mainGlobals "_pairs_agree" = some (some (.ref f_pairs_agree)))
    (l_pairs_agree : K.lookup f_pairs_agree = some ⟨oc_pairs_agree, od_pairs_agree, .func (PySem.W.fnOf "_pairs_agree" "_pairs_agree" (defArgs s_pairs_agree) (defBody s_pairs_agree) (defScope s_pairs_agree) .none kV_pairs_agree dc_pairs_agree pm_pairs_agree an_pairs_agree cd_pairs_agree ct_pairs_agree), sl_pairs_agree⟩)
    (c_pairs_agree : PySem.W.codeIn K cd_pairs_agree "_pairs_agree" = true)
    (k_pairs_agree : PySem.W.keepIn K (.ref f_pairs_agree) = true)
    (a_agree : PySem.W.nsIn K mainGlobals "agree" = some (some (.ref f_agree)))
    (l_agree : K.lookup f_agree = some ⟨oc_agree, od_agree, .func (PySem.W.fnOf "agree" "agree" (defArgs s_agree) (defBody s_agree) (defScope s_agree) .none kV_agree dc_agree pm_agree an_agree cd_agree ct_agree), sl_agree⟩)
    (c_agree : PySem.W.codeIn K cd_agree "agree" = true)
    (k_agree : PySem.W.keepIn K (.ref f_agree) = true)
    (a_law_result : PySem.W.nsIn K mainGlobals "_law_result" = some (some (.ref f_law_result)))
    (l_law_result : K.lookup f_law_result = some ⟨oc_law_result, od_law_result, .func (PySem.W.fnOf "_law_result" "_law_result" (defArgs s_law_result) (defBody s_law_result) (defScope s_law_result) .none kV_law_result dc_law_result pm_law_result an_law_result cd_law_result ct_law_result), sl_law_result⟩)
    (c_law_result : PySem.W.codeIn K cd_law_result "_law_result" = true)
    (k_law_result : PySem.W.keepIn K (.ref f_law_result) = true)
    (a_law_shaped : PySem.W.nsIn K mainGlobals "_law_shaped" = some (some (.ref f_law_shaped)))
    (l_law_shaped : K.lookup f_law_shaped = some ⟨oc_law_shaped, od_law_shaped, .func (PySem.W.fnOf "_law_shaped" "_law_shaped" (defArgs s_law_shaped) (defBody s_law_shaped) (defScope s_law_shaped) .none kV_law_shaped dc_law_shaped pm_law_shaped an_law_shaped cd_law_shaped ct_law_shaped), sl_law_shaped⟩)
    (c_law_shaped : PySem.W.codeIn K cd_law_shaped "_law_shaped" = true)
    (k_law_shaped : PySem.W.keepIn K (.ref f_law_shaped) = true)
    (a_law : PySem.W.nsIn K mainGlobals "law" = some (some (.ref f_law)))
    (l_law : K.lookup f_law = some ⟨oc_law, od_law, .func (PySem.W.fnOf "law" "law" (defArgs s_law) (defBody s_law) (defScope s_law) .none kV_law dc_law pm_law an_law cd_law ct_law), sl_law⟩)
    (c_law : PySem.W.codeIn K cd_law "law" = true)
    (k_law : PySem.W.keepIn K (.ref f_law) = true)
    (pg_Told : PySem.W.plainGet K C_Told Str.empty = true)
    (hd_Told : PySem.W.hasDictIn K C_Told = true)
    (po_Told : PySem.W.plainOver K C_Told = true)
    (sa_Told : PySem.W.findIn K (.ref C_Told) "__setattr__" = some (some (.builtin "object.__setattr__")))
    (ca_Told : PySem.W.findIn K (.ref C_Told) "__class__" = some (some (.builtin "object.__class__")))
    (cm_Told : PySem.W.mroIn K C_Told (.type "object") = some true)
    (mk_Told : PySem.W.makesIn K C_Told = true)
    (kc_Told : PySem.W.keepIn K (.ref C_Told) = true)
    (pg_Unnumbered : PySem.W.plainGet K C_Unnumbered Str.empty = true)
    (hd_Unnumbered : PySem.W.hasDictIn K C_Unnumbered = true)
    (po_Unnumbered : PySem.W.plainOver K C_Unnumbered = true)
    (sa_Unnumbered : PySem.W.findIn K (.ref C_Unnumbered) "__setattr__" = some (some (.builtin "object.__setattr__")))
    (ca_Unnumbered : PySem.W.findIn K (.ref C_Unnumbered) "__class__" = some (some (.builtin "object.__class__")))
    (cm_Unnumbered : PySem.W.mroIn K C_Unnumbered (.type "object") = some true)
    (mk_Unnumbered : PySem.W.makesIn K C_Unnumbered = true)
    (kc_Unnumbered : PySem.W.keepIn K (.ref C_Unnumbered) = true)
    (nd_Told : PySem.W.findIn K (.ref C_Told) "__ne__" = some (some (.builtin "object.__ne__")))
    (ocn : PySem.W.specialIn K (.builtin "object.__class__") "__get__" = some (some (.builtin "getset_descriptor.__get__")))
    (oct : PySem.W.takesIn K (.builtin "object.__class__") = some true)
    (no_Told_place : PySem.W.findIn K (.ref C_Told) "place" = some none)
    (no_Unnumbered_name : PySem.W.findIn K (.ref C_Unnumbered) "name" = some none)
    (z_abs : PySem.W.nsIn K mainGlobals "abs" = some none)
    (z_bool : PySem.W.nsIn K mainGlobals "bool" = some none)
    (z_int : PySem.W.nsIn K mainGlobals "int" = some none)
    (z_isinstance : PySem.W.nsIn K mainGlobals "isinstance" = some none)
    (z_len : PySem.W.nsIn K mainGlobals "len" = some none)
    (z_max : PySem.W.nsIn K mainGlobals "max" = some none)
    (z_min : PySem.W.nsIn K mainGlobals "min" = some none)
    (z_range : PySem.W.nsIn K mainGlobals "range" = some none)
    (z_repr : PySem.W.nsIn K mainGlobals "repr" = some none)
    (z_str : PySem.W.nsIn K mainGlobals "str" = some none)
    (z_tuple : PySem.W.nsIn K mainGlobals "tuple" = some none)
    (ki_NoneType_Told : PySem.W.kitOne K (.type "NoneType") (.ref C_Told) = some false)
    (ki_bool_Told : PySem.W.kitOne K (.type "bool") (.ref C_Told) = some false)
    (ki_int_Told : PySem.W.kitOne K (.type "int") (.ref C_Told) = some false)
    (ki_str_Told : PySem.W.kitOne K (.type "str") (.ref C_Told) = some false)
    (ki_list_Told : PySem.W.kitOne K (.type "list") (.ref C_Told) = some false)
    (ki_tuple_Told : PySem.W.kitOne K (.type "tuple") (.ref C_Told) = some false)
    (ki_Told_Told : PySem.W.kitOne K (.ref C_Told) (.ref C_Told) = some true)
    (ki_Unnumbered_Told : PySem.W.kitOne K (.ref C_Unnumbered) (.ref C_Told) = some false)
    (ki_NoneType_Unnumbered : PySem.W.kitOne K (.type "NoneType") (.ref C_Unnumbered) = some false)
    (ki_bool_Unnumbered : PySem.W.kitOne K (.type "bool") (.ref C_Unnumbered) = some false)
    (ki_int_Unnumbered : PySem.W.kitOne K (.type "int") (.ref C_Unnumbered) = some false)
    (ki_str_Unnumbered : PySem.W.kitOne K (.type "str") (.ref C_Unnumbered) = some false)
    (ki_list_Unnumbered : PySem.W.kitOne K (.type "list") (.ref C_Unnumbered) = some false)
    (ki_tuple_Unnumbered : PySem.W.kitOne K (.type "tuple") (.ref C_Unnumbered) = some false)
    (ki_Told_Unnumbered : PySem.W.kitOne K (.ref C_Told) (.ref C_Unnumbered) = some false)
    (ki_Unnumbered_Unnumbered : PySem.W.kitOne K (.ref C_Unnumbered) (.ref C_Unnumbered) = some true)
    (ki_Told_bool : PySem.W.kitOne K (.ref C_Told) (.type "bool") = some false)
    (ki_Unnumbered_bool : PySem.W.kitOne K (.ref C_Unnumbered) (.type "bool") = some false)
    (ki_Told_int : PySem.W.kitOne K (.ref C_Told) (.type "int") = some false)
    (ki_Unnumbered_int : PySem.W.kitOne K (.ref C_Unnumbered) (.type "int") = some false)
    (ki_Told_tuple : PySem.W.kitOne K (.ref C_Told) (.type "tuple") = some false)
    (ki_Unnumbered_tuple : PySem.W.kitOne K (.ref C_Unnumbered) (.type "tuple") = some false)
    : ∃ fd : FuncData, (∀ (s : Shared) (v : Value), BindsTo s fd ⟨[v], []⟩ [("_law_script", v)]) ∧ ∀ base : Heap, K.In base → base.Ns mainGlobals mg → FnOk l.prog w K mg base CX0 6 fa fd ["_law_script"] (sp_law K) := by
  have e := hfa.symm.trans (PySem.W.mg_of X G a_law)
  cases e
  have F_law_draw := fun_mk (st := s_law_draw) l_law_draw c_law_draw k_law_draw
  have B_law_draw := F_law_draw.binds (ps := ["_law_bag_here", "_law_many"]) fun _ _ _ _ _ _ us hl => match us, hl with | [_, _], _ => rfl
  have F_law_bag := fun_mk (st := s_law_bag) l_law_bag c_law_bag k_law_bag
  have B_law_bag := F_law_bag.binds (ps := ["_law_script", "_law_at"]) fun _ _ _ _ _ _ us hl => match us, hl with | [_, _], _ => rfl
  have F_law_number := fun_mk (st := s_law_number) l_law_number c_law_number k_law_number
  have B_law_number := F_law_number.binds (ps := ["_law_bag_here"]) fun _ _ _ _ _ _ us hl => match us, hl with | [_], _ => rfl
  have F_law_word := fun_mk (st := s_law_word) l_law_word c_law_word k_law_word
  have B_law_word := F_law_word.binds (ps := ["_law_bag_here"]) fun _ _ _ _ _ _ us hl => match us, hl with | [_], _ => rfl
  have F_is_number := fun_mk (st := s_is_number) l_is_number c_is_number k_is_number
  have B_is_number := F_is_number.binds (ps := ["thing"]) fun _ _ _ _ _ _ us hl => match us, hl with | [_], _ => rfl
  have F_Unnumbered___init := fun_mk (st := s_Unnumbered___init) l_Unnumbered___init c_Unnumbered___init k_Unnumbered___init
  have B_Unnumbered___init := F_Unnumbered___init.binds (ps := ["self", "name"]) fun _ _ _ _ _ _ us hl => match us, hl with | [_, _], _ => rfl
  have F_same := fun_mk (st := s_same) l_same c_same k_same
  have B_same := F_same.binds (ps := ["one", "other"]) fun _ _ _ _ _ _ us hl => match us, hl with | [_, _], _ => rfl
  have F_is_entry := fun_mk (st := s_is_entry) l_is_entry c_is_entry k_is_entry
  have B_is_entry := F_is_entry.binds (ps := ["thing"]) fun _ _ _ _ _ _ us hl => match us, hl with | [_], _ => rfl
  have F_is_value := fun_mk (st := s_is_value) l_is_value c_is_value k_is_value
  have B_is_value := F_is_value.binds (ps := ["thing"]) fun _ _ _ _ _ _ us hl => match us, hl with | [_], _ => rfl
  have F_Unnumbered___eq := fun_mk (st := s_Unnumbered___eq) l_Unnumbered___eq c_Unnumbered___eq k_Unnumbered___eq
  have B_Unnumbered___eq := F_Unnumbered___eq.binds (ps := ["self", "other"]) fun _ _ _ _ _ _ us hl => match us, hl with | [_, _], _ => rfl
  have F_Unnumbered___ne := fun_mk (st := s_Unnumbered___ne) l_Unnumbered___ne c_Unnumbered___ne k_Unnumbered___ne
  have B_Unnumbered___ne := F_Unnumbered___ne.binds (ps := ["self", "other"]) fun _ _ _ _ _ _ us hl => match us, hl with | [_, _], _ => rfl
  have F_Unnumbered___lt := fun_mk (st := s_Unnumbered___lt) l_Unnumbered___lt c_Unnumbered___lt k_Unnumbered___lt
  have B_Unnumbered___lt := F_Unnumbered___lt.binds (ps := ["self", "other"]) fun _ _ _ _ _ _ us hl => match us, hl with | [_, _], _ => rfl
  have F_Unnumbered___le := fun_mk (st := s_Unnumbered___le) l_Unnumbered___le c_Unnumbered___le k_Unnumbered___le
  have B_Unnumbered___le := F_Unnumbered___le.binds (ps := ["self", "other"]) fun _ _ _ _ _ _ us hl => match us, hl with | [_, _], _ => rfl
  have F_Unnumbered___gt := fun_mk (st := s_Unnumbered___gt) l_Unnumbered___gt c_Unnumbered___gt k_Unnumbered___gt
  have B_Unnumbered___gt := F_Unnumbered___gt.binds (ps := ["self", "other"]) fun _ _ _ _ _ _ us hl => match us, hl with | [_, _], _ => rfl
  have F_Unnumbered___ge := fun_mk (st := s_Unnumbered___ge) l_Unnumbered___ge c_Unnumbered___ge k_Unnumbered___ge
  have B_Unnumbered___ge := F_Unnumbered___ge.binds (ps := ["self", "other"]) fun _ _ _ _ _ _ us hl => match us, hl with | [_, _], _ => rfl
  have F_law_says := fun_mk (st := s_law_says) l_law_says c_law_says k_law_says
  have B_law_says := F_law_says.binds (ps := ["_law_told", "_law_due"]) fun _ _ _ _ _ _ us hl => match us, hl with | [_, _], _ => rfl
  have F_law_tag := fun_mk (st := s_law_tag) l_law_tag c_law_tag k_law_tag
  have B_law_tag := F_law_tag.binds (ps := ["_law_bag_here", "_law_words"]) fun _ _ _ _ _ _ us hl => match us, hl with | [_, _], _ => rfl
  have F_law_made := fun_mk (st := s_law_made) l_law_made c_law_made k_law_made
  have B_law_made := F_law_made.binds (ps := ["_law_tag_here"]) fun _ _ _ _ _ _ us hl => match us, hl with | [_], _ => rfl
  have F_Unnumbered___str := fun_mk (st := s_Unnumbered___str) l_Unnumbered___str c_Unnumbered___str k_Unnumbered___str
  have B_Unnumbered___str := F_Unnumbered___str.binds (ps := ["self"]) fun _ _ _ _ _ _ us hl => match us, hl with | [_], _ => rfl
  have F_Unnumbered___repr := fun_mk (st := s_Unnumbered___repr) l_Unnumbered___repr c_Unnumbered___repr k_Unnumbered___repr
  have B_Unnumbered___repr := F_Unnumbered___repr.binds (ps := ["self"]) fun _ _ _ _ _ _ us hl => match us, hl with | [_], _ => rfl
  have F_Told___init := fun_mk (st := s_Told___init) l_Told___init c_Told___init k_Told___init
  have B_Told___init := F_Told___init.binds (ps := ["self", "place"]) fun _ _ _ _ _ _ us hl => match us, hl with | [_, _], _ => rfl
  have F_Told___eq := fun_mk (st := s_Told___eq) l_Told___eq c_Told___eq k_Told___eq
  have B_Told___eq := F_Told___eq.binds (ps := ["self", "other"]) fun _ _ _ _ _ _ us hl => match us, hl with | [_, _], _ => rfl
  have F_Told___repr := fun_mk (st := s_Told___repr) l_Told___repr c_Told___repr k_Told___repr
  have B_Told___repr := F_Told___repr.binds (ps := ["self"]) fun _ _ _ _ _ _ us hl => match us, hl with | [_], _ => rfl
  have F_pairs_agree := fun_mk (st := s_pairs_agree) l_pairs_agree c_pairs_agree k_pairs_agree
  have B_pairs_agree := F_pairs_agree.binds (ps := ["one", "other"]) fun _ _ _ _ _ _ us hl => match us, hl with | [_, _], _ => rfl
  have F_agree := fun_mk (st := s_agree) l_agree c_agree k_agree
  have B_agree := F_agree.binds (ps := ["one", "other"]) fun _ _ _ _ _ _ us hl => match us, hl with | [_, _], _ => rfl
  have F_law_result := fun_mk (st := s_law_result) l_law_result c_law_result k_law_result
  have B_law_result := F_law_result.binds (ps := ["_law_bag_here", "_law_words"]) fun _ _ _ _ _ _ us hl => match us, hl with | [_, _], _ => rfl
  have F_law_shaped := fun_mk (st := s_law_shaped) l_law_shaped c_law_shaped k_law_shaped
  have B_law_shaped := F_law_shaped.binds (ps := ["_law_result_here"]) fun _ _ _ _ _ _ us hl => match us, hl with | [_], _ => rfl
  have F_law := fun_mk (st := s_law) l_law c_law k_law
  have B_law := F_law.binds (ps := ["_law_script"]) fun _ _ _ _ _ _ us hl => match us, hl with | [_], _ => rfl
  let T : Top K mg := { C_Told := C_Told, C_Unnumbered := C_Unnumbered, f_law_draw := f_law_draw, fd_law_draw := _, F_law_draw := F_law_draw, B_law_draw := B_law_draw, mg_law_draw := PySem.W.mg_of X G a_law_draw, f_law_bag := f_law_bag, fd_law_bag := _, F_law_bag := F_law_bag, B_law_bag := B_law_bag, mg_law_bag := PySem.W.mg_of X G a_law_bag, f_law_number := f_law_number, fd_law_number := _, F_law_number := F_law_number, B_law_number := B_law_number, mg_law_number := PySem.W.mg_of X G a_law_number, f_law_word := f_law_word, fd_law_word := _, F_law_word := F_law_word, B_law_word := B_law_word, mg_law_word := PySem.W.mg_of X G a_law_word, f_is_number := f_is_number, fd_is_number := _, F_is_number := F_is_number, B_is_number := B_is_number, mg_is_number := PySem.W.mg_of X G a_is_number, f_Unnumbered___init := f_Unnumbered___init, fd_Unnumbered___init := _, F_Unnumbered___init := F_Unnumbered___init, B_Unnumbered___init := B_Unnumbered___init, f_same := f_same, fd_same := _, F_same := F_same, B_same := B_same, mg_same := PySem.W.mg_of X G a_same, f_is_entry := f_is_entry, fd_is_entry := _, F_is_entry := F_is_entry, B_is_entry := B_is_entry, mg_is_entry := PySem.W.mg_of X G a_is_entry, f_is_value := f_is_value, fd_is_value := _, F_is_value := F_is_value, B_is_value := B_is_value, mg_is_value := PySem.W.mg_of X G a_is_value, f_Unnumbered___eq := f_Unnumbered___eq, fd_Unnumbered___eq := _, F_Unnumbered___eq := F_Unnumbered___eq, B_Unnumbered___eq := B_Unnumbered___eq, f_Unnumbered___ne := f_Unnumbered___ne, fd_Unnumbered___ne := _, F_Unnumbered___ne := F_Unnumbered___ne, B_Unnumbered___ne := B_Unnumbered___ne, f_Unnumbered___lt := f_Unnumbered___lt, fd_Unnumbered___lt := _, F_Unnumbered___lt := F_Unnumbered___lt, B_Unnumbered___lt := B_Unnumbered___lt, f_Unnumbered___le := f_Unnumbered___le, fd_Unnumbered___le := _, F_Unnumbered___le := F_Unnumbered___le, B_Unnumbered___le := B_Unnumbered___le, f_Unnumbered___gt := f_Unnumbered___gt, fd_Unnumbered___gt := _, F_Unnumbered___gt := F_Unnumbered___gt, B_Unnumbered___gt := B_Unnumbered___gt, f_Unnumbered___ge := f_Unnumbered___ge, fd_Unnumbered___ge := _, F_Unnumbered___ge := F_Unnumbered___ge, B_Unnumbered___ge := B_Unnumbered___ge, f_law_says := f_law_says, fd_law_says := _, F_law_says := F_law_says, B_law_says := B_law_says, mg_law_says := PySem.W.mg_of X G a_law_says, f_law_tag := f_law_tag, fd_law_tag := _, F_law_tag := F_law_tag, B_law_tag := B_law_tag, mg_law_tag := PySem.W.mg_of X G a_law_tag, f_law_made := f_law_made, fd_law_made := _, F_law_made := F_law_made, B_law_made := B_law_made, mg_law_made := PySem.W.mg_of X G a_law_made, f_Unnumbered___str := f_Unnumbered___str, fd_Unnumbered___str := _, F_Unnumbered___str := F_Unnumbered___str, B_Unnumbered___str := B_Unnumbered___str, f_Unnumbered___repr := f_Unnumbered___repr, fd_Unnumbered___repr := _, F_Unnumbered___repr := F_Unnumbered___repr, B_Unnumbered___repr := B_Unnumbered___repr, f_Told___init := f_Told___init, fd_Told___init := _, F_Told___init := F_Told___init, B_Told___init := B_Told___init, f_Told___eq := f_Told___eq, fd_Told___eq := _, F_Told___eq := F_Told___eq, B_Told___eq := B_Told___eq, f_Told___repr := f_Told___repr, fd_Told___repr := _, F_Told___repr := F_Told___repr, B_Told___repr := B_Told___repr, f_pairs_agree := f_pairs_agree, fd_pairs_agree := _, F_pairs_agree := F_pairs_agree, B_pairs_agree := B_pairs_agree, mg_pairs_agree := PySem.W.mg_of X G a_pairs_agree, f_agree := f_agree, fd_agree := _, F_agree := F_agree, B_agree := B_agree, mg_agree := PySem.W.mg_of X G a_agree, f_law_result := f_law_result, fd_law_result := _, F_law_result := F_law_result, B_law_result := B_law_result, mg_law_result := PySem.W.mg_of X G a_law_result, f_law_shaped := f_law_shaped, fd_law_shaped := _, F_law_shaped := F_law_shaped, B_law_shaped := B_law_shaped, mg_law_shaped := PySem.W.mg_of X G a_law_shaped, f_law := fa, fd_law := _, F_law := F_law, B_law := B_law, mg_law := PySem.W.mg_of X G a_law, mgC_Told := PySem.W.mg_of X G aC_Told, cl_Told := ⟨pg_Told, hd_Told, po_Told, sa_Told⟩, in_Told := ⟨ca_Told, cm_Told, ocn, oct⟩, mk_Told := ⟨mk_Told, a_Told___init, i_Told___init, kc_Told⟩, mgC_Unnumbered := PySem.W.mg_of X G aC_Unnumbered, cl_Unnumbered := ⟨pg_Unnumbered, hd_Unnumbered, po_Unnumbered, sa_Unnumbered⟩, in_Unnumbered := ⟨ca_Unnumbered, cm_Unnumbered, ocn, oct⟩, mk_Unnumbered := ⟨mk_Unnumbered, a_Unnumbered___init, i_Unnumbered___init, kc_Unnumbered⟩, me_Told___eq := ⟨a_Told___eq, i_Told___eq, k_Told___eq⟩, me_Told___repr := ⟨a_Told___repr, i_Told___repr, k_Told___repr⟩, ne_Told := ⟨nd_Told, cm_Told⟩, no_Told_place := no_Told_place, no_Unnumbered_name := no_Unnumbered_name, z_abs := PySem.W.mg_none_of X G z_abs, z_bool := PySem.W.mg_none_of X G z_bool, z_int := PySem.W.mg_none_of X G z_int, z_isinstance := PySem.W.mg_none_of X G z_isinstance, z_len := PySem.W.mg_none_of X G z_len, z_max := PySem.W.mg_none_of X G z_max, z_min := PySem.W.mg_none_of X G z_min, z_range := PySem.W.mg_none_of X G z_range, z_repr := PySem.W.mg_none_of X G z_repr, z_str := PySem.W.mg_none_of X G z_str, z_tuple := PySem.W.mg_none_of X G z_tuple, ki_NoneType_Told := ki_NoneType_Told, ki_bool_Told := ki_bool_Told, ki_int_Told := ki_int_Told, ki_str_Told := ki_str_Told, ki_list_Told := ki_list_Told, ki_tuple_Told := ki_tuple_Told, ki_Told_Told := ki_Told_Told, ki_Unnumbered_Told := ki_Unnumbered_Told, ki_NoneType_Unnumbered := ki_NoneType_Unnumbered, ki_bool_Unnumbered := ki_bool_Unnumbered, ki_int_Unnumbered := ki_int_Unnumbered, ki_str_Unnumbered := ki_str_Unnumbered, ki_list_Unnumbered := ki_list_Unnumbered, ki_tuple_Unnumbered := ki_tuple_Unnumbered, ki_Told_Unnumbered := ki_Told_Unnumbered, ki_Unnumbered_Unnumbered := ki_Unnumbered_Unnumbered, ki_Told_bool := ki_Told_bool, ki_Unnumbered_bool := ki_Unnumbered_bool, ki_Told_int := ki_Told_int, ki_Unnumbered_int := ki_Unnumbered_int, ki_Told_tuple := ki_Told_tuple, ki_Unnumbered_tuple := ki_Unnumbered_tuple }
  exact ⟨PySem.W.fnOf "law" "law" (defArgs s_law) (defBody s_law) (defScope s_law) .none kV_law dc_law pm_law an_law cd_law ct_law, fun s v => .of_eq rfl, fun base _ _ => ok_law T⟩
theorem walk {l : PySem.W.OpenLaw} {q : Program} {loose : List Str} {XP : (Str → Option Value) → Heap → Prop} {YP : World → Heap → Prop} {d : DefRec} {K : Params → PySem.W.Frag} (hn : l.most = some 63) (hdf : d.params.defaults = [])
    (hY : ∀ (w : World) (h : Heap), YP w h → (K w.params).In h)
    (F : ∀ (w : World) (mg : Str → Option Value) (fa : Addr) (h : Heap), (K w.params).In h → h.Ns mainGlobals mg → mg d.name = some (.ref fa) →
      ∃ fd : FuncData, (∀ (s : Shared) (u : Value), BindsTo s fd ⟨[u], []⟩ [("_law_script", u)]) ∧ ∀ base : Heap, (K w.params).In base → base.Ns mainGlobals mg → FnOk l.prog w (K w.params) mg base CX0 6 fa fd ["_law_script"] (sp_law (K w.params))) :
    PySem.W.WalkO q loose XP YP l.row.toRowW d [] (fun f vs => PySem.call f vs) :=
  L2.walk_of (n := 63) (k := 6) (x := "_law_script") (CX := fun _ => CX0) (sp := fun w => sp_law (K w.params)) hn (by decide) hdf ⟨rfl, by decide, by decide⟩ hY F (fun _ _ a ns hl _ hS => ⟨a, ns, rfl, hS, hl, fun _ => rfl⟩) fun _ _ _ _ _ z => z
end My

open PySem PySem.W PyProof.Rows in
set_option maxRecDepth 100000 in
set_option maxHeartbeats 0 in
theorem PySem.Challenge.cw_unnumbered_k09_results_agree_holds : PySem.Challenge.rw_unnumbered_k09_results_agree.Holds := by
  w_on; o_law; k_head; (case hw => w_witness2)
  k_fill
  refine My.walk (l := PySem.Challenge.rw_unnumbered_k09_results_agree) rfl rfl (fun w h Y => PySem.W.kIn_of Y) ?F
  case F =>
    intro w mg fa h KX G hmg
    refine' My.all_mk KX G hmg ?aC_Told ?aC_Unnumbered ?a_law_draw ?l_law_draw ?c_law_draw ?k_law_draw ?a_law_bag ?l_law_bag ?c_law_bag ?k_law_bag ?a_law_number ?l_law_number ?c_law_number ?k_law_number ?a_law_word ?l_law_word ?c_law_word ?k_law_word ?a_is_number ?l_is_number ?c_is_number ?k_is_number ?a_Unnumbered___init ?i_Unnumbered___init ?l_Unnumbered___init ?c_Unnumbered___init ?k_Unnumbered___init ?a_same ?l_same ?c_same ?k_same ?a_is_entry ?l_is_entry ?c_is_entry ?k_is_entry ?a_is_value ?l_is_value ?c_is_value ?k_is_value ?a_Unnumbered___eq ?i_Unnumbered___eq ?l_Unnumbered___eq ?c_Unnumbered___eq ?k_Unnumbered___eq ?a_Unnumbered___ne ?i_Unnumbered___ne ?l_Unnumbered___ne ?c_Unnumbered___ne ?k_Unnumbered___ne ?a_Unnumbered___lt ?i_Unnumbered___lt ?l_Unnumbered___lt ?c_Unnumbered___lt ?k_Unnumbered___lt ?a_Unnumbered___le ?i_Unnumbered___le ?l_Unnumbered___le ?c_Unnumbered___le ?k_Unnumbered___le ?a_Unnumbered___gt ?i_Unnumbered___gt ?l_Unnumbered___gt ?c_Unnumbered___gt ?k_Unnumbered___gt ?a_Unnumbered___ge ?i_Unnumbered___ge ?l_Unnumbered___ge ?c_Unnumbered___ge ?k_Unnumbered___ge ?a_law_says ?l_law_says ?c_law_says ?k_law_says ?a_law_tag ?l_law_tag ?c_law_tag ?k_law_tag ?a_law_made ?l_law_made ?c_law_made ?k_law_made ?a_Unnumbered___str ?i_Unnumbered___str ?l_Unnumbered___str ?c_Unnumbered___str ?k_Unnumbered___str ?a_Unnumbered___repr ?i_Unnumbered___repr ?l_Unnumbered___repr ?c_Unnumbered___repr ?k_Unnumbered___repr ?a_Told___init ?i_Told___init ?l_Told___init ?c_Told___init ?k_Told___init ?a_Told___eq ?i_Told___eq ?l_Told___eq ?c_Told___eq ?k_Told___eq ?a_Told___repr ?i_Told___repr ?l_Told___repr ?c_Told___repr ?k_Told___repr ?a_pairs_agree ?l_pairs_agree ?c_pairs_agree ?k_pairs_agree ?a_agree ?l_agree ?c_agree ?k_agree ?a_law_result ?l_law_result ?c_law_result ?k_law_result ?a_law_shaped ?l_law_shaped ?c_law_shaped ?k_law_shaped ?a_law ?l_law ?c_law ?k_law ?pg_Told ?hd_Told ?po_Told ?sa_Told ?ca_Told ?cm_Told ?mk_Told ?kc_Told ?pg_Unnumbered ?hd_Unnumbered ?po_Unnumbered ?sa_Unnumbered ?ca_Unnumbered ?cm_Unnumbered ?mk_Unnumbered ?kc_Unnumbered ?nd_Told ?ocn ?oct ?no_Told_place ?no_Unnumbered_name ?z_abs ?z_bool ?z_int ?z_isinstance ?z_len ?z_max ?z_min ?z_range ?z_repr ?z_str ?z_tuple ?ki_NoneType_Told ?ki_bool_Told ?ki_int_Told ?ki_str_Told ?ki_list_Told ?ki_tuple_Told ?ki_Told_Told ?ki_Unnumbered_Told ?ki_NoneType_Unnumbered ?ki_bool_Unnumbered ?ki_int_Unnumbered ?ki_str_Unnumbered ?ki_list_Unnumbered ?ki_tuple_Unnumbered ?ki_Told_Unnumbered ?ki_Unnumbered_Unnumbered ?ki_Told_bool ?ki_Unnumbered_bool ?ki_Told_int ?ki_Unnumbered_int ?ki_Told_tuple ?ki_Unnumbered_tuple
    (case aC_Told => k_is)
    (case aC_Unnumbered => k_is)
    (case a_law_draw => k_is)
    (case l_law_draw => k_is)
    (case c_law_draw => k_is)
    (case k_law_draw => k_is)
    (case a_law_bag => k_is)
    (case l_law_bag => k_is)
    (case c_law_bag => k_is)
    (case k_law_bag => k_is)
    (case a_law_number => k_is)
    (case l_law_number => k_is)
    (case c_law_number => k_is)
    (case k_law_number => k_is)
    (case a_law_word => k_is)
    (case l_law_word => k_is)
    (case c_law_word => k_is)
    (case k_law_word => k_is)
    (case a_is_number => k_is)
    (case l_is_number => k_is)
    (case c_is_number => k_is)
    (case k_is_number => k_is)
    (case a_Unnumbered___init => k_is)
    (case i_Unnumbered___init => k_is)
    (case l_Unnumbered___init => k_is)
    (case c_Unnumbered___init => k_is)
    (case k_Unnumbered___init => k_is)
    (case a_same => k_is)
    (case l_same => k_is)
    (case c_same => k_is)
    (case k_same => k_is)
    (case a_is_entry => k_is)
    (case l_is_entry => k_is)
    (case c_is_entry => k_is)
    (case k_is_entry => k_is)
    (case a_is_value => k_is)
    (case l_is_value => k_is)
    (case c_is_value => k_is)
    (case k_is_value => k_is)
    (case a_Unnumbered___eq => k_is)
    (case i_Unnumbered___eq => k_is)
    (case l_Unnumbered___eq => k_is)
    (case c_Unnumbered___eq => k_is)
    (case k_Unnumbered___eq => k_is)
    (case a_Unnumbered___ne => k_is)
    (case i_Unnumbered___ne => k_is)
    (case l_Unnumbered___ne => k_is)
    (case c_Unnumbered___ne => k_is)
    (case k_Unnumbered___ne => k_is)
    (case a_Unnumbered___lt => k_is)
    (case i_Unnumbered___lt => k_is)
    (case l_Unnumbered___lt => k_is)
    (case c_Unnumbered___lt => k_is)
    (case k_Unnumbered___lt => k_is)
    (case a_Unnumbered___le => k_is)
    (case i_Unnumbered___le => k_is)
    (case l_Unnumbered___le => k_is)
    (case c_Unnumbered___le => k_is)
    (case k_Unnumbered___le => k_is)
    (case a_Unnumbered___gt => k_is)
    (case i_Unnumbered___gt => k_is)
    (case l_Unnumbered___gt => k_is)
    (case c_Unnumbered___gt => k_is)
    (case k_Unnumbered___gt => k_is)
    (case a_Unnumbered___ge => k_is)
    (case i_Unnumbered___ge => k_is)
    (case l_Unnumbered___ge => k_is)
    (case c_Unnumbered___ge => k_is)
    (case k_Unnumbered___ge => k_is)
    (case a_law_says => k_is)
    (case l_law_says => k_is)
    (case c_law_says => k_is)
    (case k_law_says => k_is)
    (case a_law_tag => k_is)
    (case l_law_tag => k_is)
    (case c_law_tag => k_is)
    (case k_law_tag => k_is)
    (case a_law_made => k_is)
    (case l_law_made => k_is)
    (case c_law_made => k_is)
    (case k_law_made => k_is)
    (case a_Unnumbered___str => k_is)
    (case i_Unnumbered___str => k_is)
    (case l_Unnumbered___str => k_is)
    (case c_Unnumbered___str => k_is)
    (case k_Unnumbered___str => k_is)
    (case a_Unnumbered___repr => k_is)
    (case i_Unnumbered___repr => k_is)
    (case l_Unnumbered___repr => k_is)
    (case c_Unnumbered___repr => k_is)
    (case k_Unnumbered___repr => k_is)
    (case a_Told___init => k_is)
    (case i_Told___init => k_is)
    (case l_Told___init => k_is)
    (case c_Told___init => k_is)
    (case k_Told___init => k_is)
    (case a_Told___eq => k_is)
    (case i_Told___eq => k_is)
    (case l_Told___eq => k_is)
    (case c_Told___eq => k_is)
    (case k_Told___eq => k_is)
    (case a_Told___repr => k_is)
    (case i_Told___repr => k_is)
    (case l_Told___repr => k_is)
    (case c_Told___repr => k_is)
    (case k_Told___repr => k_is)
    (case a_pairs_agree => k_is)
    (case l_pairs_agree => k_is)
    (case c_pairs_agree => k_is)
    (case k_pairs_agree => k_is)
    (case a_agree => k_is)
    (case l_agree => k_is)
    (case c_agree => k_is)
    (case k_agree => k_is)
    (case a_law_result => k_is)
    (case l_law_result => k_is)
    (case c_law_result => k_is)
    (case k_law_result => k_is)
    (case a_law_shaped => k_is)
    (case l_law_shaped => k_is)
    (case c_law_shaped => k_is)
    (case k_law_shaped => k_is)
    (case a_law => k_is)
    (case l_law => k_is)
    (case c_law => k_is)
    (case k_law => k_is)
    (case pg_Told => k_is)
    (case hd_Told => k_is)
    (case po_Told => k_is)
    (case sa_Told => k_is)
    (case ca_Told => k_is)
    (case cm_Told => k_is)
    (case mk_Told => k_is)
    (case kc_Told => k_is)
    (case pg_Unnumbered => k_is)
    (case hd_Unnumbered => k_is)
    (case po_Unnumbered => k_is)
    (case sa_Unnumbered => k_is)
    (case ca_Unnumbered => k_is)
    (case cm_Unnumbered => k_is)
    (case mk_Unnumbered => k_is)
    (case kc_Unnumbered => k_is)
    (case nd_Told => k_is)
    (case ocn => k_is)
    (case oct => k_is)
    (case no_Told_place => k_is)
    (case no_Unnumbered_name => k_is)
    (case z_abs => k_is)
    (case z_bool => k_is)
    (case z_int => k_is)
    (case z_isinstance => k_is)
    (case z_len => k_is)
    (case z_max => k_is)
    (case z_min => k_is)
    (case z_range => k_is)
    (case z_repr => k_is)
    (case z_str => k_is)
    (case z_tuple => k_is)
    (case ki_NoneType_Told => kit_is)
    (case ki_bool_Told => kit_is)
    (case ki_int_Told => kit_is)
    (case ki_str_Told => kit_is)
    (case ki_list_Told => kit_is)
    (case ki_tuple_Told => kit_is)
    (case ki_Told_Told => kit_is)
    (case ki_Unnumbered_Told => kit_is)
    (case ki_NoneType_Unnumbered => kit_is)
    (case ki_bool_Unnumbered => kit_is)
    (case ki_int_Unnumbered => kit_is)
    (case ki_str_Unnumbered => kit_is)
    (case ki_list_Unnumbered => kit_is)
    (case ki_tuple_Unnumbered => kit_is)
    (case ki_Told_Unnumbered => kit_is)
    (case ki_Unnumbered_Unnumbered => kit_is)
    (case ki_Told_bool => kit_is)
    (case ki_Unnumbered_bool => kit_is)
    (case ki_Told_int => kit_is)
    (case ki_Unnumbered_int => kit_is)
    (case ki_Told_tuple => kit_is)
    (case ki_Unnumbered_tuple => kit_is)
#print axioms PySem.Challenge.cw_unnumbered_k09_results_agree_holds
