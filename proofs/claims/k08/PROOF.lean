import PyProof.Rows.All
import Wide.All
import OpenK.AllK
import Wide.FinOn
import HandS.ForMost
import HandS.IsInst
import HandS.Style
import HandS.OwnEq
import KE.RegKIsAll
import KE.KOpsOwn
import PySem.Challenge.RW_unnumbered_k08_comparisons_held
set_option Elab.async false
set_option linter.all false
set_option maxRecDepth 100000
set_option maxHeartbeats 4000000
set_option autoImplicit false
namespace My
open PySem PySem.Spec PyProof.Rows L2
/-! the text by its places -/
def topS (i : Nat) : Stmt := PySem.Challenge.pw_unnumbered_k08_comparisons_held.main.body.getD i (.Pass ⟨0, 0, 0, 0⟩)
abbrev s_law_draw : Stmt := topS 8
abbrev s_law_bag : Stmt := topS 7
abbrev s_law_number : Stmt := topS 9
abbrev s_law_word : Stmt := topS 10
abbrev s_is_number : Stmt := topS 1
abbrev s_Unnumbered___init : Stmt := inClass (topS 5) 0
abbrev s_is_entry : Stmt := topS 2
abbrev s_is_value : Stmt := topS 4
abbrev s_Unnumbered___eq : Stmt := inClass (topS 5) 1
abbrev s_Unnumbered___ne : Stmt := inClass (topS 5) 2
abbrev s_Unnumbered___lt : Stmt := inClass (topS 5) 3
abbrev s_Unnumbered___le : Stmt := inClass (topS 5) 4
abbrev s_Unnumbered___gt : Stmt := inClass (topS 5) 5
abbrev s_Unnumbered___ge : Stmt := inClass (topS 5) 6
abbrev s_holds : Stmt := topS 3
abbrev s_law_says : Stmt := topS 11
abbrev s_law_tag : Stmt := topS 12
abbrev s_law_made : Stmt := topS 13
abbrev s_law_due : Stmt := topS 14
abbrev s_law : Stmt := topS 15
/-! readings, step by step; heaps; short words -/
namespace Z
structure Inst (K : PySem.W.Frag) (C : Addr) : Prop where
  ca : PySem.W.findIn K (.ref C) "__class__" = some (some (.builtin "object.__class__"))
  cm : PySem.W.mroIn K C (.type "object") = some true
  cn : PySem.W.specialIn K (.builtin "object.__class__") "__get__" = some (some (.builtin "getset_descriptor.__get__"))
  ct : PySem.W.takesIn K (.builtin "object.__class__") = some true
/-- all but b stands -/
def But (b : Addr) (H H' : Hp) : Prop := ∀ a o, a ≠ b → H a = some o → H' a = some o
theorem But.refl {b : Addr} (H : Hp) : But b H H := fun _ _ _ h => h
theorem But.trans {b : Addr} {H H1 H2 : Hp} (x : But b H H1) (y : But b H1 H2) : But b H H2 := fun a o n h => y a o n (x a o n h)
theorem But.same {b : Addr} {H H1 : Hp} (x : Same H H1) : But b H H1 := fun a o _ h => x a o h
theorem But.upd {b : Addr} {H : Hp} {o : HO} : But b H (upd H b o) := fun a u n h => by
  rw [upd_ne n]; exact h
theorem same_upd {H : Hp} {p : Addr} {o : HO} (h : H p = none) : Same H (upd H p o) := fun b x e => by
  rw [upd_ne (ne_of_none e h)]; exact e
theorem But.free {b p : Addr} {H H1 : Hp} (e : But b H H1) (n : p ≠ b) (h : H1 p = none) : H p = none := by
  cases q : H p with
  | none => rfl
  | some o => rw [e p o n q] at h; cases h
/-- what was fresh may change: all the old stands -/
theorem But.back {b : Addr} {H H1 H2 : Hp} (s : Same H H1) (n : H b = none) (e : But b H1 H2) : Same H H2 := fun a o h => e a o (ne_of_none h n) (s a o h)
theorem But.seq {K : PySem.W.Frag} {b a : Addr} {H H' : Hp} {xs : List V} (e : But b H H') (n : a ≠ b) (h : SqL K H a xs) : SqL K H' a xs := by
  rcases h with (h | ⟨o, h⟩) | h
  · exact .inl (.inl (e _ _ n h))
  · exact .inl (.inr ⟨o, e _ _ n h⟩)
  · exact .inr h
section
variable {K : PySem.W.Frag} {σ : L2.St} {H : Hp} {Q : VK} {D : Ends} {t u : TS} {ta tb te tc : TE} {tt tu : TT} {i j : Nat} {v x y : V} {r : R2} {A : TA} {sp : Sp} {E : XK}
theorem r_start {σ' : L2.St} (e : σ = σ') (h : t D σ' H) : t D σ H := e ▸ h
theorem r_seq (h : t { D with nx := u D } σ H) : tSeq t u D σ H := h
theorem r_next (h : D.nx σ H) : tNext D σ H := h
theorem r_asg (h : te σ H fun x H1 => D.nx (σ.set i (some x)) H1) : tAsg te (gName i) D σ H := h
theorem r_asgG {g : TG} (h : te σ H fun x H1 => g x σ H1 D.nx) : tAsg te g D σ H := h
theorem r_gName {N : L2.St → Hp → Prop} (h : N (σ.set i (some v)) H) : gName i v σ H N := h
theorem r_ret (h : te σ H D.rt) : tRet te D σ H := h
theorem r_retN (h : D.rt .non H) : tRetN D σ H := h
theorem r_drop (h : te σ H fun _ H1 => D.nx σ H1) : tDrop te D σ H := h
theorem r_if (h : tt σ H fun b H1 => if b = true then t D σ H1 else u D σ H1) : tIfS tt t u D σ H := h
theorem r_par (h : A σ H fun vs H1 => ∃ v w, vs = [v, w] ∧ D.nx ((σ.set i (some v)).set j (some w)) H1) : tPar i j A D σ H := h
theorem r_vs2 {N : V → V → Prop} (h : N x y) : ∃ v w, [x, y] = [v, w] ∧ N v w := ⟨x, y, rfl, h⟩
theorem r_vs3 {z : V} {N : V → V → V → Prop} (h : N x y z) : ∃ u v w, [x, y, z] = [u, v, w] ∧ N u v w := ⟨x, y, z, rfl, h⟩
theorem r_var (e : σ[i]? = some (some v)) (h : Q v H) : tVar i σ H Q := ⟨v, e, h⟩
theorem r_c (h : Q v H) : tC v σ H Q := h
theorem r_op (h : ta σ H fun x H1 => tb σ H1 fun y H2 => r x y H2 Q) : tOp r ta tb σ H Q := h
theorem r_un {r : V → Hp → VK → Prop} (h : ta σ H fun x H1 => r x H1 Q) : tUn r ta σ H Q := h
theorem r_test {N : Bool → Hp → Prop} (h : te σ H fun x H' => ∃ k, x = .bl k ∧ N k H') : tTest te σ H N := h
theorem r_tB {N : Bool → Hp → Prop} (h : te σ H fun x H1 => ∃ c, x = .bl c ∧ N c H1) : tB te σ H N := h
theorem r_bl {k : Bool} {N : Bool → Prop} (h : N k) : ∃ c, V.bl k = .bl c ∧ N c := ⟨k, rfl, h⟩
theorem r_and {N : Bool → Hp → Prop} (h : tt σ H fun c H1 => if c = true then tu σ H1 N else N false H1) : tAnd tt tu σ H N := h
theorem r_or {N : Bool → Hp → Prop} (h : tt σ H fun c H1 => if c = true then N true H1 else tu σ H1 N) : tOr tt tu σ H N := h
theorem r_not {N : Bool → Hp → Prop} (h : tt σ H fun c H1 => N (!c) H1) : tNot tt σ H N := h
theorem r_andV (h : ta σ H fun x H1 => ∃ c, x = .bl c ∧ if c = true then tb σ H1 Q else Q (.bl false) H1) : tAndV ta tb σ H Q := h
theorem r_orV (h : ta σ H fun x H1 => ∃ c, x = .bl c ∧ if c = true then Q (.bl true) H1 else tb σ H1 Q) : tOrV ta tb σ H Q := h
theorem r_notV (h : ta σ H fun x H1 => ∃ c, x = .bl c ∧ Q (.bl (!c)) H1) : tNotV ta σ H Q := h
theorem r_ifE (h : tt σ H fun c H1 => if c = true then ta σ H1 Q else tb σ H1 Q) : tIf tt ta tb σ H Q := h
theorem r_nil {N : List V → Hp → Prop} (h : N [] H) : tNil σ H N := h
theorem r_cons {N : List V → Hp → Prop} (h : te σ H fun x H1 => A σ H1 fun xs H2 => N (x :: xs) H2) : tCons te A σ H N := h
theorem r_call {ds : List V} (h : A σ H fun vs H1 => sp (vs ++ ds) H1 Q E) : tCall sp ds E A σ H Q := h
theorem r_cb {r : List V → Hp → VK → Prop} (h : A σ H fun vs H1 => r vs H1 Q) : tCB r A σ H Q := h
/-- a new list, a new tuple -/
def nwL (xs : List V) (H : Hp) (Q : VK) : Prop := xs.length ≤ sizeLine ∧ ∀ p, H p = none → Q (.ref p) (upd H p (.lst xs))
def nwT (xs : List V) (H : Hp) (Q : VK) : Prop := xs.length ≤ sizeLine ∧ ∀ p, H p = none → Q (.ref p) (upd H p (.tup xs))
theorem r_tup (h : A σ H fun xs H1 => nwT xs H1 Q) : tTup A σ H Q := h
theorem r_lst (h : A σ H fun xs H1 => nwL xs H1 Q) : tLst A σ H Q := h
theorem r_nwL {xs : List V} (z : xs.length ≤ 1000) (h : ∀ p H1, H p = none → Same H H1 → H1 p = some (.lst xs) → Q (.ref p) H1) : nwL xs H Q := ⟨Nat.le_trans z (by decide), fun p np => h p _ np (same_upd np) upd_same⟩
theorem r_nwT {xs : List V} (z : xs.length ≤ 1000) (h : ∀ p H1, H p = none → Same H H1 → H1 p = some (.tup xs) → Q (.ref p) H1) : nwT xs H Q := ⟨Nat.le_trans z (by decide), fun p np => h p _ np (same_upd np) upd_same⟩
def fldR (K : PySem.W.Frag) (f : Str) (x : V) (H : Hp) (Q : VK) : Prop := ∃ a C dx fs v, x = .ref a ∧ H a = some (.ins C dx fs) ∧ Cls K C ∧ NoAttr K C f ∧ fs.lookup f = some v ∧ Q v H
theorem r_fld {f : Str} (h : ta σ H fun x H1 => fldR K f x H1 Q) : tFld K ta f σ H Q := h
theorem r_fldV {f : Str} {a C dx : Addr} {fs : List (Str × V)} (e : H a = some (.ins C dx fs)) (c : Cls K C) (n : NoAttr K C f) (l : fs.lookup f = some v) (h : Q v H) : fldR K f (.ref a) H Q := ⟨a, C, dx, fs, v, rfl, e, c, n, l, h⟩
/-! operators on values that are known -/
theorem r_I0 {g : Int → Int → V} {a b : Int} (h : Q (g a b) H) : rI0 g (.int a) (.int b) H Q := ⟨a, b, rfl, rfl, h⟩
theorem r_I {C : Int → Int → Prop} {g : Int → Int → V} {a b : Int} (c : C a b) (h : Q (g a b) H) : rI C g (.int a) (.int b) H Q := ⟨a, b, rfl, rfl, c, h⟩
theorem r_U {g : Int → V} {a : Int} (h : Q (g a) H) : rU g (.int a) H Q := ⟨a, rfl, h⟩
theorem r_eqI {a b : Int} (h : Q (.bl (decide (a = b))) H) : rEq (.int a) (.int b) H Q := ⟨rfl, by
  have e : decide (V.int a = V.int b) = decide (a = b) := by
    by_cases q : a = b <;> simp [q]
  rw [e]; exact h⟩
theorem r_eqB {a b : Bool} (h : Q (.bl (decide (a = b))) H) : rEq (.bl a) (.bl b) H Q := ⟨rfl, by
  have e : decide (V.bl a = V.bl b) = decide (a = b) := by
    by_cases q : a = b <;> simp [q]
  rw [e]; exact h⟩
theorem r_eqS {a b : Str} (h : Q (.bl (decide (a = b))) H) : rEq (.str a) (.str b) H Q := ⟨rfl, by
  have e : decide (V.str a = V.str b) = decide (a = b) := by
    by_cases q : a = b <;> simp [q]
  rw [e]; exact h⟩
theorem r_neI {a b : Int} (h : Q (.bl (!decide (a = b))) H) : rNe (.int a) (.int b) H Q := ⟨rfl, by
  have e : decide (V.int a = V.int b) = decide (a = b) := by
    by_cases q : a = b <;> simp [q]
  rw [e]; exact h⟩
theorem r_neB {a b : Bool} (h : Q (.bl (!decide (a = b))) H) : rNe (.bl a) (.bl b) H Q := ⟨rfl, by
  have e : decide (V.bl a = V.bl b) = decide (a = b) := by
    by_cases q : a = b <;> simp [q]
  rw [e]; exact h⟩
theorem r_neS {a b : Str} (h : Q (.bl (!decide (a = b))) H) : rNe (.str a) (.str b) H Q := ⟨rfl, by
  have e : decide (V.str a = V.str b) = decide (a = b) := by
    by_cases q : a = b <;> simp [q]
  rw [e]; exact h⟩
theorem r_ixL {p : Addr} {xs : List V} {a : Int} (h : SqL K H p xs) (e : atI xs a = some v) (k : Q v H) : rIx K (.ref p) (.int a) H Q := .inl ⟨p, xs, a, v, rfl, rfl, h, e, k⟩
theorem r_ixT {p : Addr} {xs : List V} {a : Int} (h : SqT K H p xs) (e : atI xs a = some v) (k : Q v H) : rIx K (.ref p) (.int a) H Q := .inr (.inl ⟨p, xs, a, v, rfl, rfl, h, e, k⟩)
theorem r_ixS {z : Str} {a : Int} {c : Nat} (l : z.length ≤ sizeLine) (e : atI z.cps.toList a = some c) (k : Q (.str ⟨#[c]⟩) H) : rIx K (.str z) (.int a) H Q := .inr (.inr ⟨z, a, c, rfl, rfl, l, e, k⟩)
theorem r_setL {p : Addr} {xs : List V} {a : Int} {m : Nat} {N : Hp → Prop} (h : H p = some (.lst xs)) (e : ixN xs.length a = some m) (k : ∀ H1, But p H H1 → H1 p = some (.lst (xs.set m v)) → N H1) : rSetL (.ref p) (.int a) v H N :=
  ⟨p, xs, a, m, rfl, rfl, h, e, k _ But.upd upd_same⟩
theorem r_gSub {to ti : TE} {s : TSet} {N : L2.St → Hp → Prop} (h : to σ H fun o H1 => ti σ H1 fun i H2 => s o i v H2 fun H3 => N σ H3) : gSub to ti s v σ H N := h
theorem yes {c : Bool} {P1 P2 : Prop} (h : c = true) (k : P1) : if c = true then P1 else P2 := by
  rw [h, if_pos rfl]; exact k
theorem no {c : Bool} {P1 P2 : Prop} (h : c = false) (k : P2) : if c = true then P1 else P2 := by
  rw [h, if_neg Bool.false_ne_true]; exact k
theorem ways {c P1 P2 : Prop} [Decidable c] (h : c → P1) (k : ¬ c → P2) : if decide c = true then P1 else P2 := by
  by_cases q : c
  · rw [decide_eq_true q, if_pos rfl]; exact h q
  · rw [decide_eq_false q, if_neg Bool.false_ne_true]; exact k q
theorem waysN {c P1 P2 : Prop} [Decidable c] (h : ¬ c → P1) (k : c → P2) : if (!decide c) = true then P1 else P2 := by
  by_cases q : c
  · rw [decide_eq_true q]; exact k q
  · rw [decide_eq_false q]; exact h q
theorem waysB {c : Bool} {P1 P2 : Prop} (h : c = true → P1) (k : c = false → P2) : if c = true then P1 else P2 := by
  cases c with
  | true => rw [if_pos rfl]; exact h rfl
  | false => rw [if_neg Bool.false_ne_true]; exact k rfl
/-! calls of built-ins, their readings by name -/
def rInt1 : List V → Hp → VK → Prop := fun xs H Q => (∃ i, xs = [.int i] ∧ Q (.int i) H) ∨ ∃ k, xs = [.bl k] ∧ Q (.int (if k then 1 else 0)) H
def rAbs : List V → Hp → VK → Prop := fun xs H Q => ∃ i, xs = [.int i] ∧ Q (.int (if i < 0 then -i else i)) H
def rMax2 : List V → Hp → VK → Prop := fun xs H Q => ∃ i j, xs = [.int i, .int j] ∧ Q (.int (if j > i then j else i)) H
def rMin2 : List V → Hp → VK → Prop := fun xs H Q => ∃ i j, xs = [.int i, .int j] ∧ Q (.int (if j < i then j else i)) H
def rLen (K : PySem.W.Frag) : List V → Hp → VK → Prop := fun xs H Q => ∃ p ys, xs = [.ref p] ∧ (SqL K H p ys ∨ SqT K H p ys) ∧ Q (.int ys.length) H
def rLenS : List V → Hp → VK → Prop := fun xs H Q => ∃ z, xs = [.str z] ∧ z.length ≤ sizeLine ∧ Q (.int z.length) H
def rStrI : List V → Hp → VK → Prop := fun xs H Q => ∃ i, xs = [.int i] ∧ i.natAbs.log2 < 1920 ∧ Q (.str (toString i)) H
def rAddS : R2 := fun x y H Q => ∃ i j, x = .str i ∧ y = .str j ∧ i.length + j.length ≤ sizeLine ∧ Q (.str (i ++ j)) H
theorem c_int1 {X : Cx} : CallR X (.type "int") rInt1 := call_int1
theorem c_abs {X : Cx} : CallR X (.builtin "abs") rAbs := call_abs
theorem c_max2 {X : Cx} (hc : X.calm = true) : CallR X (.builtin "max") rMax2 := call_max2 hc
theorem c_min2 {X : Cx} (hc : X.calm = true) : CallR X (.builtin "min") rMin2 := call_min2 hc
theorem c_len {X : Cx} : CallR X (.builtin "len") (rLen X.K) := call_len_seq
theorem c_lenS {X : Cx} : CallR X (.builtin "len") rLenS := call_len_str
theorem c_strI {X : Cx} : CallR X (.type "str") rStrI := call_str_int
theorem o_addS {X : Cx} : OpR X (binaryOp .Add) rAddS := op_add_str
theorem r_int1 {a : Int} (h : Q (.int a) H) : rInt1 [.int a] H Q := .inl ⟨a, rfl, h⟩
theorem r_abs {a : Int} (h : Q (.int (if a < 0 then -a else a)) H) : rAbs [.int a] H Q := ⟨a, rfl, h⟩
theorem r_max2 {a b : Int} (h : Q (.int (if b > a then b else a)) H) : rMax2 [.int a, .int b] H Q := ⟨a, b, rfl, h⟩
theorem r_min2 {a b : Int} (h : Q (.int (if b < a then b else a)) H) : rMin2 [.int a, .int b] H Q := ⟨a, b, rfl, h⟩
theorem r_lenL {p : Addr} {ys : List V} (e : SqL K H p ys) (h : Q (.int ys.length) H) : rLen K [.ref p] H Q := ⟨p, ys, rfl, .inl e, h⟩
theorem r_lenT {p : Addr} {ys : List V} (e : SqT K H p ys) (h : Q (.int ys.length) H) : rLen K [.ref p] H Q := ⟨p, ys, rfl, .inr e, h⟩
theorem r_strI {a : Int} (e : a.natAbs.log2 < 1920) (h : Q (.str (toString a)) H) : rStrI [.int a] H Q := ⟨a, rfl, e, h⟩
theorem r_addS {a b : Str} (e : a.length + b.length ≤ sizeLine) (h : Q (.str (a ++ b)) H) : rAddS (.str a) (.str b) H Q := ⟨a, b, rfl, rfl, e, h⟩
/-! loops, comprehensions -/
theorem r_rng {tb : TS} {k : Nat} {j : Int} (h0 : 0 ≤ j) (h1 : j ≤ 100000) (Pv : Nat → L2.St → Hp → Prop) (hp : Pv 0 σ H)
    (ht : ∀ (i : Nat) σ' H', (i : Int) < j → Pv i σ' H' → tb { D with nx := Pv (i + 1), ct := Pv (i + 1), bk := D.nx } (σ'.set k (some (.int (i : Int)))) H') (hd : ∀ σ' H', Pv j.toNat σ' H' → D.nx σ' H') :
    ∃ j' : Int, [V.int j] = [V.int j'] ∧ -(2 ^ 62) ≤ j' ∧ j' < 2 ^ 62 ∧ ∃ W : Nat → Nat → L2.St → Hp → Prop, (∃ m, W 0 m σ H) ∧ ∀ i m σ H, W i m σ H →
      (((Itr 0 j'.toNat).stop i H ∧ D.nx σ H) ∨ ((Itr 0 j'.toNat).go i H ∧ ∃ N : L2.St → Hp → Prop, (∀ σ' H', N σ' H' → ∃ m', m' < m ∧ W (i + 1) m' σ' H') ∧ ∀ x H', (Itr 0 j'.toNat).yld i H x H' → gName k x σ H' fun σ2 H2 => tb { D with nx := N, ct := N, bk := D.nx } σ2 H2)) := by
  refine ⟨j, rfl, by omega, by omega, for_range (lo := 0) (n := j.toNat) Pv hp (fun i σ' H' hi p => ?_) hd⟩
  have e : (0 : Int) + (i : Int) = (i : Int) := Int.zero_add _
  show tb _ (σ'.set k (some (.int ((0 : Int) + (i : Int))))) H'
  rw [e]
  exact ht i σ' H' (by omega) p
theorem r_forRng {A : TA} {tb : TS} {k : Nat} (h : A σ H fun vs H1 => ∃ j : Int, vs = [.int j] ∧ -(2 ^ 62) ≤ j ∧ j < 2 ^ 62 ∧ ∃ W : Nat → Nat → L2.St → Hp → Prop, (∃ m, W 0 m σ H1) ∧ ∀ i m σ H, W i m σ H →
      (((Itr 0 j.toNat).stop i H ∧ D.nx σ H) ∨ ((Itr 0 j.toNat).go i H ∧ ∃ N : L2.St → Hp → Prop, (∀ σ' H', N σ' H' → ∃ m', m' < m ∧ W (i + 1) m' σ' H') ∧ ∀ x H', (Itr 0 j.toNat).yld i H x H' → gName k x σ H' fun σ2 H2 => tb { D with nx := N, ct := N, bk := D.nx } σ2 H2))) :
    tFor (iRng1 A) (gName k) tb D σ H := h
theorem r_forL0 {tl : TE} {g : TG} {tb : TS} (h : tl σ H fun x H1 => ∃ a, x = .ref a ∧ (∃ xs, SqL K H1 a xs) ∧ ∃ W : Nat → Nat → L2.St → Hp → Prop, (∃ m, W 0 m σ H1) ∧ ∀ i m σ H, W i m σ H →
      (((Itl K a).stop i H ∧ D.nx σ H) ∨ ((Itl K a).go i H ∧ ∃ N : L2.St → Hp → Prop, (∀ σ' H', N σ' H' → ∃ m', m' < m ∧ W (i + 1) m' σ' H') ∧ ∀ x H', (Itl K a).yld i H x H' → g x σ H' fun σ2 H2 => tb { D with nx := N, ct := N, bk := D.nx } σ2 H2))) :
    tFor (iList K tl) g tb D σ H := h
theorem r_lst_by {g : TG} {tb : TS} {a : Addr} {xs : List V} (hs : SqL K H a xs) (Pv : Nat → L2.St → Hp → Prop) (h0 : Pv 0 σ H) (hl : ∀ i σ' H', Pv i σ' H' → SqL K H' a xs)
    (ht : ∀ i x σ' H', xs[i]? = some x → Pv i σ' H' → g x σ' H' fun σ2 H2 => tb { D with nx := Pv (i + 1), ct := Pv (i + 1), bk := D.nx } σ2 H2) (hd : ∀ σ' H', Pv xs.length σ' H' → D.nx σ' H') :
    ∃ a', V.ref a = .ref a' ∧ (∃ xs, SqL K H a' xs) ∧ ∃ W : Nat → Nat → L2.St → Hp → Prop, (∃ m, W 0 m σ H) ∧ ∀ i m σ H, W i m σ H →
      (((Itl K a').stop i H ∧ D.nx σ H) ∨ ((Itl K a').go i H ∧ ∃ N : L2.St → Hp → Prop, (∀ σ' H', N σ' H' → ∃ m', m' < m ∧ W (i + 1) m' σ' H') ∧ ∀ x H', (Itl K a').yld i H x H' → g x σ H' fun σ2 H2 => tb { D with nx := N, ct := N, bk := D.nx } σ2 H2)) :=
  ⟨a, rfl, ⟨xs, hs⟩, for_list (xs := xs) Pv h0 (fun i σ' H' _ p => hl i σ' H' p) ht hd⟩
theorem r_eqD {d e : PyData} (hd : Dp K H x d) (he : Dp K H y e) (sd : SeqAt.shaped d = true) (se : SeqAt.shaped e = true) (h : Q (.bl (PyData.eqv d e)) H) : rEqD K x y H Q := ⟨d, e, hd, he, sd, se, h⟩
theorem r_cat {p q : Addr} {xs zs : List V} (h1 : H p = some (.lst xs)) (h2 : H q = some (.lst zs)) (l : xs.length + zs.length ≤ 100000) (k : ∀ p H1, H p = none → Same H H1 → H1 p = some (.lst (xs ++ zs)) → Q (.ref p) H1) : rCat (.ref p) (.ref q) H Q :=
  ⟨p, q, xs, zs, rfl, rfl, h1, h2, Nat.le_trans l (by decide), fun p np => k p _ np (same_upd np) upd_same⟩
theorem turns (z m : Int) (hm : 1 ≤ m) (hm2 : m ≤ 100000) : 0 ≤ (if (if z < m then z else m) > 1 then (if z < m then z else m) else 1) ∧ (if (if z < m then z else m) > 1 then (if z < m then z else m) else 1) ≤ 100000 := by
  constructor <;> (split <;> split <;> omega)
theorem turns_le (z m : Int) (hm : 1 ≤ m) : (if (if z < m then z else m) > 1 then (if z < m then z else m) else 1) ≤ m := by
  split <;> split <;> omega
/-- two ways that meet -/
theorem join {c : Prop} [Decidable c] {A B : VK → Prop} {N : VK} (R : V → Hp → Prop) (ha : c → ∀ M : VK, (∀ v H', R v H' → M v H') → A M) (hb : ¬ c → ∀ M : VK, (∀ v H', R v H' → M v H') → B M) (k : ∀ v H', R v H' → N v H') :
    if decide c = true then A N else B N := by
  by_cases q : c
  · rw [decide_eq_true q, if_pos rfl]; exact ha q N k
  · rw [decide_eq_false q, if_neg Bool.false_ne_true]; exact hb q N k
theorem get_int {ns : List Int} {i : Nat} (h : i < ns.length) : ∃ c, atI (ns.map V.int) (i : Int) = some (.int c) := by
  refine ⟨ns[i], atI_nat ?_⟩
  rw [List.getElem?_map, List.getElem?_eq_getElem h]; rfl
/-- [e for name in range(j)], [e for name in a list] -/
def lcR (j : Int) (k : Nat) (te : TE) (vs : List Nat) (σ : L2.St) (H : Hp) (Q : VK) : Prop := -(2 ^ 62) ≤ j ∧ j < 2 ^ 62 ∧ ∀ D, H D = none → ∃ W : Nat → Nat → Hp → Prop, (∃ m, W 0 m (L2.upd H D (.lst []))) ∧ ∀ i m H, W i m H →
  ((Itr 0 j.toNat).stop i H ∧ Q (.ref D) H) ∨ ((Itr 0 j.toNat).go i H ∧ ∃ Nx : Hp → Prop, (∀ H', Nx H' → ∃ m', m' < m ∧ W (i + 1) m' H') ∧ ∀ x H', (Itr 0 j.toNat).yld i H x H' → gName k x (wipe σ vs) H' fun σ2 H2 => wipe σ2 vs = wipe σ vs ∧ tYes σ2 H2 fun b H3 =>
    if b = true then te σ2 H3 fun y H4 => ∃ acc, H4 D = some (.lst acc) ∧ acc.length < sizeLine ∧ Nx (L2.upd H4 D (.lst (acc ++ [y]))) else Nx H3)
theorem r_lcRng {k : Nat} {vs : List Nat} (h : A σ H fun ws H1 => ∃ j : Int, ws = [.int j] ∧ lcR j k te vs σ H1 Q) : tLc (iRng1 A) (gName k) tYes te vs σ H Q := h
/-- what is made is put behind the list at Dl -/
def apR (Dl : Addr) (N : Hp → Prop) (y : V) (H : Hp) : Prop := ∃ acc, H Dl = some (.lst acc) ∧ acc.length < sizeLine ∧ N (L2.upd H Dl (.lst (acc ++ [y])))
theorem r_ap {Dl : Addr} {N : Hp → Prop} {acc : List V} (h : H Dl = some (.lst acc)) (l : acc.length ≤ 100000) (k : ∀ H1, But Dl H H1 → H1 Dl = some (.lst (acc ++ [y])) → N H1) : apR Dl N y H :=
  ⟨acc, h, Nat.lt_of_le_of_lt l (by decide), k _ But.upd upd_same⟩
theorem r_lcR {J : Int} {k : Nat} {vs : List Nat} (h0 : 0 ≤ J) (h1 : J ≤ 100000) (hw : ∀ x, wipe ((wipe σ vs).set k (some x)) vs = wipe σ vs) (Pv : Addr → Nat → Hp → Prop)
    (hs : ∀ Dl H1, H Dl = none → Same H H1 → H1 Dl = some (.lst []) → Pv Dl 0 H1)
    (ht : ∀ Dl (i : Nat) H', H Dl = none → (i : Int) < J → Pv Dl i H' → te ((wipe σ vs).set k (some (.int (i : Int)))) H' (apR Dl (Pv Dl (i + 1))))
    (hd : ∀ Dl H', H Dl = none → Pv Dl J.toNat H' → Q (.ref Dl) H') : ∃ j' : Int, [V.int J] = [V.int j'] ∧ lcR j' k te vs σ H Q := by
  refine ⟨J, rfl, by omega, by omega, fun Dl hD => ?_⟩
  refine lc_range (lo := 0) (n := J.toNat) (tt := tYes) (Pv Dl) (hs Dl _ hD (same_upd hD) upd_same) (fun i H' hi p => ?_) (fun H' p => hd Dl H' hD p)
  have e : (0 : Int) + (i : Int) = (i : Int) := Int.zero_add _
  show wipe ((wipe σ vs).set k (some (.int ((0 : Int) + (i : Int))))) vs = wipe σ vs ∧ (if true = true then te ((wipe σ vs).set k (some (.int ((0 : Int) + (i : Int))))) H' (apR Dl (Pv Dl (i + 1))) else Pv Dl (i + 1) H')
  rw [e, if_pos rfl]
  exact ⟨hw _, ht Dl i H' hD (by omega) p⟩
def lcL (K : PySem.W.Frag) (a : Addr) (k : Nat) (te : TE) (vs : List Nat) (σ : L2.St) (H : Hp) (Q : VK) : Prop := (∃ xs, SqL K H a xs) ∧ ∀ D, H D = none → ∃ W : Nat → Nat → Hp → Prop, (∃ m, W 0 m (L2.upd H D (.lst []))) ∧ ∀ i m H, W i m H →
  ((Itl K a).stop i H ∧ Q (.ref D) H) ∨ ((Itl K a).go i H ∧ ∃ Nx : Hp → Prop, (∀ H', Nx H' → ∃ m', m' < m ∧ W (i + 1) m' H') ∧ ∀ x H', (Itl K a).yld i H x H' → gName k x (wipe σ vs) H' fun σ2 H2 => wipe σ2 vs = wipe σ vs ∧ tYes σ2 H2 fun b H3 =>
    if b = true then te σ2 H3 fun y H4 => ∃ acc, H4 D = some (.lst acc) ∧ acc.length < sizeLine ∧ Nx (L2.upd H4 D (.lst (acc ++ [y]))) else Nx H3)
theorem r_lcLst {k : Nat} {vs : List Nat} {tl : TE} (h : tl σ H fun x H1 => ∃ a, x = .ref a ∧ lcL K a k te vs σ H1 Q) : tLc (iList K tl) (gName k) tYes te vs σ H Q := h
theorem r_lcL {a : Addr} {xs : List V} {k : Nat} {vs : List Nat} (hx : SqL K H a xs) (hw : ∀ x, wipe ((wipe σ vs).set k (some x)) vs = wipe σ vs) (Pv : Addr → Nat → Hp → Prop)
    (hs : ∀ Dl H1, H Dl = none → Same H H1 → H1 Dl = some (.lst []) → Pv Dl 0 H1) (hl : ∀ Dl i H', H Dl = none → Pv Dl i H' → SqL K H' a xs)
    (ht : ∀ Dl (i : Nat) x H', H Dl = none → xs[i]? = some x → Pv Dl i H' → te ((wipe σ vs).set k (some x)) H' (apR Dl (Pv Dl (i + 1))))
    (hd : ∀ Dl H', H Dl = none → Pv Dl xs.length H' → Q (.ref Dl) H') : ∃ a', V.ref a = .ref a' ∧ lcL K a' k te vs σ H Q := by
  refine ⟨a, rfl, ⟨xs, hx⟩, fun Dl hD => ?_⟩
  refine lc_list (xs := xs) (tt := tYes) (Pv Dl) (hs Dl _ hD (same_upd hD) upd_same) (fun i H' _ p => hl Dl i H' hD p) (fun i x H' hi p => ?_) (fun H' p => hd Dl H' hD p)
  show wipe ((wipe σ vs).set k (some x)) vs = wipe σ vs ∧ (if true = true then te ((wipe σ vs).set k (some x)) H' (apR Dl (Pv Dl (i + 1))) else Pv Dl (i + 1) H')
  rw [if_pos rfl]
  exact ⟨hw _, ht Dl i x H' hD hi p⟩
/-! dicts with keys that are texts -/
def dgR (x y : V) (H : Hp) (Q : VK) : Prop := ∃ a v, x = .ref a ∧ DGet H a y (some v) ∧ Q v H
theorem r_dget (h : ta σ H fun x H1 => tb σ H1 fun y H2 => dgR x y H2 Q) : tDGet ta tb σ H Q := h
theorem r_dgS {a : Addr} {g : Str} {kvs : List (Key × V)} (e : H a = some (.dK kvs)) (l : valV kvs (.inr g) = some v) (k : Q v H) : dgR (.ref a) (.str g) H Q := ⟨a, v, rfl, by
  have z := DGet.k (H := H) (a := a) (kvs := kvs) (k := .inr g) e
  rw [l] at z
  exact z, k⟩
def dpR (x y v : V) (H : Hp) (N : Hp → Prop) : Prop := ∃ a H1, x = .ref a ∧ DPut H a y v H1 ∧ N H1
theorem r_dput (h : tc σ H fun v H1 => ta σ H1 fun x H2 => tb σ H2 fun y H3 => dpR x y v H3 (D.nx σ)) : sDPut ta tb tc D σ H := h
theorem r_dpS {a : Addr} {g : Str} {kvs : List (Key × V)} {N : Hp → Prop} (e : H a = some (.dK kvs)) (l : kvs.length ≤ 1000) (k : ∀ H1, But a H H1 → H1 a = some (.dK (putK kvs (.inr g) v)) → N H1) : dpR (.ref a) (.str g) v H N :=
  ⟨a, _, rfl, DPut.k (k := .inr g) e (Nat.lt_of_le_of_lt l (by decide)), k _ But.upd upd_same⟩
def dspR (p : Addr) (ps : List (V × V)) (H : Hp) (Q : VK) : Prop := H p = some (.dK []) ∧ ∃ kvs : List (Key × V), ps = kvs.map (fun kv => (kV kv.1, kv.2)) ∧ kvs.length ≤ 15 ∧ Q (.ref p) (L2.upd H p (.dK (mergeK [] kvs)))
theorem r_disp {trs : List (TE × TE)} (h : ∀ p H1, H p = none → Same H H1 → H1 p = some (.dK []) → tPairs trs σ H1 fun ps H2 => dspR p ps H2 Q) : tDisp trs σ H Q := fun p np => h p _ np (same_upd np) upd_same
theorem r_pnil {N : List (V × V) → Hp → Prop} (h : N [] H) : tPairs [] σ H N := h
theorem r_pcons {trs : List (TE × TE)} {N : List (V × V) → Hp → Prop} (h : ta σ H fun x H1 => tb σ H1 fun y H2 => tPairs trs σ H2 fun ps H3 => N ((x, y) :: ps) H3) : tPairs ((ta, tb) :: trs) σ H N := h
theorem r_dsp {p : Addr} {ps : List (V × V)} (kvs : List (Key × V)) (e : H p = some (.dK [])) (hps : ps = kvs.map (fun kv => (kV kv.1, kv.2))) (l : kvs.length ≤ 15) (k : ∀ H1, But p H H1 → H1 p = some (.dK (mergeK [] kvs)) → Q (.ref p) H1) : dspR p ps H Q :=
  ⟨e, kvs, hps, l, k _ But.upd upd_same⟩
theorem pow10_le {a b : Nat} (h : a ≤ b) : (10 : Int) ^ a ≤ 10 ^ b := by
  have e : ∀ k : Nat, (10 : Int) ^ k = ((10 ^ k : Nat) : Int) := fun k => by rw [Int.natCast_pow]; rfl
  rw [e, e]
  exact Int.ofNat_le.mpr (Nat.pow_le_pow_right (by decide) h)
theorem letters {n : Nat} (h : n < 26) : ∃ c, ("abcdefghijklmnopqrstuvwxyz" : Str).cps.toList[n]? = some c ∧ 97 ≤ c ∧ c ≤ 122 := by
  have e : ("abcdefghijklmnopqrstuvwxyz" : Str).cps.toList = List.range' 97 26 := by decide +kernel
  refine ⟨97 + n, ?_, by omega, by omega⟩
  rw [e, List.getElem?_range' (by omega)]
  simp
theorem ty_ins {a C dx : Addr} {fs : List (Str × V)} (c : Cls K C) (i : Inst K C) (e : H a = some (.ins C dx fs)) : TyX K H (.ref a) (.ref C) := .base (.ins e c i.ca i.cn i.ct i.cm)
theorem c_isi {X : Cx} : CallR X (.builtin "isinstance") (rIsi X.K) := call_isi
theorem r_isiT {t : Value} {n : String} {b : Bool} (ty : TyX K H x t) (k : PySem.W.kitOne K t (.type n) = some b) (h : Q (.bl b) H) : rIsi K [x, .ty n] H Q := ⟨x, .ty n, t, .type n, b, rfl, .ty n, ty, k, h⟩
theorem r_isiC {t : Value} {C : Addr} {b : Bool} (ty : TyX K H x t) (k : PySem.W.kitOne K t (.ref C) = some b) (h : Q (.bl b) H) : rIsi K [x, .ref C] H Q := ⟨x, .ref C, t, .ref C, b, rfl, .own C, ty, k, h⟩
/-- a new instance, its dict made, its __init__ asked -/
def mkI (C : Addr) (sp : Sp) (ds vs : List V) (H : Hp) (Q : VK) (E : XK) : Prop := ∀ x dx, H x = none → H dx = none → dx ≠ x →
  sp (.ref x :: (vs ++ ds)) (L2.upd (L2.upd H dx (.own x)) x (.ins C dx [])) (fun v H2 => v = .non ∧ Q (.ref x) H2) E
theorem r_make {C : Addr} {ds : List V} (h : A σ H fun vs H1 => mkI C sp ds vs H1 Q E) : tMake C sp ds E A σ H Q := h
theorem look1 {f : Str} : ([(f, v)] : List (Str × V)).lookup f = some v := by simp [List.lookup]
/-- o.f = value -/
def stF (K : PySem.W.Frag) (f : Str) (y x : V) (H : Hp) (N : Hp → Prop) : Prop := ∃ a C dx fs, x = .ref a ∧ H a = some (.ins C dx fs) ∧ Cls K C ∧ NoAttr K C f ∧ fs.length < 1000 ∧ N (L2.upd H a (.ins C dx (putF f y fs)))
theorem r_sfld {f : Str} {tv : TE} (h : tv σ H fun y H1 => ta σ H1 fun x H2 => stF K f y x H2 (D.nx σ)) : sFld K ta tv f D σ H := h
theorem r_stF {f : Str} {a C dx : Addr} {fs : List (Str × V)} {N : Hp → Prop} (e : H a = some (.ins C dx fs)) (c : Cls K C) (n : NoAttr K C f) (l : fs.length ≤ 900) (h : ∀ H1, But a H H1 → H1 a = some (.ins C dx (putF f y fs)) → N H1) :
    stF K f y (.ref a) H N := ⟨a, C, dx, fs, rfl, e, c, n, by omega, h _ But.upd upd_same⟩
def rIsN : R2 := fun x y H Q => y = .non ∧ Q (.bl (decide (x = .non))) H
def rNotN : R2 := fun x y H Q => y = .non ∧ Q (.bl (!decide (x = .non))) H
theorem o_isN {X : Cx} : OpR X (compareOp .Is) rIsN := op_isN
theorem o_notN {X : Cx} : OpR X (compareOp .IsNot) rNotN := op_notN
theorem r_isN (h : Q (.bl (decide (x = .non))) H) : rIsN x .non H Q := ⟨rfl, h⟩
theorem r_notN (h : Q (.bl (!decide (x = .non))) H) : rNotN x .non H Q := ⟨rfl, h⟩
theorem z4 : (4 : Nat) ≤ sizeLine := by decide
theorem szle {n : Nat} (h : n ≤ 1000) : n ≤ sizeLine := Nat.le_trans h (by decide)
end
end Z

structure Top (K : PySem.W.Frag) (mg : Str → Option Value) where
  C_Unnumbered : Addr
  f_law_draw : Addr
  fd_law_draw : FuncData
  F_law_draw : Fun K "_law_draw" "_law_draw" s_law_draw f_law_draw fd_law_draw
  B_law_draw : Binds K fd_law_draw ["_law_bag_here", "_law_many"] []
  f_law_bag : Addr
  fd_law_bag : FuncData
  F_law_bag : Fun K "_law_bag" "_law_bag" s_law_bag f_law_bag fd_law_bag
  B_law_bag : Binds K fd_law_bag ["_law_script", "_law_at"] []
  f_law_number : Addr
  fd_law_number : FuncData
  F_law_number : Fun K "_law_number" "_law_number" s_law_number f_law_number fd_law_number
  B_law_number : Binds K fd_law_number ["_law_bag_here"] []
  f_law_word : Addr
  fd_law_word : FuncData
  F_law_word : Fun K "_law_word" "_law_word" s_law_word f_law_word fd_law_word
  B_law_word : Binds K fd_law_word ["_law_bag_here"] []
  f_is_number : Addr
  fd_is_number : FuncData
  F_is_number : Fun K "is_number" "is_number" s_is_number f_is_number fd_is_number
  B_is_number : Binds K fd_is_number ["thing"] []
  f_Unnumbered___init : Addr
  fd_Unnumbered___init : FuncData
  F_Unnumbered___init : Fun K "__init__" "Unnumbered.__init__" s_Unnumbered___init f_Unnumbered___init fd_Unnumbered___init
  B_Unnumbered___init : Binds K fd_Unnumbered___init ["self", "name"] []
  f_is_entry : Addr
  fd_is_entry : FuncData
  F_is_entry : Fun K "is_entry" "is_entry" s_is_entry f_is_entry fd_is_entry
  B_is_entry : Binds K fd_is_entry ["thing"] []
  f_is_value : Addr
  fd_is_value : FuncData
  F_is_value : Fun K "_is_value" "_is_value" s_is_value f_is_value fd_is_value
  B_is_value : Binds K fd_is_value ["thing"] []
  f_Unnumbered___eq : Addr
  fd_Unnumbered___eq : FuncData
  F_Unnumbered___eq : Fun K "__eq__" "Unnumbered.__eq__" s_Unnumbered___eq f_Unnumbered___eq fd_Unnumbered___eq
  B_Unnumbered___eq : Binds K fd_Unnumbered___eq ["self", "other"] []
  f_Unnumbered___ne : Addr
  fd_Unnumbered___ne : FuncData
  F_Unnumbered___ne : Fun K "__ne__" "Unnumbered.__ne__" s_Unnumbered___ne f_Unnumbered___ne fd_Unnumbered___ne
  B_Unnumbered___ne : Binds K fd_Unnumbered___ne ["self", "other"] []
  f_Unnumbered___lt : Addr
  fd_Unnumbered___lt : FuncData
  F_Unnumbered___lt : Fun K "__lt__" "Unnumbered.__lt__" s_Unnumbered___lt f_Unnumbered___lt fd_Unnumbered___lt
  B_Unnumbered___lt : Binds K fd_Unnumbered___lt ["self", "other"] []
  f_Unnumbered___le : Addr
  fd_Unnumbered___le : FuncData
  F_Unnumbered___le : Fun K "__le__" "Unnumbered.__le__" s_Unnumbered___le f_Unnumbered___le fd_Unnumbered___le
  B_Unnumbered___le : Binds K fd_Unnumbered___le ["self", "other"] []
  f_Unnumbered___gt : Addr
  fd_Unnumbered___gt : FuncData
  F_Unnumbered___gt : Fun K "__gt__" "Unnumbered.__gt__" s_Unnumbered___gt f_Unnumbered___gt fd_Unnumbered___gt
  B_Unnumbered___gt : Binds K fd_Unnumbered___gt ["self", "other"] []
  f_Unnumbered___ge : Addr
  fd_Unnumbered___ge : FuncData
  F_Unnumbered___ge : Fun K "__ge__" "Unnumbered.__ge__" s_Unnumbered___ge f_Unnumbered___ge fd_Unnumbered___ge
  B_Unnumbered___ge : Binds K fd_Unnumbered___ge ["self", "other"] []
  f_holds : Addr
  fd_holds : FuncData
  F_holds : Fun K "holds" "holds" s_holds f_holds fd_holds
  B_holds : Binds K fd_holds ["sign", "one", "other"] []
  f_law_says : Addr
  fd_law_says : FuncData
  F_law_says : Fun K "_law_says" "_law_says" s_law_says f_law_says fd_law_says
  B_law_says : Binds K fd_law_says ["_law_told", "_law_due_here"] []
  f_law_tag : Addr
  fd_law_tag : FuncData
  F_law_tag : Fun K "_law_tag" "_law_tag" s_law_tag f_law_tag fd_law_tag
  B_law_tag : Binds K fd_law_tag ["_law_bag_here", "_law_words"] []
  f_law_made : Addr
  fd_law_made : FuncData
  F_law_made : Fun K "_law_made" "_law_made" s_law_made f_law_made fd_law_made
  B_law_made : Binds K fd_law_made ["_law_tag_here"] []
  f_law_due : Addr
  fd_law_due : FuncData
  F_law_due : Fun K "_law_due" "_law_due" s_law_due f_law_due fd_law_due
  B_law_due : Binds K fd_law_due ["_law_sign", "_law_one", "_law_two"] []
  f_law : Addr
  fd_law : FuncData
  F_law : Fun K "law" "law" s_law f_law fd_law
  B_law : Binds K fd_law ["_law_script"] []
  mgC_Unnumbered : mg "Unnumbered" = some (.ref C_Unnumbered)
  cl_Unnumbered : Cls K C_Unnumbered
  in_Unnumbered : Z.Inst K C_Unnumbered
  mk_Unnumbered : Mk K C_Unnumbered f_Unnumbered___init
  me_Unnumbered___eq : Meth K C_Unnumbered "__eq__" f_Unnumbered___eq
  me_Unnumbered___ge : Meth K C_Unnumbered "__ge__" f_Unnumbered___ge
  me_Unnumbered___gt : Meth K C_Unnumbered "__gt__" f_Unnumbered___gt
  me_Unnumbered___le : Meth K C_Unnumbered "__le__" f_Unnumbered___le
  me_Unnumbered___lt : Meth K C_Unnumbered "__lt__" f_Unnumbered___lt
  me_Unnumbered___ne : Meth K C_Unnumbered "__ne__" f_Unnumbered___ne
  no_Unnumbered_name : NoAttr K C_Unnumbered "name"
  mg_law_draw : mg "_law_draw" = some (.ref f_law_draw)
  mg_law_bag : mg "_law_bag" = some (.ref f_law_bag)
  mg_law_number : mg "_law_number" = some (.ref f_law_number)
  mg_law_word : mg "_law_word" = some (.ref f_law_word)
  mg_is_number : mg "is_number" = some (.ref f_is_number)
  mg_is_entry : mg "is_entry" = some (.ref f_is_entry)
  mg_is_value : mg "_is_value" = some (.ref f_is_value)
  mg_holds : mg "holds" = some (.ref f_holds)
  mg_law_says : mg "_law_says" = some (.ref f_law_says)
  mg_law_tag : mg "_law_tag" = some (.ref f_law_tag)
  mg_law_made : mg "_law_made" = some (.ref f_law_made)
  mg_law_due : mg "_law_due" = some (.ref f_law_due)
  mg_law : mg "law" = some (.ref f_law)
  z_abs : mg "abs" = none
  z_bool : mg "bool" = none
  z_int : mg "int" = none
  z_isinstance : mg "isinstance" = none
  z_len : mg "len" = none
  z_max : mg "max" = none
  z_min : mg "min" = none
  z_range : mg "range" = none
  ki_NoneType_Unnumbered : PySem.W.kitOne K (.type "NoneType") (.ref C_Unnumbered) = some false
  ki_bool_Unnumbered : PySem.W.kitOne K (.type "bool") (.ref C_Unnumbered) = some false
  ki_int_Unnumbered : PySem.W.kitOne K (.type "int") (.ref C_Unnumbered) = some false
  ki_str_Unnumbered : PySem.W.kitOne K (.type "str") (.ref C_Unnumbered) = some false
  ki_list_Unnumbered : PySem.W.kitOne K (.type "list") (.ref C_Unnumbered) = some false
  ki_tuple_Unnumbered : PySem.W.kitOne K (.type "tuple") (.ref C_Unnumbered) = some false
  ki_Unnumbered_Unnumbered : PySem.W.kitOne K (.ref C_Unnumbered) (.ref C_Unnumbered) = some true
  ki_Unnumbered_bool : PySem.W.kitOne K (.ref C_Unnumbered) (.type "bool") = some false
  ki_Unnumbered_int : PySem.W.kitOne K (.ref C_Unnumbered) (.type "int") = some false
theorem kb_NoneType_int : kitB "NoneType" "int" = some false := by decide +kernel
theorem kb_NoneType_bool : kitB "NoneType" "bool" = some false := by decide +kernel
theorem kb_bool_int : kitB "bool" "int" = some true := by decide +kernel
theorem kb_bool_bool : kitB "bool" "bool" = some true := by decide +kernel
theorem kb_int_int : kitB "int" "int" = some true := by decide +kernel
theorem kb_int_bool : kitB "int" "bool" = some false := by decide +kernel
theorem kb_str_int : kitB "str" "int" = some false := by decide +kernel
theorem kb_str_bool : kitB "str" "bool" = some false := by decide +kernel
theorem kb_list_int : kitB "list" "int" = some false := by decide +kernel
theorem kb_list_bool : kitB "list" "bool" = some false := by decide +kernel
theorem kb_tuple_int : kitB "tuple" "int" = some false := by decide +kernel
theorem kb_tuple_bool : kitB "tuple" "bool" = some false := by decide +kernel
local macro_rules | `(tactic| walk_at "ki") => `(tactic| first
  | assumption
  | exact kit_ty kb_NoneType_int
  | exact kit_ty kb_NoneType_bool
  | exact kit_ty kb_bool_int
  | exact kit_ty kb_bool_bool
  | exact kit_ty kb_int_int
  | exact kit_ty kb_int_bool
  | exact kit_ty kb_str_int
  | exact kit_ty kb_str_bool
  | exact kit_ty kb_list_int
  | exact kit_ty kb_list_bool
  | exact kit_ty kb_tuple_int
  | exact kit_ty kb_tuple_bool
  | exact Top.ki_NoneType_Unnumbered (by assumption)
  | exact Top.ki_bool_Unnumbered (by assumption)
  | exact Top.ki_int_Unnumbered (by assumption)
  | exact Top.ki_str_Unnumbered (by assumption)
  | exact Top.ki_list_Unnumbered (by assumption)
  | exact Top.ki_tuple_Unnumbered (by assumption)
  | exact Top.ki_Unnumbered_Unnumbered (by assumption)
  | exact Top.ki_Unnumbered_bool (by assumption)
  | exact Top.ki_Unnumbered_int (by assumption))
local macro_rules | `(tactic| walk_at "no") => `(tactic| first
  | exact Top.no_Unnumbered_name (by assumption)
  | assumption)
local macro_rules | `(tactic| walk_at "cl") => `(tactic| first
  | exact Top.cl_Unnumbered (by assumption)
  | assumption)
local macro_rules | `(tactic| walk_at "ty") => `(tactic| first
  | assumption
  | exact .base (.int _)
  | exact .base .non
  | exact .base (.bl _)
  | exact .base (.str _)
  | exact .base (.lst (by walk_at "hp"))
  | exact .base (.tup (by walk_at "hp"))
  | exact Z.ty_ins (Top.cl_Unnumbered (by assumption)) (Top.in_Unnumbered (by assumption)) (by walk_at "hp"))

/-! what stands at an address; which way a test goes; one step; as many as go -/
local macro_rules | `(tactic| walk_at "hp") => `(tactic| first
  | assumption
  | exact upd_same
  | (refine (‹Same _ _› : Same _ _) _ _ ?_; walk_at "hp")
  | (refine (‹Z.But _ _ _› : Z.But _ _ _) _ _ ?_ ?_; (first | assumption | (apply Ne.symm; assumption) | exact ne_of_none (by assumption) (by assumption)); walk_at "hp"))
local macro_rules | `(tactic| walk_at "sq") => `(tactic| first
  | assumption
  | exact SqL.of (by walk_at "hp")
  | (refine Same.seq (by assumption) ?_; walk_at "sq")
  | (refine Z.But.seq (by assumption) (by assumption) ?_; walk_at "sq"))
local macro_rules | `(tactic| walk_at "look") => `(tactic| first | assumption | exact Z.look1 | (simp [List.lookup]; done))
local macro_rules | `(tactic| walk_at "side") => `(tactic| first
  | (show (0 : Int) < _; omega)
  | (show CDiv _ _; exact ⟨by omega, by omega⟩)
  | (show CMul _ _; first | exact .inl ⟨by omega, by omega⟩ | exact .inr ⟨by omega, by omega⟩)
  | (show CPow _ _; exact ⟨by omega, by omega, by omega⟩))
local macro_rules | `(tactic| walk_at "st") => `(tactic| first
  | ((with_reducible refine' Z.r_var ?e ?_); (case e => exact rfl))
  | with_reducible refine Z.r_op ?_
  | with_reducible refine Z.r_c ?_
  | with_reducible refine Z.r_cons ?_
  | with_reducible refine Z.r_nil ?_
  | with_reducible refine Z.r_seq ?_
  | with_reducible refine Z.r_asg ?_
  | with_reducible refine Z.r_call ?_
  | with_reducible refine Z.r_cb ?_
  | with_reducible refine Z.r_asgG ?_
  | with_reducible refine Z.r_gName ?_
  | with_reducible refine Z.r_gSub ?_
  | with_reducible refine Z.r_ret ?_
  | with_reducible refine Z.r_retN ?_
  | with_reducible refine Z.r_next ?_
  | with_reducible refine Z.r_drop ?_
  | with_reducible refine Z.r_if ?_
  | with_reducible refine Z.r_par ?_
  | with_reducible refine Z.r_vs2 ?_
  | with_reducible refine Z.r_un ?_
  | with_reducible refine Z.r_test ?_
  | with_reducible refine Z.r_tB ?_
  | with_reducible refine Z.r_bl ?_
  | with_reducible refine Z.r_and ?_
  | with_reducible refine Z.r_or ?_
  | with_reducible refine Z.r_not ?_
  | with_reducible refine Z.r_andV ?_
  | with_reducible refine Z.r_orV ?_
  | with_reducible refine Z.r_notV ?_
  | with_reducible refine Z.r_ifE ?_
  | with_reducible refine Z.r_tup ?_
  | with_reducible refine Z.r_lst ?_
  | with_reducible refine Z.r_fld ?_
  | ((with_reducible refine' Z.r_fldV ?e ?c ?n ?l ?_); (case e => walk_at "hp"); (case c => walk_at "cl"); (case n => walk_at "no"); (case l => walk_at "look"))
  | ((with_reducible refine' Z.r_isiT ?ty ?k ?_); (case ty => walk_at "ty"); (case k => walk_at "ki"))
  | ((with_reducible refine' Z.r_isiC ?ty ?k ?_); (case ty => walk_at "ty"); (case k => walk_at "ki"))
  | with_reducible refine Z.r_make ?_
  | with_reducible refine Z.r_dget ?_
  | with_reducible refine Z.r_dput ?_
  | with_reducible refine Z.r_disp ?_
  | with_reducible refine Z.r_pnil ?_
  | with_reducible refine Z.r_pcons ?_
  | with_reducible refine Z.r_sfld ?_
  | ((with_reducible refine' Z.r_stF ?e ?c ?n ?l ?_); (case e => walk_at "hp"); (case c => walk_at "cl"); (case n => walk_at "no"); (case l => exact Nat.le_of_ble_eq_true rfl))
  | ((with_reducible refine' Z.r_nwL ?z ?_); (case z => exact Nat.le_of_ble_eq_true rfl))
  | ((with_reducible refine' Z.r_nwT ?z ?_); (case z => exact Nat.le_of_ble_eq_true rfl))
  | with_reducible refine Z.r_I0 ?_
  | with_reducible refine Z.r_U ?_
  | with_reducible refine Z.r_forRng ?_
  | with_reducible refine Z.r_forL0 ?_
  | with_reducible refine Z.r_lcRng ?_
  | with_reducible refine Z.r_lcLst ?_
  | ((with_reducible refine' Z.r_I ?c ?_); (case c => walk_at "side"))
  | with_reducible refine Z.r_int1 ?_
  | with_reducible refine Z.r_abs ?_
  | with_reducible refine Z.r_max2 ?_
  | with_reducible refine Z.r_min2 ?_
  | ((with_reducible refine' Z.r_lenL ?e ?_); (case e => walk_at "sq"))
  | with_reducible refine Z.r_isN ?_
  | with_reducible refine Z.r_notN ?_
  | with_reducible refine Z.r_eqI ?_
  | with_reducible refine Z.r_eqB ?_
  | with_reducible refine Z.r_eqS ?_
  | with_reducible refine Z.r_neI ?_
  | with_reducible refine Z.r_neB ?_
  | with_reducible refine Z.r_neS ?_
  | ((with_reducible refine' Z.r_ixL ?h ?e ?_); (case h => walk_at "sq"); (case e => first | assumption | exact rfl))
  | ((with_reducible refine' Z.r_ixT ?h ?e ?_); (case h => exact SqT.of (by walk_at "hp")); (case e => first | assumption | exact rfl))
  | ((with_reducible refine' Z.r_setL ?h ?e ?_); (case h => walk_at "hp"); (case e => exact rfl))
  | ((with_reducible refine Z.yes ?_ ?_); (first | exact rfl | decide +kernel))
  | ((with_reducible refine Z.no ?_ ?_); (first | exact rfl | decide +kernel))
  | walk_at "call")
local macro_rules | `(tactic| walk_at "go") => `(tactic| repeat (first
  | ((with_reducible refine' Z.r_var ?e ?_); (case e => exact rfl))
  | with_reducible refine Z.r_op ?_
  | with_reducible refine Z.r_c ?_
  | with_reducible refine Z.r_cons ?_
  | with_reducible refine Z.r_nil ?_
  | with_reducible refine Z.r_seq ?_
  | with_reducible refine Z.r_asg ?_
  | with_reducible refine Z.r_call ?_
  | with_reducible refine Z.r_cb ?_
  | with_reducible refine Z.r_asgG ?_
  | with_reducible refine Z.r_gName ?_
  | with_reducible refine Z.r_gSub ?_
  | with_reducible refine Z.r_ret ?_
  | with_reducible refine Z.r_retN ?_
  | with_reducible refine Z.r_next ?_
  | with_reducible refine Z.r_drop ?_
  | with_reducible refine Z.r_if ?_
  | with_reducible refine Z.r_par ?_
  | with_reducible refine Z.r_vs2 ?_
  | with_reducible refine Z.r_un ?_
  | with_reducible refine Z.r_test ?_
  | with_reducible refine Z.r_tB ?_
  | with_reducible refine Z.r_bl ?_
  | with_reducible refine Z.r_and ?_
  | with_reducible refine Z.r_or ?_
  | with_reducible refine Z.r_not ?_
  | with_reducible refine Z.r_andV ?_
  | with_reducible refine Z.r_orV ?_
  | with_reducible refine Z.r_notV ?_
  | with_reducible refine Z.r_ifE ?_
  | with_reducible refine Z.r_tup ?_
  | with_reducible refine Z.r_lst ?_
  | with_reducible refine Z.r_fld ?_
  | ((with_reducible refine' Z.r_fldV ?e ?c ?n ?l ?_); (case e => walk_at "hp"); (case c => walk_at "cl"); (case n => walk_at "no"); (case l => walk_at "look"))
  | ((with_reducible refine' Z.r_isiT ?ty ?k ?_); (case ty => walk_at "ty"); (case k => walk_at "ki"))
  | ((with_reducible refine' Z.r_isiC ?ty ?k ?_); (case ty => walk_at "ty"); (case k => walk_at "ki"))
  | with_reducible refine Z.r_make ?_
  | with_reducible refine Z.r_dget ?_
  | with_reducible refine Z.r_dput ?_
  | with_reducible refine Z.r_disp ?_
  | with_reducible refine Z.r_pnil ?_
  | with_reducible refine Z.r_pcons ?_
  | with_reducible refine Z.r_sfld ?_
  | ((with_reducible refine' Z.r_stF ?e ?c ?n ?l ?_); (case e => walk_at "hp"); (case c => walk_at "cl"); (case n => walk_at "no"); (case l => exact Nat.le_of_ble_eq_true rfl))
  | ((with_reducible refine' Z.r_nwL ?z ?_); (case z => exact Nat.le_of_ble_eq_true rfl))
  | ((with_reducible refine' Z.r_nwT ?z ?_); (case z => exact Nat.le_of_ble_eq_true rfl))
  | with_reducible refine Z.r_I0 ?_
  | with_reducible refine Z.r_U ?_
  | with_reducible refine Z.r_forRng ?_
  | with_reducible refine Z.r_forL0 ?_
  | with_reducible refine Z.r_lcRng ?_
  | with_reducible refine Z.r_lcLst ?_
  | ((with_reducible refine' Z.r_I ?c ?_); (case c => walk_at "side"))
  | with_reducible refine Z.r_int1 ?_
  | with_reducible refine Z.r_abs ?_
  | with_reducible refine Z.r_max2 ?_
  | with_reducible refine Z.r_min2 ?_
  | ((with_reducible refine' Z.r_lenL ?e ?_); (case e => walk_at "sq"))
  | with_reducible refine Z.r_isN ?_
  | with_reducible refine Z.r_notN ?_
  | with_reducible refine Z.r_eqI ?_
  | with_reducible refine Z.r_eqB ?_
  | with_reducible refine Z.r_eqS ?_
  | with_reducible refine Z.r_neI ?_
  | with_reducible refine Z.r_neB ?_
  | with_reducible refine Z.r_neS ?_
  | ((with_reducible refine' Z.r_ixL ?h ?e ?_); (case h => walk_at "sq"); (case e => first | assumption | exact rfl))
  | ((with_reducible refine' Z.r_ixT ?h ?e ?_); (case h => exact SqT.of (by walk_at "hp")); (case e => first | assumption | exact rfl))
  | ((with_reducible refine' Z.r_setL ?h ?e ?_); (case h => walk_at "hp"); (case e => exact rfl))
  | ((with_reducible refine Z.yes ?_ ?_); (first | exact rfl | decide +kernel))
  | ((with_reducible refine Z.no ?_ ?_); (first | exact rfl | decide +kernel))
  | walk_at "call"))
local macro_rules | `(tactic| walk_at "bag") => `(tactic| first
  | assumption
  | (refine Bag.mono (by omega) ?_; assumption)
  | (refine Bag.same (by assumption) ?_; walk_at "bag")
  | (refine Bag.but (by assumption) (by first | assumption | (apply Ne.symm; assumption)) ?_; walk_at "bag"))
local macro_rules | `(tactic| walk_at "len") => `(tactic| exact Z.szle (Nat.le_of_ble_eq_true rfl))
local macro_rules | `(tactic| walk_at "draw") => `(tactic| (refine' ⟨_, _, _, rfl, ?bg, ?m0, ?m1, ?n1, ?_⟩; (case bg => walk_at "bag"); (case m0 => omega); (case m1 => omega); (case n1 => omega)))
/-! the bag of a script's cell, its draws -/
/-- a bag: what is left of the digits, the seed, the number of draws (at most n) -/
def Bag (H : Hp) (b : Addr) (n : Nat) : Prop := ∃ g s k : Int, H b = some (.lst [.int g, .int s, .int k]) ∧ 0 ≤ g ∧ 0 ≤ s ∧ s < 1099511627776 ∧ 0 ≤ k ∧ k ≤ n
theorem Bag.mono {H : Hp} {b : Addr} {n m : Nat} (h : n ≤ m) (x : Bag H b n) : Bag H b m := by
  obtain ⟨g, s, k, h1, h2, h3, h4, h5, h6⟩ := x
  exact ⟨g, s, k, h1, h2, h3, h4, h5, by omega⟩
theorem Bag.same {H H' : Hp} {b : Addr} {n : Nat} (e : Same H H') (x : Bag H b n) : Bag H' b n := by
  obtain ⟨g, s, k, h1, h2⟩ := x
  exact ⟨g, s, k, e _ _ h1, h2⟩
theorem Bag.ne {H : Hp} {b p : Addr} {n : Nat} (x : Bag H b n) (h : H p = none) : p ≠ b := fun e => by
  obtain ⟨g, s, k, h1, _⟩ := x
  rw [e, h1] at h; cases h
theorem Bag.ne' {H : Hp} {b p : Addr} {n : Nat} {o : HO} (x : Bag H b n) (h : H p = some o) (d : ∀ xs, o ≠ .lst xs) : p ≠ b := fun e => by
  obtain ⟨g, s, k, h1, _⟩ := x
  rw [e, h1] at h; cases h; exact d _ rfl
theorem Bag.but {H H' : Hp} {b c : Addr} {n : Nat} (e : Z.But c H H') (ne : b ≠ c) (x : Bag H b n) : Bag H' b n := by
  obtain ⟨g, s, k, h1, h2⟩ := x
  exact ⟨g, s, k, e _ _ ne h1, h2⟩
local macro_rules | `(tactic| walk_at "bag") => `(tactic| first
  | assumption
  | (refine Bag.same (by assumption) ?_; walk_at "bag")
  | (refine Bag.but (by assumption) (by first | assumption | (apply Ne.symm; assumption)) ?_; walk_at "bag")
  | (refine Bag.mono (by omega) ?_; assumption))
/-- a word of one to eight small letters -/
def Word (x : Str) : Prop := 1 ≤ x.length ∧ x.length ≤ 8 ∧ ∀ c ∈ x.cps.toList, 97 ≤ c ∧ c ≤ 122
theorem Word.ok {x : Str} (h : Word x) : PyData.strOk x = true := by
  unfold PyData.strOk
  rw [Array.all_eq_true']
  intro c hc
  have := (h.2.2 c (Array.mem_toList_iff.mpr hc)).2
  exact decide_eq_true (by omega)
/-- a beginning of a word, of at most n letters -/
def Wd (n : Nat) (x : Str) : Prop := x.length = n ∧ ∀ c ∈ x.cps.toList, 97 ≤ c ∧ c ≤ 122
theorem Wd.add {n c : Nat} {x : Str} (h : Wd n x) (h1 : 97 ≤ c) (h2 : c ≤ 122) : Wd (n + 1) (x ++ (⟨#[c]⟩ : Str)) := by
  obtain ⟨h3, h4⟩ := h
  have e : (x ++ (⟨#[c]⟩ : Str)).cps = x.cps ++ #[c] := rfl
  constructor
  · show (x ++ (⟨#[c]⟩ : Str)).cps.size = n + 1
    rw [e, Array.size_append]
    have : x.cps.size = n := h3
    rw [this]; rfl
  · intro d hd
    rw [e, Array.toList_append, List.mem_append] at hd
    rcases hd with hd | hd
    · exact h4 d hd
    · have : d = c := by simpa using hd
      omega

/-- a value of the law's: nothing, an unnumbered value (an instance of the class at C) of this name, a number -/
inductive Tag where
  | non | mark (n : Str) | num (i : Int)
  deriving DecidableEq
def Rep (C : Addr) (H : Hp) (x : V) : Tag → Prop
  | .non => x = .non
  | .num i => x = .int i
  | .mark n => ∃ a dx, x = .ref a ∧ H a = some (.ins C dx [("name", .str n)])
theorem Rep.same {C : Addr} {H H' : Hp} {x : V} {t : Tag} (e : Same H H') (h : Rep C H x t) : Rep C H' x t := by
  cases t with
  | non => exact h
  | num i => exact h
  | mark n =>
    obtain ⟨a, dx, h1, h2⟩ := h
    exact ⟨a, dx, h1, e _ _ h2⟩
theorem Rep.but {C b : Addr} {H H' : Hp} {x : V} {t : Tag} {xs : List V} (e : Z.But b H H') (hb : H b = some (.lst xs)) (h : Rep C H x t) : Rep C H' x t := by
  cases t with
  | non => exact h
  | num i => exact h
  | mark n =>
    obtain ⟨a, dx, h1, h2⟩ := h
    exact ⟨a, dx, h1, e _ _ (ne_of h2 hb (by intro z; cases z)) h2⟩
/-! operators and comparisons of instances of an own class -/
namespace Z
open PySem PySem.Spec PyProof.Rows L2
section
variable {prog : Program} {w : World} {A : Around} {E : Value → Shared → Prop} {s : Shared} {x : Addr} {o : Obj} {a : Int} {t : Tok}
/-- what a built-in's operation on ints says of an instance -/
def Declines (B : Builtin) : Prop := ∀ (prog : Program) (w : World) (A : Around) (E : Value → Shared → Prop) (s : Shared) (x : Addr) (o : Obj) (a : Int) (t : Tok) (Q : Fin → Shared → Prop),
  s.heap.get? x = some o → o.data = .plain → Q (.done (.ret .notImplemented)) s → wpAny (model prog w) A (B ⟨[.int a t, .ref x], []⟩) Q E s
theorem dec_lt : Declines Builtin.«int.__lt__» := fun prog w A E s x o a t Q hx hd h => by
  obtain ⟨oc, od, data, sl⟩ := o
  simp only at hd
  subst hd
  obtain ⟨hp, g, d, tk, os⟩ := s
  wp_walk using AutoSeq1.wpAny_loadPart' hx
  exact h
theorem dec_le : Declines Builtin.«int.__le__» := fun prog w A E s x o a t Q hx hd h => by
  obtain ⟨oc, od, data, sl⟩ := o
  simp only at hd
  subst hd
  obtain ⟨hp, g, d, tk, os⟩ := s
  wp_walk using AutoSeq1.wpAny_loadPart' hx
  exact h
theorem dec_gt : Declines Builtin.«int.__gt__» := fun prog w A E s x o a t Q hx hd h => by
  obtain ⟨oc, od, data, sl⟩ := o
  simp only at hd
  subst hd
  obtain ⟨hp, g, d, tk, os⟩ := s
  wp_walk using AutoSeq1.wpAny_loadPart' hx
  exact h
theorem dec_ge : Declines Builtin.«int.__ge__» := fun prog w A E s x o a t Q hx hd h => by
  obtain ⟨oc, od, data, sl⟩ := o
  simp only at hd
  subst hd
  obtain ⟨hp, g, d, tk, os⟩ := s
  wp_walk using AutoSeq1.wpAny_loadPart' hx
  exact h
theorem dec_eq : Declines Builtin.«int.__eq__» := fun prog w A E s x o a t Q hx hd h => by
  obtain ⟨oc, od, data, sl⟩ := o
  simp only at hd
  subst hd
  obtain ⟨hp, g, d, tk, os⟩ := s
  wp_walk using AutoSeq1.wpAny_loadPart' hx
  exact h
theorem dec_ne : Declines Builtin.«int.__ne__» := fun prog w A E s x o a t Q hx hd h => by
  obtain ⟨oc, od, data, sl⟩ := o
  simp only at hd
  subst hd
  obtain ⟨hp, g, d, tk, os⟩ := s
  wp_walk using AutoSeq1.wpAny_loadPart' hx
  exact h
theorem dec_call {T : String} {name : Str} {id : String} {B : Builtin} (slot : Slot "int" name id) (entry : entryFor table id = some B) (args : ∀ a b, argsOk id ⟨[a, b], []⟩) (D : Declines B) {Q : Value → Shared → Prop}
    (hx : s.heap.get? x = some o) (hd : o.data = .plain) (h : Q .notImplemented s) : wpAny (model prog w) A (call (.builtin id) [.int a t, .ref x]) Q E s :=
  GQ.call_here slot (typeIs_int s a t) entry (args _ _) (D _ _ _ _ _ _ _ _ _ _ hx hd h)
theorem cmpback {P : Value → Shared → Prop} {z : V} {v : Value} {s' : Shared} (r : RelV z v) (h : P v s') : PySem.W.CmpBack P v s' := by
  cases z with
  | non => cases (show v = Value.none from r); exact h
  | bl b => cases (show v = Value.bool b from r); exact h
  | int i =>
    obtain ⟨t, e⟩ := (show ∃ t, v = Value.int i t from r)
    cases e
    exact h
  | str x =>
    obtain ⟨t, e⟩ := (show ∃ t, v = Value.str x t from r)
    cases e
    exact h
  | byt b =>
    obtain ⟨t, e⟩ := (show ∃ t, v = Value.bytes b t from r)
    cases e
    exact h
  | flt b =>
    obtain ⟨t, e⟩ := (show ∃ t, v = Value.float b t from r)
    cases e
    exact h
  | ref a => cases (show v = Value.ref a from r); exact h
  | ty n => cases (show v = Value.type n from r); exact h
/-- an int, a comparison, an instance: the instance's reflected def is asked -/
theorem cmp_int {K : PySem.W.Frag} {C f : Addr} {od : Option Obj} {op : CmpOp} {id : String} {B : Builtin} {Q : Value → Shared → Prop} (hu : A.units < cLine) (X : K.In s.heap) (I : PySem.W.InstAt s.heap x o C od) (hd : o.data = .plain)
    (slot : Slot "int" (cmpInfo op).2.1 id) (entry : entryFor table id = some B) (args : ∀ a b, argsOk id ⟨[a, b], []⟩) (D : Declines B)
    (sub : PySem.W.subIn K (.ref C) (.type "int") = some false) (hs : PySem.W.findIn K (.ref C) (cmpInfo op).2.2 = some (some (.ref f))) (hf : PySem.W.isFn K (.ref f) = true)
    (h : wpAny (model prog w) A (call (.ref f) [.ref x, .int a t]) (PySem.W.CmpBack Q) E s) : wpAny (model prog w) A (richCompare op (.int a t) (.ref x)) Q E s := by
  rcases hi : cmpInfo op with ⟨sym, nf, nr⟩
  rw [hi] at slot hs
  dsimp only at slot hs
  have one : wpAny (model prog w) A (tryCompare (.ref x) nr (.int a t)) (fun r s' => ∃ v, r = some v ∧ Q v s') E s := by
    unfold tryCompare
    refine wpAny_bind (PySem.W.ifBound_K X I hs hf (wpAny_mono h (fun v s' hv => ?_) fun _ _ e => e))
    cases v <;> first | exact hv.elim | exact wpAny_pure ⟨_, rfl, hv⟩
  simp only [richCompare, hi, (typeIs_int s a t).oneThing_none]
  refine wpAny_holding (wpAny_bind (wpAny_cRoomFor hu ?_))
  refine wpAny_bind (wpAny_typeOf (typeIs_int s a t) (wpAny_bind (I.type.here ?_)))
  have hne : (Value.type "int" != Value.ref C) = true := by simp
  simp only [hne, if_true]
  refine wpAny_bind ((PySem.W.looks_subIn X sub).here ?_)
  simp only [Bool.false_eq_true, if_false, Bool.not_false, if_true]
  refine wpAny_bind (m := tryCompare (.int a t) _ (.ref x)) (wpAny_tryCompare_declines (typeIs_int s a t) slot (dec_call (T := "int") slot entry args D I.at_ hd ⟨rfl, ?_⟩))
  refine wpAny_bind (m := tryCompare (.ref x) _ (.int a t)) (wpAny_mono one (fun r s' z => ?_) fun _ _ e => e)
  obtain ⟨v, rfl, hq⟩ := z
  exact wpAny_pure hq
end
section
variable {X : Cx} {C f : Addr} {fd : FuncData} {k : Nat} {ps : List Str} {sp : Sp} {op : CmpOp}
/-- x op y, x an instance of the class at C whose def for op keeps sp -/
def rCmpL (K : PySem.W.Frag) (C : Addr) (sp : Sp) : R2 := fun x y H Q => ∃ a dx fs t, x = .ref a ∧ H a = some (.ins C dx fs) ∧ TyX K H y t ∧ PySem.W.notFirst K C t = true ∧ sp ([x, y] ++ []) H Q E0
theorem o_cmpL (hop : ∀ a b, compareOp op a b = richCompare op a b) (M : Meth X.K C (cmpInfo op).2.1 f) (F : FnOk X.prog X.w X.K X.mg X.base CX0 k f fd ps sp) (hr : Room k X.A) (hb : Binds X.K fd ps []) : OpR X (compareOp op) (rCmpL X.K C sp) := by
  intro pins s σ H x y v u Q I rx ry h
  obtain ⟨a, dx, fs, t, rfl, ha, ty, hn, q⟩ := h
  cases (show v = Value.ref a from rx)
  obtain ⟨mA, O, _⟩ := ins_get I.hok ha
  obtain ⟨od, J, _⟩ := O.look
  obtain ⟨P, Z, p, _⟩ := kit_of I ry ty
  obtain ⟨m, hF⟩ := I.fr
  rw [hop]
  refine PySem.W.cmp_K (op := op) (tb := t) hr.units0 hF I.ok.mod.kin J (Z.ty _ _ I.kIn p) hn M.at_ M.fn ?_
  refine wpAny_mono (run_fn (us := [.ref a, u]) (vs := [.ref a, y]) F hr hb .nil pass0 I (.cons rfl (.cons ry .nil)) q) (fun w s' z => ?_) fun _ _ x => x
  obtain ⟨z', H', I', rz, qz⟩ := z
  exact cmpback rz ⟨z', H', I', rz, qz⟩
def rCmpR (K : PySem.W.Frag) (C : Addr) (sp : Sp) : R2 := fun x y H Q => ∃ i b dx fs, x = .int i ∧ y = .ref b ∧ H b = some (.ins C dx fs) ∧ PySem.W.subIn K (.ref C) (.type "int") = some false ∧ sp ([y, x] ++ []) H Q E0
theorem o_cmpR {id : String} {B : Builtin} (hop : ∀ a b, compareOp op a b = richCompare op a b) (slot : Slot "int" (cmpInfo op).2.1 id) (entry : entryFor table id = some B) (args : ∀ a b, argsOk id ⟨[a, b], []⟩) (D : Declines B)
    (M : Meth X.K C (cmpInfo op).2.2 f) (F : FnOk X.prog X.w X.K X.mg X.base CX0 k f fd ps sp) (hr : Room k X.A) (hb : Binds X.K fd ps []) : OpR X (compareOp op) (rCmpR X.K C sp) := by
  intro pins s σ H x y v u Q I rx ry h
  obtain ⟨i, b, dx, fs, rfl, rfl, hB, sub, q⟩ := h
  obtain ⟨t, rfl⟩ := (show ∃ t, v = Value.int i t from rx)
  cases (show u = Value.ref b from ry)
  obtain ⟨mA, O, _⟩ := ins_get I.hok hB
  obtain ⟨od, J, _⟩ := O.look
  rw [hop]
  refine cmp_int hr.units0 I.kIn J rfl slot entry args D sub M.at_ M.fn ?_
  refine wpAny_mono (run_fn (us := [.ref b, .int i t]) (vs := [.ref b, .int i]) F hr hb .nil pass0 I (.cons rfl (.cons ⟨t, rfl⟩ .nil)) q) (fun w s' z => ?_) fun _ _ x => x
  obtain ⟨z', H', I', rz, qz⟩ := z
  exact cmpback rz ⟨z', H', I', rz, qz⟩
/-- x in [x], the very object -/
def rInSelf : R2 := fun x y H Q => ∃ a p, x = .ref a ∧ y = .ref p ∧ H p = some (.lst [.ref a]) ∧ Q (.bl true) H
theorem o_inSelf : OpR X (compareOp .In) rInSelf := by
  intro pins s σ H x y v u Q I rx ry h
  obtain ⟨a, p, rfl, rfl, hp, q⟩ := h
  cases (show v = Value.ref a from rx)
  cases (show u = Value.ref p from ry)
  obtain ⟨its, r, pl, hz⟩ := I.list (SqL.of hp)
  have e : its = [Value.ref a] := by
    cases r with
    | cons r1 r2 =>
      cases r2
      cases r1
      rfl
  subst e
  refine SeqAt.in_listAt (fun _ => true) pl.isList (fun w hw => ?_) ⟨.bl true, H, I, (show Value.bool (#[Value.ref a].any fun _ => true) = Value.bool true by simp), q⟩
  have : w = Value.ref a := by simpa using hw
  subst this
  exact SeqAt.EqAt.same (.ref a)
/-- three kinds of one operator -/
def rAny3 (r1 r2 r3 : R2) : R2 := fun x y H Q => r1 x y H Q ∨ r2 x y H Q ∨ r3 x y H Q
theorem o_any3 {f : Value → Value → Sem Value} {r1 r2 r3 : R2} (h1 : OpR X f r1) (h2 : OpR X f r2) (h3 : OpR X f r3) : OpR X f (rAny3 r1 r2 r3) := OpR.or h1 (OpR.or h2 h3)
end
section
variable {K : PySem.W.Frag} {H : Hp} {Q : VK} {r1 r2 r3 : R2} {x y : V} {a b C dx : Addr} {fs : List (Str × V)} {t : Value} {sp : Sp} {i j : Int}
theorem r_anyII (h : r1 (.int i) (.int j) H Q) : rAny3 r1 r2 r3 (.int i) (.int j) H Q := .inl h
theorem r_anyR (h : r2 (.ref a) y H Q) : rAny3 r1 r2 r3 (.ref a) y H Q := .inr (.inl h)
theorem r_anyIR (h : r3 (.int i) (.ref b) H Q) : rAny3 r1 r2 r3 (.int i) (.ref b) H Q := .inr (.inr h)
theorem nf_self : PySem.W.notFirst K C (.ref C) = true := by
  unfold PySem.W.notFirst
  rw [beq_self_eq_true]; rfl
theorem nf_kit (h : PySem.W.kitOne K t (.ref C) = some false) : PySem.W.notFirst K C t = true := by
  unfold PySem.W.kitOne PySem.W.kitCls at h
  unfold PySem.W.notFirst
  split at h
  · cases h
  · split at h
    · rename_i C' he
      cases he
      split at h
      · rw [h]; simp
      · cases h
    · rename_i he; cases he
    · rename_i h1 h2; exact absurd rfl (h1 _)
theorem sub_kit {n : String} (h : PySem.W.kitOne K (.ref C) (.type n) = some false) : PySem.W.subIn K (.ref C) (.type n) = some false := by
  unfold PySem.W.kitOne PySem.W.kitCls at h
  split at h
  · cases h
  · split at h
    · rename_i he; cases he
    · rename_i T he
      cases he
      split at h
      · exact h
      · cases h
    · rename_i h1 h2; exact absurd rfl (h2 _)
theorem r_inSelf (e : H b = some (.lst [.ref a])) (h : Q (.bl true) H) : rInSelf (.ref a) (.ref b) H Q := ⟨a, b, rfl, rfl, e, h⟩
theorem r_cmpL (e : H a = some (.ins C dx fs)) (ty : TyX K H y t) (nf : PySem.W.notFirst K C t = true) (h : sp ([.ref a, y] ++ []) H Q E0) : rCmpL K C sp (.ref a) y H Q := ⟨a, dx, fs, t, rfl, e, ty, nf, h⟩
theorem r_cmpR (e : H b = some (.ins C dx fs)) (k : PySem.W.kitOne K (.ref C) (.type "int") = some false) (h : sp ([.ref b, .int i] ++ []) H Q E0) : rCmpR K C sp (.int i) (.ref b) H Q := ⟨i, b, dx, fs, rfl, rfl, e, sub_kit k, h⟩
end
end Z
local macro_rules | `(tactic| walk_at "nf") => `(tactic| first | exact Z.nf_self | exact Z.nf_kit (by walk_at "ki"))
local macro_rules | `(tactic| walk_at "call") => `(tactic| first
  | with_reducible refine Z.r_anyII ?_
  | ((with_reducible refine' Z.r_inSelf ?e ?_); (case e => walk_at "hp"))
  | with_reducible refine Z.r_anyR ?_
  | with_reducible refine Z.r_anyIR ?_
  | ((with_reducible refine' Z.r_cmpL ?e ?ty ?nf ?_); (case e => walk_at "hp"); (case ty => walk_at "ty"); (case nf => walk_at "nf"))
  | ((with_reducible refine' Z.r_cmpR ?e ?k ?_); (case e => walk_at "hp"); (case k => walk_at "ki")))

theorem rep_non {C : Addr} {H : Hp} : Rep C H .non .non := rfl
theorem rep_num {C : Addr} {H : Hp} {i : Int} : Rep C H (.int i) (.num i) := rfl
theorem rep_mark {C a dx : Addr} {H : Hp} {n : Str} (h : H a = some (.ins C dx [("name", .str n)])) : Rep C H (.ref a) (.mark n) := ⟨a, dx, rfl, h⟩
local macro_rules | `(tactic| walk_at "rep") => `(tactic| first | exact rep_non | exact rep_num | exact rep_mark (by walk_at "hp") | assumption)
/-- a tuple of the law's that tells a value -/
def tagV : Tag → List V
  | .non => [.str "nothing"]
  | .mark n => [.str "mark", .str n]
  | .num i => [.str "number", .int i]
def tagD : Tag → PyData
  | .non => .tuple [.str "nothing"]
  | .mark n => .tuple [.str "mark", .str n]
  | .num i => .tuple [.str "number", .int i]
/-- the word that tells the kind -/
def tagN : Tag → Str
  | .non => "nothing"
  | .mark _ => "mark"
  | .num _ => "number"
theorem tag_at0 (t : Tag) : atI (tagV t) 0 = some (.str (tagN t)) := by cases t <;> rfl
theorem tagN_num {t : Tag} (h : tagN t = "number") : ∃ i, t = .num i := by
  cases t with
  | non => exact absurd h (by decide +kernel)
  | mark n => exact absurd h (by show ¬ (("mark" : Str) = "number"); decide +kernel)
  | num i => exact ⟨i, rfl⟩
def Tag.ok : Tag → Prop
  | .mark n => Word n
  | _ => True
def TagAt (H : Hp) (p : Addr) (t : Tag) : Prop := H p = some (.tup (tagV t)) ∧ t.ok
theorem TagAt.same {H H' : Hp} {p : Addr} {t : Tag} (e : Same H H') (h : TagAt H p t) : TagAt H' p t := ⟨e _ _ h.1, h.2⟩
theorem TagAt.but {H H' : Hp} {p b : Addr} {t : Tag} (e : Z.But b H H') (n : p ≠ b) (h : TagAt H p t) : TagAt H' p t := ⟨e _ _ n h.1, h.2⟩
theorem TagAt.ne {H : Hp} {p b : Addr} {t : Tag} {xs : List V} (h : TagAt H p t) (hb : H b = some (.lst xs)) : p ≠ b := ne_of h.1 hb (by intro z; cases z)
theorem TagAt.ne' {H : Hp} {p b : Addr} {t : Tag} {n : Nat} (h : TagAt H p t) (g : Bag H b n) : p ≠ b := by
  obtain ⟨_, _, _, hb, _⟩ := g
  exact h.ne hb
theorem TagAt.dp {K : PySem.W.Frag} {H : Hp} {p : Addr} {t : Tag} (h : TagAt H p t) : Dp K H (.ref p) (tagD t) := by
  cases t with
  | non => exact .tup (SqT.of h.1) (.cons (.str _) .nil)
  | mark n => exact .tup (SqT.of h.1) (.cons (.str _) (.cons (.str _) .nil))
  | num i => exact .tup (SqT.of h.1) (.cons (.str _) (.cons (.int _) .nil))
theorem Tag.shaped {t : Tag} (h : t.ok) : SeqAt.shaped (tagD t) = true := by
  have e1 : PyData.strOk "nothing" = true := by decide +kernel
  have e2 : PyData.strOk "mark" = true := by decide +kernel
  have e3 : PyData.strOk "number" = true := by decide +kernel
  cases t with
  | non => simp [SeqAt.shaped, tagD, PyData.canLay0, PyData.canLayAll0, PyData.depth, PyData.depthAll, e1]
  | mark n => simp [SeqAt.shaped, tagD, PyData.canLay0, PyData.canLayAll0, PyData.depth, PyData.depthAll, e2, Word.ok h]
  | num i => simp [SeqAt.shaped, tagD, PyData.canLay0, PyData.canLayAll0, PyData.depth, PyData.depthAll, e3]
theorem tag_eqv {s t : Tag} : PyData.eqv (tagD s) (tagD t) = decide (s = t) := by
  have a1 : (("nothing" : Str) == "mark") = false := by decide +kernel
  have a2 : (("nothing" : Str) == "number") = false := by decide +kernel
  have a3 : (("mark" : Str) == "nothing") = false := by decide +kernel
  have a4 : (("mark" : Str) == "number") = false := by decide +kernel
  have a5 : (("number" : Str) == "nothing") = false := by decide +kernel
  have a6 : (("number" : Str) == "mark") = false := by decide +kernel
  cases s <;> cases t <;> simp [tagD, PyData.eqv, PyData.eqvAll, a1, a2, a3, a4, a5, a6]
  · rename_i a b
    by_cases h : a = b <;> simp [h]
  · rename_i a b
    by_cases h : a = b <;> simp [h]
section
variable {P : Program} {w : World} {K : PySem.W.Frag} {mg : Str → Option Value} {base : Heap}
theorem sc_law_draw : FnScope ["_law_bag_here", "_law_many", "_law_first", "_law_second", "_law_digit"] ["_law_bag_here", "_law_many"] (defScope s_law_draw) := ⟨rfl, rfl, rfl, by decide +kernel, rfl, by decide +kernel, by decide +kernel⟩
def sp_law_draw : Sp := fun vs H Q _ => ∃ (b : Addr) (m : Int) (n : Nat), vs = [.ref b, .int m] ∧ Bag H b n ∧ 0 < m ∧ m < 1073741824 ∧ n < 1073741824 ∧
  ∀ r H', 0 ≤ r → r < m → Z.But b H H' → Bag H' b (n + 1) → Q (.int r) H'
theorem ok_law_draw (T : Top K mg) : FnOk P w K mg base CX0 1 T.f_law_draw T.fd_law_draw ["_law_bag_here", "_law_many"] sp_law_draw := by
  refine T.F_law_draw.ok sc_law_draw (fun vs H Q E h => ?_) (fun cdv A outer s H vs Q E hr h => ?_)
  · obtain ⟨b, m, n, rfl, _⟩ := h
    rfl
  · obtain ⟨b, m, n, rfl, ⟨g, sd, k, hb, hg, hs0, hs1, hk0, hk1⟩, hm0, hm1, hn, q⟩ := h
    refine ⟨_, pss_cons (ps_if (pt_cmpR op_gt (pe_ix ix_seq (pv 0) (pe_int) (fun _ _ => rfl)) (pe_int) (nomark _)) (pss_cons (ps_set (i := 4) sc_law_draw.nd rfl (.inl rfl) (pe_op op_mod (pe_callTy Z.c_int1 (by rfl) T.z_int (by decide +kernel) (pa_cons (pe_ix ix_seq (pv 0) (pe_int) (fun _ _ => rfl)) (pa_nil))) (pv 1))) (pss_cons (ps_asg (pe_op op_fdiv (pe_ix ix_seq (pv 0) (pe_int) (fun _ _ => rfl)) (pv 1)) (pg_sub (pv 0) (pe_int) set_list)) (pss_one (ps_ret (pv 4))))) (pss_nil)) (pss_cons (ps_asg (pe_op op_add (pe_ix ix_seq (pv 0) (pe_int) (fun _ _ => rfl)) (pe_int)) (pg_sub (pv 0) (pe_int) set_list)) (pss_cons (ps_set (i := 2) sc_law_draw.nd rfl (.inl rfl) (pe_op op_mod (pe_callTy Z.c_int1 (by rfl) T.z_int (by decide +kernel) (pa_cons (pe_op op_add (pe_op op_pow (pe_op op_add (pe_ix ix_seq (pv 0) (pe_int) (fun _ _ => rfl)) (pe_op op_mul (pe_int) (pe_ix ix_seq (pv 0) (pe_int) (fun _ _ => rfl)))) (pe_int)) (pe_op op_mul (pe_ix ix_seq (pv 0) (pe_int) (fun _ _ => rfl)) (pe_int))) (pa_nil))) (pe_int))) (pss_cons (ps_set (i := 3) sc_law_draw.nd rfl (.inl rfl) (pe_op op_mod (pe_callTy Z.c_int1 (by rfl) T.z_int (by decide +kernel) (pa_cons (pe_op op_add (pe_op op_mul (pv 2) (pv 2)) (pe_op op_mul (pe_int) (pe_ix ix_seq (pv 0) (pe_int) (fun _ _ => rfl)))) (pa_nil))) (pe_int))) (pss_one (ps_ret (pe_op op_mod (pe_callTy Z.c_int1 (by rfl) T.z_int (by decide +kernel) (pa_cons (pe_op op_fdiv (pv 3) (pe_int)) (pa_nil))) (pv 1))))))), ?_⟩
    refine Z.r_start (σ' := [some (.ref b), some (.int m), none, none, none]) rfl ?_
    walk_at "go"
    refine Z.ways (fun c => ?_) (fun c => ?_)
    · walk_at "go"
      intro H1 b1 h1
      walk_at "go"
      refine q _ _ ?_ ?_ b1 ⟨_, _, _, h1, ?_, hs0, hs1, hk0, ?_⟩
      · exact Int.emod_nonneg _ (by omega)
      · exact Int.emod_lt_of_pos _ hm0
      · exact Int.ediv_nonneg hg (by omega)
      · omega
    · walk_at "go"
      intro H1 b1 h1
      walk_at "go"
      refine q _ _ (Int.emod_nonneg _ (by omega)) (Int.emod_lt_of_pos _ hm0) b1 ⟨_, _, _, h1, hg, hs0, hs1, by omega, by omega⟩
theorem sc_law_bag : FnScope ["_law_script", "_law_at", "_law_cell", "_law_great"] ["_law_script", "_law_at"] (defScope s_law_bag) := ⟨rfl, rfl, rfl, by decide +kernel, rfl, by decide +kernel, by decide +kernel⟩
def sp_law_bag (K : PySem.W.Frag) : Sp := fun vs H Q _ => ∃ (a : Addr) (ns : List Int) (at_ : Nat), vs = [.ref a, .int at_] ∧ SqL K H a (ns.map V.int) ∧ at_ ≤ 100 ∧
  ∀ p H', Same H H' → H p = none → Bag H' p 0 → Q (.ref p) H'
theorem ok_law_bag (T : Top K mg) : FnOk P w K mg base CX0 1 T.f_law_bag T.fd_law_bag ["_law_script", "_law_at"] (sp_law_bag K) := by
  refine T.F_law_bag.ok sc_law_bag (fun vs H Q E h => ?_) (fun cdv A outer s H vs Q E hr h => ?_)
  · obtain ⟨a, ns, at_, rfl, _⟩ := h
    rfl
  · obtain ⟨a, ns, at_, rfl, hS, hat, q⟩ := h
    refine ⟨_, pss_cons (ps_set (i := 2) sc_law_bag.nd rfl (.inl rfl) (pe_ifExp (pt_cmpR op_lt (pv 1) (pe_callB Z.c_len (by rfl) T.z_len (by decide +kernel) (pa_cons (pv 0) (pa_nil))) (nomark _)) (pe_ix ix_seq (pv 0) (pv 1) (fun _ _ => rfl)) (pe_int))) (pss_cons (ps_set (i := 3) sc_law_bag.nd rfl (.inl rfl) (pe_ifExp (pt_cmpR op_ge (pe_callB Z.c_abs (by rfl) T.z_abs (by decide +kernel) (pa_cons (pv 2) (pa_nil))) (pe_op op_pow (pe_int) (pe_int)) (nomark _)) (pe_callB Z.c_abs (by rfl) T.z_abs (by decide +kernel) (pa_cons (pv 2) (pa_nil))) (pe_int))) (pss_one (ps_ret (pe_lst (pa_cons (pv 3) (pa_cons (pe_op op_add (pe_op op_add (pe_op op_mul (pe_op op_mod (pe_callTy Z.c_int1 (by rfl) T.z_int (by decide +kernel) (pa_cons (pv 2) (pa_nil))) (pe_int)) (pe_int)) (pe_op op_mul (pe_int) (pv 1))) (pe_int)) (pa_cons (pe_int) (pa_nil)))))))), ?_⟩
    refine Z.r_start (σ' := [some (.ref a), some (.int at_), none, none]) rfl ?_
    walk_at "go"
    refine Z.join (fun v H' => (∃ c : Int, v = .int c) ∧ H' = H) (fun c M k => ?_) (fun c M k => ?_) (fun v H' hv => ?_)
    · obtain ⟨z, hz⟩ := Z.get_int (ns := ns) (i := at_) (by rw [List.length_map] at c; omega)
      refine' Z.r_op ?_
      walk_at "go"
      exact k _ _ ⟨⟨z, rfl⟩, rfl⟩
    · exact k _ _ ⟨⟨0, rfl⟩, rfl⟩
    · obtain ⟨⟨z, rfl⟩, rfl⟩ := hv
      walk_at "go"
      refine Z.join (fun v H'' => (∃ c : Int, v = .int c ∧ 0 ≤ c) ∧ H'' = H') (fun c M k => ?_) (fun c M k => ?_) (fun v H'' hv => ?_)
      · walk_at "go"
        refine k _ _ ⟨⟨_, rfl, ?_⟩, rfl⟩
        split <;> omega
      · exact k _ _ ⟨⟨0, rfl, Int.le_refl 0⟩, rfl⟩
      · obtain ⟨⟨y, rfl, hy⟩, rfl⟩ := hv
        walk_at "go"
        intro p H1 np s1 hp
        exact q _ _ s1 np ⟨_, _, _, hp, hy, by omega, by omega, Int.le_refl 0, Int.le_refl _⟩
theorem k_law_bag {K : PySem.W.Frag} {a : Addr} {ns : List Int} {at_ : Nat} {H : Hp} {Q : VK} {E : XK} (hS : SqL K H a (ns.map V.int)) (h : at_ ≤ 100) (q : ∀ p H', Same H H' → H p = none → Bag H' p 0 → Q (.ref p) H') :
    sp_law_bag K ([.ref a, .int at_] ++ []) H Q E := ⟨a, ns, at_, rfl, hS, h, q⟩
theorem sc_law_number : FnScope ["_law_bag_here", "_law_road", "_law_number_here", "_law_turn"] ["_law_bag_here"] (defScope s_law_number) := ⟨rfl, rfl, rfl, by decide +kernel, rfl, by decide +kernel, by decide +kernel⟩
def sp_law_number : Sp := fun vs H Q _ => ∃ (b : Addr) (n : Nat), vs = [.ref b] ∧ Bag H b n ∧ n < 1073741000 ∧ ∀ (i : Int) (H' : Hp), i.natAbs < 10 ^ 246 → Z.But b H H' → Bag H' b (n + 60) → Q (.int i) H'
theorem ok_law_number (T : Top K mg) : FnOk P w K mg base CX0 2 T.f_law_number T.fd_law_number ["_law_bag_here"] sp_law_number := by
  refine T.F_law_number.ok sc_law_number (fun vs H Q E h => ?_) (fun cdv A outer s H vs Q E hr h => ?_)
  · obtain ⟨b, n, rfl, _⟩ := h
    rfl
  · obtain ⟨b, n, rfl, hb, hn, q⟩ := h
    refine ⟨_, pss_cons (ps_set (i := 1) sc_law_number.nd rfl (.inl rfl) (pe_call (ok_law_draw T) (hr.mono (by decide)) (by rfl) T.mg_law_draw T.F_law_draw.kp T.B_law_draw .nil pass0 (pa_cons (pv 0) (pa_cons (pe_int) (pa_nil))))) (pss_cons (ps_if (pt_cmpR op_eq (pv 1) (pe_int) (nomark _)) (pss_one (ps_ret (pe_int))) (pss_nil)) (pss_cons (ps_if (pt_cmpR op_lt (pv 1) (pe_int) (nomark _)) (pss_one (ps_ret (pe_op op_sub (pe_call (ok_law_draw T) (hr.mono (by decide)) (by rfl) T.mg_law_draw T.F_law_draw.kp T.B_law_draw .nil pass0 (pa_cons (pv 0) (pa_cons (pe_int) (pa_nil)))) (pe_int)))) (pss_nil)) (pss_cons (ps_if (pt_cmpR op_eq (pv 1) (pe_int) (nomark _)) (pss_one (ps_ret (pe_op op_sub (pe_call (ok_law_draw T) (hr.mono (by decide)) (by rfl) T.mg_law_draw T.F_law_draw.kp T.B_law_draw .nil pass0 (pa_cons (pv 0) (pa_cons (pe_int) (pa_nil)))) (pe_int)))) (pss_nil)) (pss_cons (ps_set (i := 2) sc_law_number.nd rfl (.inl rfl) (pe_op op_add (pe_int) (pe_call (ok_law_draw T) (hr.mono (by decide)) (by rfl) T.mg_law_draw T.F_law_draw.kp T.B_law_draw .nil pass0 (pa_cons (pv 0) (pa_cons (pe_int) (pa_nil)))))) (pss_cons (ps_for PassesOwn.never rfl (pi_range1 (by rfl) T.z_range (pa_cons (pe_call (ok_law_draw T) (hr.mono (by decide)) (by rfl) T.mg_law_draw T.F_law_draw.kp T.B_law_draw .nil pass0 (pa_cons (pv 0) (pa_cons (pe_int) (pa_nil)))) (pa_nil))) (pg_name (i := 3) sc_law_number.nd rfl (.inl rfl)) (pss_one (ps_set (i := 2) sc_law_number.nd rfl (.inl rfl) (pe_op op_add (pe_op op_mul (pv 2) (pe_int)) (pe_call (ok_law_draw T) (hr.mono (by decide)) (by rfl) T.mg_law_draw T.F_law_draw.kp T.B_law_draw .nil pass0 (pa_cons (pv 0) (pa_cons (pe_int) (pa_nil)))))))) (pss_one (ps_ret (pe_ifExp (pt_cmpR op_eq (pe_call (ok_law_draw T) (hr.mono (by decide)) (by rfl) T.mg_law_draw T.F_law_draw.kp T.B_law_draw .nil pass0 (pa_cons (pv 0) (pa_cons (pe_int) (pa_nil)))) (pe_int) (nomark _)) (pv 2) (pe_op op_sub (pe_int) (pv 2)))))))))), ?_⟩
    refine Z.r_start (σ' := [some (.ref b), none, none, none]) rfl ?_
    walk_at "go"
    walk_at "draw"
    intro r H1 r0 r1 t1 g1
    walk_at "go"
    refine Z.ways (fun c => ?_) (fun c => ?_)
    · walk_at "go"
      exact q 0 H1 (by decide) t1 (g1.mono (by omega))
    walk_at "go"
    refine Z.ways (fun c2 => ?_) (fun c2 => ?_)
    · walk_at "go"
      walk_at "draw"
      intro r2 H2 r20 r21 t2 g2
      walk_at "go"
      exact q _ _ (Nat.lt_of_lt_of_le (show (r2 - 4).natAbs < 10000 by omega) (by decide)) (t1.trans t2) (g2.mono (by omega))
    walk_at "go"
    refine Z.ways (fun c3 => ?_) (fun c3 => ?_)
    · walk_at "go"
      walk_at "draw"
      intro r2 H2 r20 r21 t2 g2
      walk_at "go"
      exact q _ _ (Nat.lt_of_lt_of_le (show (r2 - 2000).natAbs < 10000 by omega) (by decide)) (t1.trans t2) (g2.mono (by omega))
    walk_at "go"
    walk_at "draw"
    intro x H2 x0 x1 t2 g2
    walk_at "go"
    walk_at "draw"
    intro j H3 j0 j1 t3 g3
    walk_at "go"
    refine Z.r_rng j0 (by omega) (fun i σ' H' => ∃ (x : Int) (v : Option V), σ' = [some (.ref b), some (.int r), some (.int x), v] ∧ 0 < x ∧ x < 2 * 10 ^ (6 * (i + 1)) ∧ Z.But b H H' ∧ Bag H' b (n + 3 + i)) ?_ ?_ ?_
    · exact ⟨_, _, rfl, by omega, by omega, (t1.trans t2).trans t3, g3⟩
    · rintro i σ' H' hi ⟨x, v, rfl, hx0, hx1, t, gb⟩
      walk_at "go"
      walk_at "draw"
      intro d H4 d0 d1 t4 g4
      walk_at "go"
      refine ⟨_, _, rfl, by omega, ?_, t.trans t4, g4⟩
      have e : (10 : Int) ^ (6 * (i + 1 + 1)) = 10 ^ (6 * (i + 1)) * 1000000 := by
        rw [show 6 * (i + 1 + 1) = 6 * (i + 1) + 6 by omega, Int.pow_add]
        rfl
      rw [e]
      omega
    · rintro σ' H' ⟨x, v, rfl, hx0, hx1, t, gb⟩
      have hb2 : x < 10 ^ 246 := by
        have h2 : (10 : Int) ^ (6 * (j.toNat + 1)) ≤ 10 ^ 240 := by
          exact Z.pow10_le (by omega)
        have e : (10 : Int) ^ 246 = 10 ^ 240 * 1000000 := by decide
        omega
      have hb3 : x.natAbs < 10 ^ 246 := by
        have : ((x.natAbs : Nat) : Int) < ((10 ^ 246 : Nat) : Int) := by
          rw [Int.natAbs_of_nonneg (by omega)]
          exact hb2
        omega
      walk_at "go"
      walk_at "draw"
      intro d H4 d0 d1 t4 g4
      walk_at "go"
      refine Z.ways (fun c => ?_) (fun c => ?_)
      · walk_at "go"
        exact q _ _ hb3 (t.trans t4) (g4.mono (by omega))
      · walk_at "go"
        refine q _ _ ?_ (t.trans t4) (g4.mono (by omega))
        rw [Int.zero_sub, Int.natAbs_neg]
        exact hb3
theorem k_law_number {b : Addr} {n : Nat} {H : Hp} {Q : VK} {E : XK} (bg : Bag H b n) (hn : n < 1073741000) (q : ∀ (i : Int) (H' : Hp), i.natAbs < 10 ^ 246 → Z.But b H H' → Bag H' b (n + 60) → Q (.int i) H') :
    sp_law_number ([.ref b] ++ []) H Q E := ⟨b, n, rfl, bg, hn, q⟩
theorem sc_law_word : FnScope ["_law_bag_here", "_law_word_here", "_law_turn"] ["_law_bag_here"] (defScope s_law_word) := ⟨rfl, rfl, rfl, by decide +kernel, rfl, by decide +kernel, by decide +kernel⟩
def sp_law_word : Sp := fun vs H Q _ => ∃ (b : Addr) (n : Nat), vs = [.ref b] ∧ Bag H b n ∧ n < 1073741000 ∧ ∀ (x : Str) (H' : Hp), Word x → Z.But b H H' → Bag H' b (n + 60) → Q (.str x) H'
theorem ok_law_word (T : Top K mg) : FnOk P w K mg base CX0 2 T.f_law_word T.fd_law_word ["_law_bag_here"] sp_law_word := by
  refine T.F_law_word.ok sc_law_word (fun vs H Q E h => ?_) (fun cdv A outer s H vs Q E hr h => ?_)
  · obtain ⟨b, n, rfl, _⟩ := h
    rfl
  · obtain ⟨b, n, rfl, hb, hn, q⟩ := h
    refine ⟨_, pss_cons (ps_if (pt_cmpR op_eq (pe_call (ok_law_draw T) (hr.mono (by decide)) (by rfl) T.mg_law_draw T.F_law_draw.kp T.B_law_draw .nil pass0 (pa_cons (pv 0) (pa_cons (pe_int) (pa_nil)))) (pe_int) (nomark _)) (pss_one (ps_ret (pe_ix ix_seq (pe_lst (pa_cons (pe_str) (pa_cons (pe_str) (pa_cons (pe_str) (pa_cons (pe_str) (pa_nil)))))) (pe_call (ok_law_draw T) (hr.mono (by decide)) (by rfl) T.mg_law_draw T.F_law_draw.kp T.B_law_draw .nil pass0 (pa_cons (pv 0) (pa_cons (pe_int) (pa_nil)))) (fun _ _ => rfl)))) (pss_nil)) (pss_cons (ps_set (i := 1) sc_law_word.nd rfl (.inl rfl) (pe_str)) (pss_cons (ps_for PassesOwn.never rfl (pi_range1 (by rfl) T.z_range (pa_cons (pe_op op_add (pe_int) (pe_call (ok_law_draw T) (hr.mono (by decide)) (by rfl) T.mg_law_draw T.F_law_draw.kp T.B_law_draw .nil pass0 (pa_cons (pv 0) (pa_cons (pe_int) (pa_nil))))) (pa_nil))) (pg_name (i := 2) sc_law_word.nd rfl (.inl rfl)) (pss_one (ps_set (i := 1) sc_law_word.nd rfl (.inl rfl) (pe_op Z.o_addS (pv 1) (pe_ix ix_seq (pe_str) (pe_call (ok_law_draw T) (hr.mono (by decide)) (by rfl) T.mg_law_draw T.F_law_draw.kp T.B_law_draw .nil pass0 (pa_cons (pv 0) (pa_cons (pe_int) (pa_nil)))) (fun _ _ => rfl)))))) (pss_one (ps_ret (pv 1))))), ?_⟩
    refine Z.r_start (σ' := [some (.ref b), none, none]) rfl ?_
    walk_at "go"
    walk_at "draw"
    intro r H1 r0 r1 t1 g1
    walk_at "go"
    refine Z.ways (fun c => ?_) (fun c => ?_)
    · walk_at "go"
      intro p H2 np s1 hp
      have nb : p ≠ b := fun e => by
        obtain ⟨_, _, _, hb1, _⟩ := g1
        rw [e, hb1] at np; cases np
      walk_at "go"
      walk_at "draw"
      intro r2 H3 r20 r21 t2 g2
      have fin : ∀ x, Word x → Q (.str x) H3 := fun x hx => q x H3 hx ((t1.trans (Z.But.same s1)).trans t2) (g2.mono (by omega))
      rcases (show r2 = 0 ∨ r2 = 1 ∨ r2 = 2 ∨ r2 = 3 by omega) with rfl | rfl | rfl | rfl
      all_goals
        walk_at "go"
        exact fin _ ⟨by decide +kernel, by decide +kernel, by decide +kernel⟩
    walk_at "go"
    walk_at "draw"
    intro j H2 j0 j1 t2 g2
    walk_at "go"
    refine Z.r_rng (by omega) (by omega) (fun i σ' H' => ∃ (x : Str) (v : Option V), σ' = [some (.ref b), some (.str x), v] ∧ Wd i x ∧ Z.But b H H' ∧ Bag H' b (n + 2 + i)) ?_ ?_ ?_
    · exact ⟨_, _, rfl, ⟨rfl, by decide +kernel⟩, t1.trans t2, g2⟩
    · rintro i σ' H' hi ⟨x, v, rfl, hx, t, gb⟩
      walk_at "go"
      walk_at "draw"
      intro d H3 d0 d1 t3 g3
      obtain ⟨k, rfl⟩ := Int.eq_ofNat_of_zero_le d0
      obtain ⟨c, hc, c0, c1⟩ := Z.letters (n := k) (by omega)
      refine Z.r_ixS (by decide +kernel) (atI_nat hc) ?_
      refine Z.r_addS (Z.szle ?_) ?_
      · have := hx.1
        show x.length + 1 ≤ 1000
        omega
      walk_at "go"
      exact ⟨_, _, rfl, hx.add c0 c1, t.trans t3, g3⟩
    · rintro σ' H' ⟨x, v, rfl, hx, t, gb⟩
      walk_at "go"
      exact q x H' ⟨by have := hx.1; omega, by have := hx.1; omega, hx.2⟩ t (gb.mono (by omega))
theorem k_law_word {b : Addr} {n : Nat} {H : Hp} {Q : VK} {E : XK} (bg : Bag H b n) (hn : n < 1073741000) (q : ∀ (x : Str) (H' : Hp), Word x → Z.But b H H' → Bag H' b (n + 60) → Q (.str x) H') :
    sp_law_word ([.ref b] ++ []) H Q E := ⟨b, n, rfl, bg, hn, q⟩

theorem sc_is_number : FnScope ["thing"] ["thing"] (defScope s_is_number) := ⟨rfl, rfl, rfl, by decide +kernel, rfl, by decide +kernel, by decide +kernel⟩
def sp_is_number (K : PySem.W.Frag) : Sp := fun vs H Q _ => ∃ (x : V) (t : Value) (bi bb : Bool), vs = [x] ∧ TyX K H x t ∧ PySem.W.kitOne K t (.type "int") = some bi ∧ PySem.W.kitOne K t (.type "bool") = some bb ∧ Q (.bl (bi && !bb)) H
theorem ok_is_number (T : Top K mg) : FnOk P w K mg base CX0 1 T.f_is_number T.fd_is_number ["thing"] (sp_is_number K) := by
  refine T.F_is_number.ok sc_is_number (fun vs H Q E h => ?_) (fun cdv A outer s H vs Q E hr h => ?_)
  · obtain ⟨x, t, bi, bb, rfl, _⟩ := h
    rfl
  · obtain ⟨x, t, bi, bb, rfl, ty, ki, kb, q⟩ := h
    refine ⟨_, pss_one (ps_ret (pe_and (pe_callB Z.c_isi (by rfl) T.z_isinstance (by decide +kernel) (pa_cons (pv 0) (pa_cons (pe_bltn (v := .ty "int") (by rfl) T.z_int (by decide +kernel) rfl) (pa_nil)))) (pe_one (pe_not (pe_callB Z.c_isi (by rfl) T.z_isinstance (by decide +kernel) (pa_cons (pv 0) (pa_cons (pe_bltn (v := .ty "bool") (by rfl) T.z_bool (by decide +kernel) rfl) (pa_nil)))))))), ?_⟩
    refine Z.r_start (σ' := [some (x)]) rfl ?_
    walk_at "go"
    cases bi with
    | true => walk_at "go"; exact q
    | false => walk_at "go"; exact q
theorem k_is_number {x : V} {t : Value} {bi bb : Bool} {H : Hp} {Q : VK} {E : XK} (ty : TyX K H x t) (ki : PySem.W.kitOne K t (.type "int") = some bi) (kb : PySem.W.kitOne K t (.type "bool") = some bb) (q : Q (.bl (bi && !bb)) H) :
    sp_is_number K ([x] ++ []) H Q E := ⟨x, t, bi, bb, rfl, ty, ki, kb, q⟩
local macro_rules | `(tactic| walk_at "call") => `(tactic| ((with_reducible refine' k_is_number ?ty ?ki ?kb ?_); (case ty => walk_at "ty"); (case ki => walk_at "ki"); (case kb => walk_at "ki")))
theorem sc_Unnumbered___init : FnScope ["self", "name"] ["self", "name"] (defScope s_Unnumbered___init) := ⟨rfl, rfl, rfl, by decide +kernel, rfl, by decide +kernel, by decide +kernel⟩
def sp_Un (C : Addr) : Sp := fun vs H Q _ => ∃ (p dx : Addr) (n : Str), vs = [.ref p, .str n] ∧ H p = some (.ins C dx []) ∧ ∀ H', Z.But p H H' → H' p = some (.ins C dx [("name", .str n)]) → Q .non H'
theorem ok_Unnumbered___init (T : Top K mg) : FnOk P w K mg base CX0 1 T.f_Unnumbered___init T.fd_Unnumbered___init ["self", "name"] (sp_Un T.C_Unnumbered) := by
  refine T.F_Unnumbered___init.ok sc_Unnumbered___init (fun vs H Q E h => ?_) (fun cdv A outer s H vs Q E hr h => ?_)
  · obtain ⟨p, dx, n, rfl, _⟩ := h
    rfl
  · obtain ⟨p, dx, n, rfl, hp, q⟩ := h
    refine ⟨_, pss_one (ps_fld (pv 0) (pv 1) rfl), ?_⟩
    refine Z.r_start (σ' := [some (.ref p), some (.str n)]) rfl ?_
    walk_at "go"
    intro H1 b1 h1
    exact q H1 b1 h1
theorem r_mkUn {C : Addr} {n : Str} {H : Hp} {Q : VK} {E : XK} (h : ∀ x dx H1, H x = none → Same H H1 → H1 x = some (.ins C dx [("name", .str n)]) → Q (.ref x) H1) : Z.mkI C (sp_Un C) [] [.str n] H Q E := by
  intro x dx nx nd ne
  refine ⟨x, dx, n, rfl, upd_same, fun H1 b1 h1 => ⟨rfl, h x dx H1 nx (fun b o e => ?_) h1⟩⟩
  exact b1 _ _ (ne_of_none e nx) (by rw [upd_ne (ne_of_none e nx), upd_ne (ne_of_none e nd)]; exact e)
local macro_rules | `(tactic| walk_at "call") => `(tactic| with_reducible refine r_mkUn ?_)
theorem sc_is_entry : FnScope ["thing"] ["thing"] (defScope s_is_entry) := ⟨rfl, rfl, rfl, by decide +kernel, rfl, by decide +kernel, by decide +kernel⟩
def sp_is_entry (K : PySem.W.Frag) (C : Addr) : Sp := fun vs H Q _ => ∃ (x : V) (t : Value) (bi bb bu : Bool), vs = [x] ∧ TyX K H x t ∧ PySem.W.kitOne K t (.type "int") = some bi ∧ PySem.W.kitOne K t (.type "bool") = some bb ∧ PySem.W.kitOne K t (.ref C) = some bu ∧ Q (.bl ((bi && !bb) || bu)) H
theorem ok_is_entry (T : Top K mg) : FnOk P w K mg base CX0 2 T.f_is_entry T.fd_is_entry ["thing"] (sp_is_entry K T.C_Unnumbered) := by
  refine T.F_is_entry.ok sc_is_entry (fun vs H Q E h => ?_) (fun cdv A outer s H vs Q E hr h => ?_)
  · obtain ⟨x, t, bi, bb, bu, rfl, _⟩ := h
    rfl
  · obtain ⟨x, t, bi, bb, bu, rfl, ty, ki, kb, ku, q⟩ := h
    refine ⟨_, pss_one (ps_ret (pe_or (pe_call (ok_is_number T) (hr.mono (by decide)) (by rfl) T.mg_is_number T.F_is_number.kp T.B_is_number .nil pass0 (pa_cons (pv 0) (pa_nil))) (pe_one (pe_callB Z.c_isi (by rfl) T.z_isinstance (by decide +kernel) (pa_cons (pv 0) (pa_cons (pe_glob (v := .ref T.C_Unnumbered) rfl T.mgC_Unnumbered rfl) (pa_nil))))))), ?_⟩
    refine Z.r_start (σ' := [some (x)]) rfl ?_
    walk_at "go"
    cases bi with
    | true =>
      cases bb with
      | true => walk_at "go"; exact q
      | false => walk_at "go"; exact q
    | false => walk_at "go"; exact q
theorem k_is_entry {K : PySem.W.Frag} {C : Addr} {x : V} {t : Value} {bi bb bu : Bool} {H : Hp} {Q : VK} {E : XK} (ty : TyX K H x t) (ki : PySem.W.kitOne K t (.type "int") = some bi) (kb : PySem.W.kitOne K t (.type "bool") = some bb) (ku : PySem.W.kitOne K t (.ref C) = some bu)
    (q : Q (.bl ((bi && !bb) || bu)) H) : sp_is_entry K C ([x] ++ []) H Q E := ⟨x, t, bi, bb, bu, rfl, ty, ki, kb, ku, q⟩
local macro_rules | `(tactic| walk_at "call") => `(tactic| ((with_reducible refine' k_is_entry ?ty ?ki ?kb ?ku ?_); (case ty => walk_at "ty"); (case ki => walk_at "ki"); (case kb => walk_at "ki"); (case ku => walk_at "ki")))
theorem sc_is_value : FnScope ["thing"] ["thing"] (defScope s_is_value) := ⟨rfl, rfl, rfl, by decide +kernel, rfl, by decide +kernel, by decide +kernel⟩
def sp_is_value (C : Addr) : Sp := fun vs H Q _ => ∃ (x : V) (s : Tag), vs = [x] ∧ Rep C H x s ∧ Q (.bl true) H
theorem ok_is_value (T : Top K mg) : FnOk P w K mg base CX0 3 T.f_is_value T.fd_is_value ["thing"] (sp_is_value T.C_Unnumbered) := by
  refine T.F_is_value.ok sc_is_value (fun vs H Q E h => ?_) (fun cdv A outer s H vs Q E hr h => ?_)
  · obtain ⟨x, s, rfl, _⟩ := h
    rfl
  · obtain ⟨x, s, rfl, hx, q⟩ := h
    refine ⟨_, pss_one (ps_ret (pe_or (pe_cmpR Z.o_isN (pv 0) (pe_non) (nomark _)) (pe_one (pe_call (ok_is_entry T) (hr.mono (by decide)) (by rfl) T.mg_is_entry T.F_is_entry.kp T.B_is_entry .nil pass0 (pa_cons (pv 0) (pa_nil)))))), ?_⟩
    refine Z.r_start (σ' := [some (x)]) rfl ?_
    cases s with
    | non => cases hx; walk_at "go"; exact q
    | num i => cases hx; walk_at "go"; exact q
    | mark n => obtain ⟨a, dx, rfl, ha⟩ := hx; walk_at "go"; exact q
theorem k_is_value {C : Addr} {x : V} {s : Tag} {H : Hp} {Q : VK} {E : XK} (hx : Rep C H x s) (q : Q (.bl true) H) : sp_is_value C ([x] ++ []) H Q E := ⟨x, s, rfl, hx, q⟩
local macro_rules | `(tactic| walk_at "call") => `(tactic| ((with_reducible refine' k_is_value ?hx ?_); (case hx => walk_at "rep")))
theorem sc_Unnumbered___eq : FnScope ["self", "other"] ["self", "other"] (defScope s_Unnumbered___eq) := ⟨rfl, rfl, rfl, by decide +kernel, rfl, by decide +kernel, by decide +kernel⟩
def sp_Un_eq (K : PySem.W.Frag) (C : Addr) : Sp := fun vs H Q _ => ∃ (a dx : Addr) (n : Str) (y : V) (s : Tag), vs = [.ref a, y] ∧ H a = some (.ins C dx [("name", .str n)]) ∧ Rep C H y s ∧ Q (.bl false) H
theorem ok_Unnumbered___eq (T : Top K mg) : FnOk P w K mg base CX0 1 T.f_Unnumbered___eq T.fd_Unnumbered___eq ["self", "other"] (sp_Un_eq K T.C_Unnumbered) := by
  refine T.F_Unnumbered___eq.ok sc_Unnumbered___eq (fun vs H Q E h => ?_) (fun cdv A outer s H vs Q E hr h => ?_)
  · obtain ⟨a, dx, n, y, s, rfl, _⟩ := h
    rfl
  · obtain ⟨a, dx, n, y, s, rfl, ha, hy, q⟩ := h
    refine ⟨_, pss_one (ps_ret (pe_bl)), ?_⟩
    refine Z.r_start (σ' := [some (.ref a), some (y)]) rfl ?_
    cases s with
    | non => cases hy; walk_at "go"; exact q
    | num i => cases hy; walk_at "go"; exact q
    | mark m => obtain ⟨b, dy, rfl, hb⟩ := hy; walk_at "go"; exact q
theorem k_Un_eq {K : PySem.W.Frag} {C a dx : Addr} {n : Str} {y : V} {s : Tag} {H : Hp} {Q : VK} {E : XK} (ha : H a = some (.ins C dx [("name", .str n)])) (hy : Rep C H y s) (q : Q (.bl false) H) : sp_Un_eq K C ([.ref a, y] ++ []) H Q E := ⟨a, dx, n, y, s, rfl, ha, hy, q⟩
local macro_rules | `(tactic| walk_at "call") => `(tactic| ((with_reducible refine' k_Un_eq ?ha ?hy ?_); (case ha => walk_at "hp"); (case hy => walk_at "rep")))
theorem sc_Unnumbered___ne : FnScope ["self", "other"] ["self", "other"] (defScope s_Unnumbered___ne) := ⟨rfl, rfl, rfl, by decide +kernel, rfl, by decide +kernel, by decide +kernel⟩
def sp_Un_ne (K : PySem.W.Frag) (C : Addr) : Sp := fun vs H Q _ => ∃ (a dx : Addr) (n : Str) (y : V) (s : Tag), vs = [.ref a, y] ∧ H a = some (.ins C dx [("name", .str n)]) ∧ Rep C H y s ∧ Q (.bl true) H
theorem ok_Unnumbered___ne (T : Top K mg) : FnOk P w K mg base CX0 1 T.f_Unnumbered___ne T.fd_Unnumbered___ne ["self", "other"] (sp_Un_ne K T.C_Unnumbered) := by
  refine T.F_Unnumbered___ne.ok sc_Unnumbered___ne (fun vs H Q E h => ?_) (fun cdv A outer s H vs Q E hr h => ?_)
  · obtain ⟨a, dx, n, y, s, rfl, _⟩ := h
    rfl
  · obtain ⟨a, dx, n, y, s, rfl, ha, hy, q⟩ := h
    refine ⟨_, pss_one (ps_ret (pe_bl)), ?_⟩
    refine Z.r_start (σ' := [some (.ref a), some (y)]) rfl ?_
    cases s with
    | non => cases hy; walk_at "go"; exact q
    | num i => cases hy; walk_at "go"; exact q
    | mark m => obtain ⟨b, dy, rfl, hb⟩ := hy; walk_at "go"; exact q
theorem k_Un_ne {K : PySem.W.Frag} {C a dx : Addr} {n : Str} {y : V} {s : Tag} {H : Hp} {Q : VK} {E : XK} (ha : H a = some (.ins C dx [("name", .str n)])) (hy : Rep C H y s) (q : Q (.bl true) H) : sp_Un_ne K C ([.ref a, y] ++ []) H Q E := ⟨a, dx, n, y, s, rfl, ha, hy, q⟩
local macro_rules | `(tactic| walk_at "call") => `(tactic| ((with_reducible refine' k_Un_ne ?ha ?hy ?_); (case ha => walk_at "hp"); (case hy => walk_at "rep")))
theorem sc_Unnumbered___lt : FnScope ["self", "other"] ["self", "other"] (defScope s_Unnumbered___lt) := ⟨rfl, rfl, rfl, by decide +kernel, rfl, by decide +kernel, by decide +kernel⟩
def sp_Un_lt (K : PySem.W.Frag) (C : Addr) : Sp := fun vs H Q _ => ∃ (a dx : Addr) (n : Str) (y : V) (s : Tag), vs = [.ref a, y] ∧ H a = some (.ins C dx [("name", .str n)]) ∧ Rep C H y s ∧ Q (.bl false) H
theorem ok_Unnumbered___lt (T : Top K mg) : FnOk P w K mg base CX0 4 T.f_Unnumbered___lt T.fd_Unnumbered___lt ["self", "other"] (sp_Un_lt K T.C_Unnumbered) := by
  refine T.F_Unnumbered___lt.ok sc_Unnumbered___lt (fun vs H Q E h => ?_) (fun cdv A outer s H vs Q E hr h => ?_)
  · obtain ⟨a, dx, n, y, s, rfl, _⟩ := h
    rfl
  · obtain ⟨a, dx, n, y, s, rfl, ha, hy, q⟩ := h
    refine ⟨_, pss_cons (ps_if (pt_not (pt_val (pe_call (ok_is_value T) (hr.mono (by decide)) (by rfl) T.mg_is_value T.F_is_value.kp T.B_is_value .nil pass0 (pa_cons (pv 1) (pa_nil))))) (pss_one (ps_never)) (pss_nil)) (pss_one (ps_ret (pe_bl))), ?_⟩
    refine Z.r_start (σ' := [some (.ref a), some (y)]) rfl ?_
    cases s with
    | non => cases hy; walk_at "go"; exact q
    | num i => cases hy; walk_at "go"; exact q
    | mark m => obtain ⟨b, dy, rfl, hb⟩ := hy; walk_at "go"; exact q
theorem k_Un_lt {K : PySem.W.Frag} {C a dx : Addr} {n : Str} {y : V} {s : Tag} {H : Hp} {Q : VK} {E : XK} (ha : H a = some (.ins C dx [("name", .str n)])) (hy : Rep C H y s) (q : Q (.bl false) H) : sp_Un_lt K C ([.ref a, y] ++ []) H Q E := ⟨a, dx, n, y, s, rfl, ha, hy, q⟩
local macro_rules | `(tactic| walk_at "call") => `(tactic| ((with_reducible refine' k_Un_lt ?ha ?hy ?_); (case ha => walk_at "hp"); (case hy => walk_at "rep")))
theorem sc_Unnumbered___le : FnScope ["self", "other"] ["self", "other"] (defScope s_Unnumbered___le) := ⟨rfl, rfl, rfl, by decide +kernel, rfl, by decide +kernel, by decide +kernel⟩
def sp_Un_le (K : PySem.W.Frag) (C : Addr) : Sp := fun vs H Q _ => ∃ (a dx : Addr) (n : Str) (y : V) (s : Tag), vs = [.ref a, y] ∧ H a = some (.ins C dx [("name", .str n)]) ∧ Rep C H y s ∧ Q (.bl false) H
theorem ok_Unnumbered___le (T : Top K mg) : FnOk P w K mg base CX0 4 T.f_Unnumbered___le T.fd_Unnumbered___le ["self", "other"] (sp_Un_le K T.C_Unnumbered) := by
  refine T.F_Unnumbered___le.ok sc_Unnumbered___le (fun vs H Q E h => ?_) (fun cdv A outer s H vs Q E hr h => ?_)
  · obtain ⟨a, dx, n, y, s, rfl, _⟩ := h
    rfl
  · obtain ⟨a, dx, n, y, s, rfl, ha, hy, q⟩ := h
    refine ⟨_, pss_cons (ps_if (pt_not (pt_val (pe_call (ok_is_value T) (hr.mono (by decide)) (by rfl) T.mg_is_value T.F_is_value.kp T.B_is_value .nil pass0 (pa_cons (pv 1) (pa_nil))))) (pss_one (ps_never)) (pss_nil)) (pss_one (ps_ret (pe_bl))), ?_⟩
    refine Z.r_start (σ' := [some (.ref a), some (y)]) rfl ?_
    cases s with
    | non => cases hy; walk_at "go"; exact q
    | num i => cases hy; walk_at "go"; exact q
    | mark m => obtain ⟨b, dy, rfl, hb⟩ := hy; walk_at "go"; exact q
theorem k_Un_le {K : PySem.W.Frag} {C a dx : Addr} {n : Str} {y : V} {s : Tag} {H : Hp} {Q : VK} {E : XK} (ha : H a = some (.ins C dx [("name", .str n)])) (hy : Rep C H y s) (q : Q (.bl false) H) : sp_Un_le K C ([.ref a, y] ++ []) H Q E := ⟨a, dx, n, y, s, rfl, ha, hy, q⟩
local macro_rules | `(tactic| walk_at "call") => `(tactic| ((with_reducible refine' k_Un_le ?ha ?hy ?_); (case ha => walk_at "hp"); (case hy => walk_at "rep")))
theorem sc_Unnumbered___gt : FnScope ["self", "other"] ["self", "other"] (defScope s_Unnumbered___gt) := ⟨rfl, rfl, rfl, by decide +kernel, rfl, by decide +kernel, by decide +kernel⟩
def sp_Un_gt (K : PySem.W.Frag) (C : Addr) : Sp := fun vs H Q _ => ∃ (a dx : Addr) (n : Str) (y : V) (s : Tag), vs = [.ref a, y] ∧ H a = some (.ins C dx [("name", .str n)]) ∧ Rep C H y s ∧ Q (.bl false) H
theorem ok_Unnumbered___gt (T : Top K mg) : FnOk P w K mg base CX0 4 T.f_Unnumbered___gt T.fd_Unnumbered___gt ["self", "other"] (sp_Un_gt K T.C_Unnumbered) := by
  refine T.F_Unnumbered___gt.ok sc_Unnumbered___gt (fun vs H Q E h => ?_) (fun cdv A outer s H vs Q E hr h => ?_)
  · obtain ⟨a, dx, n, y, s, rfl, _⟩ := h
    rfl
  · obtain ⟨a, dx, n, y, s, rfl, ha, hy, q⟩ := h
    refine ⟨_, pss_cons (ps_if (pt_not (pt_val (pe_call (ok_is_value T) (hr.mono (by decide)) (by rfl) T.mg_is_value T.F_is_value.kp T.B_is_value .nil pass0 (pa_cons (pv 1) (pa_nil))))) (pss_one (ps_never)) (pss_nil)) (pss_one (ps_ret (pe_bl))), ?_⟩
    refine Z.r_start (σ' := [some (.ref a), some (y)]) rfl ?_
    cases s with
    | non => cases hy; walk_at "go"; exact q
    | num i => cases hy; walk_at "go"; exact q
    | mark m => obtain ⟨b, dy, rfl, hb⟩ := hy; walk_at "go"; exact q
theorem k_Un_gt {K : PySem.W.Frag} {C a dx : Addr} {n : Str} {y : V} {s : Tag} {H : Hp} {Q : VK} {E : XK} (ha : H a = some (.ins C dx [("name", .str n)])) (hy : Rep C H y s) (q : Q (.bl false) H) : sp_Un_gt K C ([.ref a, y] ++ []) H Q E := ⟨a, dx, n, y, s, rfl, ha, hy, q⟩
local macro_rules | `(tactic| walk_at "call") => `(tactic| ((with_reducible refine' k_Un_gt ?ha ?hy ?_); (case ha => walk_at "hp"); (case hy => walk_at "rep")))
theorem sc_Unnumbered___ge : FnScope ["self", "other"] ["self", "other"] (defScope s_Unnumbered___ge) := ⟨rfl, rfl, rfl, by decide +kernel, rfl, by decide +kernel, by decide +kernel⟩
def sp_Un_ge (K : PySem.W.Frag) (C : Addr) : Sp := fun vs H Q _ => ∃ (a dx : Addr) (n : Str) (y : V) (s : Tag), vs = [.ref a, y] ∧ H a = some (.ins C dx [("name", .str n)]) ∧ Rep C H y s ∧ Q (.bl false) H
theorem ok_Unnumbered___ge (T : Top K mg) : FnOk P w K mg base CX0 4 T.f_Unnumbered___ge T.fd_Unnumbered___ge ["self", "other"] (sp_Un_ge K T.C_Unnumbered) := by
  refine T.F_Unnumbered___ge.ok sc_Unnumbered___ge (fun vs H Q E h => ?_) (fun cdv A outer s H vs Q E hr h => ?_)
  · obtain ⟨a, dx, n, y, s, rfl, _⟩ := h
    rfl
  · obtain ⟨a, dx, n, y, s, rfl, ha, hy, q⟩ := h
    refine ⟨_, pss_cons (ps_if (pt_not (pt_val (pe_call (ok_is_value T) (hr.mono (by decide)) (by rfl) T.mg_is_value T.F_is_value.kp T.B_is_value .nil pass0 (pa_cons (pv 1) (pa_nil))))) (pss_one (ps_never)) (pss_nil)) (pss_one (ps_ret (pe_bl))), ?_⟩
    refine Z.r_start (σ' := [some (.ref a), some (y)]) rfl ?_
    cases s with
    | non => cases hy; walk_at "go"; exact q
    | num i => cases hy; walk_at "go"; exact q
    | mark m => obtain ⟨b, dy, rfl, hb⟩ := hy; walk_at "go"; exact q
theorem k_Un_ge {K : PySem.W.Frag} {C a dx : Addr} {n : Str} {y : V} {s : Tag} {H : Hp} {Q : VK} {E : XK} (ha : H a = some (.ins C dx [("name", .str n)])) (hy : Rep C H y s) (q : Q (.bl false) H) : sp_Un_ge K C ([.ref a, y] ++ []) H Q E := ⟨a, dx, n, y, s, rfl, ha, hy, q⟩
local macro_rules | `(tactic| walk_at "call") => `(tactic| ((with_reducible refine' k_Un_ge ?ha ?hy ?_); (case ha => walk_at "hp"); (case hy => walk_at "rep")))
theorem sc_holds : FnScope ["sign", "one", "other"] ["sign", "one", "other"] (defScope s_holds) := ⟨rfl, rfl, rfl, by decide +kernel, rfl, by decide +kernel, by decide +kernel⟩
/-- what a comparison of two values is due to tell -/
def hold (g : Str) : Tag → Tag → Bool
  | .num i, .num j => if g = "<" then decide (i < j) else if g = "<=" then decide (i ≤ j) else if g = ">" then decide (i > j) else if g = ">=" then decide (i ≥ j) else if g = "==" then decide (i = j) else !decide (i = j)
  | _, _ => decide (g = "!=")
theorem hold_num (g : Str) (i j : Int) : hold g (.num i) (.num j) = if g = "<" then decide (i < j) else if g = "<=" then decide (i ≤ j) else if g = ">" then decide (i > j) else if g = ">=" then decide (i ≥ j) else if g = "==" then decide (i = j) else !decide (i = j) := rfl
theorem hold_nm (g : Str) (i : Int) (m : Str) : hold g (.num i) (.mark m) = decide (g = "!=") := rfl
theorem hold_m (g : Str) (n : Str) (t : Tag) : hold g (.mark n) t = decide (g = "!=") := rfl
theorem hold_lt_num (i j : Int) : hold "<" (.num i) (.num j) = decide (i < j) := by rw [hold_num, if_pos rfl]
theorem hold_gt_num (i j : Int) : hold ">" (.num i) (.num j) = decide (i > j) := by rw [hold_num, if_neg (by decide +kernel), if_neg (by decide +kernel), if_pos rfl]
theorem hold_off (g : Str) {s t : Tag} (h : ¬ ((∃ i, s = .num i) ∧ ∃ j, t = .num j)) : hold g s t = decide (g = "!=") := by
  cases s with
  | num i =>
    cases t with
    | num j => exact absurd ⟨⟨i, rfl⟩, ⟨j, rfl⟩⟩ h
    | _ => rfl
  | _ => rfl
def Sign (g : Str) : Prop := g = "<" ∨ g = "<=" ∨ g = ">" ∨ g = ">=" ∨ g = "==" ∨ g = "!="
def sp_holds (C : Addr) : Sp := fun vs H Q _ => ∃ (g : Str) (x y : V) (s t : Tag), vs = [.str g, x, y] ∧ Sign g ∧ Rep C H x s ∧ Rep C H y t ∧ Q (.bl (hold g s t)) H
theorem ok_holds (T : Top K mg) : FnOk P w K mg base CX0 5 T.f_holds T.fd_holds ["sign", "one", "other"] (sp_holds T.C_Unnumbered) := by
  refine T.F_holds.ok sc_holds (fun vs H Q E h => ?_) (fun cdv A outer s H vs Q E hr h => ?_)
  · obtain ⟨g, x, y, s, t, rfl, _⟩ := h
    rfl
  · obtain ⟨g, x, y, s, t, rfl, hg, hx, hy, q⟩ := h
    refine ⟨_, pss_cons (ps_if ((pw_or (pt_cmpR Z.o_isN (pv 1) (pe_non) (nomark _)) (pw_or1 (pt_cmpR Z.o_isN (pv 2) (pe_non) (nomark _)))).pt) (pss_one (ps_ret (pe_cmpR op_eq (pv 0) (pe_str) (nomark _)))) (pss_nil)) (pss_cons (ps_if (pt_cmpR op_eq (pv 0) (pe_str) (nomark _)) (pss_one (ps_ret (pe_cmpR (Z.o_any3 op_lt (Z.o_cmpL (fun _ _ => rfl) T.me_Unnumbered___lt (ok_Unnumbered___lt T) (hr.mono (by decide)) T.B_Unnumbered___lt) (Z.o_cmpR (fun _ _ => rfl) F.slot_int_lt F.entry_int_lt F.args_int_lt_2 Z.dec_lt T.me_Unnumbered___gt (ok_Unnumbered___gt T) (hr.mono (by decide)) T.B_Unnumbered___gt)) (pv 1) (pv 2) (nomark _)))) (pss_nil)) (pss_cons (ps_if (pt_cmpR op_eq (pv 0) (pe_str) (nomark _)) (pss_one (ps_ret (pe_cmpR (Z.o_any3 op_le (Z.o_cmpL (fun _ _ => rfl) T.me_Unnumbered___le (ok_Unnumbered___le T) (hr.mono (by decide)) T.B_Unnumbered___le) (Z.o_cmpR (fun _ _ => rfl) F.slot_int_le F.entry_int_le F.args_int_le_2 Z.dec_le T.me_Unnumbered___ge (ok_Unnumbered___ge T) (hr.mono (by decide)) T.B_Unnumbered___ge)) (pv 1) (pv 2) (nomark _)))) (pss_nil)) (pss_cons (ps_if (pt_cmpR op_eq (pv 0) (pe_str) (nomark _)) (pss_one (ps_ret (pe_cmpR (Z.o_any3 op_gt (Z.o_cmpL (fun _ _ => rfl) T.me_Unnumbered___gt (ok_Unnumbered___gt T) (hr.mono (by decide)) T.B_Unnumbered___gt) (Z.o_cmpR (fun _ _ => rfl) F.slot_int_gt F.entry_int_gt F.args_int_gt_2 Z.dec_gt T.me_Unnumbered___lt (ok_Unnumbered___lt T) (hr.mono (by decide)) T.B_Unnumbered___lt)) (pv 1) (pv 2) (nomark _)))) (pss_nil)) (pss_cons (ps_if (pt_cmpR op_eq (pv 0) (pe_str) (nomark _)) (pss_one (ps_ret (pe_cmpR (Z.o_any3 op_ge (Z.o_cmpL (fun _ _ => rfl) T.me_Unnumbered___ge (ok_Unnumbered___ge T) (hr.mono (by decide)) T.B_Unnumbered___ge) (Z.o_cmpR (fun _ _ => rfl) F.slot_int_ge F.entry_int_ge F.args_int_ge_2 Z.dec_ge T.me_Unnumbered___le (ok_Unnumbered___le T) (hr.mono (by decide)) T.B_Unnumbered___le)) (pv 1) (pv 2) (nomark _)))) (pss_nil)) (pss_cons (ps_if (pt_cmpR op_eq (pv 0) (pe_str) (nomark _)) (pss_one (ps_ret (pe_cmpR (Z.o_any3 op_eq (Z.o_cmpL (fun _ _ => rfl) T.me_Unnumbered___eq (ok_Unnumbered___eq T) (hr.mono (by decide)) T.B_Unnumbered___eq) (Z.o_cmpR (fun _ _ => rfl) F.slot_int_eq F.entry_int_eq F.args_int_eq_2 Z.dec_eq T.me_Unnumbered___eq (ok_Unnumbered___eq T) (hr.mono (by decide)) T.B_Unnumbered___eq)) (pv 1) (pv 2) (nomark _)))) (pss_nil)) (pss_one (ps_ret (pe_cmpR (Z.o_any3 op_ne (Z.o_cmpL (fun _ _ => rfl) T.me_Unnumbered___ne (ok_Unnumbered___ne T) (hr.mono (by decide)) T.B_Unnumbered___ne) (Z.o_cmpR (fun _ _ => rfl) F.slot_int_ne F.entry_int_ne F.args_int_ne_2 Z.dec_ne T.me_Unnumbered___ne (ok_Unnumbered___ne T) (hr.mono (by decide)) T.B_Unnumbered___ne)) (pv 1) (pv 2) (nomark _))))))))), ?_⟩
    refine Z.r_start (σ' := [some (.str g), some (x), some (y)]) rfl ?_
    cases s with
    | non => cases hx; walk_at "go"; exact q
    | num i =>
      cases hx
      cases t with
      | non => cases hy; walk_at "go"; exact q
      | num j =>
        cases hy
        rw [hold_num] at q
        walk_at "go"
        refine Z.ways (fun c1 => ?_) (fun c1 => ?_)
        · walk_at "go"
          rw [if_pos c1] at q; exact q
        walk_at "go"
        refine Z.ways (fun c2 => ?_) (fun c2 => ?_)
        · walk_at "go"
          rw [if_neg c1, if_pos c2] at q; exact q
        walk_at "go"
        refine Z.ways (fun c3 => ?_) (fun c3 => ?_)
        · walk_at "go"
          rw [if_neg c1, if_neg c2, if_pos c3] at q; exact q
        walk_at "go"
        refine Z.ways (fun c4 => ?_) (fun c4 => ?_)
        · walk_at "go"
          rw [if_neg c1, if_neg c2, if_neg c3, if_pos c4] at q; exact q
        walk_at "go"
        refine Z.ways (fun c5 => ?_) (fun c5 => ?_)
        · walk_at "go"
          rw [if_neg c1, if_neg c2, if_neg c3, if_neg c4, if_pos c5] at q; exact q
        walk_at "go"
        rw [if_neg c1, if_neg c2, if_neg c3, if_neg c4, if_neg c5] at q; exact q
      | mark m =>
        obtain ⟨b, dy, rfl, hb⟩ := hy
        rw [hold_nm] at q
        walk_at "go"
        refine Z.ways (fun c1 => ?_) (fun c1 => ?_)
        · walk_at "go"
          rw [show decide (g = "!=") = false by rw [c1]; decide +kernel] at q; exact q
        walk_at "go"
        refine Z.ways (fun c2 => ?_) (fun c2 => ?_)
        · walk_at "go"
          rw [show decide (g = "!=") = false by rw [c2]; decide +kernel] at q; exact q
        walk_at "go"
        refine Z.ways (fun c3 => ?_) (fun c3 => ?_)
        · walk_at "go"
          rw [show decide (g = "!=") = false by rw [c3]; decide +kernel] at q; exact q
        walk_at "go"
        refine Z.ways (fun c4 => ?_) (fun c4 => ?_)
        · walk_at "go"
          rw [show decide (g = "!=") = false by rw [c4]; decide +kernel] at q; exact q
        walk_at "go"
        refine Z.ways (fun c5 => ?_) (fun c5 => ?_)
        · walk_at "go"
          rw [show decide (g = "!=") = false by rw [c5]; decide +kernel] at q; exact q
        walk_at "go"
        rw [show decide (g = "!=") = true by rcases hg with h | h | h | h | h | h <;> first | contradiction | (rw [h]; decide +kernel)] at q; exact q
    | mark n =>
      obtain ⟨a, dx, rfl, ha⟩ := hx
      rw [hold_m] at q
      cases t with
      | non => cases hy; walk_at "go"; exact q
      | num j =>
        cases hy
        walk_at "go"
        refine Z.ways (fun c1 => ?_) (fun c1 => ?_)
        · walk_at "go"
          rw [show decide (g = "!=") = false by rw [c1]; decide +kernel] at q; exact q
        walk_at "go"
        refine Z.ways (fun c2 => ?_) (fun c2 => ?_)
        · walk_at "go"
          rw [show decide (g = "!=") = false by rw [c2]; decide +kernel] at q; exact q
        walk_at "go"
        refine Z.ways (fun c3 => ?_) (fun c3 => ?_)
        · walk_at "go"
          rw [show decide (g = "!=") = false by rw [c3]; decide +kernel] at q; exact q
        walk_at "go"
        refine Z.ways (fun c4 => ?_) (fun c4 => ?_)
        · walk_at "go"
          rw [show decide (g = "!=") = false by rw [c4]; decide +kernel] at q; exact q
        walk_at "go"
        refine Z.ways (fun c5 => ?_) (fun c5 => ?_)
        · walk_at "go"
          rw [show decide (g = "!=") = false by rw [c5]; decide +kernel] at q; exact q
        walk_at "go"
        rw [show decide (g = "!=") = true by rcases hg with h | h | h | h | h | h <;> first | contradiction | (rw [h]; decide +kernel)] at q; exact q
      | mark m =>
        obtain ⟨b, dy, rfl, hb⟩ := hy
        walk_at "go"
        refine Z.ways (fun c1 => ?_) (fun c1 => ?_)
        · walk_at "go"
          rw [show decide (g = "!=") = false by rw [c1]; decide +kernel] at q; exact q
        walk_at "go"
        refine Z.ways (fun c2 => ?_) (fun c2 => ?_)
        · walk_at "go"
          rw [show decide (g = "!=") = false by rw [c2]; decide +kernel] at q; exact q
        walk_at "go"
        refine Z.ways (fun c3 => ?_) (fun c3 => ?_)
        · walk_at "go"
          rw [show decide (g = "!=") = false by rw [c3]; decide +kernel] at q; exact q
        walk_at "go"
        refine Z.ways (fun c4 => ?_) (fun c4 => ?_)
        · walk_at "go"
          rw [show decide (g = "!=") = false by rw [c4]; decide +kernel] at q; exact q
        walk_at "go"
        refine Z.ways (fun c5 => ?_) (fun c5 => ?_)
        · walk_at "go"
          rw [show decide (g = "!=") = false by rw [c5]; decide +kernel] at q; exact q
        walk_at "go"
        rw [show decide (g = "!=") = true by rcases hg with h | h | h | h | h | h <;> first | contradiction | (rw [h]; decide +kernel)] at q; exact q
theorem k_holds {C : Addr} {g : Str} {x y : V} {s t : Tag} {H : Hp} {Q : VK} {E : XK} (hg : Sign g) (hx : Rep C H x s) (hy : Rep C H y t) (q : Q (.bl (hold g s t)) H) : sp_holds C ([.str g, x, y] ++ []) H Q E := ⟨g, x, y, s, t, rfl, hg, hx, hy, q⟩
local macro_rules | `(tactic| walk_at "call") => `(tactic| ((with_reducible refine' k_holds ?hg ?hx ?hy ?_); (case hg => unfold Sign; decide +kernel); (case hx => walk_at "rep"); (case hy => walk_at "rep")))
theorem sc_law_says : FnScope ["_law_told", "_law_due_here"] ["_law_told", "_law_due_here"] (defScope s_law_says) := ⟨rfl, rfl, rfl, by decide +kernel, rfl, by decide +kernel, by decide +kernel⟩
def sp_law_says : Sp := fun vs H Q _ => ∃ (a b : Bool), vs = [.bl a, .bl b] ∧ Q (.bl (decide (a = b))) H
theorem ok_law_says (T : Top K mg) : FnOk P w K mg base CX0 1 T.f_law_says T.fd_law_says ["_law_told", "_law_due_here"] sp_law_says := by
  refine T.F_law_says.ok sc_law_says (fun vs H Q E h => ?_) (fun cdv A outer s H vs Q E hr h => ?_)
  · obtain ⟨a, b, rfl, _⟩ := h
    rfl
  · obtain ⟨a, b, rfl, q⟩ := h
    refine ⟨_, pss_one (ps_ret (pe_and (pe_callB Z.c_isi (by rfl) T.z_isinstance (by decide +kernel) (pa_cons (pv 0) (pa_cons (pe_bltn (v := .ty "bool") (by rfl) T.z_bool (by decide +kernel) rfl) (pa_nil)))) (pe_one (pe_cmpR op_eq (pv 0) (pv 1) (nomark _))))), ?_⟩
    refine Z.r_start (σ' := [some (.bl a), some (.bl b)]) rfl ?_
    walk_at "go"
    exact q
theorem k_law_says {a b : Bool} {H : Hp} {Q : VK} {E : XK} (q : Q (.bl (decide (a = b))) H) : sp_law_says ([.bl a, .bl b] ++ []) H Q E := ⟨a, b, rfl, q⟩
local macro_rules | `(tactic| walk_at "call") => `(tactic| with_reducible refine k_law_says ?_)
theorem sc_law_tag : FnScope ["_law_bag_here", "_law_words", "_law_road"] ["_law_bag_here", "_law_words"] (defScope s_law_tag) := ⟨rfl, rfl, rfl, by decide +kernel, rfl, by decide +kernel, by decide +kernel⟩
def sp_law_tag : Sp := fun vs H Q _ => ∃ (b l : Addr) (n : Nat) (ws : List Str), vs = [.ref b, .ref l] ∧ Bag H b n ∧ n < 1073740000 ∧ H l = some (.lst (ws.map V.str)) ∧ l ≠ b ∧ 0 < ws.length ∧ ws.length ≤ 10 ∧ (∀ x ∈ ws, Word x) ∧
  ∀ p t H', H p = none → Z.But b H H' → Bag H' b (n + 70) → TagAt H' p t → Q (.ref p) H'
theorem ok_law_tag (T : Top K mg) : FnOk P w K mg base CX0 3 T.f_law_tag T.fd_law_tag ["_law_bag_here", "_law_words"] sp_law_tag := by
  refine T.F_law_tag.ok sc_law_tag (fun vs H Q E h => ?_) (fun cdv A outer s H vs Q E hr h => ?_)
  · obtain ⟨b, l, n, ws, rfl, _⟩ := h
    rfl
  · obtain ⟨b, l, n, ws, rfl, hb, hn, hl, nlb, w0, w1, hw, q⟩ := h
    refine ⟨_, pss_cons (ps_set (i := 2) sc_law_tag.nd rfl (.inl rfl) (pe_call (ok_law_draw T) (hr.mono (by decide)) (by rfl) T.mg_law_draw T.F_law_draw.kp T.B_law_draw .nil pass0 (pa_cons (pv 0) (pa_cons (pe_int) (pa_nil))))) (pss_cons (ps_if (pt_cmpR op_eq (pv 2) (pe_int) (nomark _)) (pss_one (ps_ret (pe_tup (pa_cons (pe_str) (pa_nil))))) (pss_nil)) (pss_cons (ps_if (pt_cmpR op_lt (pv 2) (pe_int) (nomark _)) (pss_one (ps_ret (pe_tup (pa_cons (pe_str) (pa_cons (pe_ix ix_seq (pv 1) (pe_call (ok_law_draw T) (hr.mono (by decide)) (by rfl) T.mg_law_draw T.F_law_draw.kp T.B_law_draw .nil pass0 (pa_cons (pv 0) (pa_cons (pe_callB Z.c_len (by rfl) T.z_len (by decide +kernel) (pa_cons (pv 1) (pa_nil))) (pa_nil)))) (fun _ _ => rfl)) (pa_nil)))))) (pss_nil)) (pss_one (ps_ret (pe_tup (pa_cons (pe_str) (pa_cons (pe_call (ok_law_number T) (hr.mono (by decide)) (by rfl) T.mg_law_number T.F_law_number.kp T.B_law_number .nil pass0 (pa_cons (pv 0) (pa_nil))) (pa_nil)))))))), ?_⟩
    refine Z.r_start (σ' := [some (.ref b), some (.ref l), none]) rfl ?_
    walk_at "go"
    walk_at "draw"
    intro r H1 r0 r1 t1 g1
    walk_at "go"
    refine Z.ways (fun c => ?_) (fun c => ?_)
    · walk_at "go"
      intro p H2 np s2 hp
      exact q p .non H2 (t1.free (g1.ne np) np) (t1.trans (Z.But.same s2)) ((g1.same s2).mono (by omega)) ⟨hp, trivial⟩
    walk_at "go"
    refine Z.ways (fun c => ?_) (fun c => ?_)
    · walk_at "go"
      rw [List.length_map]
      walk_at "draw"
      intro d H2 d0 d1 t2 g2
      obtain ⟨k, rfl⟩ := Int.eq_ofNat_of_zero_le d0
      have hk : k < ws.length := by omega
      have hl2 : H2 l = some (.lst (ws.map V.str)) := t2 _ _ nlb (t1 _ _ nlb hl)
      refine Z.r_ixL (v := .str ws[k]) (SqL.of hl2) (atI_nat (by rw [List.getElem?_map, List.getElem?_eq_getElem hk]; rfl)) ?_
      walk_at "go"
      intro p H3 np s3 hp
      have t12 := t1.trans t2
      exact q p (.mark ws[k]) H3 (t12.free (g2.ne np) np) (t12.trans (Z.But.same s3)) ((g2.same s3).mono (by omega)) ⟨hp, hw _ (List.getElem_mem hk)⟩
    walk_at "go"
    refine' k_law_number ?bg ?n ?_
    case bg => walk_at "bag"
    case n => omega
    intro i H2 hi t2 g2
    walk_at "go"
    intro p H3 np s3 hp
    have t12 := t1.trans t2
    exact q p (.num i) H3 (t12.free (g2.ne np) np) (t12.trans (Z.But.same s3)) ((g2.same s3).mono (by omega)) ⟨hp, trivial⟩
theorem k_law_tag {b l : Addr} {n : Nat} {ws : List Str} {H : Hp} {Q : VK} {E : XK} (bg : Bag H b n) (hn : n < 1073740000) (hl : H l = some (.lst (ws.map V.str))) (nlb : l ≠ b) (w0 : 0 < ws.length) (w1 : ws.length ≤ 10) (hw : ∀ x ∈ ws, Word x)
    (q : ∀ p t H', H p = none → Z.But b H H' → Bag H' b (n + 70) → TagAt H' p t → Q (.ref p) H') : sp_law_tag ([.ref b, .ref l] ++ []) H Q E := ⟨b, l, n, ws, rfl, bg, hn, hl, nlb, w0, w1, hw, q⟩
theorem sc_law_made : FnScope ["_law_tag_here"] ["_law_tag_here"] (defScope s_law_made) := ⟨rfl, rfl, rfl, by decide +kernel, rfl, by decide +kernel, by decide +kernel⟩
def sp_law_made (C : Addr) : Sp := fun vs H Q _ => ∃ (p : Addr) (t : Tag), vs = [.ref p] ∧ TagAt H p t ∧ ∀ x H', Same H H' → Rep C H' x t → Q x H'
theorem ok_law_made (T : Top K mg) : FnOk P w K mg base CX0 3 T.f_law_made T.fd_law_made ["_law_tag_here"] (sp_law_made T.C_Unnumbered) := by
  refine T.F_law_made.ok sc_law_made (fun vs H Q E h => ?_) (fun cdv A outer s H vs Q E hr h => ?_)
  · obtain ⟨p, t, rfl, _⟩ := h
    rfl
  · obtain ⟨p, t, rfl, ⟨hp, ht⟩, q⟩ := h
    refine ⟨_, pss_cons (ps_if (pt_cmpR op_eq (pe_ix ix_seq (pv 0) (pe_int) (fun _ _ => rfl)) (pe_str) (nomark _)) (pss_one (ps_ret (pe_non))) (pss_nil)) (pss_one (ps_ret (pe_ifExp (pt_cmpR op_eq (pe_ix ix_seq (pv 0) (pe_int) (fun _ _ => rfl)) (pe_str) (nomark _)) (pe_make T.mk_Unnumbered (ok_Unnumbered___init T) (hr.mono (by decide)) (by rfl) T.mgC_Unnumbered T.B_Unnumbered___init .nil pass0 (pa_cons (pe_ix ix_seq (pv 0) (pe_int) (fun _ _ => rfl)) (pa_nil))) (pe_ix ix_seq (pv 0) (pe_int) (fun _ _ => rfl))))), ?_⟩
    refine Z.r_start (σ' := [some (.ref p)]) rfl ?_
    cases t with
    | non =>
      have hp : H p = some (.tup [.str "nothing"]) := hp
      walk_at "go"
      exact q _ _ (Same.refl _) rfl
    | mark n =>
      have hp : H p = some (.tup [.str "mark", .str n]) := hp
      walk_at "go"
      intro x dx H1 nx s1 hx
      exact q _ _ s1 ⟨x, dx, rfl, hx⟩
    | num i =>
      have hp : H p = some (.tup [.str "number", .int i]) := hp
      walk_at "go"
      exact q _ _ (Same.refl _) rfl
theorem k_law_made {C p : Addr} {t : Tag} {H : Hp} {Q : VK} {E : XK} (h : TagAt H p t) (q : ∀ x H', Same H H' → Rep C H' x t → Q x H') : sp_law_made C ([.ref p] ++ []) H Q E := ⟨p, t, rfl, h, q⟩

theorem sc_law_due : FnScope ["_law_sign", "_law_one", "_law_two", "_law_found"] ["_law_sign", "_law_one", "_law_two"] (defScope s_law_due) := ⟨rfl, rfl, rfl, by decide +kernel, rfl, by decide +kernel, by decide +kernel⟩
def sp_law_due : Sp := fun vs H Q _ => ∃ (g : Str) (p r : Addr) (s t : Tag), vs = [.str g, .ref p, .ref r] ∧ Sign g ∧ TagAt H p s ∧ TagAt H r t ∧ ∀ H', Same H H' → Q (.bl (hold g s t)) H'
theorem ok_law_due (T : Top K mg) : FnOk P w K mg base CX0 1 T.f_law_due T.fd_law_due ["_law_sign", "_law_one", "_law_two"] sp_law_due := by
  refine T.F_law_due.ok sc_law_due (fun vs H Q E h => ?_) (fun cdv A outer s H vs Q E hr h => ?_)
  · obtain ⟨g, p, r, s, t, rfl, _⟩ := h
    rfl
  · obtain ⟨g, p, r, u, v, rfl, hg, tg1, tg2, q⟩ := h
    refine ⟨_, pss_cons (ps_if ((pw_or (pt_cmpR op_ne (pe_ix ix_seq (pv 1) (pe_int) (fun _ _ => rfl)) (pe_str) (nomark _)) (pw_or1 (pt_cmpR op_ne (pe_ix ix_seq (pv 2) (pe_int) (fun _ _ => rfl)) (pe_str) (nomark _)))).pt) (pss_one (ps_ret (pe_cmpR op_eq (pv 0) (pe_str) (nomark _)))) (pss_nil)) (pss_cons (ps_set (i := 3) sc_law_due.nd rfl (.inl rfl) (pe_disp (pps_cons (pe_str) (pe_cmpR op_lt (pe_ix ix_seq (pv 1) (pe_int) (fun _ _ => rfl)) (pe_ix ix_seq (pv 2) (pe_int) (fun _ _ => rfl)) (nomark _)) (pps_cons (pe_str) (pe_cmpR op_le (pe_ix ix_seq (pv 1) (pe_int) (fun _ _ => rfl)) (pe_ix ix_seq (pv 2) (pe_int) (fun _ _ => rfl)) (nomark _)) (pps_cons (pe_str) (pe_cmpR op_gt (pe_ix ix_seq (pv 1) (pe_int) (fun _ _ => rfl)) (pe_ix ix_seq (pv 2) (pe_int) (fun _ _ => rfl)) (nomark _)) (pps_cons (pe_str) (pe_cmpR op_ge (pe_ix ix_seq (pv 1) (pe_int) (fun _ _ => rfl)) (pe_ix ix_seq (pv 2) (pe_int) (fun _ _ => rfl)) (nomark _)) (pps_nil))))) rfl rfl (fun z => by cases z) (by decide))) (pss_cons (ps_dput (hu_of hr) (pv 3) (pe_str) (pe_cmpR op_eq (pe_ix ix_seq (pv 1) (pe_int) (fun _ _ => rfl)) (pe_ix ix_seq (pv 2) (pe_int) (fun _ _ => rfl)) (nomark _)) rfl) (pss_cons (ps_dput (hu_of hr) (pv 3) (pe_str) (pe_cmpR op_ne (pe_ix ix_seq (pv 1) (pe_int) (fun _ _ => rfl)) (pe_ix ix_seq (pv 2) (pe_int) (fun _ _ => rfl)) (nomark _)) rfl) (pss_one (ps_ret (pe_dget (hu_of hr) (pv 3) (pv 0) (fun _ _ => rfl))))))), ?_⟩
    refine Z.r_start (σ' := [some (.str g), some (.ref p), some (.ref r), none]) rfl ?_
    have ht1 := tg1.1
    have ht2 := tg2.1
    have z1 := tag_at0 u
    have z2 := tag_at0 v
    walk_at "go"
    refine Z.waysN (fun c1 => ?_) (fun c1 => ?_)
    · walk_at "go"
      rw [hold_off g (fun z => c1 (by obtain ⟨⟨_, e⟩, _⟩ := z; rw [e]; rfl))] at q
      exact q _ (Same.refl _)
    walk_at "go"
    refine Z.waysN (fun c2 => ?_) (fun c2 => ?_)
    · walk_at "go"
      rw [hold_off g (fun z => c2 (by obtain ⟨_, _, e⟩ := z; rw [e]; rfl))] at q
      exact q _ (Same.refl _)
    obtain ⟨i, rfl⟩ := tagN_num c1
    obtain ⟨j, rfl⟩ := tagN_num c2
    have ht1 : H p = some (.tup [.str "number", .int i]) := ht1
    have ht2 : H r = some (.tup [.str "number", .int j]) := ht2
    clear z1 z2
    walk_at "go"
    intro d H1 nd s1 hd
    walk_at "go"
    refine Z.r_dsp [(.inr "<", .bl (decide (i < j))), (.inr "<=", .bl (decide (i ≤ j))), (.inr ">", .bl (decide (i > j))), (.inr ">=", .bl (decide (i ≥ j)))] hd rfl (Nat.le_of_ble_eq_true rfl) ?_
    intro H2 t2 h2
    have m1 : mergeK [] [((.inr "<" : Key), V.bl (decide (i < j))), (.inr "<=", .bl (decide (i ≤ j))), (.inr ">", .bl (decide (i > j))), (.inr ">=", .bl (decide (i ≥ j)))] = [(.inr "<", .bl (decide (i < j))), (.inr "<=", .bl (decide (i ≤ j))), (.inr ">", .bl (decide (i > j))), (.inr ">=", .bl (decide (i ≥ j)))] := by rfl
    rw [m1] at h2
    have npd : p ≠ d := ne_of_none ht1 nd
    have nrd : r ≠ d := ne_of_none ht2 nd
    walk_at "go"
    refine Z.r_dpS h2 (Nat.le_of_ble_eq_true rfl) ?_
    intro H3 t3 h3
    walk_at "go"
    refine Z.r_dpS h3 (Nat.le_of_ble_eq_true rfl) ?_
    intro H4 t4 h4
    walk_at "go"
    refine Z.r_dgS (v := .bl (hold g (.num i) (.num j))) h4 ?_ (q _ (Z.But.back s1 nd ((t2.trans t3).trans t4)))
    rcases hg with rfl | rfl | rfl | rfl | rfl | rfl <;> rfl
theorem k_law_due {g : Str} {p r : Addr} {s t : Tag} {H : Hp} {Q : VK} {E : XK} (hg : Sign g) (h1 : TagAt H p s) (h2 : TagAt H r t) (q : ∀ H', Same H H' → Q (.bl (hold g s t)) H') : sp_law_due ([.str g, .ref p, .ref r] ++ []) H Q E := ⟨g, p, r, s, t, rfl, hg, h1, h2, q⟩
theorem sc_law : FnScope ["_law_script", "_law_at", "_law_bag_here", "_law_words", "_law_tags", "_law_things", "_law_sign", "_law_one", "_law_turn", "_law_tag_here", "_law_two"] ["_law_script"] (defScope s_law) := ⟨rfl, rfl, rfl, by decide +kernel, rfl, by decide +kernel, by decide +kernel⟩
def sp_law (K : PySem.W.Frag) : Sp := fun vs H Q _ => ∃ (a : Addr) (ns : List Int), vs = [.ref a] ∧ SqL K H a (ns.map V.int) ∧ ns.length ≤ 63 ∧ ∀ H', Q (.bl true) H'
theorem ok_law (T : Top K mg) : FnOk P w K mg base CX0 6 T.f_law T.fd_law ["_law_script"] (sp_law K) := by
  refine T.F_law.ok sc_law (fun vs H Q E h => ?_) (fun cdv A outer s H vs Q E hr h => ?_)
  · obtain ⟨a, ns, rfl, _⟩ := h
    rfl
  · obtain ⟨a, ns, rfl, hS, hlen, q⟩ := h
    refine ⟨_, pss_cons (ps_for PassesOwn.never rfl (pi_range1 (by rfl) T.z_range (pa_cons (pe_callB (Z.c_max2 rfl) (by rfl) T.z_max (by decide +kernel) (pa_cons (pe_int) (pa_cons (pe_callB (Z.c_min2 rfl) (by rfl) T.z_min (by decide +kernel) (pa_cons (pe_int) (pa_cons (pe_callB Z.c_len (by rfl) T.z_len (by decide +kernel) (pa_cons (pv 0) (pa_nil))) (pa_nil)))) (pa_nil)))) (pa_nil))) (pg_name (i := 1) sc_law.nd rfl (.inl rfl)) (pss_cons (ps_set (i := 2) sc_law.nd rfl (.inr rfl) (pe_call (ok_law_bag T) (hr.mono (by decide)) (by rfl) T.mg_law_bag T.F_law_bag.kp T.B_law_bag .nil pass0 (pa_cons (pv 0) (pa_cons (pv 1) (pa_nil))))) (pss_cons (ps_set (i := 3) sc_law.nd rfl (.inr rfl) (pe_lst (pa_cons (pe_call (ok_law_word T) (hr.mono (by decide)) (by rfl) T.mg_law_word T.F_law_word.kp T.B_law_word .nil pass0 (pa_cons (pv 2) (pa_nil))) (pa_cons (pe_call (ok_law_word T) (hr.mono (by decide)) (by rfl) T.mg_law_word T.F_law_word.kp T.B_law_word .nil pass0 (pa_cons (pv 2) (pa_nil))) (pa_cons (pe_str) (pa_nil)))))) (pss_cons (ps_setLc (i := 4) (own := [("_law_turn", 8)]) (g := gName 8) (tt := tYes) rfl sc_law.nd rfl rfl (sw_true rfl rfl rfl (by decide +kernel)) (pi_range1 (by rfl) T.z_range (pa_cons (pe_op op_add (pe_int) (pe_call (ok_law_draw T) (hr.mono (by decide)) (by rfl) T.mg_law_draw T.F_law_draw.kp T.B_law_draw .nil pass0 (pa_cons (pv 2) (pa_cons (pe_int) (pa_nil))))) (pa_nil))) (blkOk_by (own := [("_law_turn", 8)]) (N := ["_law_script", "_law_at", "_law_bag_here", "_law_words", "_law_tags", "_law_things", "_law_sign", "_law_one", "_law_turn", "_law_tag_here", "_law_two"]) (sc := defScope s_law) (by decide +kernel)) (fun _ _ _ _ _ => pg_name (i := 8) sc_law.nd rfl (.inl rfl)) (fun _ _ _ _ _ => pts_nil) (fun _ _ _ _ _ => pe_call (ok_law_tag T) (hr.mono (by decide)) (by rfl) T.mg_law_tag T.F_law_tag.kp T.B_law_tag .nil pass0 (pa_cons (pv 2) (pa_cons (pv 3) (pa_nil))))) (pss_cons (ps_set (i := 4) sc_law.nd rfl (.inl rfl) (pe_op op_cat (pv 4) (pe_lst (pa_cons (pe_ix ix_seq (pv 4) (pe_int) (fun _ _ => rfl)) (pa_nil))))) (pss_cons (ps_setLc (i := 5) (own := [("_law_tag_here", 9)]) (g := gName 9) (tt := tYes) rfl sc_law.nd rfl rfl (sw_true rfl rfl rfl (by decide +kernel)) (pi_list (pv 4)) (blkOk_by (own := [("_law_tag_here", 9)]) (N := ["_law_script", "_law_at", "_law_bag_here", "_law_words", "_law_tags", "_law_things", "_law_sign", "_law_one", "_law_turn", "_law_tag_here", "_law_two"]) (sc := defScope s_law) (by decide +kernel)) (fun _ _ _ _ _ => pg_name (i := 9) sc_law.nd rfl (.inl rfl)) (fun _ _ _ _ _ => pts_nil) (fun _ _ _ _ _ => pe_call (ok_law_made T) (hr.mono (by decide)) (by rfl) T.mg_law_made T.F_law_made.kp T.B_law_made .nil pass0 (pa_cons (pv 9) (pa_nil)))) (pss_one (ps_for PassesOwn.never rfl (pi_list (pe_lst (pa_cons (pe_str) (pa_cons (pe_str) (pa_cons (pe_str) (pa_cons (pe_str) (pa_cons (pe_str) (pa_cons (pe_str) (pa_nil))))))))) (pg_name (i := 6) sc_law.nd rfl (.inl rfl)) (pss_one (ps_for PassesOwn.never rfl (pi_range1 (by rfl) T.z_range (pa_cons (pe_callB Z.c_len (by rfl) T.z_len (by decide +kernel) (pa_cons (pv 4) (pa_nil))) (pa_nil))) (pg_name (i := 7) sc_law.nd rfl (.inl rfl)) (pss_one (ps_for PassesOwn.never rfl (pi_range1 (by rfl) T.z_range (pa_cons (pe_callB Z.c_len (by rfl) T.z_len (by decide +kernel) (pa_cons (pv 4) (pa_nil))) (pa_nil))) (pg_name (i := 10) sc_law.nd rfl (.inl rfl)) (pss_one (ps_if (pt_not (pt_val (pe_call (ok_law_says T) (hr.mono (by decide)) (by rfl) T.mg_law_says T.F_law_says.kp T.B_law_says .nil pass0 (pa_cons (pe_call (ok_holds T) (hr.mono (by decide)) (by rfl) T.mg_holds T.F_holds.kp T.B_holds .nil pass0 (pa_cons (pv 6) (pa_cons (pe_ix ix_seq (pv 5) (pv 7) (fun _ _ => rfl)) (pa_cons (pe_ix ix_seq (pv 5) (pv 10) (fun _ _ => rfl)) (pa_nil))))) (pa_cons (pe_call (ok_law_due T) (hr.mono (by decide)) (by rfl) T.mg_law_due T.F_law_due.kp T.B_law_due .nil pass0 (pa_cons (pv 6) (pa_cons (pe_ix ix_seq (pv 4) (pv 7) (fun _ _ => rfl)) (pa_cons (pe_ix ix_seq (pv 4) (pv 10) (fun _ _ => rfl)) (pa_nil))))) (pa_nil)))))) (pss_one (ps_ret (pe_bl))) (pss_nil))))))))))))))) (pss_one (ps_ret (pe_bl))), ?_⟩
    refine Z.r_start (σ' := [some (.ref a), none, none, none, none, none, none, none, none, none, none]) rfl ?_
    walk_at "go"
    refine Z.r_rng (Z.turns _ 5 (by decide) (by decide)).1 (Z.turns _ 5 (by decide) (by decide)).2 (fun i σ' H' => Same H H' ∧ ∃ v1 v2 v3 v4 v5 v6 v7 v8 v9 v10, σ' = [some (.ref a), v1, v2, v3, v4, v5, v6, v7, v8, v9, v10]) ?_ ?_ ?_
    · exact ⟨Same.refl H, _, _, _, _, _, _, _, _, _, _, rfl⟩
    · rintro i σ' H0 hi ⟨s0, v1, v2, v3, v4, v5, v6, v7, v8, v9, v10, rfl⟩
      have hi5 := Int.lt_of_lt_of_le hi (Z.turns_le _ 5 (by decide))
      walk_at "go"
      refine k_law_bag (s0.seq hS) (by omega) ?_
      intro b H1 s1 nb g1
      walk_at "go"
      refine k_law_word g1 (by decide) ?_
      intro w1 H2 hw1 t2 g2
      walk_at "go"
      refine k_law_word g2 (by decide) ?_
      intro w2 H3 hw2 t3 g3
      walk_at "go"
      intro wl H4 nwl s4 hwl
      have nwb : wl ≠ b := g3.ne nwl
      walk_at "go"
      walk_at "draw"
      intro d H5 d0 d1 t5 g5
      walk_at "go"
      have z5 : Same H0 H5 := Z.But.back s1 nb (((t2.trans t3).trans (Z.But.same s4)).trans t5)
      have hwl5 : H5 wl = some (.lst ([w1, w2, "a"].map V.str)) := t5 _ _ nwb hwl
      have hws : ∀ x ∈ [w1, w2, ("a" : Str)], Word x := by
        intro x hx
        rcases List.mem_cons.mp hx with rfl | hx
        · exact hw1
        rcases List.mem_cons.mp hx with rfl | hx
        · exact hw2
        rcases List.mem_cons.mp hx with rfl | hx
        · exact ⟨by decide +kernel, by decide +kernel, by decide +kernel⟩
        · cases hx
      refine Z.r_lcR (by omega) (by omega) (fun _ => rfl) (fun D i H' => ∃ ts : List (Addr × Tag), ts.length = i ∧ H' D = some (.lst (ts.map fun x => V.ref x.1)) ∧ (∀ x ∈ ts, TagAt H' x.1 x.2) ∧ H' wl = some (.lst ([w1, w2, "a"].map V.str)) ∧
        Bag H' b (121 + 70 * i) ∧ Z.But b H5 H' ∧ D ≠ b ∧ D ≠ wl) ?_ ?_ ?_
      · intro D H6 nD s6 h6
        exact ⟨[], rfl, h6, (fun x hx => by cases hx), s6 _ _ hwl5, g5.same s6, Z.But.same s6, g5.ne nD, (ne_of_none hwl5 nD).symm⟩
      · rintro D i H6 nD hi ⟨ts, hl, hD, hts, hwl6, g6, t6, nDb, nDw⟩
        walk_at "go"
        refine k_law_tag g6 (by omega) hwl6 nwb (by show 0 < 3; decide) (by show 3 ≤ 10; decide) hws ?_
        intro p t H7 np t7 g7 h7
        refine Z.r_ap (t7 _ _ nDb hD) (by rw [List.length_map]; omega) fun H8 t8 h8 => ?_
        have npD : p ≠ D := (ne_of_none hD np).symm
        refine ⟨ts ++ [(p, t)], by rw [List.length_append, hl]; rfl, by rw [h8, List.map_append]; rfl, fun x hx => ?_, t8 _ _ nDw.symm (t7 _ _ nwb hwl6), (g7.but t8 nDb.symm).mono (by omega), fun b' o n e => t8 _ _ (ne_of_none e nD) (t7 _ _ n (t6 _ _ n e)), nDb, nDw⟩
        rcases List.mem_append.mp hx with hx | hx
        · have z := hts x hx
          exact (z.but t7 (z.ne' g6)).but t8 (z.ne hD)
        · have : x = (p, t) := by simpa using hx
          rw [this]
          exact h7.but t8 npD
      · rintro D H6 nD ⟨ts, hl, hD, hts, hwl6, g6, t6, nDb, nDw⟩
        have z6 : Same H0 H6 := Z.But.back s1 nb ((((t2.trans t3).trans (Z.But.same s4)).trans t5).trans t6)
        have hl2 : 2 ≤ ts.length ∧ ts.length ≤ 4 := by omega
        have hz0 : atI (ts.map fun x => V.ref x.1) 0 = some (.ref (ts[0]'(by omega)).1) := atI_nat (j := 0) (by rw [List.getElem?_map, List.getElem?_eq_getElem (by omega)]; rfl)
        walk_at "go"
        intro p8 H8 np8 s8 hp8
        refine Z.r_cat (s8 _ _ hD) hp8 (by rw [List.length_map]; show ts.length + 1 ≤ 100000; omega) fun TL H9 nTL s9 hTL => ?_
        have ⟨us, hus⟩ : ∃ us, us = ts ++ [ts[0]'(by omega)] := ⟨_, rfl⟩
        have hTL' : H9 TL = some (.lst (us.map fun x => V.ref x.1)) := by rw [hTL, hus, List.map_append]; rfl
        have hul : us.length = ts.length + 1 := by rw [hus, List.length_append]; rfl
        have htu : ∀ x ∈ us, TagAt H9 x.1 x.2 := fun x hx => by
          have hx' : x ∈ ts := by
            rw [hus] at hx
            rcases List.mem_append.mp hx with h | h
            · exact h
            · rw [List.mem_singleton.mp h]; exact List.getElem_mem (by omega)
          exact ((hts x hx').same s8).same s9
        have z9 : Same H0 H9 := (z6.trans s8).trans s9
        clear hts hD hz0
        walk_at "go"
        refine Z.r_lcL (SqL.of hTL') (fun _ => rfl) (fun D' i H' => Same H9 H' ∧ ∃ xs : List V, xs.length = i ∧ H' D' = some (.lst xs) ∧ ∀ (j : Nat) (x : V) (t : Addr × Tag), xs[j]? = some x → us[j]? = some t → Rep T.C_Unnumbered H' x t.2) ?_ ?_ ?_ ?_
        · intro D' H10 nD' s10 h10
          exact ⟨s10, [], rfl, h10, fun j x t hj => by simp at hj⟩
        · rintro D' i' H10 nD' ⟨s10, _⟩
          exact SqL.of (s10 _ _ hTL')
        · rintro D' i' x H10 nD' hx ⟨s10, xs, hxl, hD', hrep⟩
          rw [List.getElem?_map] at hx
          cases hu : us[i']? with
          | none => rw [hu] at hx; cases hx
          | some t =>
            rw [hu] at hx
            cases hx
            walk_at "go"
            refine k_law_made ((htu t (List.mem_of_getElem? hu)).same s10) ?_
            intro y H11 s11 hy
            have lu : i' < us.length := (List.getElem?_eq_some_iff.mp hu).1
            refine Z.r_ap (s11 _ _ hD') (by omega) fun H12 t12 h12 => ?_
            refine ⟨fun b' o h => t12 _ _ (ne_of_none h nD') (s11 _ _ (s10 _ _ h)), xs ++ [y], by rw [List.length_append, hxl]; rfl, h12, fun j z t' hj ht' => ?_⟩
            by_cases hji : j < xs.length
            · rw [List.getElem?_append_left hji] at hj
              exact ((hrep j z t' hj ht').same s11).but t12 (s11 _ _ hD')
            · have hj2 : j = i' := by
                have := (List.getElem?_eq_some_iff.mp hj).1
                rw [List.length_append] at this
                have : ([y] : List V).length = 1 := rfl
                omega
              subst hj2
              rw [List.getElem?_append_right (by omega), hxl, Nat.sub_self] at hj
              have e1 : y = z := Option.some.inj hj
              rw [hu] at ht'
              have e2 := Option.some.inj ht'
              rw [← e1, ← e2]
              exact hy.but t12 (s11 _ _ hD')
        · rintro TH H10 nTH ⟨s10, xs, hxl, hTH, hrep⟩
          rw [List.length_map] at hxl
          have hTL10 := s10 _ _ hTL'
          have htu10 : ∀ x ∈ us, TagAt H10 x.1 x.2 := fun x hx => (htu x hx).same s10
          have z10 : Same H0 H10 := z9.trans s10
          have n1 : us.length ≤ 6 := by omega
          walk_at "go"
          intro SL H20 nSL s20 hSL
          have hsg : ∀ (m : Nat) (x : V), [V.str "<", .str "<=", .str ">", .str ">=", .str "==", .str "!="][m]? = some x → ∃ g, x = .str g ∧ Sign g := by
            intro m x hm
            match m, hm with
            | 0, hm => exact ⟨_, (Option.some.inj hm).symm, by unfold Sign; decide +kernel⟩
            | 1, hm => exact ⟨_, (Option.some.inj hm).symm, by unfold Sign; decide +kernel⟩
            | 2, hm => exact ⟨_, (Option.some.inj hm).symm, by unfold Sign; decide +kernel⟩
            | 3, hm => exact ⟨_, (Option.some.inj hm).symm, by unfold Sign; decide +kernel⟩
            | 4, hm => exact ⟨_, (Option.some.inj hm).symm, by unfold Sign; decide +kernel⟩
            | 5, hm => exact ⟨_, (Option.some.inj hm).symm, by unfold Sign; decide +kernel⟩
            | _ + 6, hm => cases hm
          refine Z.r_lst_by (SqL.of hSL) (fun i' σ' H' => Same H20 H' ∧ ∃ u6 u7 u8 u9 u10, σ' = [some (.ref a), some (.int i), some (.ref b), some (.ref wl), some (.ref TL), some (.ref TH), u6, u7, u8, u9, u10]) ?_ ?_ ?_ ?_
          · exact ⟨Same.refl _, _, _, _, _, _, rfl⟩
          · rintro i0 σ' H' ⟨s, _⟩
            exact SqL.of (s _ _ hSL)
          · rintro i0 sg σ' H21 hi0 ⟨s21, u6, u7, u8, u9, u10, rfl⟩
            obtain ⟨g, rfl, hg⟩ := hsg i0 sg hi0
            have h21 := (s20.trans s21) _ _ hTL10
            walk_at "go"
            rw [List.length_map]
            refine Z.r_rng (by omega) (by omega) (fun i' σ' H' => Same H10 H' ∧ Same H20 H' ∧ ∃ u7 u8 u9 u10, σ' = [some (.ref a), some (.int i), some (.ref b), some (.ref wl), some (.ref TL), some (.ref TH), some (.str g), u7, u8, u9, u10]) ?_ ?_ ?_
            · exact ⟨s20.trans s21, s21, _, _, _, _, rfl⟩
            · rintro i1 σ' H11 hi1 ⟨s11, s11', u7, u8, u9, u10, rfl⟩
              have h11 := s11 _ _ hTL10
              walk_at "go"
              rw [List.length_map]
              refine Z.r_rng (by omega) (by omega) (fun i' σ' H' => Same H10 H' ∧ Same H20 H' ∧ ∃ u8 u9 u10, σ' = [some (.ref a), some (.int i), some (.ref b), some (.ref wl), some (.ref TL), some (.ref TH), some (.str g), some (.int i1), u8, u9, u10]) ?_ ?_ ?_
              · exact ⟨s11, s11', _, _, _, rfl⟩
              · rintro i2 σ' H12 hi2 ⟨s12, s12', w8, w9, w10, rfl⟩
                have l1 : i1 < us.length := by omega
                have l2 : i2 < us.length := by omega
                have e1 : xs[i1]? = some xs[i1] := List.getElem?_eq_getElem (by omega)
                have e2 : xs[i2]? = some xs[i2] := List.getElem?_eq_getElem (by omega)
                have f1 : us[i1]? = some us[i1] := List.getElem?_eq_getElem l1
                have f2 : us[i2]? = some us[i2] := List.getElem?_eq_getElem l2
                have rep1 := (hrep i1 _ _ e1 f1).same s12
                have rep2 := (hrep i2 _ _ e2 f2).same s12
                have tg1 := (htu10 _ (List.getElem_mem l1)).same s12
                have tg2 := (htu10 _ (List.getElem_mem l2)).same s12
                have hx1 := atI_nat e1
                have hx2 := atI_nat e2
                have hp1 : atI (us.map fun x => V.ref x.1) (i1 : Int) = some (.ref us[i1].1) := atI_nat (by rw [List.getElem?_map, f1]; rfl)
                have hp2 : atI (us.map fun x => V.ref x.1) (i2 : Int) = some (.ref us[i2].1) := atI_nat (by rw [List.getElem?_map, f2]; rfl)
                have hTH12 := s12 _ _ hTH
                have hTL12 := s12 _ _ hTL10
                walk_at "go"
                refine k_holds hg rep1 rep2 ?_
                walk_at "go"
                refine k_law_due hg tg1 tg2 ?_
                intro H13 s13
                walk_at "go"
                refine Z.no (by simp) ?_
                walk_at "go"
                exact ⟨s12.trans s13, s12'.trans s13, _, _, _, rfl⟩
              · rintro σ' H12 ⟨s12, s12', w8, w9, w10, rfl⟩
                walk_at "go"
                exact ⟨s12, s12', _, _, _, _, rfl⟩
            · rintro σ' H11 ⟨s11, s11', u7, u8, u9, u10, rfl⟩
              walk_at "go"
              exact ⟨s11', _, _, _, _, _, rfl⟩
          · rintro σ' H21 ⟨s21, u6, u7, u8, u9, u10, rfl⟩
            walk_at "go"
            exact ⟨s0.trans (z10.trans (s20.trans s21)), _, _, _, _, _, _, _, _, _, _, rfl⟩
    · rintro σ' H' ⟨_, v1, v2, v3, v4, v5, v6, v7, v8, v9, v10, rfl⟩
      walk_at "go"
      exact q _

end
theorem all_mk {l : PySem.W.OpenLaw} {w : World} {K : PySem.W.Frag} {h : Heap} {mg : Str → Option Value} {fa : Addr} (X : K.In h) (G : h.Ns mainGlobals mg) (hfa : mg "law" = some (.ref fa)) {C_Unnumbered f_law_draw f_law_bag f_law_number f_law_word f_is_number f_Unnumbered___init f_is_entry f_is_value f_Unnumbered___eq f_Unnumbered___ne f_Unnumbered___lt f_Unnumbered___le f_Unnumbered___gt f_Unnumbered___ge f_holds f_law_says f_law_tag f_law_made f_law_due f_law : Addr}
    {od_law_draw an_law_draw : Option Addr} {sl_law_draw : Array (Option Value)} {oc_law_draw kV_law_draw dc_law_draw pm_law_draw cd_law_draw ct_law_draw : Value}
    {od_law_bag an_law_bag : Option Addr} {sl_law_bag : Array (Option Value)} {oc_law_bag kV_law_bag dc_law_bag pm_law_bag cd_law_bag ct_law_bag : Value}
    {od_law_number an_law_number : Option Addr} {sl_law_number : Array (Option Value)} {oc_law_number kV_law_number dc_law_number pm_law_number cd_law_number ct_law_number : Value}
    {od_law_word an_law_word : Option Addr} {sl_law_word : Array (Option Value)} {oc_law_word kV_law_word dc_law_word pm_law_word cd_law_word ct_law_word : Value}
    {od_is_number an_is_number : Option Addr} {sl_is_number : Array (Option Value)} {oc_is_number kV_is_number dc_is_number pm_is_number cd_is_number ct_is_number : Value}
    {od_Unnumbered___init an_Unnumbered___init : Option Addr} {sl_Unnumbered___init : Array (Option Value)} {oc_Unnumbered___init kV_Unnumbered___init dc_Unnumbered___init pm_Unnumbered___init cd_Unnumbered___init ct_Unnumbered___init : Value}
    {od_is_entry an_is_entry : Option Addr} {sl_is_entry : Array (Option Value)} {oc_is_entry kV_is_entry dc_is_entry pm_is_entry cd_is_entry ct_is_entry : Value}
    {od_is_value an_is_value : Option Addr} {sl_is_value : Array (Option Value)} {oc_is_value kV_is_value dc_is_value pm_is_value cd_is_value ct_is_value : Value}
    {od_Unnumbered___eq an_Unnumbered___eq : Option Addr} {sl_Unnumbered___eq : Array (Option Value)} {oc_Unnumbered___eq kV_Unnumbered___eq dc_Unnumbered___eq pm_Unnumbered___eq cd_Unnumbered___eq ct_Unnumbered___eq : Value}
    {od_Unnumbered___ne an_Unnumbered___ne : Option Addr} {sl_Unnumbered___ne : Array (Option Value)} {oc_Unnumbered___ne kV_Unnumbered___ne dc_Unnumbered___ne pm_Unnumbered___ne cd_Unnumbered___ne ct_Unnumbered___ne : Value}
    {od_Unnumbered___lt an_Unnumbered___lt : Option Addr} {sl_Unnumbered___lt : Array (Option Value)} {oc_Unnumbered___lt kV_Unnumbered___lt dc_Unnumbered___lt pm_Unnumbered___lt cd_Unnumbered___lt ct_Unnumbered___lt : Value}
    {od_Unnumbered___le an_Unnumbered___le : Option Addr} {sl_Unnumbered___le : Array (Option Value)} {oc_Unnumbered___le kV_Unnumbered___le dc_Unnumbered___le pm_Unnumbered___le cd_Unnumbered___le ct_Unnumbered___le : Value}
    {od_Unnumbered___gt an_Unnumbered___gt : Option Addr} {sl_Unnumbered___gt : Array (Option Value)} {oc_Unnumbered___gt kV_Unnumbered___gt dc_Unnumbered___gt pm_Unnumbered___gt cd_Unnumbered___gt ct_Unnumbered___gt : Value}
    {od_Unnumbered___ge an_Unnumbered___ge : Option Addr} {sl_Unnumbered___ge : Array (Option Value)} {oc_Unnumbered___ge kV_Unnumbered___ge dc_Unnumbered___ge pm_Unnumbered___ge cd_Unnumbered___ge ct_Unnumbered___ge : Value}
    {od_holds an_holds : Option Addr} {sl_holds : Array (Option Value)} {oc_holds kV_holds dc_holds pm_holds cd_holds ct_holds : Value}
    {od_law_says an_law_says : Option Addr} {sl_law_says : Array (Option Value)} {oc_law_says kV_law_says dc_law_says pm_law_says cd_law_says ct_law_says : Value}
    {od_law_tag an_law_tag : Option Addr} {sl_law_tag : Array (Option Value)} {oc_law_tag kV_law_tag dc_law_tag pm_law_tag cd_law_tag ct_law_tag : Value}
    {od_law_made an_law_made : Option Addr} {sl_law_made : Array (Option Value)} {oc_law_made kV_law_made dc_law_made pm_law_made cd_law_made ct_law_made : Value}
    {od_law_due an_law_due : Option Addr} {sl_law_due : Array (Option Value)} {oc_law_due kV_law_due dc_law_due pm_law_due cd_law_due ct_law_due : Value}
    {od_law an_law : Option Addr} {sl_law : Array (Option Value)} {oc_law kV_law dc_law pm_law cd_law ct_law : Value}
    (aC_Unnumbered : PySem.W.nsIn K mainGlobals "Unnumbered" = some (some (.ref C_Unnumbered)))
    (a_law_draw : PySem.W.nsIn K mainGlobals "_law_draw" = some (some (.ref f_law_draw)))
    (l_law_draw : K.lookup f_law_draw = some ⟨oc_law_draw, od_law_draw, .func (PySem.W.fnOf "_law_draw" "_law_draw" (defArgs s_law_draw) (defBody s_law_draw) (defScope s_law_draw) .none kV_law_draw dc_law_draw pm_law_draw an_law_draw cd_law_draw ct_law_draw), sl_law_draw⟩)
    (c_law_draw : PySem.W.codeIn K cd_law_draw "_law_draw" = true)
    (k_law_draw : PySem.W.keepIn K (.ref f_law_draw) = true)
    (a_law_bag : PySem.W.nsIn K mainGlobals "_law_bag" = some (some (.ref f_law_bag)))
    (l_law_bag : K.lookup f_law_bag = some ⟨oc_law_bag, od_law_bag, .func (PySem.W.fnOf "_law_bag" "_law_bag" (defArgs s_law_bag) (defBody s_law_bag) (defScope s_law_bag) .none kV_law_bag dc_law_bag pm_law_bag an_law_bag cd_law_bag ct_law_bag), sl_law_bag⟩)
    (c_law_bag : PySem.W.codeIn K cd_law_bag "_law_bag" = true)
    (k_law_bag : PySem.W.keepIn K (.ref f_law_bag) = true)
    (a_law_number : PySem.W.nsIn K mainGlobals "_law_number" = some (some (.ref f_law_number)))
    (l_law_number : K.lookup f_law_number = some ⟨oc_law_number, od_law_number, .func (PySem.W.fnOf "_law_number" "_law_number" (defArgs s_law_number) (defBody s_law_number) (defScope s_law_number) .none kV_law_number dc_law_number pm_law_number an_law_number cd_law_number ct_law_number), sl_law_number⟩)
    (c_law_number : PySem.W.codeIn K cd_law_number "_law_number" = true)
    (k_law_number : PySem.W.keepIn K (.ref f_law_number) = true)
    (a_law_word : PySem.W.nsIn K mainGlobals "_law_word" = some (some (.ref f_law_word)))
    (l_law_word : K.lookup f_law_word = some ⟨oc_law_word, od_law_word, .func (PySem.W.fnOf "_law_word" "_law_word" (defArgs s_law_word) (defBody s_law_word) (defScope s_law_word) .none kV_law_word dc_law_word pm_law_word an_law_word cd_law_word ct_law_word), sl_law_word⟩)
    (c_law_word : PySem.W.codeIn K cd_law_word "_law_word" = true)
    (k_law_word : PySem.W.keepIn K (.ref f_law_word) = true)
    (a_is_number : PySem.W.nsIn K mainGlobals "is_number" = some (some (.ref f_is_number)))
    (l_is_number : K.lookup f_is_number = some ⟨oc_is_number, od_is_number, .func (PySem.W.fnOf "is_number" "is_number" (defArgs s_is_number) (defBody s_is_number) (defScope s_is_number) .none kV_is_number dc_is_number pm_is_number an_is_number cd_is_number ct_is_number), sl_is_number⟩)
    (c_is_number : PySem.W.codeIn K cd_is_number "is_number" = true)
    (k_is_number : PySem.W.keepIn K (.ref f_is_number) = true)
    (a_Unnumbered___init : PySem.W.findIn K (.ref C_Unnumbered) "__init__" = some (some (.ref f_Unnumbered___init)))
    (i_Unnumbered___init : PySem.W.isFn K (.ref f_Unnumbered___init) = true)
    (l_Unnumbered___init : K.lookup f_Unnumbered___init = some ⟨oc_Unnumbered___init, od_Unnumbered___init, .func (PySem.W.fnOf "__init__" "Unnumbered.__init__" (defArgs s_Unnumbered___init) (defBody s_Unnumbered___init) (defScope s_Unnumbered___init) .none kV_Unnumbered___init dc_Unnumbered___init pm_Unnumbered___init an_Unnumbered___init cd_Unnumbered___init ct_Unnumbered___init), sl_Unnumbered___init⟩)
    (c_Unnumbered___init : PySem.W.codeIn K cd_Unnumbered___init "Unnumbered.__init__" = true)
    (k_Unnumbered___init : PySem.W.keepIn K (.ref f_Unnumbered___init) = true)
    (a_is_entry : PySem.W.nsIn K mainGlobals "is_entry" = some (some (.ref f_is_entry)))
    (l_is_entry : K.lookup f_is_entry = some ⟨oc_is_entry, od_is_entry, .func (PySem.W.fnOf "is_entry" "is_entry" (defArgs s_is_entry) (defBody s_is_entry) (defScope s_is_entry) .none kV_is_entry dc_is_entry pm_is_entry an_is_entry cd_is_entry ct_is_entry), sl_is_entry⟩)
    (c_is_entry : PySem.W.codeIn K cd_is_entry "is_entry" = true)
    (k_is_entry : PySem.W.keepIn K (.ref f_is_entry) = true)
    (a_is_value : PySem.W.nsIn K mainGlobals "_is_value" = some (some (.ref f_is_value)))
    (l_is_value : K.lookup f_is_value = some ⟨oc_is_value, od_is_value, .func (PySem.W.fnOf "_is_value" "_is_value" (defArgs s_is_value) (defBody s_is_value) (defScope s_is_value) .none kV_is_value dc_is_value pm_is_value an_is_value cd_is_value ct_is_value), sl_is_value⟩)
    (c_is_value : PySem.W.codeIn K cd_is_value "_is_value" = true)
    (k_is_value : PySem.W.keepIn K (.ref f_is_value) = true)
    (a_Unnumbered___eq : PySem.W.findIn K (.ref C_Unnumbered) "__eq__" = some (some (.ref f_Unnumbered___eq)))
    (i_Unnumbered___eq : PySem.W.isFn K (.ref f_Unnumbered___eq) = true)
    (l_Unnumbered___eq : K.lookup f_Unnumbered___eq = some ⟨oc_Unnumbered___eq, od_Unnumbered___eq, .func (PySem.W.fnOf "__eq__" "Unnumbered.__eq__" (defArgs s_Unnumbered___eq) (defBody s_Unnumbered___eq) (defScope s_Unnumbered___eq) .none kV_Unnumbered___eq dc_Unnumbered___eq pm_Unnumbered___eq an_Unnumbered___eq cd_Unnumbered___eq ct_Unnumbered___eq), sl_Unnumbered___eq⟩)
    (c_Unnumbered___eq : PySem.W.codeIn K cd_Unnumbered___eq "Unnumbered.__eq__" = true)
    (k_Unnumbered___eq : PySem.W.keepIn K (.ref f_Unnumbered___eq) = true)
    (a_Unnumbered___ne : PySem.W.findIn K (.ref C_Unnumbered) "__ne__" = some (some (.ref f_Unnumbered___ne)))
    (i_Unnumbered___ne : PySem.W.isFn K (.ref f_Unnumbered___ne) = true)
    (l_Unnumbered___ne : K.lookup f_Unnumbered___ne = some ⟨oc_Unnumbered___ne, od_Unnumbered___ne, .func (PySem.W.fnOf "__ne__" "Unnumbered.__ne__" (defArgs s_Unnumbered___ne) (defBody s_Unnumbered___ne) (defScope s_Unnumbered___ne) .none kV_Unnumbered___ne dc_Unnumbered___ne pm_Unnumbered___ne an_Unnumbered___ne cd_Unnumbered___ne ct_Unnumbered___ne), sl_Unnumbered___ne⟩)
    (c_Unnumbered___ne : PySem.W.codeIn K cd_Unnumbered___ne "Unnumbered.__ne__" = true)
    (k_Unnumbered___ne : PySem.W.keepIn K (.ref f_Unnumbered___ne) = true)
    (a_Unnumbered___lt : PySem.W.findIn K (.ref C_Unnumbered) "__lt__" = some (some (.ref f_Unnumbered___lt)))
    (i_Unnumbered___lt : PySem.W.isFn K (.ref f_Unnumbered___lt) = true)
    (l_Unnumbered___lt : K.lookup f_Unnumbered___lt = some ⟨oc_Unnumbered___lt, od_Unnumbered___lt, .func (PySem.W.fnOf "__lt__" "Unnumbered.__lt__" (defArgs s_Unnumbered___lt) (defBody s_Unnumbered___lt) (defScope s_Unnumbered___lt) .none kV_Unnumbered___lt dc_Unnumbered___lt pm_Unnumbered___lt an_Unnumbered___lt cd_Unnumbered___lt ct_Unnumbered___lt), sl_Unnumbered___lt⟩)
    (c_Unnumbered___lt : PySem.W.codeIn K cd_Unnumbered___lt "Unnumbered.__lt__" = true)
    (k_Unnumbered___lt : PySem.W.keepIn K (.ref f_Unnumbered___lt) = true)
    (a_Unnumbered___le : PySem.W.findIn K (.ref C_Unnumbered) "__le__" = some (some (.ref f_Unnumbered___le)))
    (i_Unnumbered___le : PySem.W.isFn K (.ref f_Unnumbered___le) = true)
    (l_Unnumbered___le : K.lookup f_Unnumbered___le = some ⟨oc_Unnumbered___le, od_Unnumbered___le, .func (PySem.W.fnOf "__le__" "Unnumbered.__le__" (defArgs s_Unnumbered___le) (defBody s_Unnumbered___le) (defScope s_Unnumbered___le) .none kV_Unnumbered___le dc_Unnumbered___le pm_Unnumbered___le an_Unnumbered___le cd_Unnumbered___le ct_Unnumbered___le), sl_Unnumbered___le⟩)
    (c_Unnumbered___le : PySem.W.codeIn K cd_Unnumbered___le "Unnumbered.__le__" = true)
    (k_Unnumbered___le : PySem.W.keepIn K (.ref f_Unnumbered___le) = true)
    (a_Unnumbered___gt : PySem.W.findIn K (.ref C_Unnumbered) "__gt__" = some (some (.ref f_Unnumbered___gt)))
    (i_Unnumbered___gt : PySem.W.isFn K (.ref f_Unnumbered___gt) = true)
    (l_Unnumbered___gt : K.lookup f_Unnumbered___gt = some ⟨oc_Unnumbered___gt, od_Unnumbered___gt, .func (PySem.W.fnOf "__gt__" "Unnumbered.__gt__" (defArgs s_Unnumbered___gt) (defBody s_Unnumbered___gt) (defScope s_Unnumbered___gt) .none kV_Unnumbered___gt dc_Unnumbered___gt pm_Unnumbered___gt an_Unnumbered___gt cd_Unnumbered___gt ct_Unnumbered___gt), sl_Unnumbered___gt⟩)
    (c_Unnumbered___gt : PySem.W.codeIn K cd_Unnumbered___gt "Unnumbered.__gt__" = true)
    (k_Unnumbered___gt : PySem.W.keepIn K (.ref f_Unnumbered___gt) = true)
    (a_Unnumbered___ge : PySem.W.findIn K (.ref C_Unnumbered) "__ge__" = some (some (.ref f_Unnumbered___ge)))
    (i_Unnumbered___ge : PySem.W.isFn K (.ref f_Unnumbered___ge) = true)
    (l_Unnumbered___ge : K.lookup f_Unnumbered___ge = some ⟨oc_Unnumbered___ge, od_Unnumbered___ge, .func (PySem.W.fnOf "__ge__" "Unnumbered.__ge__" (defArgs s_Unnumbered___ge) (defBody s_Unnumbered___ge) (defScope s_Unnumbered___ge) .none kV_Unnumbered___ge dc_Unnumbered___ge pm_Unnumbered___ge an_Unnumbered___ge cd_Unnumbered___ge ct_Unnumbered___ge), sl_Unnumbered___ge⟩)
    (c_Unnumbered___ge : PySem.W.codeIn K cd_Unnumbered___ge "Unnumbered.__ge__" = true)
    (k_Unnumbered___ge : PySem.W.keepIn K (.ref f_Unnumbered___ge) = true)
    (a_holds : PySem.W.nsIn K mainGlobals "holds" = some (some (.ref f_holds)))
    (l_holds : K.lookup f_holds = some ⟨oc_holds, od_holds, .func (PySem.W.fnOf "holds" "holds" (defArgs s_holds) (defBody s_holds) (defScope s_holds) .none kV_holds dc_holds pm_holds an_holds cd_holds ct_holds), sl_holds⟩)
    (c_holds : PySem.W.codeIn K cd_holds "holds" = true)
    (k_holds : PySem.W.keepIn K (.ref f_holds) = true)
    (a_law_says : PySem.W.nsIn K mainGlobals "_law_says" = some (some (.ref f_law_says)))
    (l_law_says : K.lookup f_law_says = some ⟨oc_law_says, od_law_says, .func (PySem.W.fnOf "_law_says" "_law_says" (defArgs s_law_says) (defBody s_law_says) (defScope s_law_says) .none kV_law_says dc_law_says pm_law_says an_law_says cd_law_says ct_law_says), sl_law_says⟩)
    (c_law_says : PySem.W.codeIn K cd_law_says "_law_says" = true)
    (k_law_says : PySem.W.keepIn K (.ref f_law_says) = true)
    (a_law_tag : PySem.W.nsIn K mainGlobals "_law_tag" = some (some (.ref f_law_tag)))
    (l_law_tag : K.lookup f_law_tag = some ⟨oc_law_tag, od_law_tag, .func (PySem.W.fnOf "_law_tag" "_law_tag" (defArgs s_law_tag) (defBody s_law_tag) (defScope s_law_tag) .none kV_law_tag dc_law_tag pm_law_tag an_law_tag cd_law_tag ct_law_tag), sl_law_tag⟩)
    (c_law_tag : PySem.W.codeIn K cd_law_tag "_law_tag" = true)
    (k_law_tag : PySem.W.keepIn K (.ref f_law_tag) = true)
    (a_law_made : PySem.W.nsIn K mainGlobals "_law_made" = some (some (.ref f_law_made)))
    (l_law_made : K.lookup f_law_made = some ⟨oc_law_made, od_law_made, .func (PySem.W.fnOf "_law_made" "_law_made" (defArgs s_law_made) (defBody s_law_made) (defScope s_law_made) .none kV_law_made dc_law_made pm_law_made an_law_made cd_law_made ct_law_made), sl_law_made⟩)
    (c_law_made : PySem.W.codeIn K cd_law_made "_law_made" = true)
    (k_law_made : PySem.W.keepIn K (.ref f_law_made) = true)
    (a_law_due : PySem.W.nsIn K mainGlobals "_law_due" = some (some (.ref f_law_due)))
    (l_law_due : K.lookup f_law_due = some ⟨oc_law_due, od_law_due, .func (PySem.W.fnOf "_law_due" "_law_due" (defArgs s_law_due) (defBody s_law_due) (defScope s_law_due) .none kV_law_due dc_law_due pm_law_due an_law_due cd_law_due ct_law_due), sl_law_due⟩)
    (c_law_due : PySem.W.codeIn K cd_law_due "_law_due" = true)
    (k_law_due : PySem.W.keepIn K (.ref f_law_due) = true)
    (a_law : PySem.W.nsIn K mainGlobals "law" = some (some (.ref f_law)))
    (l_law : K.lookup f_law = some ⟨oc_law, od_law, .func (PySem.W.fnOf "law" "law" (defArgs s_law) (defBody s_law) (defScope s_law) .none kV_law dc_law pm_law an_law cd_law ct_law), sl_law⟩)
    (c_law : PySem.W.codeIn K cd_law "law" = true)
    (k_law : PySem.W.keepIn K (.ref f_law) = true)
    (pg_Unnumbered : PySem.W.plainGet K C_Unnumbered Str.empty = true)
    (hd_Unnumbered : PySem.W.hasDictIn K C_Unnumbered = true)
    (po_Unnumbered : PySem.W.plainOver K C_Unnumbered = true)
    (sa_Unnumbered : PySem.W.findIn K (.ref C_Unnumbered) "__setattr__" = some (some (.builtin "object.__setattr__")))
    (ca_Unnumbered : PySem.W.findIn K (.ref C_Unnumbered) "__class__" = some (some (.builtin "object.__class__")))
    (cm_Unnumbered : PySem.W.mroIn K C_Unnumbered (.type "object") = some true)
    (mk_Unnumbered : PySem.W.makesIn K C_Unnumbered = true)
    (kc_Unnumbered : PySem.W.keepIn K (.ref C_Unnumbered) = true)
    (ocn : PySem.W.specialIn K (.builtin "object.__class__") "__get__" = some (some (.builtin "getset_descriptor.__get__")))
    (oct : PySem.W.takesIn K (.builtin "object.__class__") = some true)
    (no_Unnumbered_name : PySem.W.findIn K (.ref C_Unnumbered) "name" = some none)
    (z_abs : PySem.W.nsIn K mainGlobals "abs" = some none)
    (z_bool : PySem.W.nsIn K mainGlobals "bool" = some none)
    (z_int : PySem.W.nsIn K mainGlobals "int" = some none)
    (z_isinstance : PySem.W.nsIn K mainGlobals "isinstance" = some none)
    (z_len : PySem.W.nsIn K mainGlobals "len" = some none)
    (z_max : PySem.W.nsIn K mainGlobals "max" = some none)
    (z_min : PySem.W.nsIn K mainGlobals "min" = some none)
    (z_range : PySem.W.nsIn K mainGlobals "range" = some none)
    (ki_NoneType_Unnumbered : PySem.W.kitOne K (.type "NoneType") (.ref C_Unnumbered) = some false)
    (ki_bool_Unnumbered : PySem.W.kitOne K (.type "bool") (.ref C_Unnumbered) = some false)
    (ki_int_Unnumbered : PySem.W.kitOne K (.type "int") (.ref C_Unnumbered) = some false)
    (ki_str_Unnumbered : PySem.W.kitOne K (.type "str") (.ref C_Unnumbered) = some false)
    (ki_list_Unnumbered : PySem.W.kitOne K (.type "list") (.ref C_Unnumbered) = some false)
    (ki_tuple_Unnumbered : PySem.W.kitOne K (.type "tuple") (.ref C_Unnumbered) = some false)
    (ki_Unnumbered_Unnumbered : PySem.W.kitOne K (.ref C_Unnumbered) (.ref C_Unnumbered) = some true)
    (ki_Unnumbered_bool : PySem.W.kitOne K (.ref C_Unnumbered) (.type "bool") = some false)
    (ki_Unnumbered_int : PySem.W.kitOne K (.ref C_Unnumbered) (.type "int") = some false)
    : ∃ fd : FuncData, (∀ (s : Shared) (v : Value), BindsTo s fd ⟨[v], []⟩ [("_law_script", v)]) ∧ ∀ base : Heap, K.In base → base.Ns mainGlobals mg → FnOk l.prog w K mg base CX0 6 fa fd ["_law_script"] (sp_law K) := by
  have e := hfa.symm.trans (PySem.W.mg_of X G a_law)
  cases e
  have F_law_draw := fun_mk (st := s_law_draw) l_law_draw c_law_draw k_law_draw
  have B_law_draw := F_law_draw.binds (ps := ["_law_bag_here", "_law_many"]) fun _ _ _ _ _ _ us hl => match us, hl with | [_, _], _ => rfl
  have F_law_bag := fun_mk (st := s_law_bag) l_law_bag c_law_bag k_law_bag
  have B_law_bag := F_law_bag.binds (ps := ["_law_script", "_law_at"]) fun _ _ _ _ _ _ us hl => match us, hl with | [_, _], _ => rfl
  have F_law_number := fun_mk (st := s_law_number) l_law_number c_law_number k_law_number
  have B_law_number := F_law_number.binds (ps := ["_law_bag_here"]) fun _ _ _ _ _ _ us hl => match us, hl with | [_], _ => rfl
  have F_law_word := fun_mk (st := s_law_word) l_law_word c_law_word k_law_word
  have B_law_word := F_law_word.binds (ps := ["_law_bag_here"]) fun _ _ _ _ _ _ us hl => match us, hl with | [_], _ => rfl
  have F_is_number := fun_mk (st := s_is_number) l_is_number c_is_number k_is_number
  have B_is_number := F_is_number.binds (ps := ["thing"]) fun _ _ _ _ _ _ us hl => match us, hl with | [_], _ => rfl
  have F_Unnumbered___init := fun_mk (st := s_Unnumbered___init) l_Unnumbered___init c_Unnumbered___init k_Unnumbered___init
  have B_Unnumbered___init := F_Unnumbered___init.binds (ps := ["self", "name"]) fun _ _ _ _ _ _ us hl => match us, hl with | [_, _], _ => rfl
  have F_is_entry := fun_mk (st := s_is_entry) l_is_entry c_is_entry k_is_entry
  have B_is_entry := F_is_entry.binds (ps := ["thing"]) fun _ _ _ _ _ _ us hl => match us, hl with | [_], _ => rfl
  have F_is_value := fun_mk (st := s_is_value) l_is_value c_is_value k_is_value
  have B_is_value := F_is_value.binds (ps := ["thing"]) fun _ _ _ _ _ _ us hl => match us, hl with | [_], _ => rfl
  have F_Unnumbered___eq := fun_mk (st := s_Unnumbered___eq) l_Unnumbered___eq c_Unnumbered___eq k_Unnumbered___eq
  have B_Unnumbered___eq := F_Unnumbered___eq.binds (ps := ["self", "other"]) fun _ _ _ _ _ _ us hl => match us, hl with | [_, _], _ => rfl
  have F_Unnumbered___ne := fun_mk (st := s_Unnumbered___ne) l_Unnumbered___ne c_Unnumbered___ne k_Unnumbered___ne
  have B_Unnumbered___ne := F_Unnumbered___ne.binds (ps := ["self", "other"]) fun _ _ _ _ _ _ us hl => match us, hl with | [_, _], _ => rfl
  have F_Unnumbered___lt := fun_mk (st := s_Unnumbered___lt) l_Unnumbered___lt c_Unnumbered___lt k_Unnumbered___lt
  have B_Unnumbered___lt := F_Unnumbered___lt.binds (ps := ["self", "other"]) fun _ _ _ _ _ _ us hl => match us, hl with | [_, _], _ => rfl
  have F_Unnumbered___le := fun_mk (st := s_Unnumbered___le) l_Unnumbered___le c_Unnumbered___le k_Unnumbered___le
  have B_Unnumbered___le := F_Unnumbered___le.binds (ps := ["self", "other"]) fun _ _ _ _ _ _ us hl => match us, hl with | [_, _], _ => rfl
  have F_Unnumbered___gt := fun_mk (st := s_Unnumbered___gt) l_Unnumbered___gt c_Unnumbered___gt k_Unnumbered___gt
  have B_Unnumbered___gt := F_Unnumbered___gt.binds (ps := ["self", "other"]) fun _ _ _ _ _ _ us hl => match us, hl with | [_, _], _ => rfl
  have F_Unnumbered___ge := fun_mk (st := s_Unnumbered___ge) l_Unnumbered___ge c_Unnumbered___ge k_Unnumbered___ge
  have B_Unnumbered___ge := F_Unnumbered___ge.binds (ps := ["self", "other"]) fun _ _ _ _ _ _ us hl => match us, hl with | [_, _], _ => rfl
  have F_holds := fun_mk (st := s_holds) l_holds c_holds k_holds
  have B_holds := F_holds.binds (ps := ["sign", "one", "other"]) fun _ _ _ _ _ _ us hl => match us, hl with | [_, _, _], _ => rfl
  have F_law_says := fun_mk (st := s_law_says) l_law_says c_law_says k_law_says
  have B_law_says := F_law_says.binds (ps := ["_law_told", "_law_due_here"]) fun _ _ _ _ _ _ us hl => match us, hl with | [_, _], _ => rfl
  have F_law_tag := fun_mk (st := s_law_tag) l_law_tag c_law_tag k_law_tag
  have B_law_tag := F_law_tag.binds (ps := ["_law_bag_here", "_law_words"]) fun _ _ _ _ _ _ us hl => match us, hl with | [_, _], _ => rfl
  have F_law_made := fun_mk (st := s_law_made) l_law_made c_law_made k_law_made
  have B_law_made := F_law_made.binds (ps := ["_law_tag_here"]) fun _ _ _ _ _ _ us hl => match us, hl with | [_], _ => rfl
  have F_law_due := fun_mk (st := s_law_due) l_law_due c_law_due k_law_due
  have B_law_due := F_law_due.binds (ps := ["_law_sign", "_law_one", "_law_two"]) fun _ _ _ _ _ _ us hl => match us, hl with | [_, _, _], _ => rfl
  have F_law := fun_mk (st := s_law) l_law c_law k_law
  have B_law := F_law.binds (ps := ["_law_script"]) fun _ _ _ _ _ _ us hl => match us, hl with | [_], _ => rfl
  let T : Top K mg := { C_Unnumbered := C_Unnumbered, f_law_draw := f_law_draw, fd_law_draw := _, F_law_draw := F_law_draw, B_law_draw := B_law_draw, mg_law_draw := PySem.W.mg_of X G a_law_draw, f_law_bag := f_law_bag, fd_law_bag := _, F_law_bag := F_law_bag, B_law_bag := B_law_bag, mg_law_bag := PySem.W.mg_of X G a_law_bag, f_law_number := f_law_number, fd_law_number := _, F_law_number := F_law_number, B_law_number := B_law_number, mg_law_number := PySem.W.mg_of X G a_law_number, f_law_word := f_law_word, fd_law_word := _, F_law_word := F_law_word, B_law_word := B_law_word, mg_law_word := PySem.W.mg_of X G a_law_word, f_is_number := f_is_number, fd_is_number := _, F_is_number := F_is_number, B_is_number := B_is_number, mg_is_number := PySem.W.mg_of X G a_is_number, f_Unnumbered___init := f_Unnumbered___init, fd_Unnumbered___init := _, F_Unnumbered___init := F_Unnumbered___init, B_Unnumbered___init := B_Unnumbered___init, f_is_entry := f_is_entry, fd_is_entry := _, F_is_entry := F_is_entry, B_is_entry := B_is_entry, mg_is_entry := PySem.W.mg_of X G a_is_entry, f_is_value := f_is_value, fd_is_value := _, F_is_value := F_is_value, B_is_value := B_is_value, mg_is_value := PySem.W.mg_of X G a_is_value, f_Unnumbered___eq := f_Unnumbered___eq, fd_Unnumbered___eq := _, F_Unnumbered___eq := F_Unnumbered___eq, B_Unnumbered___eq := B_Unnumbered___eq, f_Unnumbered___ne := f_Unnumbered___ne, fd_Unnumbered___ne := _, F_Unnumbered___ne := F_Unnumbered___ne, B_Unnumbered___ne := B_Unnumbered___ne, f_Unnumbered___lt := f_Unnumbered___lt, fd_Unnumbered___lt := _, F_Unnumbered___lt := F_Unnumbered___lt, B_Unnumbered___lt := B_Unnumbered___lt, f_Unnumbered___le := f_Unnumbered___le, fd_Unnumbered___le := _, F_Unnumbered___le := F_Unnumbered___le, B_Unnumbered___le := B_Unnumbered___le, f_Unnumbered___gt := f_Unnumbered___gt, fd_Unnumbered___gt := _, F_Unnumbered___gt := F_Unnumbered___gt, B_Unnumbered___gt := B_Unnumbered___gt, f_Unnumbered___ge := f_Unnumbered___ge, fd_Unnumbered___ge := _, F_Unnumbered___ge := F_Unnumbered___ge, B_Unnumbered___ge := B_Unnumbered___ge, f_holds := f_holds, fd_holds := _, F_holds := F_holds, B_holds := B_holds, mg_holds := PySem.W.mg_of X G a_holds, f_law_says := f_law_says, fd_law_says := _, F_law_says := F_law_says, B_law_says := B_law_says, mg_law_says := PySem.W.mg_of X G a_law_says, f_law_tag := f_law_tag, fd_law_tag := _, F_law_tag := F_law_tag, B_law_tag := B_law_tag, mg_law_tag := PySem.W.mg_of X G a_law_tag, f_law_made := f_law_made, fd_law_made := _, F_law_made := F_law_made, B_law_made := B_law_made, mg_law_made := PySem.W.mg_of X G a_law_made, f_law_due := f_law_due, fd_law_due := _, F_law_due := F_law_due, B_law_due := B_law_due, mg_law_due := PySem.W.mg_of X G a_law_due, f_law := fa, fd_law := _, F_law := F_law, B_law := B_law, mg_law := PySem.W.mg_of X G a_law, mgC_Unnumbered := PySem.W.mg_of X G aC_Unnumbered, cl_Unnumbered := ⟨pg_Unnumbered, hd_Unnumbered, po_Unnumbered, sa_Unnumbered⟩, in_Unnumbered := ⟨ca_Unnumbered, cm_Unnumbered, ocn, oct⟩, mk_Unnumbered := ⟨mk_Unnumbered, a_Unnumbered___init, i_Unnumbered___init, kc_Unnumbered⟩, me_Unnumbered___eq := ⟨a_Unnumbered___eq, i_Unnumbered___eq, k_Unnumbered___eq⟩, me_Unnumbered___ge := ⟨a_Unnumbered___ge, i_Unnumbered___ge, k_Unnumbered___ge⟩, me_Unnumbered___gt := ⟨a_Unnumbered___gt, i_Unnumbered___gt, k_Unnumbered___gt⟩, me_Unnumbered___le := ⟨a_Unnumbered___le, i_Unnumbered___le, k_Unnumbered___le⟩, me_Unnumbered___lt := ⟨a_Unnumbered___lt, i_Unnumbered___lt, k_Unnumbered___lt⟩, me_Unnumbered___ne := ⟨a_Unnumbered___ne, i_Unnumbered___ne, k_Unnumbered___ne⟩, no_Unnumbered_name := no_Unnumbered_name, z_abs := PySem.W.mg_none_of X G z_abs, z_bool := PySem.W.mg_none_of X G z_bool, z_int := PySem.W.mg_none_of X G z_int, z_isinstance := PySem.W.mg_none_of X G z_isinstance, z_len := PySem.W.mg_none_of X G z_len, z_max := PySem.W.mg_none_of X G z_max, z_min := PySem.W.mg_none_of X G z_min, z_range := PySem.W.mg_none_of X G z_range, ki_NoneType_Unnumbered := ki_NoneType_Unnumbered, ki_bool_Unnumbered := ki_bool_Unnumbered, ki_int_Unnumbered := ki_int_Unnumbered, ki_str_Unnumbered := ki_str_Unnumbered, ki_list_Unnumbered := ki_list_Unnumbered, ki_tuple_Unnumbered := ki_tuple_Unnumbered, ki_Unnumbered_Unnumbered := ki_Unnumbered_Unnumbered, ki_Unnumbered_bool := ki_Unnumbered_bool, ki_Unnumbered_int := ki_Unnumbered_int }
  exact ⟨PySem.W.fnOf "law" "law" (defArgs s_law) (defBody s_law) (defScope s_law) .none kV_law dc_law pm_law an_law cd_law ct_law, fun s v => .of_eq rfl, fun base _ _ => ok_law T⟩
theorem walk {l : PySem.W.OpenLaw} {q : Program} {loose : List Str} {XP : (Str → Option Value) → Heap → Prop} {YP : World → Heap → Prop} {d : DefRec} {K : Params → PySem.W.Frag} (hn : l.most = some 63) (hdf : d.params.defaults = [])
    (hY : ∀ (w : World) (h : Heap), YP w h → (K w.params).In h)
    (F : ∀ (w : World) (mg : Str → Option Value) (fa : Addr) (h : Heap), (K w.params).In h → h.Ns mainGlobals mg → mg d.name = some (.ref fa) →
      ∃ fd : FuncData, (∀ (s : Shared) (u : Value), BindsTo s fd ⟨[u], []⟩ [("_law_script", u)]) ∧ ∀ base : Heap, (K w.params).In base → base.Ns mainGlobals mg → FnOk l.prog w (K w.params) mg base CX0 6 fa fd ["_law_script"] (sp_law (K w.params))) :
    PySem.W.WalkO q loose XP YP l.row.toRowW d [] (fun f vs => PySem.call f vs) :=
  L2.walk_of (n := 63) (k := 6) (x := "_law_script") (CX := fun _ => CX0) (sp := fun w => sp_law (K w.params)) hn (by decide) hdf ⟨rfl, by decide, by decide⟩ hY F (fun _ _ a ns hl _ hS => ⟨a, ns, rfl, hS, hl, fun _ => rfl⟩) fun _ _ _ _ _ z => z
end My

open PySem PySem.W PyProof.Rows in
set_option maxRecDepth 100000 in
set_option maxHeartbeats 0 in
theorem PySem.Challenge.cw_unnumbered_k08_comparisons_held_holds : PySem.Challenge.rw_unnumbered_k08_comparisons_held.Holds := by
  w_on; o_law; k_head; (case hw => w_witness2)
  k_fill
  refine My.walk (l := PySem.Challenge.rw_unnumbered_k08_comparisons_held) rfl rfl (fun w h Y => PySem.W.kIn_of Y) ?F
  case F =>
    intro w mg fa h KX G hmg
    refine' My.all_mk KX G hmg ?aC_Unnumbered ?a_law_draw ?l_law_draw ?c_law_draw ?k_law_draw ?a_law_bag ?l_law_bag ?c_law_bag ?k_law_bag ?a_law_number ?l_law_number ?c_law_number ?k_law_number ?a_law_word ?l_law_word ?c_law_word ?k_law_word ?a_is_number ?l_is_number ?c_is_number ?k_is_number ?a_Unnumbered___init ?i_Unnumbered___init ?l_Unnumbered___init ?c_Unnumbered___init ?k_Unnumbered___init ?a_is_entry ?l_is_entry ?c_is_entry ?k_is_entry ?a_is_value ?l_is_value ?c_is_value ?k_is_value ?a_Unnumbered___eq ?i_Unnumbered___eq ?l_Unnumbered___eq ?c_Unnumbered___eq ?k_Unnumbered___eq ?a_Unnumbered___ne ?i_Unnumbered___ne ?l_Unnumbered___ne ?c_Unnumbered___ne ?k_Unnumbered___ne ?a_Unnumbered___lt ?i_Unnumbered___lt ?l_Unnumbered___lt ?c_Unnumbered___lt ?k_Unnumbered___lt ?a_Unnumbered___le ?i_Unnumbered___le ?l_Unnumbered___le ?c_Unnumbered___le ?k_Unnumbered___le ?a_Unnumbered___gt ?i_Unnumbered___gt ?l_Unnumbered___gt ?c_Unnumbered___gt ?k_Unnumbered___gt ?a_Unnumbered___ge ?i_Unnumbered___ge ?l_Unnumbered___ge ?c_Unnumbered___ge ?k_Unnumbered___ge ?a_holds ?l_holds ?c_holds ?k_holds ?a_law_says ?l_law_says ?c_law_says ?k_law_says ?a_law_tag ?l_law_tag ?c_law_tag ?k_law_tag ?a_law_made ?l_law_made ?c_law_made ?k_law_made ?a_law_due ?l_law_due ?c_law_due ?k_law_due ?a_law ?l_law ?c_law ?k_law ?pg_Unnumbered ?hd_Unnumbered ?po_Unnumbered ?sa_Unnumbered ?ca_Unnumbered ?cm_Unnumbered ?mk_Unnumbered ?kc_Unnumbered ?ocn ?oct ?no_Unnumbered_name ?z_abs ?z_bool ?z_int ?z_isinstance ?z_len ?z_max ?z_min ?z_range ?ki_NoneType_Unnumbered ?ki_bool_Unnumbered ?ki_int_Unnumbered ?ki_str_Unnumbered ?ki_list_Unnumbered ?ki_tuple_Unnumbered ?ki_Unnumbered_Unnumbered ?ki_Unnumbered_bool ?ki_Unnumbered_int
    (case aC_Unnumbered => k_is)
    (case a_law_draw => k_is)
    (case l_law_draw => k_is)
    (case c_law_draw => k_is)
    (case k_law_draw => k_is)
    (case a_law_bag => k_is)
    (case l_law_bag => k_is)
    (case c_law_bag => k_is)
    (case k_law_bag => k_is)
    (case a_law_number => k_is)
    (case l_law_number => k_is)
    (case c_law_number => k_is)
    (case k_law_number => k_is)
    (case a_law_word => k_is)
    (case l_law_word => k_is)
    (case c_law_word => k_is)
    (case k_law_word => k_is)
    (case a_is_number => k_is)
    (case l_is_number => k_is)
    (case c_is_number => k_is)
    (case k_is_number => k_is)
    (case a_Unnumbered___init => k_is)
    (case i_Unnumbered___init => k_is)
    (case l_Unnumbered___init => k_is)
    (case c_Unnumbered___init => k_is)
    (case k_Unnumbered___init => k_is)
    (case a_is_entry => k_is)
    (case l_is_entry => k_is)
    (case c_is_entry => k_is)
    (case k_is_entry => k_is)
    (case a_is_value => k_is)
    (case l_is_value => k_is)
    (case c_is_value => k_is)
    (case k_is_value => k_is)
    (case a_Unnumbered___eq => k_is)
    (case i_Unnumbered___eq => k_is)
    (case l_Unnumbered___eq => k_is)
    (case c_Unnumbered___eq => k_is)
    (case k_Unnumbered___eq => k_is)
    (case a_Unnumbered___ne => k_is)
    (case i_Unnumbered___ne => k_is)
    (case l_Unnumbered___ne => k_is)
    (case c_Unnumbered___ne => k_is)
    (case k_Unnumbered___ne => k_is)
    (case a_Unnumbered___lt => k_is)
    (case i_Unnumbered___lt => k_is)
    (case l_Unnumbered___lt => k_is)
    (case c_Unnumbered___lt => k_is)
    (case k_Unnumbered___lt => k_is)
    (case a_Unnumbered___le => k_is)
    (case i_Unnumbered___le => k_is)
    (case l_Unnumbered___le => k_is)
    (case c_Unnumbered___le => k_is)
    (case k_Unnumbered___le => k_is)
    (case a_Unnumbered___gt => k_is)
    (case i_Unnumbered___gt => k_is)
    (case l_Unnumbered___gt => k_is)
    (case c_Unnumbered___gt => k_is)
    (case k_Unnumbered___gt => k_is)
    (case a_Unnumbered___ge => k_is)
    (case i_Unnumbered___ge => k_is)
    (case l_Unnumbered___ge => k_is)
    (case c_Unnumbered___ge => k_is)
    (case k_Unnumbered___ge => k_is)
    (case a_holds => k_is)
    (case l_holds => k_is)
    (case c_holds => k_is)
    (case k_holds => k_is)
    (case a_law_says => k_is)
    (case l_law_says => k_is)
    (case c_law_says => k_is)
    (case k_law_says => k_is)
    (case a_law_tag => k_is)
    (case l_law_tag => k_is)
    (case c_law_tag => k_is)
    (case k_law_tag => k_is)
    (case a_law_made => k_is)
    (case l_law_made => k_is)
    (case c_law_made => k_is)
    (case k_law_made => k_is)
    (case a_law_due => k_is)
    (case l_law_due => k_is)
    (case c_law_due => k_is)
    (case k_law_due => k_is)
    (case a_law => k_is)
    (case l_law => k_is)
    (case c_law => k_is)
    (case k_law => k_is)
    (case pg_Unnumbered => k_is)
    (case hd_Unnumbered => k_is)
    (case po_Unnumbered => k_is)
    (case sa_Unnumbered => k_is)
    (case ca_Unnumbered => k_is)
    (case cm_Unnumbered => k_is)
    (case mk_Unnumbered => k_is)
    (case kc_Unnumbered => k_is)
    (case ocn => k_is)
    (case oct => k_is)
    (case no_Unnumbered_name => k_is)
    (case z_abs => k_is)
    (case z_bool => k_is)
    (case z_int => k_is)
    (case z_isinstance => k_is)
    (case z_len => k_is)
    (case z_max => k_is)
    (case z_min => k_is)
    (case z_range => k_is)
    (case ki_NoneType_Unnumbered => kit_is)
    (case ki_bool_Unnumbered => kit_is)
    (case ki_int_Unnumbered => kit_is)
    (case ki_str_Unnumbered => kit_is)
    (case ki_list_Unnumbered => kit_is)
    (case ki_tuple_Unnumbered => kit_is)
    (case ki_Unnumbered_Unnumbered => kit_is)
    (case ki_Unnumbered_bool => kit_is)
    (case ki_Unnumbered_int => kit_is)
#print axioms PySem.Challenge.cw_unnumbered_k08_comparisons_held_holds
