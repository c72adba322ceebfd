import PyProof.Rows.All
import Wide.All
import OpenK.AllK
import Wide.FinOn
import HandS.ForMost
import HandS.IsInst
import HandS.Style
import HandS.OwnEq
import HandS.SlotsOwn
import KE.RegKIsAll
import KE.KOpsOwn
import HandS.Wide
import HandS.FStr
import HandS.Iter
import KE.GoesMore
import HandS.IterVal
import HandS.ClsMeth
import HandS.Star
import HandS.Text
import HandS.ExcInit
import KE.KExcInit
import KE.KExcLine
import KE.KExcIs
import HandS.Exc
import HandS.ExcOwn
import HandS.ExcField
import HandS.ExcIs
import HandS.WordsExc
import PyProof.Rows.StrIntSpec
import PyProof.FString3
import HandS.StrMore
import HandS.Zip
import HandS.TupAny
import HandS.Deep
import PyProof.StrOps2
import KE.IntTextLaws
import PyProof.Rows.ReprOcc
import PySem.Challenge.RW_unnumbered_k12_series_refused
set_option Elab.async false
set_option linter.all false
set_option maxRecDepth 100000
set_option maxHeartbeats 4000000
set_option autoImplicit false
namespace My
open PySem PySem.Spec PyProof.Rows L2
/-! the text by its places -/
def topS (i : Nat) : Stmt := PySem.Challenge.pw_unnumbered_k12_series_refused.main.body.getD i (.Pass ⟨0, 0, 0, 0⟩)
abbrev s_law_draw : Stmt := topS 25
abbrev s_law_bag : Stmt := topS 24
abbrev s_law_number : Stmt := topS 26
abbrev s_law_word : Stmt := topS 27
abbrev s_is_number : Stmt := topS 9
abbrev s_Unnumbered___init : Stmt := inClass (topS 14) 0
abbrev s_is_entry : Stmt := topS 10
abbrev s_with_one_object_a_name : Stmt := topS 20
abbrev s_Series___init : Stmt := inClass (topS 19) 0
abbrev s_BadSeries___init : Stmt := inClass (topS 3) 0
abbrev s_is_word : Stmt := topS 11
abbrev s_is_number_but_0 : Stmt := topS 22
abbrev s_entry_of : Stmt := topS 21
abbrev s_Series_read : Stmt := inClass (topS 19) 2
abbrev s_law_refused : Stmt := topS 30
abbrev s_Told___init : Stmt := inClass (topS 15) 0
abbrev s_law_entries : Stmt := topS 28
abbrev s_law_text : Stmt := topS 29
abbrev s_law_wrong_things : Stmt := topS 31
abbrev s_law_wrong_words : Stmt := topS 32
abbrev s_law : Stmt := topS 33
/-! readings, step by step; heaps; short words -/
namespace Z
structure Inst (K : PySem.W.Frag) (C : Addr) : Prop where
  ca : PySem.W.findIn K (.ref C) "__class__" = some (some (.builtin "object.__class__"))
  cm : PySem.W.mroIn K C (.type "object") = some true
  cn : PySem.W.specialIn K (.builtin "object.__class__") "__get__" = some (some (.builtin "getset_descriptor.__get__"))
  ct : PySem.W.takesIn K (.builtin "object.__class__") = some true
/-- all but b stands -/
def But (b : Addr) (H H' : Hp) : Prop := ∀ a o, a ≠ b → H a = some o → H' a = some o
theorem But.refl {b : Addr} (H : Hp) : But b H H := fun _ _ _ h => h
theorem But.trans {b : Addr} {H H1 H2 : Hp} (x : But b H H1) (y : But b H1 H2) : But b H H2 := fun a o n h => y a o n (x a o n h)
theorem But.same {b : Addr} {H H1 : Hp} (x : Same H H1) : But b H H1 := fun a o _ h => x a o h
theorem But.upd {b : Addr} {H : Hp} {o : HO} : But b H (upd H b o) := fun a u n h => by
  rw [upd_ne n]; exact h
theorem same_upd {H : Hp} {p : Addr} {o : HO} (h : H p = none) : Same H (upd H p o) := fun b x e => by
  rw [upd_ne (ne_of_none e h)]; exact e
theorem But.free {b p : Addr} {H H1 : Hp} (e : But b H H1) (n : p ≠ b) (h : H1 p = none) : H p = none := by
  cases q : H p with
  | none => rfl
  | some o => rw [e p o n q] at h; cases h
/-- what was fresh may change: all the old stands -/
theorem But.back {b : Addr} {H H1 H2 : Hp} (s : Same H H1) (n : H b = none) (e : But b H1 H2) : Same H H2 := fun a o h => e a o (ne_of_none h n) (s a o h)
theorem But.seq {K : PySem.W.Frag} {b a : Addr} {H H' : Hp} {xs : List V} (e : But b H H') (n : a ≠ b) (h : SqL K H a xs) : SqL K H' a xs := by
  rcases h with (h | ⟨o, h⟩) | h
  · exact .inl (.inl (e _ _ n h))
  · exact .inl (.inr ⟨o, e _ _ n h⟩)
  · exact .inr h
section
variable {K : PySem.W.Frag} {σ : L2.St} {H : Hp} {Q : VK} {D : Ends} {t u : TS} {ta tb te tc : TE} {tt tu : TT} {i j : Nat} {v x y : V} {r : R2} {A : TA} {sp : Sp} {E : XK}
theorem r_start {σ' : L2.St} (e : σ = σ') (h : t D σ' H) : t D σ H := e ▸ h
theorem r_seq (h : t { D with nx := u D } σ H) : tSeq t u D σ H := h
theorem r_next (h : D.nx σ H) : tNext D σ H := h
theorem r_asg (h : te σ H fun x H1 => D.nx (σ.set i (some x)) H1) : tAsg te (gName i) D σ H := h
theorem r_asgG {g : TG} (h : te σ H fun x H1 => g x σ H1 D.nx) : tAsg te g D σ H := h
theorem r_gName {N : L2.St → Hp → Prop} (h : N (σ.set i (some v)) H) : gName i v σ H N := h
theorem r_ret (h : te σ H D.rt) : tRet te D σ H := h
theorem r_retN (h : D.rt .non H) : tRetN D σ H := h
theorem r_drop (h : te σ H fun _ H1 => D.nx σ H1) : tDrop te D σ H := h
theorem r_if (h : tt σ H fun b H1 => if b = true then t D σ H1 else u D σ H1) : tIfS tt t u D σ H := h
theorem r_par (h : A σ H fun vs H1 => ∃ v w, vs = [v, w] ∧ D.nx ((σ.set i (some v)).set j (some w)) H1) : tPar i j A D σ H := h
theorem r_aug {ti : TIp} (e : σ[i]? = some (some x)) (h : te σ H fun y H1 => ti x y H1 fun z H2 => D.nx (σ.set i (some z)) H2) : tAug i te ti D σ H := ⟨x, e, h⟩
theorem r_par3 {l : Nat} (h : A σ H fun vs H1 => ∃ u v w, vs = [u, v, w] ∧ D.nx (((σ.set i (some u)).set j (some v)).set l (some w)) H1) : tPar3 i j l A D σ H := h
theorem r_gTup {n : Nat} {w : TGs} {a : Addr} {xs : List V} {N : L2.St → Hp → Prop} (e : H a = some (.tup xs)) (hn : xs.length = n) (h : w xs σ H N) : gTup K n w (.ref a) σ H N := ⟨a, xs, rfl, SqT.of e, hn, h⟩
theorem r_gCons {g : TG} {w : TGs} {xs : List V} {N : L2.St → Hp → Prop} (h : g v σ H fun σ1 H1 => w xs σ1 H1 N) : gCons g w (v :: xs) σ H N := ⟨v, xs, rfl, h⟩
theorem r_gNil {N : L2.St → Hp → Prop} (h : N σ H) : gNil [] σ H N := ⟨rfl, h⟩
theorem r_vs2 {N : V → V → Prop} (h : N x y) : ∃ v w, [x, y] = [v, w] ∧ N v w := ⟨x, y, rfl, h⟩
theorem r_vs3 {z : V} {N : V → V → V → Prop} (h : N x y z) : ∃ u v w, [x, y, z] = [u, v, w] ∧ N u v w := ⟨x, y, z, rfl, h⟩
theorem r_var (e : σ[i]? = some (some v)) (h : Q v H) : tVar i σ H Q := ⟨v, e, h⟩
theorem r_c (h : Q v H) : tC v σ H Q := h
theorem r_op (h : ta σ H fun x H1 => tb σ H1 fun y H2 => r x y H2 Q) : tOp r ta tb σ H Q := h
theorem r_un {r : V → Hp → VK → Prop} (h : ta σ H fun x H1 => r x H1 Q) : tUn r ta σ H Q := h
theorem r_test {N : Bool → Hp → Prop} (h : te σ H fun x H' => ∃ k, x = .bl k ∧ N k H') : tTest te σ H N := h
theorem r_tB {N : Bool → Hp → Prop} (h : te σ H fun x H1 => ∃ c, x = .bl c ∧ N c H1) : tB te σ H N := h
theorem r_bl {k : Bool} {N : Bool → Prop} (h : N k) : ∃ c, V.bl k = .bl c ∧ N c := ⟨k, rfl, h⟩
theorem r_and {N : Bool → Hp → Prop} (h : tt σ H fun c H1 => if c = true then tu σ H1 N else N false H1) : tAnd tt tu σ H N := h
theorem r_or {N : Bool → Hp → Prop} (h : tt σ H fun c H1 => if c = true then N true H1 else tu σ H1 N) : tOr tt tu σ H N := h
theorem r_not {N : Bool → Hp → Prop} (h : tt σ H fun c H1 => N (!c) H1) : tNot tt σ H N := h
theorem r_andV (h : ta σ H fun x H1 => ∃ c, x = .bl c ∧ if c = true then tb σ H1 Q else Q (.bl false) H1) : tAndV ta tb σ H Q := h
theorem r_orV (h : ta σ H fun x H1 => ∃ c, x = .bl c ∧ if c = true then Q (.bl true) H1 else tb σ H1 Q) : tOrV ta tb σ H Q := h
theorem r_notV (h : ta σ H fun x H1 => ∃ c, x = .bl c ∧ Q (.bl (!c)) H1) : tNotV ta σ H Q := h
theorem r_ifE (h : tt σ H fun c H1 => if c = true then ta σ H1 Q else tb σ H1 Q) : tIf tt ta tb σ H Q := h
theorem via (R : V → Hp → Prop) (h : ∀ M : VK, (∀ v H', R v H' → M v H') → te σ H M) (k : ∀ v H', R v H' → Q v H') : te σ H Q := h Q k
theorem r_nil {N : List V → Hp → Prop} (h : N [] H) : tNil σ H N := h
theorem r_cons {N : List V → Hp → Prop} (h : te σ H fun x H1 => A σ H1 fun xs H2 => N (x :: xs) H2) : tCons te A σ H N := h
theorem r_call {ds : List V} (h : A σ H fun vs H1 => sp (vs ++ ds) H1 Q E) : tCall sp ds E A σ H Q := h
theorem r_cb {r : List V → Hp → VK → Prop} (h : A σ H fun vs H1 => r vs H1 Q) : tCB r A σ H Q := h
/-- a new list, a new tuple -/
def nwL (xs : List V) (H : Hp) (Q : VK) : Prop := xs.length ≤ sizeLine ∧ ∀ p, H p = none → Q (.ref p) (upd H p (.lst xs))
def nwT (xs : List V) (H : Hp) (Q : VK) : Prop := xs.length ≤ sizeLine ∧ ∀ p, H p = none → Q (.ref p) (upd H p (.tup xs))
theorem r_tup (h : A σ H fun xs H1 => nwT xs H1 Q) : tTup A σ H Q := h
theorem r_lst (h : A σ H fun xs H1 => nwL xs H1 Q) : tLst A σ H Q := h
theorem r_nwL {xs : List V} (z : xs.length ≤ 1000) (h : ∀ p H1, H p = none → Same H H1 → H1 p = some (.lst xs) → Q (.ref p) H1) : nwL xs H Q := ⟨Nat.le_trans z (by decide), fun p np => h p _ np (same_upd np) upd_same⟩
theorem r_nwT {xs : List V} (z : xs.length ≤ 1000) (h : ∀ p H1, H p = none → Same H H1 → H1 p = some (.tup xs) → Q (.ref p) H1) : nwT xs H Q := ⟨Nat.le_trans z (by decide), fun p np => h p _ np (same_upd np) upd_same⟩
def fldR (K : PySem.W.Frag) (f : Str) (x : V) (H : Hp) (Q : VK) : Prop := ∃ a C dx fs v, x = .ref a ∧ H a = some (.ins C dx fs) ∧ Cls K C ∧ NoAttr K C f ∧ fs.lookup f = some v ∧ Q v H
theorem r_fld {f : Str} (h : ta σ H fun x H1 => fldR K f x H1 Q) : tFld K ta f σ H Q := h
theorem r_fldV {f : Str} {a C dx : Addr} {fs : List (Str × V)} (e : H a = some (.ins C dx fs)) (c : Cls K C) (n : NoAttr K C f) (l : fs.lookup f = some v) (h : Q v H) : fldR K f (.ref a) H Q := ⟨a, C, dx, fs, v, rfl, e, c, n, l, h⟩
/-! operators on values that are known -/
theorem r_I0 {g : Int → Int → V} {a b : Int} (h : Q (g a b) H) : rI0 g (.int a) (.int b) H Q := ⟨a, b, rfl, rfl, h⟩
theorem r_I {C : Int → Int → Prop} {g : Int → Int → V} {a b : Int} (c : C a b) (h : Q (g a b) H) : rI C g (.int a) (.int b) H Q := ⟨a, b, rfl, rfl, c, h⟩
theorem r_U {g : Int → V} {a : Int} (h : Q (g a) H) : rU g (.int a) H Q := ⟨a, rfl, h⟩
theorem r_eqI {a b : Int} (h : Q (.bl (decide (a = b))) H) : rEq (.int a) (.int b) H Q := ⟨rfl, by
  have e : decide (V.int a = V.int b) = decide (a = b) := by
    by_cases q : a = b <;> simp [q]
  rw [e]; exact h⟩
theorem r_eqB {a b : Bool} (h : Q (.bl (decide (a = b))) H) : rEq (.bl a) (.bl b) H Q := ⟨rfl, by
  have e : decide (V.bl a = V.bl b) = decide (a = b) := by
    by_cases q : a = b <;> simp [q]
  rw [e]; exact h⟩
theorem r_eqS {a b : Str} (h : Q (.bl (decide (a = b))) H) : rEq (.str a) (.str b) H Q := ⟨rfl, by
  have e : decide (V.str a = V.str b) = decide (a = b) := by
    by_cases q : a = b <;> simp [q]
  rw [e]; exact h⟩
theorem r_neI {a b : Int} (h : Q (.bl (!decide (a = b))) H) : rNe (.int a) (.int b) H Q := ⟨rfl, by
  have e : decide (V.int a = V.int b) = decide (a = b) := by
    by_cases q : a = b <;> simp [q]
  rw [e]; exact h⟩
theorem r_neB {a b : Bool} (h : Q (.bl (!decide (a = b))) H) : rNe (.bl a) (.bl b) H Q := ⟨rfl, by
  have e : decide (V.bl a = V.bl b) = decide (a = b) := by
    by_cases q : a = b <;> simp [q]
  rw [e]; exact h⟩
theorem r_neS {a b : Str} (h : Q (.bl (!decide (a = b))) H) : rNe (.str a) (.str b) H Q := ⟨rfl, by
  have e : decide (V.str a = V.str b) = decide (a = b) := by
    by_cases q : a = b <;> simp [q]
  rw [e]; exact h⟩
theorem r_ixL {p : Addr} {xs : List V} {a : Int} (h : SqL K H p xs) (e : atI xs a = some v) (k : Q v H) : rIx K (.ref p) (.int a) H Q := .inl ⟨p, xs, a, v, rfl, rfl, h, e, k⟩
theorem r_ixT {p : Addr} {xs : List V} {a : Int} (h : SqT K H p xs) (e : atI xs a = some v) (k : Q v H) : rIx K (.ref p) (.int a) H Q := .inr (.inl ⟨p, xs, a, v, rfl, rfl, h, e, k⟩)
theorem r_ixS {z : Str} {a : Int} {c : Nat} (l : z.length ≤ sizeLine) (e : atI z.cps.toList a = some c) (k : Q (.str ⟨#[c]⟩) H) : rIx K (.str z) (.int a) H Q := .inr (.inr ⟨z, a, c, rfl, rfl, l, e, k⟩)
theorem r_setL {p : Addr} {xs : List V} {a : Int} {m : Nat} {N : Hp → Prop} (h : H p = some (.lst xs)) (e : ixN xs.length a = some m) (k : ∀ H1, But p H H1 → H1 p = some (.lst (xs.set m v)) → N H1) : rSetL (.ref p) (.int a) v H N :=
  ⟨p, xs, a, m, rfl, rfl, h, e, k _ But.upd upd_same⟩
theorem r_gSub {to ti : TE} {s : TSet} {N : L2.St → Hp → Prop} (h : to σ H fun o H1 => ti σ H1 fun i H2 => s o i v H2 fun H3 => N σ H3) : gSub to ti s v σ H N := h
theorem yes {c : Bool} {P1 P2 : Prop} (h : c = true) (k : P1) : if c = true then P1 else P2 := by
  rw [h, if_pos rfl]; exact k
theorem no {c : Bool} {P1 P2 : Prop} (h : c = false) (k : P2) : if c = true then P1 else P2 := by
  rw [h, if_neg Bool.false_ne_true]; exact k
theorem ways {c P1 P2 : Prop} [Decidable c] (h : c → P1) (k : ¬ c → P2) : if decide c = true then P1 else P2 := by
  by_cases q : c
  · rw [decide_eq_true q, if_pos rfl]; exact h q
  · rw [decide_eq_false q, if_neg Bool.false_ne_true]; exact k q
theorem waysN {c P1 P2 : Prop} [Decidable c] (h : ¬ c → P1) (k : c → P2) : if (!decide c) = true then P1 else P2 := by
  by_cases q : c
  · rw [decide_eq_true q]; exact k q
  · rw [decide_eq_false q]; exact h q
theorem waysB {c : Bool} {P1 P2 : Prop} (h : c = true → P1) (k : c = false → P2) : if c = true then P1 else P2 := by
  cases c with
  | true => rw [if_pos rfl]; exact h rfl
  | false => rw [if_neg Bool.false_ne_true]; exact k rfl
/-! calls of built-ins, their readings by name -/
def rInt1 : List V → Hp → VK → Prop := fun xs H Q => (∃ i, xs = [.int i] ∧ Q (.int i) H) ∨ ∃ k, xs = [.bl k] ∧ Q (.int (if k then 1 else 0)) H
def rAbs : List V → Hp → VK → Prop := fun xs H Q => ∃ i, xs = [.int i] ∧ Q (.int (if i < 0 then -i else i)) H
def rMax2 : List V → Hp → VK → Prop := fun xs H Q => ∃ i j, xs = [.int i, .int j] ∧ Q (.int (if j > i then j else i)) H
def rMin2 : List V → Hp → VK → Prop := fun xs H Q => ∃ i j, xs = [.int i, .int j] ∧ Q (.int (if j < i then j else i)) H
def rLen (K : PySem.W.Frag) : List V → Hp → VK → Prop := fun xs H Q => ∃ p ys, xs = [.ref p] ∧ (SqL K H p ys ∨ SqT K H p ys) ∧ Q (.int ys.length) H
def rLenS : List V → Hp → VK → Prop := fun xs H Q => ∃ z, xs = [.str z] ∧ z.length ≤ sizeLine ∧ Q (.int z.length) H
def rStrI : List V → Hp → VK → Prop := fun xs H Q => ∃ i, xs = [.int i] ∧ i.natAbs.log2 < 1920 ∧ Q (.str (toString i)) H
def rAddS : R2 := fun x y H Q => ∃ i j, x = .str i ∧ y = .str j ∧ i.length + j.length ≤ sizeLine ∧ Q (.str (i ++ j)) H
theorem c_int1 {X : Cx} : CallR X (.type "int") rInt1 := call_int1
theorem c_abs {X : Cx} : CallR X (.builtin "abs") rAbs := call_abs
theorem c_max2 {X : Cx} (hc : X.calm = true) : CallR X (.builtin "max") rMax2 := call_max2 hc
theorem c_min2 {X : Cx} (hc : X.calm = true) : CallR X (.builtin "min") rMin2 := call_min2 hc
theorem c_len {X : Cx} : CallR X (.builtin "len") (rLen X.K) := call_len_seq
theorem c_lenS {X : Cx} : CallR X (.builtin "len") rLenS := call_len_str
theorem c_strI {X : Cx} : CallR X (.type "str") rStrI := call_str_int
theorem o_addS {X : Cx} : OpR X (binaryOp .Add) rAddS := op_add_str
theorem r_int1 {a : Int} (h : Q (.int a) H) : rInt1 [.int a] H Q := .inl ⟨a, rfl, h⟩
theorem r_abs {a : Int} (h : Q (.int (if a < 0 then -a else a)) H) : rAbs [.int a] H Q := ⟨a, rfl, h⟩
theorem r_max2 {a b : Int} (h : Q (.int (if b > a then b else a)) H) : rMax2 [.int a, .int b] H Q := ⟨a, b, rfl, h⟩
theorem r_min2 {a b : Int} (h : Q (.int (if b < a then b else a)) H) : rMin2 [.int a, .int b] H Q := ⟨a, b, rfl, h⟩
theorem r_lenL {p : Addr} {ys : List V} (e : SqL K H p ys) (h : Q (.int ys.length) H) : rLen K [.ref p] H Q := ⟨p, ys, rfl, .inl e, h⟩
theorem r_lenT {p : Addr} {ys : List V} (e : SqT K H p ys) (h : Q (.int ys.length) H) : rLen K [.ref p] H Q := ⟨p, ys, rfl, .inr e, h⟩
theorem r_strI {a : Int} (e : a.natAbs.log2 < 1920) (h : Q (.str (toString a)) H) : rStrI [.int a] H Q := ⟨a, rfl, e, h⟩
theorem r_addS {a b : Str} (e : a.length + b.length ≤ sizeLine) (h : Q (.str (a ++ b)) H) : rAddS (.str a) (.str b) H Q := ⟨a, b, rfl, rfl, e, h⟩
/-! loops, comprehensions -/
theorem r_rng {tb : TS} {k : Nat} {j : Int} (h0 : 0 ≤ j) (h1 : j ≤ 100000) (Pv : Nat → L2.St → Hp → Prop) (hp : Pv 0 σ H)
    (ht : ∀ (i : Nat) σ' H', (i : Int) < j → Pv i σ' H' → tb { D with nx := Pv (i + 1), ct := Pv (i + 1), bk := D.nx } (σ'.set k (some (.int (i : Int)))) H') (hd : ∀ σ' H', Pv j.toNat σ' H' → D.nx σ' H') :
    ∃ j' : Int, [V.int j] = [V.int j'] ∧ -(2 ^ 62) ≤ j' ∧ j' < 2 ^ 62 ∧ ∃ W : Nat → Nat → L2.St → Hp → Prop, (∃ m, W 0 m σ H) ∧ ∀ i m σ H, W i m σ H →
      (((Itr 0 j'.toNat).stop i H ∧ D.nx σ H) ∨ ((Itr 0 j'.toNat).go i H ∧ ∃ N : L2.St → Hp → Prop, (∀ σ' H', N σ' H' → ∃ m', m' < m ∧ W (i + 1) m' σ' H') ∧ ∀ x H', (Itr 0 j'.toNat).yld i H x H' → gName k x σ H' fun σ2 H2 => tb { D with nx := N, ct := N, bk := D.nx } σ2 H2)) := by
  refine ⟨j, rfl, by omega, by omega, for_range (lo := 0) (n := j.toNat) Pv hp (fun i σ' H' hi p => ?_) hd⟩
  have e : (0 : Int) + (i : Int) = (i : Int) := Int.zero_add _
  show tb _ (σ'.set k (some (.int ((0 : Int) + (i : Int))))) H'
  rw [e]
  exact ht i σ' H' (by omega) p
theorem r_forRng {A : TA} {tb : TS} {k : Nat} (h : A σ H fun vs H1 => ∃ j : Int, vs = [.int j] ∧ -(2 ^ 62) ≤ j ∧ j < 2 ^ 62 ∧ ∃ W : Nat → Nat → L2.St → Hp → Prop, (∃ m, W 0 m σ H1) ∧ ∀ i m σ H, W i m σ H →
      (((Itr 0 j.toNat).stop i H ∧ D.nx σ H) ∨ ((Itr 0 j.toNat).go i H ∧ ∃ N : L2.St → Hp → Prop, (∀ σ' H', N σ' H' → ∃ m', m' < m ∧ W (i + 1) m' σ' H') ∧ ∀ x H', (Itr 0 j.toNat).yld i H x H' → gName k x σ H' fun σ2 H2 => tb { D with nx := N, ct := N, bk := D.nx } σ2 H2))) :
    tFor (iRng1 A) (gName k) tb D σ H := h
theorem r_forL0 {tl : TE} {g : TG} {tb : TS} (h : tl σ H fun x H1 => ∃ a, x = .ref a ∧ (∃ xs, SqL K H1 a xs) ∧ ∃ W : Nat → Nat → L2.St → Hp → Prop, (∃ m, W 0 m σ H1) ∧ ∀ i m σ H, W i m σ H →
      (((Itl K a).stop i H ∧ D.nx σ H) ∨ ((Itl K a).go i H ∧ ∃ N : L2.St → Hp → Prop, (∀ σ' H', N σ' H' → ∃ m', m' < m ∧ W (i + 1) m' σ' H') ∧ ∀ x H', (Itl K a).yld i H x H' → g x σ H' fun σ2 H2 => tb { D with nx := N, ct := N, bk := D.nx } σ2 H2))) :
    tFor (iList K tl) g tb D σ H := h
theorem r_lst_by {g : TG} {tb : TS} {a : Addr} {xs : List V} (hs : SqL K H a xs) (Pv : Nat → L2.St → Hp → Prop) (h0 : Pv 0 σ H) (hl : ∀ i σ' H', Pv i σ' H' → SqL K H' a xs)
    (ht : ∀ i x σ' H', xs[i]? = some x → Pv i σ' H' → g x σ' H' fun σ2 H2 => tb { D with nx := Pv (i + 1), ct := Pv (i + 1), bk := D.nx } σ2 H2) (hd : ∀ σ' H', Pv xs.length σ' H' → D.nx σ' H') :
    ∃ a', V.ref a = .ref a' ∧ (∃ xs, SqL K H a' xs) ∧ ∃ W : Nat → Nat → L2.St → Hp → Prop, (∃ m, W 0 m σ H) ∧ ∀ i m σ H, W i m σ H →
      (((Itl K a').stop i H ∧ D.nx σ H) ∨ ((Itl K a').go i H ∧ ∃ N : L2.St → Hp → Prop, (∀ σ' H', N σ' H' → ∃ m', m' < m ∧ W (i + 1) m' σ' H') ∧ ∀ x H', (Itl K a').yld i H x H' → g x σ H' fun σ2 H2 => tb { D with nx := N, ct := N, bk := D.nx } σ2 H2)) :=
  ⟨a, rfl, ⟨xs, hs⟩, for_list (xs := xs) Pv h0 (fun i σ' H' _ p => hl i σ' H' p) ht hd⟩
theorem r_eqD {d e : PyData} (hd : Dp K H x d) (he : Dp K H y e) (sd : SeqAt.shaped d = true) (se : SeqAt.shaped e = true) (h : Q (.bl (PyData.eqv d e)) H) : rEqD K x y H Q := ⟨d, e, hd, he, sd, se, h⟩
theorem r_cat {p q : Addr} {xs zs : List V} (h1 : H p = some (.lst xs)) (h2 : H q = some (.lst zs)) (l : xs.length + zs.length ≤ 100000) (k : ∀ p H1, H p = none → Same H H1 → H1 p = some (.lst (xs ++ zs)) → Q (.ref p) H1) : rCat (.ref p) (.ref q) H Q :=
  ⟨p, q, xs, zs, rfl, rfl, h1, h2, Nat.le_trans l (by decide), fun p np => k p _ np (same_upd np) upd_same⟩
theorem turns (z m : Int) (hm : 1 ≤ m) (hm2 : m ≤ 100000) : 0 ≤ (if (if z < m then z else m) > 1 then (if z < m then z else m) else 1) ∧ (if (if z < m then z else m) > 1 then (if z < m then z else m) else 1) ≤ 100000 := by
  constructor <;> (split <;> split <;> omega)
theorem turns_le (z m : Int) (hm : 1 ≤ m) : (if (if z < m then z else m) > 1 then (if z < m then z else m) else 1) ≤ m := by
  split <;> split <;> omega
/-- two ways that meet -/
theorem join {c : Prop} [Decidable c] {A B : VK → Prop} {N : VK} (R : V → Hp → Prop) (ha : c → ∀ M : VK, (∀ v H', R v H' → M v H') → A M) (hb : ¬ c → ∀ M : VK, (∀ v H', R v H' → M v H') → B M) (k : ∀ v H', R v H' → N v H') :
    if decide c = true then A N else B N := by
  by_cases q : c
  · rw [decide_eq_true q, if_pos rfl]; exact ha q N k
  · rw [decide_eq_false q, if_neg Bool.false_ne_true]; exact hb q N k
theorem get_int {ns : List Int} {i : Nat} (h : i < ns.length) : ∃ c, atI (ns.map V.int) (i : Int) = some (.int c) := by
  refine ⟨ns[i], atI_nat ?_⟩
  rw [List.getElem?_map, List.getElem?_eq_getElem h]; rfl
/-- [e for name in range(j)], [e for name in a list] -/
def lcR (j : Int) (k : Nat) (te : TE) (vs : List Nat) (σ : L2.St) (H : Hp) (Q : VK) : Prop := -(2 ^ 62) ≤ j ∧ j < 2 ^ 62 ∧ ∀ D, H D = none → ∃ W : Nat → Nat → Hp → Prop, (∃ m, W 0 m (L2.upd H D (.lst []))) ∧ ∀ i m H, W i m H →
  ((Itr 0 j.toNat).stop i H ∧ Q (.ref D) H) ∨ ((Itr 0 j.toNat).go i H ∧ ∃ Nx : Hp → Prop, (∀ H', Nx H' → ∃ m', m' < m ∧ W (i + 1) m' H') ∧ ∀ x H', (Itr 0 j.toNat).yld i H x H' → gName k x (wipe σ vs) H' fun σ2 H2 => wipe σ2 vs = wipe σ vs ∧ tYes σ2 H2 fun b H3 =>
    if b = true then te σ2 H3 fun y H4 => ∃ acc, H4 D = some (.lst acc) ∧ acc.length < sizeLine ∧ Nx (L2.upd H4 D (.lst (acc ++ [y]))) else Nx H3)
theorem r_lcRng {k : Nat} {vs : List Nat} (h : A σ H fun ws H1 => ∃ j : Int, ws = [.int j] ∧ lcR j k te vs σ H1 Q) : tLc (iRng1 A) (gName k) tYes te vs σ H Q := h
/-- what is made is put behind the list at Dl -/
def apR (Dl : Addr) (N : Hp → Prop) (y : V) (H : Hp) : Prop := ∃ acc, H Dl = some (.lst acc) ∧ acc.length < sizeLine ∧ N (L2.upd H Dl (.lst (acc ++ [y])))
theorem r_ap {Dl : Addr} {N : Hp → Prop} {acc : List V} (h : H Dl = some (.lst acc)) (l : acc.length ≤ 100000) (k : ∀ H1, But Dl H H1 → H1 Dl = some (.lst (acc ++ [y])) → N H1) : apR Dl N y H :=
  ⟨acc, h, Nat.lt_of_le_of_lt l (by decide), k _ But.upd upd_same⟩
theorem r_lcR {J : Int} {k : Nat} {vs : List Nat} (h0 : 0 ≤ J) (h1 : J ≤ 100000) (hw : ∀ x, wipe ((wipe σ vs).set k (some x)) vs = wipe σ vs) (Pv : Addr → Nat → Hp → Prop)
    (hs : ∀ Dl H1, H Dl = none → Same H H1 → H1 Dl = some (.lst []) → Pv Dl 0 H1)
    (ht : ∀ Dl (i : Nat) H', H Dl = none → (i : Int) < J → Pv Dl i H' → te ((wipe σ vs).set k (some (.int (i : Int)))) H' (apR Dl (Pv Dl (i + 1))))
    (hd : ∀ Dl H', H Dl = none → Pv Dl J.toNat H' → Q (.ref Dl) H') : ∃ j' : Int, [V.int J] = [V.int j'] ∧ lcR j' k te vs σ H Q := by
  refine ⟨J, rfl, by omega, by omega, fun Dl hD => ?_⟩
  refine lc_range (lo := 0) (n := J.toNat) (tt := tYes) (Pv Dl) (hs Dl _ hD (same_upd hD) upd_same) (fun i H' hi p => ?_) (fun H' p => hd Dl H' hD p)
  have e : (0 : Int) + (i : Int) = (i : Int) := Int.zero_add _
  show wipe ((wipe σ vs).set k (some (.int ((0 : Int) + (i : Int))))) vs = wipe σ vs ∧ (if true = true then te ((wipe σ vs).set k (some (.int ((0 : Int) + (i : Int))))) H' (apR Dl (Pv Dl (i + 1))) else Pv Dl (i + 1) H')
  rw [e, if_pos rfl]
  exact ⟨hw _, ht Dl i H' hD (by omega) p⟩
def lcL (K : PySem.W.Frag) (a : Addr) (k : Nat) (te : TE) (vs : List Nat) (σ : L2.St) (H : Hp) (Q : VK) : Prop := (∃ xs, SqL K H a xs) ∧ ∀ D, H D = none → ∃ W : Nat → Nat → Hp → Prop, (∃ m, W 0 m (L2.upd H D (.lst []))) ∧ ∀ i m H, W i m H →
  ((Itl K a).stop i H ∧ Q (.ref D) H) ∨ ((Itl K a).go i H ∧ ∃ Nx : Hp → Prop, (∀ H', Nx H' → ∃ m', m' < m ∧ W (i + 1) m' H') ∧ ∀ x H', (Itl K a).yld i H x H' → gName k x (wipe σ vs) H' fun σ2 H2 => wipe σ2 vs = wipe σ vs ∧ tYes σ2 H2 fun b H3 =>
    if b = true then te σ2 H3 fun y H4 => ∃ acc, H4 D = some (.lst acc) ∧ acc.length < sizeLine ∧ Nx (L2.upd H4 D (.lst (acc ++ [y]))) else Nx H3)
theorem r_lcLst {k : Nat} {vs : List Nat} {tl : TE} (h : tl σ H fun x H1 => ∃ a, x = .ref a ∧ lcL K a k te vs σ H1 Q) : tLc (iList K tl) (gName k) tYes te vs σ H Q := h
theorem r_lcL {a : Addr} {xs : List V} {k : Nat} {vs : List Nat} (hx : SqL K H a xs) (hw : ∀ x, wipe ((wipe σ vs).set k (some x)) vs = wipe σ vs) (Pv : Addr → Nat → Hp → Prop)
    (hs : ∀ Dl H1, H Dl = none → Same H H1 → H1 Dl = some (.lst []) → Pv Dl 0 H1) (hl : ∀ Dl i H', H Dl = none → Pv Dl i H' → SqL K H' a xs)
    (ht : ∀ Dl (i : Nat) x H', H Dl = none → xs[i]? = some x → Pv Dl i H' → te ((wipe σ vs).set k (some x)) H' (apR Dl (Pv Dl (i + 1))))
    (hd : ∀ Dl H', H Dl = none → Pv Dl xs.length H' → Q (.ref Dl) H') : ∃ a', V.ref a = .ref a' ∧ lcL K a' k te vs σ H Q := by
  refine ⟨a, rfl, ⟨xs, hx⟩, fun Dl hD => ?_⟩
  refine lc_list (xs := xs) (tt := tYes) (Pv Dl) (hs Dl _ hD (same_upd hD) upd_same) (fun i H' _ p => hl Dl i H' hD p) (fun i x H' hi p => ?_) (fun H' p => hd Dl H' hD p)
  show wipe ((wipe σ vs).set k (some x)) vs = wipe σ vs ∧ (if true = true then te ((wipe σ vs).set k (some x)) H' (apR Dl (Pv Dl (i + 1))) else Pv Dl (i + 1) H')
  rw [if_pos rfl]
  exact ⟨hw _, ht Dl i x H' hD hi p⟩
def lcF (K : PySem.W.Frag) (a : Addr) (k : Nat) (tt : TT) (te : TE) (vs : List Nat) (σ : L2.St) (H : Hp) (Q : VK) : Prop := (∃ xs, SqL K H a xs) ∧ ∀ D, H D = none → ∃ W : Nat → Nat → Hp → Prop, (∃ m, W 0 m (L2.upd H D (.lst []))) ∧ ∀ i m H, W i m H →
  ((Itl K a).stop i H ∧ Q (.ref D) H) ∨ ((Itl K a).go i H ∧ ∃ Nx : Hp → Prop, (∀ H', Nx H' → ∃ m', m' < m ∧ W (i + 1) m' H') ∧ ∀ x H', (Itl K a).yld i H x H' → gName k x (wipe σ vs) H' fun σ2 H2 => wipe σ2 vs = wipe σ vs ∧ tt σ2 H2 fun b H3 =>
    if b = true then te σ2 H3 fun y H4 => ∃ acc, H4 D = some (.lst acc) ∧ acc.length < sizeLine ∧ Nx (L2.upd H4 D (.lst (acc ++ [y]))) else Nx H3)
theorem r_lcFLst {k : Nat} {vs : List Nat} {tl : TE} {tt : TT} (h : tl σ H fun x H1 => ∃ a, x = .ref a ∧ lcF K a k tt te vs σ H1 Q) : tLc (iList K tl) (gName k) tt te vs σ H Q := h
theorem r_lcF {a : Addr} {xs : List V} {k : Nat} {vs : List Nat} {tt : TT} (hx : SqL K H a xs) (hw : ∀ x, wipe ((wipe σ vs).set k (some x)) vs = wipe σ vs) (Pv : Addr → Nat → Hp → Prop)
    (hs : ∀ Dl H1, H Dl = none → Same H H1 → H1 Dl = some (.lst []) → Pv Dl 0 H1) (hl : ∀ Dl i H', H Dl = none → Pv Dl i H' → SqL K H' a xs)
    (ht : ∀ Dl (i : Nat) x H', H Dl = none → xs[i]? = some x → Pv Dl i H' → tt ((wipe σ vs).set k (some x)) H' fun b H3 => if b = true then te ((wipe σ vs).set k (some x)) H3 (apR Dl (Pv Dl (i + 1))) else Pv Dl (i + 1) H3)
    (hd : ∀ Dl H', H Dl = none → Pv Dl xs.length H' → Q (.ref Dl) H') : ∃ a', V.ref a = .ref a' ∧ lcF K a' k tt te vs σ H Q := by
  refine ⟨a, rfl, ⟨xs, hx⟩, fun Dl hD => ?_⟩
  exact lc_list (xs := xs) (tt := tt) (Pv Dl) (hs Dl _ hD (same_upd hD) upd_same) (fun i H' _ p => hl Dl i H' hD p) (fun i x H' hi p => ⟨hw _, ht Dl i x H' hD hi p⟩) (fun H' p => hd Dl H' hD p)
theorem r_bmA {to : TE} {t : TA} (h : to σ H fun x H1 => tyV K "list" x H1 ∧ t σ H1 fun xs H2 => rAppend x xs H2 Q) : tBM K "list" rAppend to t σ H Q := h
theorem r_tyL {l : Addr} {xs : List V} {G : Prop} (e : H l = some (.lst xs)) (h : G) : tyV K "list" (.ref l) H ∧ G := ⟨.inl ⟨rfl, xs, SqL.of e⟩, h⟩
theorem r_app {l : Addr} {xs : List V} (e : H l = some (.lst xs)) (n : xs.length ≤ 100000) (k : ∀ H1, But l H H1 → H1 l = some (.lst (xs ++ [y])) → Q .non H1) : rAppend (.ref l) [y] H Q :=
  ⟨l, xs, y, rfl, rfl, e, Nat.lt_of_le_of_lt n (by decide), k _ But.upd upd_same⟩
theorem r_rep {l : Addr} {n : Int} {xs : List V} (e : H l = some (.lst xs)) (h0 : 0 ≤ n) (h1 : n ≤ 1000) (hl : xs.length * n.toNat ≤ 100000) (k : ∀ p H1, H p = none → Same H H1 → H1 p = some (.lst (List.replicate n.toNat xs).flatten) → Q (.ref p) H1) : rRep (.ref l) (.int n) H Q :=
  ⟨l, n, xs, rfl, rfl, e, by omega, by omega, Nat.le_trans hl (by decide), fun p np => k p _ np (same_upd np) upd_same⟩
theorem r_sl {te : TE} {tl th : TO} {r : V → Option Int → Option Int → Hp → VK → Prop} (h : te σ H fun x H1 => tl σ H1 fun l H2 => th σ H2 fun u H3 => r x l u H3 Q) : tSl r te tl th σ H Q := h
def prt (Q : Option Int → Hp → Prop) : VK := fun x H => ∃ i : Int, x = .int i ∧ Q (some i) H
theorem r_part {Q : Option Int → Hp → Prop} (h : te σ H (prt Q)) : tPart te σ H Q := h
theorem r_prt {Q : Option Int → Hp → Prop} {i : Int} (h : Q (some i) H) : prt Q (.int i) H := ⟨i, rfl, h⟩
theorem r_nopart {Q : Option Int → Hp → Prop} (h : Q none H) : tNoPart σ H Q := h
theorem r_slL {a : Addr} {xs : List V} {lo hi : Option Int} (e : H a = some (.lst xs)) (k : ∀ p H1, H p = none → Same H H1 → H1 p = some (.lst (cutV xs lo hi)) → Q (.ref p) H1) : rSlL K (.ref a) lo hi H Q :=
  ⟨a, xs, rfl, SqL.of e, fun p np => k p _ np (same_upd np) upd_same⟩
theorem r_anyB {a : Addr} {bs : List Bool} (hs : SqL K H a (bs.map V.bl)) (h : Q (.bl (bs.any id)) H) : rAny K [.ref a] H Q := ⟨a, bs, rfl, hs, h⟩
/-! dicts with keys that are texts -/
def dgR (x y : V) (H : Hp) (Q : VK) : Prop := ∃ a v, x = .ref a ∧ DGet H a y (some v) ∧ Q v H
theorem r_dget (h : ta σ H fun x H1 => tb σ H1 fun y H2 => dgR x y H2 Q) : tDGet ta tb σ H Q := h
theorem r_dgS {a : Addr} {g : Str} {kvs : List (Key × V)} (e : H a = some (.dK kvs)) (l : valV kvs (.inr g) = some v) (k : Q v H) : dgR (.ref a) (.str g) H Q := ⟨a, v, rfl, by
  have z := DGet.k (H := H) (a := a) (kvs := kvs) (k := .inr g) e
  rw [l] at z
  exact z, k⟩
def dpR (x y v : V) (H : Hp) (N : Hp → Prop) : Prop := ∃ a H1, x = .ref a ∧ DPut H a y v H1 ∧ N H1
theorem r_dput (h : tc σ H fun v H1 => ta σ H1 fun x H2 => tb σ H2 fun y H3 => dpR x y v H3 (D.nx σ)) : sDPut ta tb tc D σ H := h
theorem r_dpS {a : Addr} {g : Str} {kvs : List (Key × V)} {N : Hp → Prop} (e : H a = some (.dK kvs)) (l : kvs.length ≤ 1000) (k : ∀ H1, But a H H1 → H1 a = some (.dK (putK kvs (.inr g) v)) → N H1) : dpR (.ref a) (.str g) v H N :=
  ⟨a, _, rfl, DPut.k (k := .inr g) e (Nat.lt_of_le_of_lt l (by decide)), k _ But.upd upd_same⟩
def dspR (p : Addr) (ps : List (V × V)) (H : Hp) (Q : VK) : Prop := H p = some (.dK []) ∧ ∃ kvs : List (Key × V), ps = kvs.map (fun kv => (kV kv.1, kv.2)) ∧ kvs.length ≤ 15 ∧ Q (.ref p) (L2.upd H p (.dK (mergeK [] kvs)))
theorem r_disp {trs : List (TE × TE)} (h : ∀ p H1, H p = none → Same H H1 → H1 p = some (.dK []) → tPairs trs σ H1 fun ps H2 => dspR p ps H2 Q) : tDisp trs σ H Q := fun p np => h p _ np (same_upd np) upd_same
theorem r_pnil {N : List (V × V) → Hp → Prop} (h : N [] H) : tPairs [] σ H N := h
theorem r_pcons {trs : List (TE × TE)} {N : List (V × V) → Hp → Prop} (h : ta σ H fun x H1 => tb σ H1 fun y H2 => tPairs trs σ H2 fun ps H3 => N ((x, y) :: ps) H3) : tPairs ((ta, tb) :: trs) σ H N := h
theorem r_dsp {p : Addr} {ps : List (V × V)} (kvs : List (Key × V)) (e : H p = some (.dK [])) (hps : ps = kvs.map (fun kv => (kV kv.1, kv.2))) (l : kvs.length ≤ 15) (k : ∀ H1, But p H H1 → H1 p = some (.dK (mergeK [] kvs)) → Q (.ref p) H1) : dspR p ps H Q :=
  ⟨e, kvs, hps, l, k _ But.upd upd_same⟩
theorem pow10_le {a b : Nat} (h : a ≤ b) : (10 : Int) ^ a ≤ 10 ^ b := by
  have e : ∀ k : Nat, (10 : Int) ^ k = ((10 ^ k : Nat) : Int) := fun k => by rw [Int.natCast_pow]; rfl
  rw [e, e]
  exact Int.ofNat_le.mpr (Nat.pow_le_pow_right (by decide) h)
theorem letters {n : Nat} (h : n < 26) : ∃ c, ("abcdefghijklmnopqrstuvwxyz" : Str).cps.toList[n]? = some c ∧ 97 ≤ c ∧ c ≤ 122 := by
  have e : ("abcdefghijklmnopqrstuvwxyz" : Str).cps.toList = List.range' 97 26 := by decide +kernel
  refine ⟨97 + n, ?_, by omega, by omega⟩
  rw [e, List.getElem?_range' (by omega)]
  simp
theorem ty_ins {a C dx : Addr} {fs : List (Str × V)} (c : Cls K C) (i : Inst K C) (e : H a = some (.ins C dx fs)) : TyX K H (.ref a) (.ref C) := .base (.ins e c i.ca i.cn i.ct i.cm)
theorem ix_seqG {X : Cx} {K : PySem.W.Frag} (e : X.K = K) : IxR X (rIx K) := e ▸ ix_seq
theorem c_isi {X : Cx} {K : PySem.W.Frag} (e : X.K = K) : CallR X (.builtin "isinstance") (rIsi K) := e ▸ call_isi
theorem r_isiT {t : Value} {n : String} {b : Bool} (ty : TyX K H x t) (k : PySem.W.kitOne K t (.type n) = some b) (h : Q (.bl b) H) : rIsi K [x, .ty n] H Q := ⟨x, .ty n, t, .type n, b, rfl, .ty n, ty, k, h⟩
theorem r_isiC {t : Value} {C : Addr} {b : Bool} (ty : TyX K H x t) (k : PySem.W.kitOne K t (.ref C) = some b) (h : Q (.bl b) H) : rIsi K [x, .ref C] H Q := ⟨x, .ref C, t, .ref C, b, rfl, .own C, ty, k, h⟩
/-- a new instance, its dict made, its __init__ asked -/
def mkI (C : Addr) (sp : Sp) (ds vs : List V) (H : Hp) (Q : VK) (E : XK) : Prop := ∀ x dx, H x = none → H dx = none → dx ≠ x →
  sp (.ref x :: (vs ++ ds)) (L2.upd (L2.upd H dx (.own x)) x (.ins C dx [])) (fun v H2 => v = .non ∧ Q (.ref x) H2) E
theorem r_make {C : Addr} {ds : List V} (h : A σ H fun vs H1 => mkI C sp ds vs H1 Q E) : tMake C sp ds E A σ H Q := h
theorem look1 {f : Str} : ([(f, v)] : List (Str × V)).lookup f = some v := by simp [List.lookup]
/-- o.f = value -/
def stF (K : PySem.W.Frag) (f : Str) (y x : V) (H : Hp) (N : Hp → Prop) : Prop := ∃ a C dx fs, x = .ref a ∧ H a = some (.ins C dx fs) ∧ Cls K C ∧ NoAttr K C f ∧ fs.length < 1000 ∧ N (L2.upd H a (.ins C dx (putF f y fs)))
theorem r_sfld {f : Str} {tv : TE} (h : tv σ H fun y H1 => ta σ H1 fun x H2 => stF K f y x H2 (D.nx σ)) : sFld K ta tv f D σ H := h
theorem r_stF {f : Str} {a C dx : Addr} {fs : List (Str × V)} {N : Hp → Prop} (e : H a = some (.ins C dx fs)) (c : Cls K C) (n : NoAttr K C f) (l : fs.length ≤ 900) (h : ∀ H1, But a H H1 → H1 a = some (.ins C dx (putF f y fs)) → N H1) :
    stF K f y (.ref a) H N := ⟨a, C, dx, fs, rfl, e, c, n, by omega, h _ But.upd upd_same⟩
def rIsN : R2 := fun x y H Q => y = .non ∧ Q (.bl (decide (x = .non))) H
def rNotN : R2 := fun x y H Q => y = .non ∧ Q (.bl (!decide (x = .non))) H
theorem o_isN {X : Cx} : OpR X (compareOp .Is) rIsN := op_isN
theorem o_notN {X : Cx} : OpR X (compareOp .IsNot) rNotN := op_notN
theorem r_isN (h : Q (.bl (decide (x = .non))) H) : rIsN x .non H Q := ⟨rfl, h⟩
theorem r_notN (h : Q (.bl (!decide (x = .non))) H) : rNotN x .non H Q := ⟨rfl, h⟩
theorem z4 : (4 : Nat) ≤ sizeLine := by decide
theorem szle {n : Nat} (h : n ≤ 1000) : n ≤ sizeLine := Nat.le_trans h (by decide)
end
end Z
namespace Z
open PySem PySem.Spec PyProof.Rows L2
/-- what of the text an own operator leans on, the class of instances over object alone -/
structure BinF (K : PySem.W.Frag) (C : Addr) (nm : String) (f g : Addr) : Prop where
  sf : PySem.W.selfFirst K C = true
  at_ : PySem.W.findIn K (.ref C) (PySem.dunder nm) = some (some (.ref f))
  fn : PySem.W.isFn K (.ref f) = true
  rat : PySem.W.findIn K (.ref C) (PySem.dunderR nm) = some (some (.ref g))
  rfn : PySem.W.isFn K (.ref g) = true
  fo : ∃ fo, PySem.W.findIn K (.type "int") (PySem.dunder nm) = some fo
  ro : ∃ ro, PySem.W.findIn K (.type "int") (PySem.dunderR nm) = some ro
  sub : PySem.W.subIn K (.ref C) (.type "int") = some false
  isub : PySem.W.subIn K (.type "int") (.ref C) = some false
  cls : ∃ cd, PySem.W.clsIn K C = some cd ∧ cd.mro = [.ref C, .type "object"]
  ni : PySem.W.findIn K (.ref C) (PySem.dunderI nm) = some none
  noi : PySem.W.findIn K (.type "object") (PySem.dunderI nm) = some none
/-- what the formatting of an own object leans on -/
structure TxF (K : PySem.W.Frag) (C : Addr) : Prop where
  fm : PySem.W.findIn K (.ref C) "__format__" = some (some (.builtin "object.__format__"))
  mo : PySem.W.mroIn K C (.type "object") = some true
/-- != of an own class is the one of all objects -/
structure NeD (K : PySem.W.Frag) (C : Addr) : Prop where
  ne : PySem.W.findIn K (.ref C) "__ne__" = some (some (.builtin "object.__ne__"))
  mo : PySem.W.mroIn K C (.type "object") = some true
end Z

namespace Z
open PySem PySem.Spec PyProof.Rows L2
/-- a block in a block, no name of which is one of the outer one's -/
def bare : Scope := { kind := .function, names := [], isGenerator := false, isCoroutine := false }
theorem blk_any {N : List Str} {sc scope : Scope} {own : List (Str × Nat)} (h : BlkOk N bare scope own) : BlkOk N sc scope own :=
  ⟨h.kind, h.uniq, h.ix, fun y hy e => (h.free y hy e).elim (fun z => by cases z) (fun z => by cases z), h.own⟩
theorem pi_listK {X : Cx} {K : PySem.W.Frag} {tg l : Expr} {tl : TE} (e : X.K = K) (h : PE X l tl) : PI X tg l (iList K tl) := e ▸ pi_list h
/-- the positional ones, then those by name; no other numbers of them -/
def kwG {α : Type} (m n : Nat) (us ws : List α) : List α := if us.length = m ∧ ws.length = n then us ++ ws else []
theorem kwG_of {α : Type} {m n : Nat} {us ws : List α} (h1 : us.length = m) (h2 : ws.length = n) : kwG m n us ws = us ++ ws := if_pos ⟨h1, h2⟩
theorem kw_binds {K : PySem.W.Frag} {fd : FuncData} {ps ks : List Str} {m n : Nat} (hp : ps.length ≠ 0) (h : ∀ (s : Shared) (us ws : List Value), us.length = m → ws.length = n → BindsTo s fd ⟨us, ks.zip ws⟩ (ps.zip (us ++ ws))) : KBinds K fd ps ks (kwG m n) (kwG m n) where
  to := fun s us ws _ hl => by
    by_cases c : us.length = m ∧ ws.length = n
    · rw [kwG_of c.1 c.2]; exact h s us ws c.1 c.2
    · unfold kwG at hl
      rw [if_neg c] at hl
      exact absurd hl.symm hp
  rel := fun {vs us zs ws} r rz => by
    have e1 := r.length
    have e2 := rz.length
    by_cases c : us.length = m ∧ ws.length = n
    · rw [kwG_of c.1 c.2, kwG_of (e1.trans c.1) (e2.trans c.2)]
      exact r.append rz
    · unfold kwG
      rw [if_neg c, if_neg (by rw [e1, e2]; exact c)]
      exact .nil
theorem kbindsF {K : PySem.W.Frag} {x qual : Str} {st : Stmt} {f : Addr} {fd : FuncData} {ps ks : List Str} {m n : Nat} (F : Fun K x qual st f fd) (hp : ps.length ≠ 0)
    (h : ∀ (kV doc pm : Value) (an : Option Addr) (cdv ct : Value) (us ws : List Value), us.length = m → ws.length = n → bindArgs (PySem.W.fnOf x qual (defArgs st) (defBody st) (defScope st) .none kV doc pm an cdv ct) ⟨us, ks.zip ws⟩ = pure (ps.zip (us ++ ws))) :
    KBinds K fd ps ks (kwG m n) (kwG m n) := by
  obtain ⟨oc, od, kV, doc, pm, an, cdv, ct, osl, rfl, lk, hcd⟩ := F.ex
  exact kw_binds hp fun s us ws h1 h2 => .of_eq (h kV doc pm an cdv ct us ws h1 h2)
end Z

namespace Z
open PySem PySem.Spec PyProof.Rows L2
/-! exceptions of own classes, whose __init__ stores one field, as values -/
/-- what such a class, over a built-in one, leans on; f its __init__ -/
structure ExF (K : PySem.W.Frag) (C f : Addr) : Prop where
  mk_ : ∃ (B newId initId : String) (bmB : List Value), ExcBaseFacts B newId initId bmB ∧ PySem.W.excInitIn K C bmB newId = true
  st : ∃ (B : String) (bmB : List Value), StoreFacts B bmB "object.__setattr__" "object" ∧ PySem.W.excOver K C bmB = true
  ini : PySem.W.findIn K (.ref C) "__init__" = some (some (.ref f))
  fn : PySem.W.isFn K (.ref f) = true
  sa : PySem.W.findIn K (.ref C) "__setattr__" = some (some (.builtin "object.__setattr__"))
  hd : PySem.W.hasDictIn K C = true
  ga : PySem.W.findIn K (.ref C) "__getattribute__" = some (some (.builtin "BaseException.__getattribute__"))
  gt : PySem.W.findIn K (.ref C) "__getattr__" = some none
  sb : PySem.W.subIn K (.ref C) (.type "BaseException") = some true
  ss : PySem.W.subIn K (.ref C) (.ref C) = some true
  ty : PySem.W.typeIn K (.ref C) = some (.type "type")
  kp : PySem.W.keepIn K (.ref C) = true
  ca : PySem.W.findIn K (.ref C) "__class__" = some (some (.builtin "object.__class__"))
  cm : PySem.W.mroIn K C (.type "object") = some true
  cn : PySem.W.specialIn K (.builtin "object.__class__") "__get__" = some (some (.builtin "getset_descriptor.__get__"))
  ct : PySem.W.takesIn K (.builtin "object.__class__") = some true
section
open Builtin Builtin.ObjectAttr PySem.HandSPX
variable {prog : Program} {w : World} {A : Around} {R : Result → Shared → Prop} {s : Shared} {K : PySem.W.Frag} {a C f : Addr} {fv : Array Value} {name : Str} {tk : Tok} {v : Value}
theorem osa_first (T : ExF K C f) (X : K.In s.heap) (hx : s.heap.get? a = some { cls := .ref C, data := .fields fv }) (hn : PySem.W.findIn K (.ref C) name = some none)
    (hq : ∀ h' tk' dx, (∀ b o, b ≠ a → s.heap.get? b = some o → h'.get? b = some o) → s.heap.objs.size ≤ dx → dx ≠ a → h'.get? a = some { cls := .ref C, dict := some dx, data := .fields fv } → h'.Ns1 dx (fun y => if y = name then some v else none) →
      R (.ok (.ret .none)) { s with heap := h', toks := tk' }) : codeAny (model prog w) A (.call (.builtin "object.__setattr__") ⟨[.ref a, .str name tk, v], []⟩) R s := by
  obtain ⟨B, bmB, SF, ho⟩ := T.st
  have J : PySem.W.InstAt s.heap a { cls := .ref C, data := .fields fv } C none := ⟨hx, rfl, rfl, trivial⟩
  refine PySem.W.osa_openX SF X J ho (r := none) (by unfold PySem.W.takerIn; rw [hn]; rfl) fun b => ?_
  obtain ⟨cd, hcd, hdct⟩ := PySem.W.any_some T.hd
  have lc : PySem.W.Looks (model prog w) s.heap (classData C) cd := PySem.W.looks_clsIn X hcd
  have ne : a ≠ s.heap.objs.size := Nat.ne_of_lt (Heap.lt_size hx)
  obtain ⟨hp, g, d, t, os⟩ := s
  obtain ⟨nm, bs, mro, ns, qn, hd, sn, sb, ab, col, del⟩ := cd
  dsimp only at hdct
  subst hdct
  show wpAny _ _ (storeInOwnDict (.ref a) (.ref C) (.str name tk) name v b) _ _ _
  unfold storeInOwnDict ownDictForStores
  repeat (first | with_reducible refine store_in_new ?new ?stored | with_reducible refine wpAny_loadPart_at hx ?_ | with_reducible refine lc.at ?_ | wp_step)
  case new => exact ⟨_, #[], _, (Heap.get?_update_ne _ _ _ _ ne.symm).trans (Heap.get?_push_at rfl rfl), rfl, (fun e he => absurd he (by simp)), fun _ => rfl⟩
  case stored =>
    intro h' t' n1 sbut
    have ha : (hp.push { cls := .type "dict", data := .dict #[] }).get? a = some { cls := .ref C, data := .fields fv } := Heap.get?_push_of_some _ hx
    refine hq h' t' hp.objs.size (fun c o hc hco => ?_) (Nat.le_refl _) ne.symm ?_ n1
    · exact (sbut.2 c (Nat.ne_of_lt (Heap.lt_size hco))).trans ((Heap.get?_update_ne _ _ _ _ hc).trans (Heap.get?_push_of_some _ hco))
    · exact (sbut.2 a ne).trans (Heap.get?_update_self _ ha rfl)
end
section
variable {X : Cx} {pins : List (Addr × Obj)} {σ : L2.St} {H : Hp} {s : Shared} {a C f : Addr} {fl : Str} {y : V} {u : Value}
/-- self.fl = y in such an __init__ -/
theorem set_first {Q : Unit → Shared → Prop} {E : Value → Shared → Prop} {A : Around} (T : ExF X.K C f) (I : Inv X pins σ H s) (e : H a = some (exo a C none)) (hn : PySem.W.findIn X.K (.ref C) fl = some none) (ry : RelV y u)
    (h : ∀ dx s', H dx = none → dx ≠ a → Inv X pins σ (L2.upd (L2.upd H dx (exd dx [(fl, y)])) a (exo a C (some dx))) s' → Q () s') : wpAny (model X.prog X.w) A (setAttr (.ref a) fl u) Q E s := by
  obtain ⟨t1, ho⟩ := exo_at I.hok e
  refine PySem.W.set_plain I.kIn (ox := { cls := .ref C, dict := none, data := .fields #[.ref t1, .none, .none, .none, .bool false, .none] }) (od := none) ⟨ho, rfl, rfl, trivial⟩ T.sa ?_
  refine osa_first (s := { s with toks := s.toks + 1 }) T I.kIn ho hn fun h' tk' dx keep dn dne hx n1 => ?_
  have free : H dx = none := I.hok.fresh dn
  have away : ∀ {b : Addr}, H b = none → b ≠ a := fun z q => by
    rw [q, e] at z; cases z
  have older : ∀ {b : Addr} {o : Obj}, s.heap.get? b = some o → b ≠ dx := fun q => Nat.ne_of_lt (Nat.lt_of_lt_of_le (Heap.lt_size q) dn)
  have other : ∀ {b : Addr} {o : HO}, H b = some o → o ≠ exo a C none → b ≠ a := fun q z r => by
    rw [r, e] at q; exact z (Option.some.inj q).symm
  have U : Un X.fs [] H (L2.upd (L2.upd H dx (exd dx [(fl, y)])) a (exo a C (some dx))) s.heap h' := by
    constructor
    · exact fun b o q z _ _ => keep b o (away z) q
    · exact fun b o q z _ _ => ⟨_, keep b o (away z) q⟩
    · intro b o q z _
      rw [upd_ne (away z), upd_ne (older q)]; exact z
    · intro b o q _
      by_cases r : b = a
      · subst r; exact ⟨_, hx⟩
      · exact ⟨_, keep b o r q⟩
    · intro b xs q
      rw [upd_ne (other q fun z => exo_tup z.symm), upd_ne (ne_of_none q free)]; exact q
    · intro b o v q
      rw [upd_ne (other q fun z => exo_frz z.symm), upd_ne (ne_of_none q free)]; exact q
    · intro b ps q
      refine ⟨#[], ?_⟩
      rw [upd_ne (other q fun z => exo_tbl z.symm), upd_ne (ne_of_none q free), q]; simp
  refine h dx _ free dne (I.un (t' := tk') U fun b o q => ?_)
  by_cases r : b = a
  · subst r
    rw [upd_same] at q
    cases q
    exact exo_ok hx
  rw [upd_ne r] at q
  by_cases r2 : b = dx
  · subst r2
    rw [upd_same] at q
    cases q
    exact exd_ok n1 (relO_put (fs := []) ry fun g => True.intro)
  rw [upd_ne r2] at q
  refine (I.hok b o q).stay (fun c v hc z => keep c v ?_ z) (fun c hc => ?_) fun c xs hc => ?_
  · rcases hc with hc | hc
    · rw [hc]; exact r
    · exact other hc fun z => exo_own z.symm
  · rw [upd_ne (other hc fun z => exo_own z.symm), upd_ne (ne_of_none hc free)]; exact hc
  · rw [upd_ne (other hc fun z => exo_tup z.symm), upd_ne (ne_of_none hc free)]; exact hc
/-- such an exception, read -/
theorem exv_at (T : ExF X.K C f) (I : Inv X pins σ H s) {d : Addr} {fs : List (Str × V)} (ea : H a = some (exo a C (some d))) (ed : H d = some (exd d fs)) :
    ∃ ox od, PySem.W.InstAt s.heap a ox C (some od) ∧ ∀ n v, fs.lookup n = some v → ∃ u, PySem.W.lookIn n od = some (some u) ∧ RelV v u := by
  obtain ⟨t1, ho⟩ := exo_at I.hok ea
  obtain ⟨mA, hns, hr⟩ := exd_at I.hok ed
  obtain ⟨od, hod, hl⟩ := lookIn_ns hns
  refine ⟨_, od, ⟨ho, rfl, rfl, hod⟩, fun n v l => ?_⟩
  obtain ⟨u, hu, ru⟩ := RelO.some_of (v := v) (o := mA n) (by rw [← l]; exact hr n)
  exact ⟨u, by rw [hl, hu], ru⟩
end
def xstR (K : PySem.W.Frag) (fl : Str) (y x : V) (H : Hp) (N : Hp → Prop) : Prop := ∃ a C f, x = .ref a ∧ ExF K C f ∧ PySem.W.findIn K (.ref C) fl = some none ∧ H a = some (exo a C none) ∧
  ∀ dx, H dx = none → dx ≠ a → N (L2.upd (L2.upd H dx (exd dx [(fl, y)])) a (exo a C (some dx)))
def tXst (K : PySem.W.Frag) (fl : Str) (to te : TE) : TS := fun D σ H => te σ H fun y H1 => to σ H1 fun x H2 => xstR K fl y x H2 (D.nx σ)
def xvR (K : PySem.W.Frag) (n : Str) (x : V) (H : Hp) (Q : VK) : Prop := ∃ a C f d fs v, x = .ref a ∧ ExF K C f ∧ PySem.W.findIn K (.ref C) n = some none ∧ H a = some (exo a C (some d)) ∧ H d = some (exd d fs) ∧ fs.lookup n = some v ∧ Q v H
def tXv (K : PySem.W.Frag) (n : Str) (te : TE) : TE := fun σ H Q => te σ H fun x H1 => xvR K n x H1 Q
/-- C(e, ..), a new exception -/
def exI (C : Addr) (sp : Sp) (vs : List V) (H : Hp) (Q : VK) : Prop := vs.length ≤ 1000 ∧ ∀ a, H a = none → sp (.ref a :: vs) (L2.upd H a (exo a C none)) (fun v H2 => v = .non ∧ Q (.ref a) H2) E0
def tExv (C : Addr) (sp : Sp) (t : TA) : TE := fun σ H Q => t σ H fun vs H1 => exI C sp vs H1 Q
def rIsX (K : PySem.W.Frag) : List V → Hp → VK → Prop := fun xs H Q => ∃ a C f d fs c u b, xs = [.ref a, c] ∧ ClsV c u ∧ ExF K C f ∧ H a = some (exo a C (some d)) ∧ H d = some (exd d fs) ∧ PySem.W.kitOne K (.ref C) u = some b ∧ Q (.bl b) H
section
variable {X : Cx} {o e : Expr} {es : List Expr} {to te : TE} {ta : TA} {fl n x : Str} {p p' pos : Pos} {k : Nat} {C f : Addr} {fd : FuncData} {ps : List Str} {sp : Sp}
theorem ps_xst (ho : PE X o to) (he : PE X e te) (hs : swapsWith e (some (.Attribute o fl p')) pos.line X.env = pure false := by rfl) : PS X (.Assign [.Attribute o fl p'] e pos) (tXst X.K fl to te) := by
  refine ⟨fun pins s σ H D I h => ?_⟩
  refine plainObj_wpAny_Assign_Attribute (thn (he.run pins s σ H _ I h) fun v s1 ⟨y, H1, I1, r1, q1⟩ => thn (ho.run pins s1 σ H1 _ I1 q1) fun u s2 z => ?_) hs
  obtain ⟨x, H2, I2, r2, a, C, f, rfl, T, hn, ea, q⟩ := z
  cases (show u = Value.ref a from r2)
  exact set_first T I2 ea hn r1 fun dx s' n1 n2 J => ⟨σ, _, J, q dx n1 n2⟩
theorem pe_xv (he : PE X e te) (hb : attributeBase e n X.env (eval e X.env) = eval e X.env := by rfl) : PE X (.Attribute e n pos) (tXv X.K n te) := by
  refine ⟨fun pins s σ H Q I h => ?_⟩
  refine attr_of hb (thn (he.run pins s σ H _ I h) fun u s1 z => ?_)
  obtain ⟨x, H1, I1, rx, a, C, f, d, fs, v, rfl, T, hn, ea, ed, l, q⟩ := z
  cases (show u = Value.ref a from rx)
  obtain ⟨ox, od, J, look⟩ := exv_at T I1 ea ed
  obtain ⟨u, hu, ru⟩ := look n v l
  exact HandSPX.exc_get I1.kIn J T.ga T.gt T.sb (PySem.W.findObj_own T.hd hn rfl hu) (handed_of ru) ⟨v, H1, I1.tok _, ru, q⟩
theorem pe_exv (T : ExF X.K C f) (F : FnOk X.prog X.w X.K X.mg X.base CX0 k f fd ps sp) (hr : Room (k + 1) X.A) (hg : Gl X x) (hm : X.mg x = some (.ref C)) (hb : Binds X.K fd ps []) (ha : PA X (e :: es) ta)
    (hdb : (x == ("__debug__" : Str)) = false := by decide) (he : starEach (e :: es) X.env = (false, eval e X.env) :: starEach es X.env := by rfl) (hpl : (backTo pos (starEach es X.env)).any (·.1) = false := by rfl) :
    PE X (.Call (.Name x p) (e :: es) [] pos) (tExv C sp ta) := by
  refine ⟨fun pins s σ H Q I h => ?_⟩
  refine wpAny_Call_Name_kw (ld_glob I hg hm ?_ hdb)
  refine PySem.W.callWith_K (h₀ := X.base) I.ok.mod.kin T.kp (thn (ha.run pos pins s σ H _ I h) fun us s1 z => ?_) he hpl
  obtain ⟨vs, H1, I1, r1, hz, q1⟩ := z
  refine ⟨I1.kIn, ?_⟩
  obtain ⟨B, newId, initId, bmB, FB, hin⟩ := T.mk_
  obtain ⟨nm, N, qn, bs, bm, hdct, sn, sub, ab, col, dd, k0, k1, k2, k3, k5, hC, hT⟩ := PySem.W.excInit_of I1.kIn hin
  show wpAny _ _ (call (.ref C) us) _ _ _
  obtain ⟨hp, g, dr, tk, os⟩ := s1
  have up : hp.objs.size ≤ hp.objs.size + 1 := Nat.le_succ _
  have hq := q1 (hp.objs.size + 1) (I1.hok.fresh up)
  have keep : ∀ b o, hp.get? b = some o → ((hp.push (PySem.W.kdv_tup us)).push (PySem.HandSPX.excO C hp.objs.size)).get? b = some o := fun b o z => Heap.get?_push_of_some _ (Heap.get?_push_of_some _ z)
  have there : ((hp.push (PySem.W.kdv_tup us)).push (PySem.HandSPX.excO C hp.objs.size)).get? (hp.objs.size + 1) = some (PySem.HandSPX.excO C hp.objs.size) := by heap_get
  have I2 : Inv X pins σ (L2.upd H1 (hp.objs.size + 1) (exo (hp.objs.size + 1) C none)) ⟨(hp.push (PySem.W.kdv_tup us)).push (PySem.HandSPX.excO C hp.objs.size), g, dr, tk, os⟩ := I1.laid (t' := tk) keep up (exo_ok there)
  have r2 : Vals (V.ref (hp.objs.size + 1) :: vs) (Value.ref (hp.objs.size + 1) :: us) := .cons rfl r1
  have lus : us.length ≤ sizeLine := by
    rw [← Paired.length r1, sizeLine_eq]; omega
  have lps : (Value.ref (hp.objs.size + 1) :: us ++ []).length = ps.length := by
    have z := r2.length
    rw [F.len _ _ _ _ hq] at z
    rw [List.append_nil]; exact z.symm
  refine wpAny_call (PySem.HandSPX.call_own FB hT hC (PySem.W.looks_findIn I1.kIn T.ini) (fun self => PySem.W.bind_fn I1.kIn self (beq_iff_eq.mp T.fn)) lus
    (codeAny_mono (F.run _ X.stack _ _ ⟨Value.ref (hp.objs.size + 1) :: us, []⟩ (Value.ref (hp.objs.size + 1) :: us) _ _ E0 (hr.make C us []) (I2.env0.make C us []) (by
      have z := hb _ (Value.ref (hp.objs.size + 1) :: us) I2.kIn lps
      rw [List.append_nil] at z
      exact z) r2 hq) fun r s' z => ?_))
  cases r with
  | error x => exact z.elim
  | ok fl =>
    cases fl with
    | next => exact False.elim z
    | brk => exact False.elim z
    | cont => exact False.elim z
    | ret u =>
      obtain ⟨v, H', I3, rv, rfl, q3⟩ := I2.after z
      exact ⟨rv, ⟨V.ref (hp.objs.size + 1), H', I3, rfl, q3⟩⟩
theorem c_isX {K : PySem.W.Frag} (e : X.K = K) : CallR X (.builtin "isinstance") (rIsX K) := by
  subst e
  intro pins s σ H xs us Q I r h
  obtain ⟨a, C, f, d, fs, c, u, b, rfl, k, T, ea, ed, ek, q⟩ := h
  obtain ⟨u1, u2, rfl, r1, r2⟩ := vals2 r
  cases (show u1 = Value.ref a from r1)
  have e2 := k.eq r2
  subst e2
  obtain ⟨ox, od, J, _⟩ := exv_at T I ea ed
  exact PySem.W.kia_one (PySem.W.kitx_exc (by obtain ⟨cd, z, _⟩ := PySem.W.any_some T.hd; rw [z]; rfl) T.ga T.gt T.sb T.ca T.cn T.ct T.cm) I.kIn J ek (fun z => nomatch z) fun tk => ⟨.bl b, H, I.kept (t' := tk) fun _ _ z => z, rfl, q⟩
end
section
variable {K : PySem.W.Frag} {σ : L2.St} {H : Hp} {Q : VK} {D : Ends} {to te : TE} {ta : TA} {fl n : Str} {y v : V} {a C f d : Addr} {fs : List (Str × V)} {sp : Sp} {vs : List V}
theorem r_xst (h : te σ H fun y H1 => to σ H1 fun x H2 => xstR K fl y x H2 (D.nx σ)) : tXst K fl to te D σ H := h
theorem r_xstV {N : Hp → Prop} (T : ExF K C f) (hn : PySem.W.findIn K (.ref C) fl = some none) (e : H a = some (exo a C none))
    (h : ∀ dx H1, H dx = none → But a H H1 → H1 a = some (exo a C (some dx)) → H1 dx = some (exd dx [(fl, y)]) → N H1) : xstR K fl y (.ref a) H N :=
  ⟨a, C, f, rfl, T, hn, e, fun dx n1 n2 => h dx _ n1 (fun b o nb q => by rw [upd_ne nb, upd_ne (ne_of_none q n1)]; exact q) upd_same (by rw [upd_ne n2, upd_same])⟩
theorem r_xv (h : te σ H fun x H1 => xvR K n x H1 Q) : tXv K n te σ H Q := h
theorem r_xvV (T : ExF K C f) (hn : PySem.W.findIn K (.ref C) n = some none) (ea : H a = some (exo a C (some d))) (ed : H d = some (exd d fs)) (l : fs.lookup n = some v) (q : Q v H) : xvR K n (.ref a) H Q := ⟨a, C, f, d, fs, v, rfl, T, hn, ea, ed, l, q⟩
theorem r_exv (h : ta σ H fun vs H1 => exI C sp vs H1 Q) : tExv C sp ta σ H Q := h
theorem r_isX {u : Value} {c : V} {b : Bool} (k : ClsV c u) (T : ExF K C f) (ea : H a = some (exo a C (some d))) (ed : H d = some (exd d fs)) (ek : PySem.W.kitOne K (.ref C) u = some b) (q : Q (.bl b) H) : rIsX K [.ref a, c] H Q := ⟨a, C, f, d, fs, c, u, b, rfl, k, T, ea, ed, ek, q⟩
end
end Z
namespace Z
open PySem PySem.Spec PyProof.Rows L2
/-- one + other of two instances of a class -/
structure AddF (K : PySem.W.Frag) (C f : Addr) : Prop where
  sf : PySem.W.selfFirst K C = true
  at_ : PySem.W.findIn K (.ref C) (PySem.dunder "add") = some (some (.ref f))
  fn : PySem.W.isFn K (.ref f) = true
end Z
/-! {x:+,} of an int; ljust, rjust; the digits in groups of three -/
namespace Z
open PySem PySem.Spec PyProof.Rows L2
section
open Builtin Builtin.Float
/-- how "+," is read -/
def plusF : FormatSpec := { align := 62, sign := some 43, grouping := some ',' }
theorem plus_read : parseFormatSpec ("+," : Str).cps.toList "int" 62 = .ok plusF := by kernel_rfl
def plusText (a : Int) : Str := intField' plusF (decide (a < 0)) [] ((Nat.toDigits 10 a.natAbs).map fun c => (if (100 : Nat) == 88 then c.toUpper else c).toNat) [] 3
theorem ret_text {prog : Program} {w : World} {A : Around} {R : Result → Shared → Prop} {s : Shared} {x y : Str} (e : x = y) (hq : (Made.str x).post (fun v s' => R (.ok (.ret v)) s') s) :
    wpAny (model prog w) A.in1 (retStr y) (fun fin s' => match fin with | .done f => R (.ok f) s' | .again c' => c'.quiet = true ∧ codeAny (model prog w) A c' R s') (fun e s' => R (.error e) s') s := by
  subst e
  unfold retStr
  exact wpAny_bind (wpAny_mkStr (wpAny_pure hq.2) hq.1)
theorem gives_plus (a : Int) (t u : Tok) (h : a.natAbs.log2 < 1920) : Gives (Builtin.«int.__format__» ⟨[.int a t, .str "+," u], []⟩) (.str (plusText a)) := by
  intro prog w A R s hq
  have ne : ((("+," : Str).length == 0)) = false := by decide +kernel
  have asc : (((("+," : Str)).cps.toList.drop 1).any (· ≥ 128) || ((("+," : Str)).cps.getD 0 0 ≥ 128 && !([60, 62, 61, 94] : List Nat).contains ((("+," : Str)).cps.getD 1 0))) = false := by decide +kernel
  unfold Builtin.«int.__format__»
  simp only [selfAndOne, noKeywords, Builtin.Int.intOfSelf, asInt?, asStr?, List.isEmpty_nil, if_true, pure_bind, bind_pure, bind_assoc, ne, asc, Bool.false_eq_true, if_false, show (Value.str ("+," : Str) u == Value.none) = false from rfl]
  refine wpAny_bind (wpAny_typeNameOf (T := "str") (typeIs_str _ _ _) (by decide) fun _ => ?_)
  refine wpAny_bind (wpAny_typeNameOfCut_int ?_)
  have hty : plusF.type.getD (if ("+," : Str).cps.back? == some 0 then 0 else 100) = 100 := by decide +kernel
  simp only [plus_read, hty]
  rw [if_pos]
  case hc => decide
  conv => arg 3; whnf
  rw [PySem.overDigitLimit_small h]
  refine wpAny_bind (m := (pure none : Sem (Option Nat))) (wpAny_pure ?_)
  conv => arg 3; whnf
  refine ret_text (x := plusText a) ?txt hq
  case txt => kernel_rfl
/-- groups of three, put ahead of F one by one -/
def grp : Nat → List Nat → List Nat → List Nat
  | 0, ds, F => ds ++ F
  | k + 1, ds, F => if 3 < ds.length then grp k (ds.take (ds.length - 3)) (44 :: (ds.drop (ds.length - 3) ++ F)) else ds ++ F
theorem rev_take {ds : List Nat} (n : Nat) : (ds.reverse.take n).reverse = ds.drop (ds.length - n) := by
  rw [List.take_reverse, List.reverse_reverse]
theorem rev_drop {ds : List Nat} (n : Nat) : ds.reverse.drop n = (ds.take (ds.length - n)).reverse := by
  rw [List.drop_reverse]
theorem grp_end {k : Nat} {ds F : List Nat} (h : ds.length ≤ 3) : grp k ds F = ds ++ F := by
  cases k with
  | zero => rfl
  | succ k => show (if 3 < ds.length then _ else _) = _; rw [if_neg (by omega)]
theorem groups_grp : ∀ (k : Nat) (ds F : List Nat) (room : Int), ds.length ≤ k → 1 ≤ ds.length → room ≤ 0 → groupsFromRight' 3 44 (k + 1) ds.reverse room F = grp k ds F
  | 0, ds, F, room, h1, h2, _ => by omega
  | k + 1, ds, F, room, h1, h2, h3 => by
    have e1 : ∀ m : Nat, 1 ≤ m → (max (max (m : Int) room) 1).toNat = m := fun m hm => by omega
    by_cases c : 3 < ds.length
    · have n3 : min 3 ds.length = 3 := by omega
      have ih := groups_grp k (ds.take (ds.length - 3)) (44 :: (ds.drop (ds.length - 3) ++ F)) (room - (3 : Nat) - 1) (by rw [List.length_take]; omega) (by rw [List.length_take]; omega) (by omega)
      show _ = (if 3 < ds.length then _ else _)
      rw [if_pos c, ← ih]
      rw [groupsFromRight']
      simp only [List.length_reverse, e1 _ h2, n3]
      have z : (ds.reverse.drop 3).isEmpty = false := by
        rw [rev_drop]
        cases q : (ds.take (ds.length - 3)).reverse with
        | nil =>
          have := congrArg List.length q
          rw [List.length_reverse, List.length_take] at this
          simp at this
          omega
        | cons _ _ => rfl
      rw [z, Bool.false_and, if_neg Bool.false_ne_true, rev_drop, rev_take, show 3 - ds.length = 0 by omega]
      rfl
    · have n3 : min 3 ds.length = ds.length := by omega
      rw [grp_end (by omega)]
      rw [groupsFromRight']
      simp only [List.length_reverse, e1 _ h2, n3]
      have z : (ds.reverse.drop ds.length).isEmpty = true := by
        rw [List.drop_eq_nil_of_le (by rw [List.length_reverse]; exact Nat.le_refl _)]; rfl
      rw [z, Bool.true_and, if_pos (decide_eq_true (by omega)), rev_take, Nat.sub_self, List.drop_zero]
      simp
def digs (a : Int) : List Nat := (Nat.toDigits 10 a.natAbs).map Char.toNat
theorem digs_pos (a : Int) : 1 ≤ (digs a).length := by
  unfold digs
  rw [List.length_map]
  exact tDigits_len_ge 10 a.natAbs
theorem plus_text (a : Int) : plusText a = ⟨((if a < 0 then [45] else [43]) ++ grp (digs a).length (digs a) []).toArray⟩ := by
  have e : ((Nat.toDigits 10 a.natAbs).map fun c => (if (100 : Nat) == 88 then c.toUpper else c).toNat) = digs a := rfl
  unfold plusText
  rw [e]
  have ne : (digs a).isEmpty = false := by
    have := digs_pos a
    cases h : digs a with
    | nil => rw [h] at this; simp at this
    | cons _ _ => rfl
  have g := groups_grp (digs a).length (digs a) [] 0 (Nat.le_refl _) (digs_pos a) (Int.le_refl 0)
  unfold intField'
  rw [ne]
  show (⟨(List.replicate _ _ ++ _ ++ [] ++ List.replicate 0 _ ++ groupsFromRight' 3 44 ((digs a).length + 0 + 1) (digs a).reverse 0 [] ++ [] ++ List.replicate 0 _).toArray⟩ : Str) = _
  rw [g]
  by_cases c : a < 0
  · rw [decide_eq_true c]
    simp [c, plusF]
    rfl
  · rw [decide_eq_false c]
    simp [c, plusF]
    rfl
theorem digs_text (m : Nat) : Str.ofString (toString ((m : Nat) : Int)) = ⟨(digs ((m : Nat) : Int)).toArray⟩ := text_ofNat m
theorem grp_len : ∀ (k : Nat) (ds F : List Nat), ds.length ≤ k → (grp k ds F).length ≤ 2 * ds.length + F.length
  | 0, ds, F, h => by show (ds ++ F).length ≤ _; rw [List.length_append]; omega
  | k + 1, ds, F, h => by
    by_cases c : 3 < ds.length
    · show (if 3 < ds.length then _ else _ : List Nat).length ≤ _
      rw [if_pos c]
      have ih := grp_len k (ds.take (ds.length - 3)) (44 :: (ds.drop (ds.length - 3) ++ F)) (by rw [List.length_take]; omega)
      rw [List.length_take, List.length_cons, List.length_append, List.length_drop] at ih
      omega
    · rw [grp_end (by omega), List.length_append]; omega
theorem digs_len {a : Int} (h : a.natAbs < 10 ^ 246) : (digs a).length ≤ 246 := by
  unfold digs
  rw [List.length_map]
  exact digits10_le (by decide) h
theorem plus_len {a : Int} (h : a.natAbs < 10 ^ 246) : (plusText a).length ≤ 600 := by
  rw [plus_text]
  have h1 := grp_len (digs a).length (digs a) [] (Nat.le_refl _)
  have h2 := digs_len h
  show (((if a < 0 then [45] else [43] : List Nat) ++ grp (digs a).length (digs a) []).toArray).size ≤ 600
  rw [List.size_toArray, List.length_append]
  have h3 : (if a < 0 then [45] else [43] : List Nat).length = 1 := by split <;> rfl
  rw [h3]
  simp only [List.length_nil] at h1
  omega
end
section
variable {X : Cx} {e sp : Expr} {te : TE} {pos : Pos} {σ : L2.St} {H : Hp} {Q : VK}
/-- {x:+,} -/
def fpR (Q : VK) : VK := fun x H1 => ∃ i : Int, x = .int i ∧ i.natAbs.log2 < 1920 ∧ (plusText i).length ≤ sizeLine ∧ Q (.str (plusText i)) H1
def tFmtP (te : TE) : TE := fun σ H Q => te σ H (fpR Q)
theorem pe_fmtP (he : PE X e te) (hs : PE X sp (tC (.str "+,"))) : PE X (.FormattedValue e (-1) (some sp) pos) (tFmtP te) := by
  refine ⟨fun pins s σ H Q I h => ?_⟩
  refine wpAny_FormattedValue_spec (thn (he.run pins s σ H _ I h) fun v s1 z => ?_)
  obtain ⟨x, H1, I1, r1, i, rfl, h1, h2, q⟩ := z
  obtain ⟨t, rfl⟩ := r1
  refine thn (hs.run pins s1 σ H1 (fun y H2 => y = .str "+," ∧ H2 = H1) I1 ⟨rfl, rfl⟩) fun u s2 y => ?_
  obtain ⟨y, H2, I2, r2, rfl, rfl⟩ := y
  obtain ⟨t2, rfl⟩ := r2
  refine ⟨_, _, rfl, wpAny_formatField_spec (by decide +kernel) (fun s' => typeIs_int s' i t) slot_int_format entry_int_format args_int_format (fun u => gives_plus i t u h1) ⟨.str (plusText i), H2, I2.tok _, ⟨_, rfl⟩, q⟩ (by decide +kernel) h2⟩
theorem r_fmtP (h : te σ H (fpR Q)) : tFmtP te σ H Q := h
theorem r_fpR {i : Int} (h1 : i.natAbs.log2 < 1920) (h2 : (plusText i).length ≤ sizeLine) (q : Q (.str (plusText i)) H) : fpR Q (.int i) H := ⟨i, rfl, h1, h2, q⟩
def rLjust (x : V) (xs : List V) (H : Hp) (Q : VK) : Prop := ∃ (a : Str) (i : Int), x = .str a ∧ xs = [.int i] ∧ PadOk i = true ∧ Q (.str (Txt.ljust a i)) H
def rRjust (x : V) (xs : List V) (H : Hp) (Q : VK) : Prop := ∃ (a : Str) (i : Int), x = .str a ∧ xs = [.int i] ∧ PadOk i = true ∧ Q (.str (Txt.rjust a i)) H
theorem m_ljust : MtR X "str.ljust" rLjust := mt_ljust
theorem m_rjust : MtR X "str.rjust" rRjust := mt_rjust
theorem r_ljust {a : Str} {i : Int} (h : PadOk i = true) (q : Q (.str (Txt.ljust a i)) H) : rLjust (.str a) [.int i] H Q := ⟨a, i, rfl, rfl, h, q⟩
theorem r_rjust {a : Str} {i : Int} (h : PadOk i = true) (q : Q (.str (Txt.rjust a i)) H) : rRjust (.str a) [.int i] H Q := ⟨a, i, rfl, rfl, h, q⟩
theorem r_slS {z : Str} {lo hi : Option Int} (l : z.length ≤ sizeLine) (q : Q (.str (cutS z lo hi)) H) : rSlS (.str z) lo hi H Q := ⟨z, rfl, l, q⟩
theorem r_star {K : PySem.W.Frag} {A : TA} {N : List V → Hp → Prop} {p : Addr} {xs : List V} (e : SqT K H p xs ∨ SqL K H p xs) (h : A σ H fun ys H2 => N (xs ++ ys) H2) : ∃ p' xs', V.ref p = V.ref p' ∧ (SqT K H p' xs' ∨ SqL K H p' xs') ∧ A σ H fun ys H2 => N (xs' ++ ys) H2 := ⟨p, xs, rfl, e, h⟩
theorem r_starA {K : PySem.W.Frag} {A : TA} {N : List V → Hp → Prop} (h : te σ H fun x H1 => ∃ p xs, x = V.ref p ∧ (SqT K H1 p xs ∨ SqL K H1 p xs) ∧ A σ H1 fun ys H2 => N (xs ++ ys) H2) : StX.tStar K te A σ H N := h
theorem r_while {c : TT} {tb : TS} {D : Ends} (h : ∃ W : Nat → L2.St → Hp → Prop, (∃ m, W m σ H) ∧ ∀ m σ H, W m σ H →
    c σ H fun b H1 => if b = true then ∃ N : L2.St → Hp → Prop, (∀ σ' H', N σ' H' → ∃ m', m' < m ∧ W m' σ' H') ∧ tb { D with nx := N, ct := N, bk := D.nx } σ H1 else D.nx σ H1) : tWhile c tb D σ H := h
end
section
variable {X : Cx} {K : PySem.W.Frag} {o e : Expr} {es : List Expr} {to : TE} {t : TA} {T : String} {name : Str} {id : String} {r : V → List V → Hp → VK → Prop} {apos cpos : Pos}
/-- o.name(e, ..), at any place -/
theorem pe_bmK (eK : X.K = K) (pa : PlainAttrs T) (slot : Slot T name id) (hty : typeOf (.builtin id) = pure (.type "method_descriptor")) (hm : MtR X id r) (ho : PE X o to) (ha : PA X (e :: es) t) (hbase : attributeBase o name X.env (eval o X.env) = eval o X.env := by rfl)
    (few : ((backTo cpos (starEach (e :: es) X.env)).all (fun x => !x.1) && (backToKw cpos (keywordEach [] X.env)).all (fun x => x.1.isSome) && decide ((e :: es).length + ([] : List Keyword).length + (if ([] : List Keyword).isEmpty then 0 else 1) < 30)) = true := by rfl)
    (line : (apos.endLine == cpos.line) = true := by rfl) (one : starEach (e :: es) X.env = (false, eval e X.env) :: starEach es X.env := by rfl) (plain : (backTo cpos (starEach es X.env)).any (·.1) = false := by rfl) :
    PE X (.Call (.Attribute o name apos) (e :: es) [] cpos) (tBM K T r to t) := eK ▸ pe_bm pa slot hty hm ho ha hbase few line one plain
end
section
variable {K : PySem.W.Frag} {σ : L2.St} {H : Hp} {Q : VK} {to : TE} {t : TA} {r : V → List V → Hp → VK → Prop}
theorem r_bmS (h : to σ H fun x H1 => tyV K "str" x H1 ∧ t σ H1 fun xs H2 => r x xs H2 Q) : tBM K "str" r to t σ H Q := h
theorem r_tyS {z : Str} {P : Prop} (h : P) : tyV K "str" (.str z) H ∧ P := ⟨rfl, h⟩
end
end Z

structure Top (K : PySem.W.Frag) (mg : Str → Option Value) where
  C_BadEntry : Addr
  C_BadProgram : Addr
  C_BadSeries : Addr
  C_NoKey : Addr
  C_Series : Addr
  C_Told : Addr
  C_TooMany : Addr
  C_Unnumbered : Addr
  C_UnnumberedError : Addr
  f_law_draw : Addr
  fd_law_draw : FuncData
  F_law_draw : Fun K "_law_draw" "_law_draw" s_law_draw f_law_draw fd_law_draw
  B_law_draw : Binds K fd_law_draw ["_law_bag_here", "_law_many"] []
  f_law_bag : Addr
  fd_law_bag : FuncData
  F_law_bag : Fun K "_law_bag" "_law_bag" s_law_bag f_law_bag fd_law_bag
  B_law_bag : Binds K fd_law_bag ["_law_script", "_law_at"] []
  f_law_number : Addr
  fd_law_number : FuncData
  F_law_number : Fun K "_law_number" "_law_number" s_law_number f_law_number fd_law_number
  B_law_number : Binds K fd_law_number ["_law_bag_here"] []
  f_law_word : Addr
  fd_law_word : FuncData
  F_law_word : Fun K "_law_word" "_law_word" s_law_word f_law_word fd_law_word
  B_law_word : Binds K fd_law_word ["_law_bag_here"] []
  f_is_number : Addr
  fd_is_number : FuncData
  F_is_number : Fun K "is_number" "is_number" s_is_number f_is_number fd_is_number
  B_is_number : Binds K fd_is_number ["thing"] []
  f_Unnumbered___init : Addr
  fd_Unnumbered___init : FuncData
  F_Unnumbered___init : Fun K "__init__" "Unnumbered.__init__" s_Unnumbered___init f_Unnumbered___init fd_Unnumbered___init
  B_Unnumbered___init : Binds K fd_Unnumbered___init ["self", "name"] []
  f_is_entry : Addr
  fd_is_entry : FuncData
  F_is_entry : Fun K "is_entry" "is_entry" s_is_entry f_is_entry fd_is_entry
  B_is_entry : Binds K fd_is_entry ["thing"] []
  f_with_one_object_a_name : Addr
  fd_with_one_object_a_name : FuncData
  F_with_one_object_a_name : Fun K "_with_one_object_a_name" "_with_one_object_a_name" s_with_one_object_a_name f_with_one_object_a_name fd_with_one_object_a_name
  B_with_one_object_a_name : Binds K fd_with_one_object_a_name ["entries"] []
  f_Series___init : Addr
  fd_Series___init : FuncData
  F_Series___init : Fun K "__init__" "Series.__init__" s_Series___init f_Series___init fd_Series___init
  B_Series___init : Binds K fd_Series___init ["self", "entries"] []
  f_BadSeries___init : Addr
  fd_BadSeries___init : FuncData
  F_BadSeries___init : Fun K "__init__" "BadSeries.__init__" s_BadSeries___init f_BadSeries___init fd_BadSeries___init
  B_BadSeries___init : Binds K fd_BadSeries___init ["self", "at"] []
  f_is_word : Addr
  fd_is_word : FuncData
  F_is_word : Fun K "is_word" "is_word" s_is_word f_is_word fd_is_word
  B_is_word : Binds K fd_is_word ["text"] []
  f_is_number_but_0 : Addr
  fd_is_number_but_0 : FuncData
  F_is_number_but_0 : Fun K "_is_number_but_0" "_is_number_but_0" s_is_number_but_0 f_is_number_but_0 fd_is_number_but_0
  B_is_number_but_0 : Binds K fd_is_number_but_0 ["word"] []
  f_entry_of : Addr
  fd_entry_of : FuncData
  F_entry_of : Fun K "_entry_of" "_entry_of" s_entry_of f_entry_of fd_entry_of
  B_entry_of : Binds K fd_entry_of ["word"] []
  f_Series_read : Addr
  fd_Series_read : FuncData
  F_Series_read : Fun K "read" "Series.read" s_Series_read f_Series_read fd_Series_read
  B_Series_read : Binds K fd_Series_read ["cls", "text"] []
  f_law_refused : Addr
  fd_law_refused : FuncData
  F_law_refused : Fun K "_law_refused" "_law_refused" s_law_refused f_law_refused fd_law_refused
  B_law_refused : Binds K fd_law_refused ["_law_kind", "_law_thing"] []
  f_Told___init : Addr
  fd_Told___init : FuncData
  F_Told___init : Fun K "__init__" "Told.__init__" s_Told___init f_Told___init fd_Told___init
  B_Told___init : Binds K fd_Told___init ["self", "place"] []
  f_law_entries : Addr
  fd_law_entries : FuncData
  F_law_entries : Fun K "_law_entries" "_law_entries" s_law_entries f_law_entries fd_law_entries
  B_law_entries : Binds K fd_law_entries ["_law_bag_here", "_law_most"] []
  f_law_text : Addr
  fd_law_text : FuncData
  F_law_text : Fun K "_law_text" "_law_text" s_law_text f_law_text fd_law_text
  B_law_text : Binds K fd_law_text ["_law_entry"] []
  f_law_wrong_things : Addr
  fd_law_wrong_things : FuncData
  F_law_wrong_things : Fun K "_law_wrong_things" "_law_wrong_things" s_law_wrong_things f_law_wrong_things fd_law_wrong_things
  B_law_wrong_things : Binds K fd_law_wrong_things ["_law_bag_here"] []
  f_law_wrong_words : Addr
  fd_law_wrong_words : FuncData
  F_law_wrong_words : Fun K "_law_wrong_words" "_law_wrong_words" s_law_wrong_words f_law_wrong_words fd_law_wrong_words
  B_law_wrong_words : Binds K fd_law_wrong_words ["_law_bag_here"] []
  f_law : Addr
  fd_law : FuncData
  F_law : Fun K "law" "law" s_law f_law fd_law
  B_law : Binds K fd_law ["_law_script"] []
  mgC_BadEntry : mg "BadEntry" = some (.ref C_BadEntry)
  mgC_BadProgram : mg "BadProgram" = some (.ref C_BadProgram)
  mgC_BadSeries : mg "BadSeries" = some (.ref C_BadSeries)
  ex_BadSeries : Z.ExF K C_BadSeries f_BadSeries___init
  mgC_NoKey : mg "NoKey" = some (.ref C_NoKey)
  mgC_Series : mg "Series" = some (.ref C_Series)
  cl_Series : Cls K C_Series
  in_Series : Z.Inst K C_Series
  mk_Series : Mk K C_Series f_Series___init
  mgC_Told : mg "Told" = some (.ref C_Told)
  cl_Told : Cls K C_Told
  in_Told : Z.Inst K C_Told
  mk_Told : Mk K C_Told f_Told___init
  mgC_TooMany : mg "TooMany" = some (.ref C_TooMany)
  mgC_Unnumbered : mg "Unnumbered" = some (.ref C_Unnumbered)
  cl_Unnumbered : Cls K C_Unnumbered
  in_Unnumbered : Z.Inst K C_Unnumbered
  mk_Unnumbered : Mk K C_Unnumbered f_Unnumbered___init
  mgC_UnnumberedError : mg "UnnumberedError" = some (.ref C_UnnumberedError)
  p_Series_read : Addr
  cm_Series_read : ClX.CMet K C_Series (.type "type") "read" p_Series_read f_Series_read
  cr_Series : ClX.CRead K C_Series (.type "type")
  no_BadSeries_at : NoAttr K C_BadSeries "at"
  no_NoKey_key : NoAttr K C_NoKey "key"
  no_Series_entries : NoAttr K C_Series "entries"
  no_Told_place : NoAttr K C_Told "place"
  no_Unnumbered_name : NoAttr K C_Unnumbered "name"
  mg_law_draw : mg "_law_draw" = some (.ref f_law_draw)
  mg_law_bag : mg "_law_bag" = some (.ref f_law_bag)
  mg_law_number : mg "_law_number" = some (.ref f_law_number)
  mg_law_word : mg "_law_word" = some (.ref f_law_word)
  mg_is_number : mg "is_number" = some (.ref f_is_number)
  mg_is_entry : mg "is_entry" = some (.ref f_is_entry)
  mg_with_one_object_a_name : mg "_with_one_object_a_name" = some (.ref f_with_one_object_a_name)
  mg_is_word : mg "is_word" = some (.ref f_is_word)
  mg_is_number_but_0 : mg "_is_number_but_0" = some (.ref f_is_number_but_0)
  mg_entry_of : mg "_entry_of" = some (.ref f_entry_of)
  mg_law_refused : mg "_law_refused" = some (.ref f_law_refused)
  mg_law_entries : mg "_law_entries" = some (.ref f_law_entries)
  mg_law_text : mg "_law_text" = some (.ref f_law_text)
  mg_law_wrong_things : mg "_law_wrong_things" = some (.ref f_law_wrong_things)
  mg_law_wrong_words : mg "_law_wrong_words" = some (.ref f_law_wrong_words)
  mg_law : mg "law" = some (.ref f_law)
  z_ValueError : mg "ValueError" = none
  z_abs : mg "abs" = none
  z_bool : mg "bool" = none
  z_enumerate : mg "enumerate" = none
  z_int : mg "int" = none
  z_isinstance : mg "isinstance" = none
  z_len : mg "len" = none
  z_list : mg "list" = none
  z_max : mg "max" = none
  z_min : mg "min" = none
  z_range : mg "range" = none
  z_str : mg "str" = none
  z_tuple : mg "tuple" = none
  tk_MOST_DIGITS : Tok
  mgK_MOST_DIGITS : mg "MOST_DIGITS" = some (.int 300 tk_MOST_DIGITS)
  tk_MOST_ENTRIES : Tok
  mgK_MOST_ENTRIES : mg "MOST_ENTRIES" = some (.int 250 tk_MOST_ENTRIES)
  xu_UnnumberedError : PySem.W.subIn K (.ref C_UnnumberedError) (.type "BaseException") = some true
  ki_BadSeries_BadSeries : PySem.W.kitOne K (.ref C_BadSeries) (.ref C_BadSeries) = some true
  ki_BadSeries_BadProgram : PySem.W.kitOne K (.ref C_BadSeries) (.ref C_BadProgram) = some false
  ki_BadSeries_BadEntry : PySem.W.kitOne K (.ref C_BadSeries) (.ref C_BadEntry) = some false
  ki_BadSeries_TooMany : PySem.W.kitOne K (.ref C_BadSeries) (.ref C_TooMany) = some false
  ki_BadSeries_ValueError : PySem.W.kitOne K (.ref C_BadSeries) (.type "ValueError") = some true
  ki_BadSeries_UnnumberedError : PySem.W.kitOne K (.ref C_BadSeries) (.ref C_UnnumberedError) = some true
  ki_NoneType_Unnumbered : PySem.W.kitOne K (.type "NoneType") (.ref C_Unnumbered) = some false
  ki_bool_Unnumbered : PySem.W.kitOne K (.type "bool") (.ref C_Unnumbered) = some false
  ki_int_Unnumbered : PySem.W.kitOne K (.type "int") (.ref C_Unnumbered) = some false
  ki_str_Unnumbered : PySem.W.kitOne K (.type "str") (.ref C_Unnumbered) = some false
  ki_list_Unnumbered : PySem.W.kitOne K (.type "list") (.ref C_Unnumbered) = some false
  ki_tuple_Unnumbered : PySem.W.kitOne K (.type "tuple") (.ref C_Unnumbered) = some false
  ki_Series_Unnumbered : PySem.W.kitOne K (.ref C_Series) (.ref C_Unnumbered) = some false
  ki_Told_Unnumbered : PySem.W.kitOne K (.ref C_Told) (.ref C_Unnumbered) = some false
  ki_Unnumbered_Unnumbered : PySem.W.kitOne K (.ref C_Unnumbered) (.ref C_Unnumbered) = some true
  ki_Series_bool : PySem.W.kitOne K (.ref C_Series) (.type "bool") = some false
  ki_Told_bool : PySem.W.kitOne K (.ref C_Told) (.type "bool") = some false
  ki_Unnumbered_bool : PySem.W.kitOne K (.ref C_Unnumbered) (.type "bool") = some false
  ki_Series_int : PySem.W.kitOne K (.ref C_Series) (.type "int") = some false
  ki_Told_int : PySem.W.kitOne K (.ref C_Told) (.type "int") = some false
  ki_Unnumbered_int : PySem.W.kitOne K (.ref C_Unnumbered) (.type "int") = some false
  ki_Series_list : PySem.W.kitOne K (.ref C_Series) (.type "list") = some false
  ki_Told_list : PySem.W.kitOne K (.ref C_Told) (.type "list") = some false
  ki_Unnumbered_list : PySem.W.kitOne K (.ref C_Unnumbered) (.type "list") = some false
  ki_Series_str : PySem.W.kitOne K (.ref C_Series) (.type "str") = some false
  ki_Told_str : PySem.W.kitOne K (.ref C_Told) (.type "str") = some false
  ki_Unnumbered_str : PySem.W.kitOne K (.ref C_Unnumbered) (.type "str") = some false
  ki_Series_tuple : PySem.W.kitOne K (.ref C_Series) (.type "tuple") = some false
  ki_Told_tuple : PySem.W.kitOne K (.ref C_Told) (.type "tuple") = some false
  ki_Unnumbered_tuple : PySem.W.kitOne K (.ref C_Unnumbered) (.type "tuple") = some false
theorem kb_NoneType_int : kitB "NoneType" "int" = some false := by decide +kernel
theorem kb_NoneType_bool : kitB "NoneType" "bool" = some false := by decide +kernel
theorem kb_NoneType_str : kitB "NoneType" "str" = some false := by decide +kernel
theorem kb_NoneType_list : kitB "NoneType" "list" = some false := by decide +kernel
theorem kb_NoneType_tuple : kitB "NoneType" "tuple" = some false := by decide +kernel
theorem kb_bool_int : kitB "bool" "int" = some true := by decide +kernel
theorem kb_bool_bool : kitB "bool" "bool" = some true := by decide +kernel
theorem kb_bool_str : kitB "bool" "str" = some false := by decide +kernel
theorem kb_bool_list : kitB "bool" "list" = some false := by decide +kernel
theorem kb_bool_tuple : kitB "bool" "tuple" = some false := by decide +kernel
theorem kb_int_int : kitB "int" "int" = some true := by decide +kernel
theorem kb_int_bool : kitB "int" "bool" = some false := by decide +kernel
theorem kb_int_str : kitB "int" "str" = some false := by decide +kernel
theorem kb_int_list : kitB "int" "list" = some false := by decide +kernel
theorem kb_int_tuple : kitB "int" "tuple" = some false := by decide +kernel
theorem kb_str_int : kitB "str" "int" = some false := by decide +kernel
theorem kb_str_bool : kitB "str" "bool" = some false := by decide +kernel
theorem kb_str_str : kitB "str" "str" = some true := by decide +kernel
theorem kb_str_list : kitB "str" "list" = some false := by decide +kernel
theorem kb_str_tuple : kitB "str" "tuple" = some false := by decide +kernel
theorem kb_list_int : kitB "list" "int" = some false := by decide +kernel
theorem kb_list_bool : kitB "list" "bool" = some false := by decide +kernel
theorem kb_list_str : kitB "list" "str" = some false := by decide +kernel
theorem kb_list_list : kitB "list" "list" = some true := by decide +kernel
theorem kb_list_tuple : kitB "list" "tuple" = some false := by decide +kernel
theorem kb_tuple_int : kitB "tuple" "int" = some false := by decide +kernel
theorem kb_tuple_bool : kitB "tuple" "bool" = some false := by decide +kernel
theorem kb_tuple_str : kitB "tuple" "str" = some false := by decide +kernel
theorem kb_tuple_list : kitB "tuple" "list" = some false := by decide +kernel
theorem kb_tuple_tuple : kitB "tuple" "tuple" = some true := by decide +kernel
local macro_rules | `(tactic| walk_at "ki") => `(tactic| first
  | assumption
  | exact kit_ty kb_NoneType_int
  | exact kit_ty kb_NoneType_bool
  | exact kit_ty kb_NoneType_str
  | exact kit_ty kb_NoneType_list
  | exact kit_ty kb_NoneType_tuple
  | exact kit_ty kb_bool_int
  | exact kit_ty kb_bool_bool
  | exact kit_ty kb_bool_str
  | exact kit_ty kb_bool_list
  | exact kit_ty kb_bool_tuple
  | exact kit_ty kb_int_int
  | exact kit_ty kb_int_bool
  | exact kit_ty kb_int_str
  | exact kit_ty kb_int_list
  | exact kit_ty kb_int_tuple
  | exact kit_ty kb_str_int
  | exact kit_ty kb_str_bool
  | exact kit_ty kb_str_str
  | exact kit_ty kb_str_list
  | exact kit_ty kb_str_tuple
  | exact kit_ty kb_list_int
  | exact kit_ty kb_list_bool
  | exact kit_ty kb_list_str
  | exact kit_ty kb_list_list
  | exact kit_ty kb_list_tuple
  | exact kit_ty kb_tuple_int
  | exact kit_ty kb_tuple_bool
  | exact kit_ty kb_tuple_str
  | exact kit_ty kb_tuple_list
  | exact kit_ty kb_tuple_tuple
  | exact Top.ki_NoneType_Unnumbered (by assumption)
  | exact Top.ki_bool_Unnumbered (by assumption)
  | exact Top.ki_int_Unnumbered (by assumption)
  | exact Top.ki_str_Unnumbered (by assumption)
  | exact Top.ki_list_Unnumbered (by assumption)
  | exact Top.ki_tuple_Unnumbered (by assumption)
  | exact Top.ki_Series_Unnumbered (by assumption)
  | exact Top.ki_Told_Unnumbered (by assumption)
  | exact Top.ki_Unnumbered_Unnumbered (by assumption)
  | exact Top.ki_Series_bool (by assumption)
  | exact Top.ki_Told_bool (by assumption)
  | exact Top.ki_Unnumbered_bool (by assumption)
  | exact Top.ki_Series_int (by assumption)
  | exact Top.ki_Told_int (by assumption)
  | exact Top.ki_Unnumbered_int (by assumption)
  | exact Top.ki_Series_list (by assumption)
  | exact Top.ki_Told_list (by assumption)
  | exact Top.ki_Unnumbered_list (by assumption)
  | exact Top.ki_Series_str (by assumption)
  | exact Top.ki_Told_str (by assumption)
  | exact Top.ki_Unnumbered_str (by assumption)
  | exact Top.ki_Series_tuple (by assumption)
  | exact Top.ki_Told_tuple (by assumption)
  | exact Top.ki_Unnumbered_tuple (by assumption))
local macro_rules | `(tactic| walk_at "no") => `(tactic| first
  | exact Top.no_BadSeries_at (by assumption)
  | exact Top.no_NoKey_key (by assumption)
  | exact Top.no_Series_entries (by assumption)
  | exact Top.no_Told_place (by assumption)
  | exact Top.no_Unnumbered_name (by assumption)
  | assumption)
local macro_rules | `(tactic| walk_at "cl") => `(tactic| first
  | exact Top.cl_Series (by assumption)
  | exact Top.cl_Told (by assumption)
  | exact Top.cl_Unnumbered (by assumption)
  | assumption)
local macro_rules | `(tactic| walk_at "ty") => `(tactic| first
  | assumption
  | exact .base (.int _)
  | exact .base .non
  | exact .base (.bl _)
  | exact .base (.str _)
  | exact .base (.lst (by walk_at "hp"))
  | exact .base (.tup (by walk_at "hp"))
  | exact Z.ty_ins (Top.cl_Series (by assumption)) (Top.in_Series (by assumption)) (by walk_at "hp")
  | exact Z.ty_ins (Top.cl_Told (by assumption)) (Top.in_Told (by assumption)) (by walk_at "hp")
  | exact Z.ty_ins (Top.cl_Unnumbered (by assumption)) (Top.in_Unnumbered (by assumption)) (by walk_at "hp"))

/-! what stands at an address; which way a test goes; one step; as many as go -/
local macro_rules | `(tactic| walk_at "hp") => `(tactic| first
  | assumption
  | exact upd_same
  | (refine (‹Same _ _› : Same _ _) _ _ ?_; walk_at "hp")
  | (refine (‹Z.But _ _ _› : Z.But _ _ _) _ _ ?_ ?_; (first | assumption | (apply Ne.symm; assumption) | exact ne_of_none (by assumption) (by assumption)); walk_at "hp"))
local macro_rules | `(tactic| walk_at "sq") => `(tactic| first
  | assumption
  | exact SqL.of (by walk_at "hp")
  | (refine Same.seq (by assumption) ?_; walk_at "sq")
  | (refine Z.But.seq (by assumption) (by assumption) ?_; walk_at "sq"))
local macro_rules | `(tactic| walk_at "look") => `(tactic| first | assumption | exact Z.look1 | (simp [List.lookup]; done))
local macro_rules | `(tactic| walk_at "side") => `(tactic| first
  | (show (0 : Int) < _; omega)
  | (show CDiv _ _; exact ⟨by omega, by omega⟩)
  | (show CMul _ _; first | exact .inl ⟨by omega, by omega⟩ | exact .inr ⟨by omega, by omega⟩)
  | (show CPow _ _; exact ⟨by omega, by omega, by omega⟩))
local macro_rules | `(tactic| walk_at "st") => `(tactic| first
  | ((with_reducible refine' Z.r_var ?e ?_); (case e => exact rfl))
  | with_reducible refine Z.r_op ?_
  | with_reducible refine Z.r_c ?_
  | with_reducible refine Z.r_cons ?_
  | with_reducible refine Z.r_nil ?_
  | with_reducible refine Z.r_seq ?_
  | with_reducible refine Z.r_asg ?_
  | with_reducible refine Z.r_call ?_
  | with_reducible refine Z.r_cb ?_
  | with_reducible refine Z.r_asgG ?_
  | with_reducible refine Z.r_gName ?_
  | with_reducible refine Z.r_gSub ?_
  | with_reducible refine Z.r_ret ?_
  | with_reducible refine Z.r_retN ?_
  | with_reducible refine Z.r_next ?_
  | with_reducible refine Z.r_drop ?_
  | with_reducible refine Z.r_if ?_
  | with_reducible refine Z.r_par ?_
  | with_reducible refine Z.r_par3 ?_
  | with_reducible refine Z.r_vs3 ?_
  | with_reducible refine Z.r_gCons ?_
  | with_reducible refine Z.r_gNil ?_
  | ((with_reducible refine' Z.r_gTup ?e ?hn ?_); (case e => walk_at "hp"); (case hn => exact rfl))
  | with_reducible refine Z.r_vs2 ?_
  | ((with_reducible refine' Z.r_aug ?e ?_); (case e => exact rfl))
  | with_reducible refine Z.r_un ?_
  | with_reducible refine Z.r_test ?_
  | with_reducible refine Z.r_tB ?_
  | with_reducible refine Z.r_bl ?_
  | with_reducible refine Z.r_and ?_
  | with_reducible refine Z.r_or ?_
  | with_reducible refine Z.r_not ?_
  | with_reducible refine Z.r_andV ?_
  | with_reducible refine Z.r_orV ?_
  | with_reducible refine Z.r_notV ?_
  | with_reducible refine Z.r_ifE ?_
  | with_reducible refine Z.r_tup ?_
  | with_reducible refine Z.r_lst ?_
  | with_reducible refine Z.r_fld ?_
  | ((with_reducible refine' Z.r_fldV ?e ?c ?n ?l ?_); (case e => walk_at "hp"); (case c => walk_at "cl"); (case n => walk_at "no"); (case l => walk_at "look"))
  | ((with_reducible refine' Z.r_isiT ?ty ?k ?_); (case ty => walk_at "ty"); (case k => walk_at "ki"))
  | ((with_reducible refine' Z.r_isiC ?ty ?k ?_); (case ty => walk_at "ty"); (case k => walk_at "ki"))
  | with_reducible refine Z.r_make ?_
  | with_reducible refine Z.r_dget ?_
  | with_reducible refine Z.r_dput ?_
  | with_reducible refine Z.r_disp ?_
  | with_reducible refine Z.r_pnil ?_
  | with_reducible refine Z.r_pcons ?_
  | with_reducible refine Z.r_sfld ?_
  | ((with_reducible refine' Z.r_stF ?e ?c ?n ?l ?_); (case e => walk_at "hp"); (case c => walk_at "cl"); (case n => walk_at "no"); (case l => exact Nat.le_of_ble_eq_true rfl))
  | ((with_reducible refine' Z.r_nwL ?z ?_); (case z => exact Nat.le_of_ble_eq_true rfl))
  | ((with_reducible refine' Z.r_nwT ?z ?_); (case z => exact Nat.le_of_ble_eq_true rfl))
  | with_reducible refine Z.r_I0 ?_
  | with_reducible refine Z.r_U ?_
  | with_reducible refine Z.r_forRng ?_
  | with_reducible refine Z.r_forL0 ?_
  | with_reducible refine Z.r_lcRng ?_
  | with_reducible refine Z.r_lcLst ?_
  | with_reducible refine Z.r_sl ?_
  | with_reducible refine Z.r_part ?_
  | with_reducible refine Z.r_prt ?_
  | with_reducible refine Z.r_nopart ?_
  | with_reducible refine Z.r_bmA ?_
  | ((with_reducible refine' Z.r_tyL ?e ?_); (case e => walk_at "hp"))
  | with_reducible refine Z.r_lcFLst ?_
  | ((with_reducible refine' Z.r_I ?c ?_); (case c => walk_at "side"))
  | with_reducible refine Z.r_int1 ?_
  | with_reducible refine Z.r_abs ?_
  | with_reducible refine Z.r_max2 ?_
  | with_reducible refine Z.r_min2 ?_
  | ((with_reducible refine' Z.r_lenL ?e ?_); (case e => walk_at "sq"))
  | with_reducible refine Z.r_isN ?_
  | with_reducible refine Z.r_notN ?_
  | with_reducible refine Z.r_eqI ?_
  | with_reducible refine Z.r_eqB ?_
  | with_reducible refine Z.r_eqS ?_
  | with_reducible refine Z.r_neI ?_
  | with_reducible refine Z.r_neB ?_
  | with_reducible refine Z.r_neS ?_
  | ((with_reducible refine' Z.r_ixL ?h ?e ?_); (case h => walk_at "sq"); (case e => first | assumption | exact rfl))
  | ((with_reducible refine' Z.r_ixT ?h ?e ?_); (case h => exact SqT.of (by walk_at "hp")); (case e => first | assumption | exact rfl))
  | ((with_reducible refine' Z.r_setL ?h ?e ?_); (case h => walk_at "hp"); (case e => exact rfl))
  | ((with_reducible refine Z.yes ?_ ?_); (first | exact rfl | decide +kernel))
  | ((with_reducible refine Z.no ?_ ?_); (first | exact rfl | decide +kernel))
  | walk_at "call")
local macro_rules | `(tactic| walk_at "go") => `(tactic| repeat (first
  | ((with_reducible refine' Z.r_var ?e ?_); (case e => exact rfl))
  | with_reducible refine Z.r_op ?_
  | with_reducible refine Z.r_c ?_
  | with_reducible refine Z.r_cons ?_
  | with_reducible refine Z.r_nil ?_
  | with_reducible refine Z.r_seq ?_
  | with_reducible refine Z.r_asg ?_
  | with_reducible refine Z.r_call ?_
  | with_reducible refine Z.r_cb ?_
  | with_reducible refine Z.r_asgG ?_
  | with_reducible refine Z.r_gName ?_
  | with_reducible refine Z.r_gSub ?_
  | with_reducible refine Z.r_ret ?_
  | with_reducible refine Z.r_retN ?_
  | with_reducible refine Z.r_next ?_
  | with_reducible refine Z.r_drop ?_
  | with_reducible refine Z.r_if ?_
  | with_reducible refine Z.r_par ?_
  | with_reducible refine Z.r_par3 ?_
  | with_reducible refine Z.r_vs3 ?_
  | with_reducible refine Z.r_gCons ?_
  | with_reducible refine Z.r_gNil ?_
  | ((with_reducible refine' Z.r_gTup ?e ?hn ?_); (case e => walk_at "hp"); (case hn => exact rfl))
  | with_reducible refine Z.r_vs2 ?_
  | ((with_reducible refine' Z.r_aug ?e ?_); (case e => exact rfl))
  | with_reducible refine Z.r_un ?_
  | with_reducible refine Z.r_test ?_
  | with_reducible refine Z.r_tB ?_
  | with_reducible refine Z.r_bl ?_
  | with_reducible refine Z.r_and ?_
  | with_reducible refine Z.r_or ?_
  | with_reducible refine Z.r_not ?_
  | with_reducible refine Z.r_andV ?_
  | with_reducible refine Z.r_orV ?_
  | with_reducible refine Z.r_notV ?_
  | with_reducible refine Z.r_ifE ?_
  | with_reducible refine Z.r_tup ?_
  | with_reducible refine Z.r_lst ?_
  | with_reducible refine Z.r_fld ?_
  | ((with_reducible refine' Z.r_fldV ?e ?c ?n ?l ?_); (case e => walk_at "hp"); (case c => walk_at "cl"); (case n => walk_at "no"); (case l => walk_at "look"))
  | ((with_reducible refine' Z.r_isiT ?ty ?k ?_); (case ty => walk_at "ty"); (case k => walk_at "ki"))
  | ((with_reducible refine' Z.r_isiC ?ty ?k ?_); (case ty => walk_at "ty"); (case k => walk_at "ki"))
  | with_reducible refine Z.r_make ?_
  | with_reducible refine Z.r_dget ?_
  | with_reducible refine Z.r_dput ?_
  | with_reducible refine Z.r_disp ?_
  | with_reducible refine Z.r_pnil ?_
  | with_reducible refine Z.r_pcons ?_
  | with_reducible refine Z.r_sfld ?_
  | ((with_reducible refine' Z.r_stF ?e ?c ?n ?l ?_); (case e => walk_at "hp"); (case c => walk_at "cl"); (case n => walk_at "no"); (case l => exact Nat.le_of_ble_eq_true rfl))
  | ((with_reducible refine' Z.r_nwL ?z ?_); (case z => exact Nat.le_of_ble_eq_true rfl))
  | ((with_reducible refine' Z.r_nwT ?z ?_); (case z => exact Nat.le_of_ble_eq_true rfl))
  | with_reducible refine Z.r_I0 ?_
  | with_reducible refine Z.r_U ?_
  | with_reducible refine Z.r_forRng ?_
  | with_reducible refine Z.r_forL0 ?_
  | with_reducible refine Z.r_lcRng ?_
  | with_reducible refine Z.r_lcLst ?_
  | with_reducible refine Z.r_sl ?_
  | with_reducible refine Z.r_part ?_
  | with_reducible refine Z.r_prt ?_
  | with_reducible refine Z.r_nopart ?_
  | with_reducible refine Z.r_bmA ?_
  | ((with_reducible refine' Z.r_tyL ?e ?_); (case e => walk_at "hp"))
  | with_reducible refine Z.r_lcFLst ?_
  | ((with_reducible refine' Z.r_I ?c ?_); (case c => walk_at "side"))
  | with_reducible refine Z.r_int1 ?_
  | with_reducible refine Z.r_abs ?_
  | with_reducible refine Z.r_max2 ?_
  | with_reducible refine Z.r_min2 ?_
  | ((with_reducible refine' Z.r_lenL ?e ?_); (case e => walk_at "sq"))
  | with_reducible refine Z.r_isN ?_
  | with_reducible refine Z.r_notN ?_
  | with_reducible refine Z.r_eqI ?_
  | with_reducible refine Z.r_eqB ?_
  | with_reducible refine Z.r_eqS ?_
  | with_reducible refine Z.r_neI ?_
  | with_reducible refine Z.r_neB ?_
  | with_reducible refine Z.r_neS ?_
  | ((with_reducible refine' Z.r_ixL ?h ?e ?_); (case h => walk_at "sq"); (case e => first | assumption | exact rfl))
  | ((with_reducible refine' Z.r_ixT ?h ?e ?_); (case h => exact SqT.of (by walk_at "hp")); (case e => first | assumption | exact rfl))
  | ((with_reducible refine' Z.r_setL ?h ?e ?_); (case h => walk_at "hp"); (case e => exact rfl))
  | ((with_reducible refine Z.yes ?_ ?_); (first | exact rfl | decide +kernel))
  | ((with_reducible refine Z.no ?_ ?_); (first | exact rfl | decide +kernel))
  | walk_at "call"))
local macro_rules | `(tactic| walk_at "bag") => `(tactic| first
  | assumption
  | (refine Bag.mono (by omega) ?_; assumption)
  | (refine Bag.same (by assumption) ?_; walk_at "bag")
  | (refine Bag.but (by assumption) (by first | assumption | (apply Ne.symm; assumption)) ?_; walk_at "bag"))
local macro_rules | `(tactic| walk_at "len") => `(tactic| exact Z.szle (Nat.le_of_ble_eq_true rfl))
local macro_rules | `(tactic| walk_at "draw") => `(tactic| (refine' ⟨_, _, _, rfl, ?bg, ?m0, ?m1, ?n1, ?_⟩; (case bg => walk_at "bag"); (case m0 => omega); (case m1 => omega); (case n1 => omega)))
/-! the bag of a script's cell, its draws -/
/-- a bag: what is left of the digits, the seed, the number of draws (at most n) -/
def Bag (H : Hp) (b : Addr) (n : Nat) : Prop := ∃ g s k : Int, H b = some (.lst [.int g, .int s, .int k]) ∧ 0 ≤ g ∧ 0 ≤ s ∧ s < 1099511627776 ∧ 0 ≤ k ∧ k ≤ n
theorem Bag.mono {H : Hp} {b : Addr} {n m : Nat} (h : n ≤ m) (x : Bag H b n) : Bag H b m := by
  obtain ⟨g, s, k, h1, h2, h3, h4, h5, h6⟩ := x
  exact ⟨g, s, k, h1, h2, h3, h4, h5, by omega⟩
theorem Bag.same {H H' : Hp} {b : Addr} {n : Nat} (e : Same H H') (x : Bag H b n) : Bag H' b n := by
  obtain ⟨g, s, k, h1, h2⟩ := x
  exact ⟨g, s, k, e _ _ h1, h2⟩
theorem Bag.ne {H : Hp} {b p : Addr} {n : Nat} (x : Bag H b n) (h : H p = none) : p ≠ b := fun e => by
  obtain ⟨g, s, k, h1, _⟩ := x
  rw [e, h1] at h; cases h
theorem Bag.ne' {H : Hp} {b p : Addr} {n : Nat} {o : HO} (x : Bag H b n) (h : H p = some o) (d : ∀ xs, o ≠ .lst xs) : p ≠ b := fun e => by
  obtain ⟨g, s, k, h1, _⟩ := x
  rw [e, h1] at h; cases h; exact d _ rfl
theorem Bag.but {H H' : Hp} {b c : Addr} {n : Nat} (e : Z.But c H H') (ne : b ≠ c) (x : Bag H b n) : Bag H' b n := by
  obtain ⟨g, s, k, h1, h2⟩ := x
  exact ⟨g, s, k, e _ _ ne h1, h2⟩
local macro_rules | `(tactic| walk_at "bag") => `(tactic| first
  | assumption
  | (refine Bag.same (by assumption) ?_; walk_at "bag")
  | (refine Bag.but (by assumption) (by first | assumption | (apply Ne.symm; assumption)) ?_; walk_at "bag")
  | (refine Bag.mono (by omega) ?_; assumption))
/-- a word of one to eight small letters -/
def Word (x : Str) : Prop := 1 ≤ x.length ∧ x.length ≤ 8 ∧ ∀ c ∈ x.cps.toList, 97 ≤ c ∧ c ≤ 122
theorem Word.ok {x : Str} (h : Word x) : PyData.strOk x = true := by
  unfold PyData.strOk
  rw [Array.all_eq_true']
  intro c hc
  have := (h.2.2 c (Array.mem_toList_iff.mpr hc)).2
  exact decide_eq_true (by omega)
/-- a beginning of a word, of at most n letters -/
def Wd (n : Nat) (x : Str) : Prop := x.length = n ∧ ∀ c ∈ x.cps.toList, 97 ≤ c ∧ c ≤ 122
theorem Wd.add {n c : Nat} {x : Str} (h : Wd n x) (h1 : 97 ≤ c) (h2 : c ≤ 122) : Wd (n + 1) (x ++ (⟨#[c]⟩ : Str)) := by
  obtain ⟨h3, h4⟩ := h
  have e : (x ++ (⟨#[c]⟩ : Str)).cps = x.cps ++ #[c] := rfl
  constructor
  · show (x ++ (⟨#[c]⟩ : Str)).cps.size = n + 1
    rw [e, Array.size_append]
    have : x.cps.size = n := h3
    rw [this]; rfl
  · intro d hd
    rw [e, Array.toList_append, List.mem_append] at hd
    rcases hd with hd | hd
    · exact h4 d hd
    · have : d = c := by simpa using hd
      omega

/-- a value of the law's: nothing, an unnumbered value (an instance of the class at C) of this name, a number -/
inductive Tag where
  | non | mark (n : Str) | num (i : Int)
  deriving DecidableEq
def Rep (C : Addr) (H : Hp) (x : V) : Tag → Prop
  | .non => x = .non
  | .num i => x = .int i
  | .mark n => ∃ a dx, x = .ref a ∧ H a = some (.ins C dx [("name", .str n)])
theorem Rep.same {C : Addr} {H H' : Hp} {x : V} {t : Tag} (e : Same H H') (h : Rep C H x t) : Rep C H' x t := by
  cases t with
  | non => exact h
  | num i => exact h
  | mark n =>
    obtain ⟨a, dx, h1, h2⟩ := h
    exact ⟨a, dx, h1, e _ _ h2⟩
theorem Rep.but {C b : Addr} {H H' : Hp} {x : V} {t : Tag} {xs : List V} (e : Z.But b H H') (hb : H b = some (.lst xs)) (h : Rep C H x t) : Rep C H' x t := by
  cases t with
  | non => exact h
  | num i => exact h
  | mark n =>
    obtain ⟨a, dx, h1, h2⟩ := h
    exact ⟨a, dx, h1, e _ _ (ne_of h2 hb (by intro z; cases z)) h2⟩
/-! operators and comparisons of instances of an own class -/
namespace Z
open PySem PySem.Spec PyProof.Rows L2
section
variable {prog : Program} {w : World} {A : Around} {E : Value → Shared → Prop} {s : Shared} {x : Addr} {o : Obj} {a : Int} {t : Tok}
/-- what a built-in's operation on ints says of an instance -/
def Declines (B : Builtin) : Prop := ∀ (prog : Program) (w : World) (A : Around) (E : Value → Shared → Prop) (s : Shared) (x : Addr) (o : Obj) (a : Int) (t : Tok) (Q : Fin → Shared → Prop),
  s.heap.get? x = some o → o.data = .plain → Q (.done (.ret .notImplemented)) s → wpAny (model prog w) A (B ⟨[.int a t, .ref x], []⟩) Q E s
theorem dec_lt : Declines Builtin.«int.__lt__» := fun prog w A E s x o a t Q hx hd h => by
  obtain ⟨oc, od, data, sl⟩ := o
  simp only at hd
  subst hd
  obtain ⟨hp, g, d, tk, os⟩ := s
  wp_walk using AutoSeq1.wpAny_loadPart' hx
  exact h
theorem dec_le : Declines Builtin.«int.__le__» := fun prog w A E s x o a t Q hx hd h => by
  obtain ⟨oc, od, data, sl⟩ := o
  simp only at hd
  subst hd
  obtain ⟨hp, g, d, tk, os⟩ := s
  wp_walk using AutoSeq1.wpAny_loadPart' hx
  exact h
theorem dec_gt : Declines Builtin.«int.__gt__» := fun prog w A E s x o a t Q hx hd h => by
  obtain ⟨oc, od, data, sl⟩ := o
  simp only at hd
  subst hd
  obtain ⟨hp, g, d, tk, os⟩ := s
  wp_walk using AutoSeq1.wpAny_loadPart' hx
  exact h
theorem dec_ge : Declines Builtin.«int.__ge__» := fun prog w A E s x o a t Q hx hd h => by
  obtain ⟨oc, od, data, sl⟩ := o
  simp only at hd
  subst hd
  obtain ⟨hp, g, d, tk, os⟩ := s
  wp_walk using AutoSeq1.wpAny_loadPart' hx
  exact h
theorem dec_eq : Declines Builtin.«int.__eq__» := fun prog w A E s x o a t Q hx hd h => by
  obtain ⟨oc, od, data, sl⟩ := o
  simp only at hd
  subst hd
  obtain ⟨hp, g, d, tk, os⟩ := s
  wp_walk using AutoSeq1.wpAny_loadPart' hx
  exact h
theorem dec_ne : Declines Builtin.«int.__ne__» := fun prog w A E s x o a t Q hx hd h => by
  obtain ⟨oc, od, data, sl⟩ := o
  simp only at hd
  subst hd
  obtain ⟨hp, g, d, tk, os⟩ := s
  wp_walk using AutoSeq1.wpAny_loadPart' hx
  exact h
theorem dec_call {T : String} {name : Str} {id : String} {B : Builtin} (slot : Slot "int" name id) (entry : entryFor table id = some B) (args : ∀ a b, argsOk id ⟨[a, b], []⟩) (D : Declines B) {Q : Value → Shared → Prop}
    (hx : s.heap.get? x = some o) (hd : o.data = .plain) (h : Q .notImplemented s) : wpAny (model prog w) A (call (.builtin id) [.int a t, .ref x]) Q E s :=
  GQ.call_here slot (typeIs_int s a t) entry (args _ _) (D _ _ _ _ _ _ _ _ _ _ hx hd h)
/-- an int, a comparison, an instance: the instance's reflected def is asked -/
theorem cmp_int {K : PySem.W.Frag} {C f : Addr} {od : Option Obj} {op : CmpOp} {id : String} {B : Builtin} {Q : Value → Shared → Prop} (hu : A.units < cLine) (X : K.In s.heap) (I : PySem.W.InstAt s.heap x o C od) (hd : o.data = .plain)
    (slot : Slot "int" (cmpInfo op).2.1 id) (entry : entryFor table id = some B) (args : ∀ a b, argsOk id ⟨[a, b], []⟩) (D : Declines B)
    (sub : PySem.W.subIn K (.ref C) (.type "int") = some false) (hs : PySem.W.findIn K (.ref C) (cmpInfo op).2.2 = some (some (.ref f))) (hf : PySem.W.isFn K (.ref f) = true)
    (h : wpAny (model prog w) A (call (.ref f) [.ref x, .int a t]) (PySem.W.CmpBack Q) E s) : wpAny (model prog w) A (richCompare op (.int a t) (.ref x)) Q E s := by
  rcases hi : cmpInfo op with ⟨sym, nf, nr⟩
  rw [hi] at slot hs
  dsimp only at slot hs
  have one : wpAny (model prog w) A (tryCompare (.ref x) nr (.int a t)) (fun r s' => ∃ v, r = some v ∧ Q v s') E s := by
    unfold tryCompare
    refine wpAny_bind (PySem.W.ifBound_K X I hs hf (wpAny_mono h (fun v s' hv => ?_) fun _ _ e => e))
    cases v <;> first | exact hv.elim | exact wpAny_pure ⟨_, rfl, hv⟩
  simp only [richCompare, hi, (typeIs_int s a t).oneThing_none]
  refine wpAny_holding (wpAny_bind (wpAny_cRoomFor hu ?_))
  refine wpAny_bind (wpAny_typeOf (typeIs_int s a t) (wpAny_bind (I.type.here ?_)))
  have hne : (Value.type "int" != Value.ref C) = true := by simp
  simp only [hne, if_true]
  refine wpAny_bind ((PySem.W.looks_subIn X sub).here ?_)
  simp only [Bool.false_eq_true, if_false, Bool.not_false, if_true]
  refine wpAny_bind (m := tryCompare (.int a t) _ (.ref x)) (wpAny_tryCompare_declines (typeIs_int s a t) slot (dec_call (T := "int") slot entry args D I.at_ hd ⟨rfl, ?_⟩))
  refine wpAny_bind (m := tryCompare (.ref x) _ (.int a t)) (wpAny_mono one (fun r s' z => ?_) fun _ _ e => e)
  obtain ⟨v, rfl, hq⟩ := z
  exact wpAny_pure hq
end
section
variable {X : Cx} {C f : Addr} {fd : FuncData} {k : Nat} {ps : List Str} {sp : Sp} {op : CmpOp}
/-- x op y, x an instance of the class at C whose def for op keeps sp -/
def rCmpL (K : PySem.W.Frag) (C : Addr) (sp : Sp) : R2 := fun x y H Q => ∃ a dx fs t, x = .ref a ∧ H a = some (.ins C dx fs) ∧ TyX K H y t ∧ PySem.W.notFirst K C t = true ∧ sp ([x, y] ++ []) H Q E0
theorem o_cmpL (hop : ∀ a b, compareOp op a b = richCompare op a b) (M : Meth X.K C (cmpInfo op).2.1 f) (F : FnOk X.prog X.w X.K X.mg X.base CX0 k f fd ps sp) (hr : Room k X.A) (hb : Binds X.K fd ps []) : OpR X (compareOp op) (rCmpL X.K C sp) := by
  intro pins s σ H x y v u Q I rx ry h
  obtain ⟨a, dx, fs, t, rfl, ha, ty, hn, q⟩ := h
  cases (show v = Value.ref a from rx)
  obtain ⟨mA, O, _⟩ := ins_get I.hok ha
  obtain ⟨od, J, _⟩ := O.look
  obtain ⟨P, Z, p, _⟩ := kit_of I ry ty
  obtain ⟨m, hF⟩ := I.fr
  rw [hop]
  refine PySem.W.cmp_K (op := op) (tb := t) hr.units0 hF I.ok.mod.kin J (Z.ty _ _ I.kIn p) hn M.at_ M.fn ?_
  refine wpAny_mono (run_fn (us := [.ref a, u]) (vs := [.ref a, y]) F hr hb .nil pass0 I (.cons rfl (.cons ry .nil)) q) (fun w s' z => ?_) fun _ _ x => x
  obtain ⟨z', H', I', rz, qz⟩ := z
  exact SlX.cmpback rz ⟨z', H', I', rz, qz⟩
def rCmpR (K : PySem.W.Frag) (C : Addr) (sp : Sp) : R2 := fun x y H Q => ∃ i b dx fs, x = .int i ∧ y = .ref b ∧ H b = some (.ins C dx fs) ∧ PySem.W.subIn K (.ref C) (.type "int") = some false ∧ sp ([y, x] ++ []) H Q E0
theorem o_cmpR {id : String} {B : Builtin} (hop : ∀ a b, compareOp op a b = richCompare op a b) (slot : Slot "int" (cmpInfo op).2.1 id) (entry : entryFor table id = some B) (args : ∀ a b, argsOk id ⟨[a, b], []⟩) (D : Declines B)
    (M : Meth X.K C (cmpInfo op).2.2 f) (F : FnOk X.prog X.w X.K X.mg X.base CX0 k f fd ps sp) (hr : Room k X.A) (hb : Binds X.K fd ps []) : OpR X (compareOp op) (rCmpR X.K C sp) := by
  intro pins s σ H x y v u Q I rx ry h
  obtain ⟨i, b, dx, fs, rfl, rfl, hB, sub, q⟩ := h
  obtain ⟨t, rfl⟩ := (show ∃ t, v = Value.int i t from rx)
  cases (show u = Value.ref b from ry)
  obtain ⟨mA, O, _⟩ := ins_get I.hok hB
  obtain ⟨od, J, _⟩ := O.look
  rw [hop]
  refine cmp_int hr.units0 I.kIn J rfl slot entry args D sub M.at_ M.fn ?_
  refine wpAny_mono (run_fn (us := [.ref b, .int i t]) (vs := [.ref b, .int i]) F hr hb .nil pass0 I (.cons rfl (.cons ⟨t, rfl⟩ .nil)) q) (fun w s' z => ?_) fun _ _ x => x
  obtain ⟨z', H', I', rz, qz⟩ := z
  exact SlX.cmpback rz ⟨z', H', I', rz, qz⟩
/-- x in [x], the very object -/
def rInSelf : R2 := fun x y H Q => ∃ a p, x = .ref a ∧ y = .ref p ∧ H p = some (.lst [.ref a]) ∧ Q (.bl true) H
theorem o_inSelf : OpR X (compareOp .In) rInSelf := by
  intro pins s σ H x y v u Q I rx ry h
  obtain ⟨a, p, rfl, rfl, hp, q⟩ := h
  cases (show v = Value.ref a from rx)
  cases (show u = Value.ref p from ry)
  obtain ⟨its, r, pl, hz⟩ := I.list (SqL.of hp)
  have e : its = [Value.ref a] := by
    cases r with
    | cons r1 r2 =>
      cases r2
      cases r1
      rfl
  subst e
  refine SeqAt.in_listAt (fun _ => true) pl.isList (fun w hw => ?_) ⟨.bl true, H, I, (show Value.bool (#[Value.ref a].any fun _ => true) = Value.bool true by simp), q⟩
  have : w = Value.ref a := by simpa using hw
  subst this
  exact SeqAt.EqAt.same (.ref a)
/-- three kinds of one operator -/
def rAny3 (r1 r2 r3 : R2) : R2 := fun x y H Q => r1 x y H Q ∨ r2 x y H Q ∨ r3 x y H Q
theorem o_any3 {f : Value → Value → Sem Value} {r1 r2 r3 : R2} (h1 : OpR X f r1) (h2 : OpR X f r2) (h3 : OpR X f r3) : OpR X f (rAny3 r1 r2 r3) := OpR.or h1 (OpR.or h2 h3)
end
section
variable {K : PySem.W.Frag} {H : Hp} {Q : VK} {r1 r2 r3 : R2} {x y : V} {a b C dx : Addr} {fs : List (Str × V)} {t : Value} {sp : Sp} {i j : Int}
theorem r_anyII (h : r1 (.int i) (.int j) H Q) : rAny3 r1 r2 r3 (.int i) (.int j) H Q := .inl h
theorem r_anyR (h : r2 (.ref a) y H Q) : rAny3 r1 r2 r3 (.ref a) y H Q := .inr (.inl h)
theorem r_anyIR (h : r3 (.int i) (.ref b) H Q) : rAny3 r1 r2 r3 (.int i) (.ref b) H Q := .inr (.inr h)
theorem nf_self : PySem.W.notFirst K C (.ref C) = true := by
  unfold PySem.W.notFirst
  rw [beq_self_eq_true]; rfl
theorem nf_kit (h : PySem.W.kitOne K t (.ref C) = some false) : PySem.W.notFirst K C t = true := by
  unfold PySem.W.kitOne PySem.W.kitCls at h
  unfold PySem.W.notFirst
  split at h
  · cases h
  · split at h
    · rename_i C' he
      cases he
      split at h
      · rw [h]; simp
      · cases h
    · rename_i he; cases he
    · rename_i h1 h2; exact absurd rfl (h1 _)
theorem sub_kit {n : String} (h : PySem.W.kitOne K (.ref C) (.type n) = some false) : PySem.W.subIn K (.ref C) (.type n) = some false := by
  unfold PySem.W.kitOne PySem.W.kitCls at h
  split at h
  · cases h
  · split at h
    · rename_i he; cases he
    · rename_i T he
      cases he
      split at h
      · exact h
      · cases h
    · rename_i h1 h2; exact absurd rfl (h2 _)
theorem r_inSelf (e : H b = some (.lst [.ref a])) (h : Q (.bl true) H) : rInSelf (.ref a) (.ref b) H Q := ⟨a, b, rfl, rfl, e, h⟩
theorem r_cmpL (e : H a = some (.ins C dx fs)) (ty : TyX K H y t) (nf : PySem.W.notFirst K C t = true) (h : sp ([.ref a, y] ++ []) H Q E0) : rCmpL K C sp (.ref a) y H Q := ⟨a, dx, fs, t, rfl, e, ty, nf, h⟩
theorem r_cmpR (e : H b = some (.ins C dx fs)) (k : PySem.W.kitOne K (.ref C) (.type "int") = some false) (h : sp ([.ref b, .int i] ++ []) H Q E0) : rCmpR K C sp (.int i) (.ref b) H Q := ⟨i, b, dx, fs, rfl, rfl, e, sub_kit k, h⟩
end
end Z
local macro_rules | `(tactic| walk_at "nf") => `(tactic| first | exact Z.nf_self | exact Z.nf_kit (by walk_at "ki"))
local macro_rules | `(tactic| walk_at "call") => `(tactic| first
  | with_reducible refine Z.r_anyII ?_
  | ((with_reducible refine' Z.r_inSelf ?e ?_); (case e => walk_at "hp"))
  | with_reducible refine Z.r_anyR ?_
  | with_reducible refine Z.r_anyIR ?_
  | ((with_reducible refine' Z.r_cmpL ?e ?ty ?nf ?_); (case e => walk_at "hp"); (case ty => walk_at "ty"); (case nf => walk_at "nf"))
  | ((with_reducible refine' Z.r_cmpR ?e ?k ?_); (case e => walk_at "hp"); (case k => walk_at "ki")))
namespace Z
open PySem PySem.Spec PyProof.Rows L2 PySem.SeqAt
open MeetsSeq MeetsSeq2 MeetsSeq3 SeqRoads2
section
variable {prog : Program} {w : World} {A : Around} {R : Result → Shared → Prop}
def anyFrom (e : Nat → Bool) : Nat → Nat → Bool
  | _, 0 => false
  | i, k + 1 => e i || anyFrom e (i + 1) k
/-- at each turn the list is read anew; its i-th item's == with x tells e i -/
def Reads1 (prog : Program) (w : World) (A : Around) (R : Result → Shared → Prop) (l : Addr) (x : Value) (N : Nat) (e : Nat → Bool) (I : Shared → Prop) : Prop :=
  ∀ s, I s → ∃ (items : Array Value) (n : Nat), s.heap.get? l = some { cls := .type "list", data := .seq items n } ∧ items.size = N ∧
    ∀ (i : Nat) (h : i < items.size), wpAny (model prog w) A.in1 (eqBool items[i] x) (fun r s' => r = e i ∧ I s') (fun e s' => R (.error e) s') s
theorem contains_loopG (l : Addr) (x : Value) (N : Nat) (e : Nat → Bool) (I : Shared → Prop) (rd : Reads1 prog w A R l x N e I) (k : Nat) :
    ∀ i : Nat, N = i + k → (∀ s, I s → R (.ok (.ret (.bool (anyFrom e i k)))) s) → ∀ s, I s →
      wpAny (model prog w) A.in1 (Builtin.«list.__contains__.loop» ⟨[.ref l, x, rawInt i], []⟩) (GQ.FinOf prog w A R) (fun e s' => R (.error e) s') s := by
  induction k with
  | zero =>
    intro i hk fin s h
    obtain ⟨items, n, hl1, hs1, _⟩ := rd s h
    have hR := fin s h
    obtain ⟨hp, g, d, tk, os⟩ := s
    wp_walk using AutoSeq1.wpAny_loadPart' hl1
    have hi : items[((i : Nat) : Int).toNat]? = none := by simp; omega
    rw [hi]
    wp_walk
    exact hR
  | succ k ih =>
    intro i hk fin s h
    obtain ⟨items, n, hl1, hs1, turn⟩ := rd s h
    have hlt : i < items.size := by omega
    have ht := turn i hlt
    obtain ⟨hp, g, d, tk, os⟩ := s
    wp_walk using AutoSeq1.wpAny_loadPart' hl1
    have hi : items[((i : Nat) : Int).toNat]? = some items[i] := by simp [hlt]
    rw [hi]
    refine wpAny_bind (wpAny_mono ht (fun r s2 h2 => ?_) fun _ _ x => x)
    obtain ⟨hr, h2⟩ := h2
    subst hr
    cases hb : e i with
    | true =>
      have z := fin s2 h2
      rw [show anyFrom e i (k + 1) = (e i || anyFrom e (i + 1) k) from rfl, hb] at z
      obtain ⟨hp2, g2, d2, tk2, os2⟩ := s2
      wp_walk
      exact z
    | false =>
      have hrec := ih (i + 1) (by omega) (fun s q => by
        have z := fin s q
        rw [show anyFrom e i (k + 1) = (e i || anyFrom e (i + 1) k) from rfl, hb] at z
        exact z) s2 h2
      have hc : ((i : Int) + 1) = ((i + 1 : Nat) : Int) := by push_cast; rfl
      obtain ⟨hp2, g2, d2, tk2, os2⟩ := s2
      wp_walk
      rw [hc]
      exact ⟨plainId_quiet plain_contains_loop _, codeAny_builtin entry_contains_loop (by
        rw [Around.under_plainId plain_contains_loop _]
        exact hrec)⟩
theorem list_containsG (l : Addr) (x : Value) (N : Nat) (e : Nat → Bool) (I : Shared → Prop) (rd : Reads1 prog w A R l x N e I) (fin : ∀ s, I s → R (.ok (.ret (.bool (anyFrom e 0 N)))) s) {s : Shared} (h : I s) :
    wpAny (model prog w) A.in1 (Builtin.«list.__contains__» ⟨[.ref l, x], []⟩) (GQ.FinOf prog w A R) (fun e s' => R (.error e) s') s := by
  obtain ⟨items, n, hl1, _, _⟩ := rd s h
  have hrec := contains_loopG (A := A) (R := R) l x N e I rd N 0 (by omega) fin s h
  obtain ⟨hp, g, d, tk, os⟩ := s
  wp_walk using AutoSeq1.wpAny_loadPart' hl1
  exact ⟨plainId_quiet plain_contains_loop _, codeAny_builtin entry_contains_loop (by
    rw [Around.under_plainId plain_contains_loop _]
    exact hrec)⟩
end
end Z
namespace Z
open PySem PySem.Spec PyProof.Rows L2
section
variable {X : Cx} {k : Nat} {f : Addr} {fd : FuncData} {ps : List Str} {sp : Sp} {pins : List (Addr × Obj)} {σ : L2.St} {H : Hp} {s : Shared} {Q : VK} {us : List Value} {vs : List V}
/-- a def that is called somewhere below the running body -/
theorem run_below {A : Around} (sb : Sub X k A) (F : FnOk X.prog X.w X.K X.mg X.base CX0 k f fd ps sp) (hb : Binds X.K fd ps []) (I : Inv X pins σ H s) (r : Vals vs us) (h : sp vs H Q E0) :
    wpAny (model X.prog X.w) A (call (.ref f) us) (EP X pins σ Q) X.xe s := by
  have e0 : Env0 X.prog X.w X.K X.mg X.base A X.stack s H := by
    have e := I.env0
    exact ⟨by rw [sb.fr]; exact e.frames, e.mod, e.bs, e.bsz, e.funs, e.frf, e.hok, e.bare⟩
  have hl := F.len _ _ _ _ h
  have hl2 : us.length = ps.length := by rw [← r.length]; exact hl
  refine wpAny_call (codeAny_mono (F.run A X.stack s H ⟨us, []⟩ us vs Q E0 sb.room e0 (by simpa using hb s us I.kIn (by simpa using hl2)) r h) fun r s' hq => ?_)
  cases r with
  | error e => exact hq.elim
  | ok fl =>
    cases fl with
    | ret u => exact I.after hq
    | next => exact False.elim hq
    | brk => exact False.elim hq
    | cont => exact False.elim hq
/-- == within a built-in, of two values, tells b and leaves all as it was -/
def EqB (X : Cx) (k : Nat) (y x : V) (H : Hp) (b : Bool) : Prop :=
  ∀ (A : Around) (pins : List (Addr × Obj)) (σ : L2.St) (s : Shared) (u v : Value), Sub X k A → Inv X pins σ H s → RelV y u → RelV x v → wpAny (model X.prog X.w) A (eqBool u v) (fun r s' => r = b ∧ Inv X pins σ H s') X.xe s
theorem EqB.same {a : Addr} : EqB X k (.ref a) (.ref a) H true := by
  intro A pins σ s u v sb I ru rv
  cases (show u = Value.ref a from ru)
  cases (show v = Value.ref a from rv)
  exact SeqAt.EqAt.same (A := A) (s := s) (.ref a) X.prog X.w X.xe _ ⟨rfl, I⟩
theorem EqB.flat {x y : V} (fx : flatV x = true) (fy : flatV y = true) : EqB X k x y H (eqV x y) := by
  intro A pins σ s u v sb I ru rv
  exact eqAt_V (A := A) (s := s) ru rv fx fy X.prog X.w X.xe _ ⟨rfl, I⟩
/-- an instance whose own == says b of x, the very object excepted -/
theorem EqB.own {C a dx : Addr} {fs : List (Str × V)} {x : V} {t : Value} {b : Bool} (M : Meth X.K C "__eq__" f) (F : FnOk X.prog X.w X.K X.mg X.base CX0 k f fd ps sp) (hb : Binds X.K fd ps [])
    (ha : H a = some (.ins C dx fs)) (ty : TyX X.K H x t) (nf : PySem.W.notFirst X.K C t = true) (ne : x ≠ .ref a) (h : sp [.ref a, x] H (fun v H' => v = .bl b ∧ H' = H) E0) : EqB X k (.ref a) x H b := by
  intro A pins σ s u v sb I ru rv
  cases (show u = Value.ref a from ru)
  have hne : ¬ (Value.ref a == v) = true := by
    intro q
    have e : Value.ref a = v := eq_of_beq q
    subst e
    cases x with
    | ref c => exact ne (by cases (show Value.ref a = Value.ref c from rv); rfl)
    | int i => obtain ⟨_, e⟩ := (show ∃ t, Value.ref a = Value.int i t from rv); cases e
    | str i => obtain ⟨_, e⟩ := (show ∃ t, Value.ref a = Value.str i t from rv); cases e
    | byt i => obtain ⟨_, e⟩ := (show ∃ t, Value.ref a = Value.bytes i t from rv); cases e
    | flt i => obtain ⟨_, e⟩ := (show ∃ t, Value.ref a = Value.float i t from rv); cases e
    | non => cases (show Value.ref a = Value.none from rv)
    | bl i => cases (show Value.ref a = Value.bool i from rv)
    | ty n => cases (show Value.ref a = Value.type n from rv)
  obtain ⟨mA, O, _⟩ := ins_get I.hok ha
  obtain ⟨od, J, _⟩ := O.look
  obtain ⟨P, Z, p, _⟩ := kit_of I rv ty
  obtain ⟨m, hF⟩ := I.fr
  have rc : wpAny (model X.prog X.w) A (richCompare .Eq (.ref a) v) (fun r s' => ∃ z, r = .bool z ∧ z = b ∧ Inv X pins σ H s') X.xe s := by
    refine PySem.W.cmp_K (op := .Eq) (tb := t) sb.room.units0 hF I.ok.mod.kin J (Z.ty _ _ I.kIn p) nf M.at_ M.fn ?_
    refine wpAny_mono (run_below (us := [.ref a, v]) (vs := [.ref a, x]) sb F hb I (.cons rfl (.cons rv .nil)) h) (fun w s' z => ?_) fun _ _ x => x
    obtain ⟨z', H', I', rz, e1, e2⟩ := z
    subst e1 e2
    cases (show w = Value.bool b from rz)
    exact ⟨b, rfl, rfl, I'⟩
  unfold eqBool
  refine wpAny_holding ?_
  refine wpAny_ite_split (fun hab => absurd hab hne) (fun _ => ?_)
  refine wpAny_bind (wpAny_mono rc (fun r s' hv => ?_) fun _ _ x => x)
  obtain ⟨z, rfl, hz, hI⟩ := hv
  exact wpAny_truthy_bool ⟨hz, hI⟩
/-- an int beside an instance whose own == says b of it -/
theorem EqB.int {C a dx : Addr} {fs : List (Str × V)} {i : Int} {b : Bool} (M : Meth X.K C "__eq__" f) (F : FnOk X.prog X.w X.K X.mg X.base CX0 k f fd ps sp) (hb : Binds X.K fd ps [])
    (ha : H a = some (.ins C dx fs)) (sub : PySem.W.subIn X.K (.ref C) (.type "int") = some false) (h : sp [.ref a, .int i] H (fun v H' => v = .bl b ∧ H' = H) E0) : EqB X k (.int i) (.ref a) H b := by
  intro A pins σ s u v sb I ru rv
  obtain ⟨t, rfl⟩ := (show ∃ t, u = Value.int i t from ru)
  cases (show v = Value.ref a from rv)
  obtain ⟨mA, O, _⟩ := ins_get I.hok ha
  obtain ⟨od, J, _⟩ := O.look
  have rc : wpAny (model X.prog X.w) A (richCompare .Eq (.int i t) (.ref a)) (fun r s' => ∃ z, r = .bool z ∧ z = b ∧ Inv X pins σ H s') X.xe s := by
    refine cmp_int (op := .Eq) sb.room.units0 I.kIn J rfl PySem.F.slot_int_eq PySem.F.entry_int_eq PySem.F.args_int_eq_2 dec_eq sub M.at_ M.fn ?_
    refine wpAny_mono (run_below (us := [.ref a, .int i t]) (vs := [.ref a, .int i]) sb F hb I (.cons rfl (.cons ⟨t, rfl⟩ .nil)) h) (fun w s' z => ?_) fun _ _ x => x
    obtain ⟨z', H', I', rz, e1, e2⟩ := z
    subst e1 e2
    cases (show w = Value.bool b from rz)
    exact ⟨b, rfl, rfl, I'⟩
  unfold eqBool
  refine wpAny_holding ?_
  refine wpAny_ite_split (fun hab => absurd (eq_of_beq hab) nofun) (fun _ => ?_)
  refine wpAny_bind (wpAny_mono rc (fun r s' hv => ?_) fun _ _ x => x)
  obtain ⟨z, rfl, hz, hI⟩ := hv
  exact wpAny_truthy_bool ⟨hz, hI⟩
theorem any_from (f : V → Bool) : ∀ (xs ys : List V), anyFrom (fun i => f ((ys ++ xs).getD i .non)) ys.length xs.length = xs.any f
  | [], _ => rfl
  | x :: xs, ys => by
    have ih := any_from f xs (ys ++ [x])
    rw [List.append_assoc] at ih
    have h0 : (ys ++ x :: xs).getD ys.length .non = x := by simp [List.getD_eq_getElem?_getD]
    show (f ((ys ++ x :: xs).getD ys.length .non) || anyFrom _ (ys.length + 1) xs.length) = (x :: xs).any f
    rw [h0, List.any_cons, ← ih]
    simp
/-- x in a list, by what == says of each item -/
theorem in_ok {p : Addr} {xs : List V} {x : V} {v : Value} (e : V → Bool) (hr : Room (k + 1) X.A) (I : Inv X pins σ H s) (hp : H p = some (.lst xs)) (rx : RelV x v) (he : ∀ z ∈ xs, EqB X k z x H (e z)) {Q : Value → Shared → Prop}
    (q : ∀ s', Inv X pins σ H s' → Q (.bool (xs.any e)) s') : wpAny (model X.prog X.w) X.A (call (.builtin "list.__contains__") [.ref p, v]) Q X.xe s := by
  obtain ⟨hz, its, n, r, hl⟩ := (show ObjOk X.prog X.w H s.heap p (.lst xs) from I.hok p _ hp)
  refine GQ.call_here PySem.F.slot_list_contains ⟨_, hl, rfl⟩ PySem.F.entry_list_contains (PySem.F.args_list_contains_2 _ _) ?_
  refine list_containsG p v xs.length (fun i => e (xs.getD i .non)) (fun s' => Inv X pins σ H s') (fun s' I' => ?_) (fun s' I' => ?_) I
  · obtain ⟨hz', its', n', r', hl'⟩ := (show ObjOk X.prog X.w H s'.heap p (.lst xs) from I'.hok p _ hp)
    refine ⟨its'.toArray, n', hl', by rw [List.size_toArray, ← r'.length], fun i hi => ?_⟩
    have h1 : i < its'.length := by simpa using hi
    have h2 : i < xs.length := by rw [r'.length]; exact h1
    obtain ⟨u, hu, ru⟩ := r'.get (List.getElem?_eq_getElem h2)
    rw [List.getElem?_eq_getElem h1] at hu
    have e1 : its'.toArray[i] = u := by simpa using Option.some.inj hu
    have e2 : xs.getD i .non = xs[i] := by simp [List.getD_eq_getElem?_getD, h2]
    rw [e1]
    show wpAny _ _ _ (fun r s'' => r = e (xs.getD i .non) ∧ Inv X pins σ H s'') _ _
    rw [e2]
    exact he _ (List.getElem_mem h2) X.A.in1 pins σ s' u v ⟨hr.in1, rfl⟩ I' ru rx
  · have z := any_from e xs []
    rw [List.nil_append, List.length_nil] at z
    show Q (.bool (anyFrom _ 0 xs.length)) s'
    rw [z]
    exact q s' I'
/-- the same of every place of the program -/
def EqG (P : Program) (w : World) (K : PySem.W.Frag) (mg : Str → Option Value) (base : Heap) (k : Nat) (y x : V) (H : Hp) (b : Bool) : Prop := ∀ X : Cx, X.prog = P → X.w = w → X.K = K → X.mg = mg → X.base = base → EqB X k y x H b
section
variable {P : Program} {w : World} {K : PySem.W.Frag} {mg : Str → Option Value} {base : Heap}
theorem EqG.same {a : Addr} : EqG P w K mg base k (.ref a) (.ref a) H true := fun _ _ _ _ _ _ => EqB.same
theorem EqG.flat {x y : V} (fx : flatV x = true) (fy : flatV y = true) : EqG P w K mg base k x y H (eqV x y) := fun _ _ _ _ _ _ => EqB.flat fx fy
theorem EqG.own {C a dx : Addr} {fs : List (Str × V)} {x : V} {t : Value} {b : Bool} (M : Meth K C "__eq__" f) (F : FnOk P w K mg base CX0 k f fd ps sp) (hb : Binds K fd ps [])
    (ha : H a = some (.ins C dx fs)) (ty : TyX K H x t) (nf : PySem.W.notFirst K C t = true) (ne : x ≠ .ref a) (h : sp [.ref a, x] H (fun v H' => v = .bl b ∧ H' = H) E0) : EqG P w K mg base k (.ref a) x H b := by
  intro X e1 e2 e3 e4 e5
  subst e1 e2 e3 e4 e5
  exact EqB.own M F hb ha ty nf ne h
theorem EqG.int {C a dx : Addr} {fs : List (Str × V)} {i : Int} {b : Bool} (M : Meth K C "__eq__" f) (F : FnOk P w K mg base CX0 k f fd ps sp) (hb : Binds K fd ps [])
    (ha : H a = some (.ins C dx fs)) (sub : PySem.W.subIn K (.ref C) (.type "int") = some false) (h : sp [.ref a, .int i] H (fun v H' => v = .bl b ∧ H' = H) E0) : EqG P w K mg base k (.int i) (.ref a) H b := by
  intro X e1 e2 e3 e4 e5
  subst e1 e2 e3 e4 e5
  exact EqB.int M F hb ha sub h
end
/-- x in p, x not in p: all that == says of the items is told -/
def rInO (P : Program) (w : World) (K : PySem.W.Frag) (mg : Str → Option Value) (base : Heap) (k : Nat) (neg : Bool) : R2 := fun x y H Q => ∃ (p : Addr) (xs : List V) (e : V → Bool), y = .ref p ∧ H p = some (.lst xs) ∧ (∀ z ∈ xs, EqG P w K mg base k z x H (e z)) ∧ Q (.bl (if neg = true then !xs.any e else xs.any e)) H
section
variable {P : Program} {w : World} {K : PySem.W.Frag} {mg : Str → Option Value} {base : Heap}
theorem o_inO (e1 : X.prog = P) (e2 : X.w = w) (e3 : X.K = K) (e4 : X.mg = mg) (e5 : X.base = base) (hr : Room (k + 1) X.A) : OpR X (compareOp .In) (rInO P w K mg base k false) := by
  intro pins s σ H x y v u Q I rx ry h
  obtain ⟨p, xs, e, rfl, hp, he, q⟩ := h
  cases (show u = Value.ref p from ry)
  obtain ⟨hz, its, n, r, hl⟩ := (show ObjOk X.prog X.w H s.heap p (.lst xs) from I.hok p _ hp)
  show wpAny _ X.A (do return Value.bool (← contains (.ref p) v)) _ _ s
  refine wpAny_bind (wpAny_contains_slot ⟨_, hl, rfl⟩ PySem.F.slot_list_contains (in_ok e hr I hp rx (fun z hz => he z hz X e1 e2 e3 e4 e5) fun s' I' => ?_))
  exact wpAny_truthy_bool (wpAny_pure ⟨.bl _, H, I', rfl, q⟩)
theorem o_notInO (e1 : X.prog = P) (e2 : X.w = w) (e3 : X.K = K) (e4 : X.mg = mg) (e5 : X.base = base) (hr : Room (k + 1) X.A) : OpR X (compareOp .NotIn) (rInO P w K mg base k true) := by
  intro pins s σ H x y v u Q I rx ry h
  obtain ⟨p, xs, e, rfl, hp, he, q⟩ := h
  cases (show u = Value.ref p from ry)
  obtain ⟨hz, its, n, r, hl⟩ := (show ObjOk X.prog X.w H s.heap p (.lst xs) from I.hok p _ hp)
  show wpAny _ X.A (do return Value.bool (!(← contains (.ref p) v))) _ _ s
  refine wpAny_bind (wpAny_contains_slot ⟨_, hl, rfl⟩ PySem.F.slot_list_contains (in_ok e hr I hp rx (fun z hz => he z hz X e1 e2 e3 e4 e5) fun s' I' => ?_))
  exact wpAny_truthy_bool (wpAny_pure ⟨.bl _, H, I', rfl, q⟩)
end
end
end Z
namespace Z
open PySem PySem.Spec PyProof.Rows L2
section
variable {prog : Program} {w : World} {A : Around} {E : Value → Shared → Prop} {s : Shared} {K : PySem.W.Frag} {x y C f : Addr} {ox oy : Obj} {od od' : Option Obj} {nm : String}
theorem bin1_same {Q : Value → Shared → Prop} (X : K.In s.heap) (I : PySem.W.InstAt s.heap x ox C od) (J : PySem.W.InstAt s.heap y oy C od') (hc : PySem.W.selfFirst K C = true)
    (hs : PySem.W.findIn K (.ref C) (PySem.dunder nm) = some (some (.ref f))) (hf : PySem.W.isFn K (.ref f) = true)
    (h : wpAny (model prog w) A (call (.ref f) [.ref x, .ref y]) (PySem.W.CmpBack Q) E s) : wpAny (model prog w) A (binaryOp1 nm (.ref x) (.ref y)) (fun r s' => ∃ v, r = some v ∧ Q v s') E s := by
  obtain ⟨cd, rest, hcd, hm⟩ := PySem.W.ksp_first hc
  have one := PySem.W.ksp_try X I hs hf h
  obtain ⟨hh, g, d, tt, os⟩ := s
  have L1 : PySem.W.Looks (model prog w) hh (typeOf (.ref x)) (.ref C) := I.type
  have L2 : PySem.W.Looks (model prog w) hh (typeOf (.ref y)) (.ref C) := J.type
  have L3 : PySem.W.Looks (model prog w) hh (fillsNumberSlot (.ref C) nm) true := PySem.W.fills_K X hcd hm hs
  have heq : (Value.ref C == Value.ref C) = true := beq_self_eq_true _
  unfold binaryOp1
  refine wpAny_bind (L1.at (wpAny_bind (L2.at (wpAny_bind (L3.at ?_)))))
  simp only [heq, if_true]
  ksp_lk
  refine wpAny_mono one (fun r s' hr' => ?_) fun _ _ e => e
  obtain ⟨v, rfl, hq⟩ := hr'
  ksp_lk
  exact ⟨v, rfl, hq⟩
theorem bin1_own {b : Value} {T : String} {fo ro rc : Option Value} {Q : Value → Shared → Prop} (X : K.In s.heap) (I : PySem.W.InstAt s.heap x ox C od) (hb : typeOf b = pure (.type T)) (hc : PySem.W.selfFirst K C = true)
    (hs : PySem.W.findIn K (.ref C) (PySem.dunder nm) = some (some (.ref f))) (hf : PySem.W.isFn K (.ref f) = true) (hr : PySem.W.findIn K (.ref C) (PySem.dunderR nm) = some rc) (hp : rc = none ∨ ∃ g : Addr, rc = some (.ref g))
    (h1 : PySem.W.findIn K (.type T) (PySem.dunder nm) = some fo) (h2 : PySem.W.findIn K (.type T) (PySem.dunderR nm) = some ro) (hsub : PySem.W.subIn K (.type T) (.ref C) = some false)
    (h : wpAny (model prog w) A (call (.ref f) [.ref x, b]) (PySem.W.CmpBack Q) E s) : wpAny (model prog w) A (binaryOp1 nm (.ref x) b) (fun r s' => ∃ v, r = some v ∧ Q v s') E s := by
  obtain ⟨cd, rest, hcd, hm⟩ := PySem.W.ksp_first hc
  have one := PySem.W.ksp_try X I hs hf h
  obtain ⟨hh, g, d, tt, os⟩ := s
  have L1 : PySem.W.Looks (model prog w) hh (typeOf (.ref x)) (.ref C) := I.type
  have L2 : PySem.W.Looks (model prog w) hh (typeOf b) (.type T) := PySem.W.Looks.of_pure hb
  have L3 : PySem.W.Looks (model prog w) hh (fillsNumberSlot (.ref C) nm) true := PySem.W.fills_K X hcd hm hs
  have L4 : PySem.W.Looks (model prog w) hh (fillsNumberSlot (.type T) nm) ((fo.isSome && !isSeqSlot fo) || (ro.isSome && !isSeqSlot ro)) := PySem.W.ksp_fillsT X h1 h2
  have L5 : PySem.W.Looks (model prog w) hh (isSubtype (.type T) (.ref C)) false := PySem.W.looks_subIn X hsub
  have L6 : PySem.W.Looks (model prog w) hh (numberSlotInPython (.ref C) nm) true := PySem.W.ksp_inPy X hs hr hp
  have L7 : PySem.W.Looks (model prog w) hh (numberSlotInPython (.type T) nm) false := PySem.W.Looks.of_pure rfl
  have L8 : PySem.W.Looks (model prog w) hh (typeLookup (.type T) (PySem.dunderR nm)) ro := PySem.W.looks_findIn X h2
  generalize ((fo.isSome && !isSeqSlot fo) || (ro.isSome && !isSeqSlot ro)) = right at L4
  have hne : (Value.ref C == Value.type T) = false := Bool.eq_false_iff.mpr fun q => by cases beq_iff_eq.mp q
  unfold binaryOp1
  refine wpAny_bind (L1.at (wpAny_bind (L2.at (wpAny_bind (L3.at ?_)))))
  simp only [hne, Bool.false_eq_true, if_false]
  cases right with
  | false =>
    ksp_lk
    refine wpAny_mono one (fun r s' hr' => ?_) fun _ _ e => e
    obtain ⟨v, rfl, hq⟩ := hr'
    ksp_lk
    exact ⟨v, rfl, hq⟩
  | true =>
    ksp_lk
    refine wpAny_mono one (fun r s' hr' => ?_) fun _ _ e => e
    obtain ⟨v, rfl, hq⟩ := hr'
    ksp_lk
    exact ⟨v, rfl, hq⟩
theorem bin1_int {i : Int} {t : Tok} {id : String} {B : Builtin} {Q : Value → Shared → Prop} (X : K.In s.heap) (I : PySem.W.InstAt s.heap x ox C od) (hd : ox.data = .plain) (hc : PySem.W.selfFirst K C = true)
    (slot : Slot "int" (PySem.dunder nm) id) (entry : entryFor table id = some B) (args : ∀ a b, argsOk id ⟨[a, b], []⟩) (D : Declines B) (fills : fillsNumberSlot (.type "int") nm = pure true)
    (hl : PySem.W.findIn K (.ref C) (PySem.dunder nm) = some (some (.ref y))) (hs : PySem.W.findIn K (.ref C) (PySem.dunderR nm) = some (some (.ref f))) (hf : PySem.W.isFn K (.ref f) = true) (sub : PySem.W.subIn K (.ref C) (.type "int") = some false)
    (h : wpAny (model prog w) A (call (.ref f) [.ref x, .int i t]) (PySem.W.CmpBack Q) E s) : wpAny (model prog w) A (binaryOp1 nm (.int i t) (.ref x)) (fun r s' => ∃ v, r = some v ∧ Q v s') E s := by
  obtain ⟨cd, rest, hcd, hm⟩ := PySem.W.ksp_first hc
  have one := PySem.W.ksp_try X I hs hf h
  have dec : ∀ {Q : Option Value → Shared → Prop}, Q none s → wpAny (model prog w) A (tryMethod (.int i t) (PySem.dunder nm) (.ref x)) Q E s := fun q =>
    wpAny_tryMethod_declines (typeIs_int s i t) slot (dec_call (T := "int") slot entry args D I.at_ hd ⟨rfl, q⟩)
  obtain ⟨hh, g, d, tt, os⟩ := s
  have L1 : PySem.W.Looks (model prog w) hh (typeOf (.int i t)) (.type "int") := PySem.W.Looks.of_pure rfl
  have L2 : PySem.W.Looks (model prog w) hh (typeOf (.ref x)) (.ref C) := I.type
  have L3 : PySem.W.Looks (model prog w) hh (fillsNumberSlot (.type "int") nm) true := PySem.W.Looks.of_pure fills
  have L4 : PySem.W.Looks (model prog w) hh (fillsNumberSlot (.ref C) nm) true := PySem.W.fills_K X hcd hm hl
  have L5 : PySem.W.Looks (model prog w) hh (isSubtype (.ref C) (.type "int")) false := PySem.W.looks_subIn X sub
  have L7 : PySem.W.Looks (model prog w) hh (numberSlotInPython (.type "int") nm) false := PySem.W.Looks.of_pure rfl
  have hne : (Value.type "int" == Value.ref C) = false := Bool.eq_false_iff.mpr fun q => by cases beq_iff_eq.mp q
  unfold binaryOp1
  refine wpAny_bind (L1.at (wpAny_bind (L2.at (wpAny_bind (L3.at ?_)))))
  simp only [hne, Bool.false_eq_true, if_false]
  ksp_lk
  refine dec ?_
  ksp_lk
  refine wpAny_mono one (fun r s' hr' => ?_) fun _ _ e => e
  obtain ⟨v, rfl, hq⟩ := hr'
  ksp_lk
  exact ⟨v, rfl, hq⟩
theorem bin_of1 {op : Operator} {a b : Value} {Q : Value → Shared → Prop} (h : wpAny (model prog w) A (binaryOp1 op.info.2 a b) (fun r s' => ∃ v, r = some v ∧ Q v s') E s) : wpAny (model prog w) A (binaryOp op a b) Q E s := by
  rcases hi : op.info with ⟨sym, nm'⟩
  rw [hi] at h
  simp only [binaryOp, hi]
  refine wpAny_holding (wpAny_bind (wpAny_mono h (fun r s' hr => ?_) fun _ _ e => e))
  obtain ⟨v, rfl, hq⟩ := hr
  exact wpAny_pure hq
/-- op= where the left type has no in-place def -/
theorem inp_of1 {op : Operator} {a b ta : Value} {Q : Value → Shared → Prop} (L1 : PySem.W.Looks (model prog w) s.heap (typeOf a) ta) (L2 : PySem.W.Looks (model prog w) s.heap (fillsInplaceSlot ta op.info.2 (op == .Add)) false)
    (h : wpAny (model prog w) A (binaryOp1 op.info.2 a b) (fun r s' => ∃ v, r = some v ∧ Q v s') E s) : wpAny (model prog w) A (inplaceOp op a b) Q E s := by
  obtain ⟨hh, g, d, tt, os⟩ := s
  unfold inplaceOp
  refine wpAny_holding (wpAny_bind (L1.at (wpAny_bind (L2.at ?_))))
  simp only [Bool.false_eq_true, if_false]
  refine wpAny_bind (wpAny_mono h (fun r s' hr => ?_) fun _ _ e => e)
  obtain ⟨v, rfl, hq⟩ := hr
  exact wpAny_pure hq
theorem dec_add : Declines Builtin.«int.__add__» := fun prog w A E s x o a t Q hx hd h => by
  obtain ⟨oc, od, data, sl⟩ := o
  simp only at hd
  subst hd
  obtain ⟨hp, g, d, tk, os⟩ := s
  wp_walk using AutoSeq1.wpAny_loadPart' hx
  exact h
theorem dec_sub : Declines Builtin.«int.__sub__» := fun prog w A E s x o a t Q hx hd h => by
  obtain ⟨oc, od, data, sl⟩ := o
  simp only at hd
  subst hd
  obtain ⟨hp, g, d, tk, os⟩ := s
  wp_walk using AutoSeq1.wpAny_loadPart' hx
  exact h
theorem dec_mul : Declines Builtin.«int.__mul__» := fun prog w A E s x o a t Q hx hd h => by
  obtain ⟨oc, od, data, sl⟩ := o
  simp only at hd
  subst hd
  obtain ⟨hp, g, d, tk, os⟩ := s
  wp_walk using AutoSeq1.wpAny_loadPart' hx
  exact h
theorem dec_floordiv : Declines Builtin.«int.__floordiv__» := fun prog w A E s x o a t Q hx hd h => by
  obtain ⟨oc, od, data, sl⟩ := o
  simp only at hd
  subst hd
  obtain ⟨hp, g, d, tk, os⟩ := s
  wp_walk using AutoSeq1.wpAny_loadPart' hx
  exact h
theorem dec_mod : Declines Builtin.«int.__mod__» := fun prog w A E s x o a t Q hx hd h => by
  obtain ⟨oc, od, data, sl⟩ := o
  simp only at hd
  subst hd
  obtain ⟨hp, g, d, tk, os⟩ := s
  wp_walk using AutoSeq1.wpAny_loadPart' hx
  exact h
end
end Z
namespace Z
open PySem PySem.Spec PyProof.Rows L2
section
variable {K : PySem.W.Frag} {C f : Addr} {nm : String}
theorem inpl_own {M : Model} {h : Heap} {add : Bool} {cd : ClassData} (X : K.In h) (hc : PySem.W.clsIn K C = some cd) (hm : cd.mro = [.ref C, .type "object"]) (h1 : PySem.W.findIn K (.ref C) (PySem.dunderI nm) = some none) (h2 : PySem.W.findIn K (.type "object") (PySem.dunderI nm) = some none) :
    PySem.W.Looks M h (fillsInplaceSlot (.ref C) nm add) false := by
  intro A Q E s k q
  have Lm : PySem.W.Looks M h (mroOf (.ref C)) cd.mro := (PySem.W.looks_clsIn X hc).andThen (f := fun cd => pure cd.mro) .now
  have Lm' := Lm.keeps k
  obtain ⟨hh, g, d, tt, os⟩ := s
  have X' : K.In hh := X.keeps k
  have L1 : PySem.W.Looks M hh (typeLookup (.ref C) (PySem.dunderI nm)) none := PySem.W.looks_findIn X' h1
  have L2 : PySem.W.Looks M hh (typeLookup (.type "object") (PySem.dunderI nm)) none := PySem.W.looks_findIn X' h2
  unfold fillsInplaceSlot
  refine wpAny_bind (Lm'.at ?_)
  rw [hm, List.anyM_cons]
  refine wpAny_bind ?_
  refine wpAny_bind (L1.at ?_)
  refine wpAny_pure ?_
  simp only [Bool.false_eq_true, if_false]
  rw [List.anyM_cons]
  refine wpAny_bind ?_
  refine wpAny_bind (L2.at ?_)
  refine wpAny_pure ?_
  simp only [Bool.false_eq_true, if_false]
  exact wpAny_pure q
end
section
variable {X : Cx} {C f g : Addr} {fd : FuncData} {k : Nat} {ps : List Str} {sp : Sp} {op : Operator}
/-- an int, or another instance of the class -/
def NumOr (C : Addr) (H : Hp) (y : V) : Prop := (∃ i, y = .int i) ∨ ∃ b dy gs, y = .ref b ∧ H b = some (.ins C dy gs)
def rBinL (C : Addr) (sp : Sp) : R2 := fun x y H Q => ∃ a dx fs, x = .ref a ∧ H a = some (.ins C dx fs) ∧ NumOr C H y ∧ sp ([x, y] ++ []) H Q E0
def rBinR (C : Addr) (sp : Sp) : R2 := fun x y H Q => ∃ i b dx fs, x = .int i ∧ y = .ref b ∧ H b = some (.ins C dx fs) ∧ sp ([y, x] ++ []) H Q E0
theorem bin1_L {pins : List (Addr × Obj)} {s : Shared} {σ : L2.St} {H : Hp} {x y : V} {v u : Value} {Q : VK} (B : BinF X.K C op.info.2 f g) (F : FnOk X.prog X.w X.K X.mg X.base CX0 k f fd ps sp) (hr : Room k X.A) (hb : Binds X.K fd ps [])
    (I : Inv X pins σ H s) (rx : RelV x v) (ry : RelV y u) (h : rBinL C sp x y H Q) : wpAny (model X.prog X.w) X.A (binaryOp1 op.info.2 v u) (fun r s' => ∃ v, r = some v ∧ EP X pins σ Q v s') X.xe s := by
  obtain ⟨a, dx, fs, rfl, ha, hy, q⟩ := h
  cases (show v = Value.ref a from rx)
  obtain ⟨mA, O, _⟩ := ins_get I.hok ha
  obtain ⟨od, J, _⟩ := O.look
  have call : wpAny (model X.prog X.w) X.A (PySem.call (.ref f) [.ref a, u]) (PySem.W.CmpBack (EP X pins σ Q)) X.xe s := by
    refine wpAny_mono (run_fn (us := [.ref a, u]) (vs := [.ref a, y]) F hr hb .nil pass0 I (.cons rfl (.cons ry .nil)) q) (fun w s' z => ?_) fun _ _ x => x
    obtain ⟨z', H', I', rz, qz⟩ := z
    exact SlX.cmpback rz ⟨z', H', I', rz, qz⟩
  rcases hy with ⟨i, rfl⟩ | ⟨b, dy, gs, rfl, hB⟩
  · obtain ⟨t, rfl⟩ := (show ∃ t, u = Value.int i t from ry)
    obtain ⟨fo, hfo⟩ := B.fo
    obtain ⟨ro, hro⟩ := B.ro
    exact bin1_own I.kIn J rfl B.sf B.at_ B.fn B.rat (.inr ⟨g, rfl⟩) hfo hro B.isub call
  · cases (show u = Value.ref b from ry)
    obtain ⟨mB, O', _⟩ := ins_get I.hok hB
    obtain ⟨od', J', _⟩ := O'.look
    exact bin1_same I.kIn J J' B.sf B.at_ B.fn call
theorem o_binL (B : BinF X.K C op.info.2 f g) (F : FnOk X.prog X.w X.K X.mg X.base CX0 k f fd ps sp) (hr : Room k X.A) (hb : Binds X.K fd ps []) : OpR X (binaryOp op) (rBinL C sp) := by
  intro pins s σ H x y v u Q I rx ry h
  exact bin_of1 (bin1_L B F hr hb I rx ry h)
theorem o_inpL (B : BinF X.K C op.info.2 f g) (F : FnOk X.prog X.w X.K X.mg X.base CX0 k f fd ps sp) (hr : Room k X.A) (hb : Binds X.K fd ps []) : OpR X (inplaceOp op) (rBinL C sp) := by
  intro pins s σ H x y v u Q I rx ry h
  obtain ⟨a, dx, fs, ex, ha, _⟩ := id h
  subst ex
  cases (show v = Value.ref a from rx)
  obtain ⟨mA, O, _⟩ := ins_get I.hok ha
  obtain ⟨od, J, _⟩ := O.look
  obtain ⟨cd, hc, hm⟩ := B.cls
  exact inp_of1 J.type (inpl_own I.kIn hc hm B.ni B.noi) (bin1_L B F hr hb I rx ry h)
theorem bin1_R {id : String} {Bi : Builtin} {pins : List (Addr × Obj)} {s : Shared} {σ : L2.St} {H : Hp} {x y : V} {v u : Value} {Q : VK} (B : BinF X.K C op.info.2 g f) (slot : Slot "int" (PySem.dunder op.info.2) id) (entry : entryFor table id = some Bi) (args : ∀ a b, argsOk id ⟨[a, b], []⟩) (D : Declines Bi)
    (fills : fillsNumberSlot (.type "int") op.info.2 = pure true) (F : FnOk X.prog X.w X.K X.mg X.base CX0 k f fd ps sp) (hr : Room k X.A) (hb : Binds X.K fd ps [])
    (I : Inv X pins σ H s) (rx : RelV x v) (ry : RelV y u) (h : rBinR C sp x y H Q) : wpAny (model X.prog X.w) X.A (binaryOp1 op.info.2 v u) (fun r s' => ∃ v, r = some v ∧ EP X pins σ Q v s') X.xe s := by
  obtain ⟨i, b, dx, fs, rfl, rfl, hB, q⟩ := h
  obtain ⟨t, rfl⟩ := (show ∃ t, v = Value.int i t from rx)
  cases (show u = Value.ref b from ry)
  obtain ⟨mA, O, _⟩ := ins_get I.hok hB
  obtain ⟨od, J, _⟩ := O.look
  refine bin1_int I.kIn J rfl B.sf slot entry args D fills B.at_ B.rat B.rfn B.sub ?_
  refine wpAny_mono (run_fn (us := [.ref b, .int i t]) (vs := [.ref b, .int i]) F hr hb .nil pass0 I (.cons rfl (.cons ⟨t, rfl⟩ .nil)) q) (fun w s' z => ?_) fun _ _ x => x
  obtain ⟨z', H', I', rz, qz⟩ := z
  exact SlX.cmpback rz ⟨z', H', I', rz, qz⟩
theorem o_binR {id : String} {Bi : Builtin} (B : BinF X.K C op.info.2 g f) (slot : Slot "int" (PySem.dunder op.info.2) id) (entry : entryFor table id = some Bi) (args : ∀ a b, argsOk id ⟨[a, b], []⟩) (D : Declines Bi)
    (fills : fillsNumberSlot (.type "int") op.info.2 = pure true) (F : FnOk X.prog X.w X.K X.mg X.base CX0 k f fd ps sp) (hr : Room k X.A) (hb : Binds X.K fd ps []) : OpR X (binaryOp op) (rBinR C sp) := by
  intro pins s σ H x y v u Q I rx ry h
  exact bin_of1 (bin1_R B slot entry args D fills F hr hb I rx ry h)
theorem o_inpR {id : String} {Bi : Builtin} (B : BinF X.K C op.info.2 g f) (slot : Slot "int" (PySem.dunder op.info.2) id) (entry : entryFor table id = some Bi) (args : ∀ a b, argsOk id ⟨[a, b], []⟩) (D : Declines Bi)
    (fills : fillsNumberSlot (.type "int") op.info.2 = pure true) (hno : typeLookup (.type "int") (dunderI op.info.2) = pure none) (F : FnOk X.prog X.w X.K X.mg X.base CX0 k f fd ps sp) (hr : Room k X.A) (hb : Binds X.K fd ps []) : OpR X (inplaceOp op) (rBinR C sp) := by
  intro pins s σ H x y v u Q I rx ry h
  obtain ⟨i, b, dx, fs, ex, _⟩ := _root_.id h
  subst ex
  obtain ⟨t, e⟩ := (show ∃ t, v = Value.int i t from rx)
  subst e
  have noi : fillsInplaceSlot (.type "int") op.info.2 (op == .Add) = pure false := by
    unfold fillsInplaceSlot
    show (typeLookup (.type "int") (dunderI op.info.2) >>= fun fi => pure (fi.isSome && !isSeqSlot fi)) = pure false
    rw [hno]; rfl
  exact inp_of1 (ta := .type "int") (PySem.W.Looks.of_pure rfl) (PySem.W.Looks.of_pure noi) (bin1_R B slot entry args D fills F hr hb I rx ry h)
end
section
variable {X : Cx} {k : Nat} {C f : Addr} {fd : FuncData} {ps : List Str} {sp : Sp}
def rUO (C : Addr) (sp : Sp) : V → Hp → VK → Prop := fun x H Q => ∃ a dx fs, x = .ref a ∧ H a = some (.ins C dx fs) ∧ sp ([.ref a] ++ []) H Q E0
def rAbsO (C : Addr) (sp : Sp) : List V → Hp → VK → Prop := fun xs H Q => ∃ a dx fs, xs = [.ref a] ∧ H a = some (.ins C dx fs) ∧ sp ([.ref a] ++ []) H Q E0
theorem un_negO (M : Meth X.K C "__neg__" f) (F : FnOk X.prog X.w X.K X.mg X.base CX0 k f fd ps sp) (hr : Room k X.A) (hb : Binds X.K fd ps []) : UnR X (unaryOp .USub) (rUO C sp) := by
  intro pins s σ H x v Q I rx h
  obtain ⟨a, dx, fs, rfl, ha, q⟩ := h
  cases (show v = Value.ref a from rx)
  obtain ⟨mA, O, _⟩ := ins_get I.hok ha
  obtain ⟨od, J, _⟩ := O.look
  unfold unaryOp
  refine wpAny_holding ?_
  exact wpAny_bind (PySem.W.special_fn I.kIn J M.at_ (beq_iff_eq.mp M.fn) (wpAny_mono (run_fn (us := [.ref a]) (vs := [.ref a]) F hr hb .nil pass0 I (.cons rfl .nil) q) (fun w s' z => wpAny_pure z) fun _ _ x => x))
theorem un_posO (M : Meth X.K C "__pos__" f) (F : FnOk X.prog X.w X.K X.mg X.base CX0 k f fd ps sp) (hr : Room k X.A) (hb : Binds X.K fd ps []) : UnR X (unaryOp .UAdd) (rUO C sp) := by
  intro pins s σ H x v Q I rx h
  obtain ⟨a, dx, fs, rfl, ha, q⟩ := h
  cases (show v = Value.ref a from rx)
  obtain ⟨mA, O, _⟩ := ins_get I.hok ha
  obtain ⟨od, J, _⟩ := O.look
  unfold unaryOp
  refine wpAny_holding ?_
  exact wpAny_bind (PySem.W.special_fn I.kIn J M.at_ (beq_iff_eq.mp M.fn) (wpAny_mono (run_fn (us := [.ref a]) (vs := [.ref a]) F hr hb .nil pass0 I (.cons rfl .nil) q) (fun w s' z => wpAny_pure z) fun _ _ x => x))
theorem c_absO (M : Meth X.K C "__abs__" f) (F : FnOk X.prog X.w X.K X.mg X.base CX0 k f fd ps sp) (hr : Room (k + 1) X.A) (hb : Binds X.K fd ps []) : CallR X (.builtin "abs") (rAbsO C sp) := by
  intro pins s σ H xs us Q I r h
  obtain ⟨a, dx, fs, rfl, ha, q⟩ := h
  obtain ⟨u, rfl, ru⟩ := vals1 r
  cases (show u = Value.ref a from ru)
  obtain ⟨mA, O, _⟩ := ins_get I.hok ha
  obtain ⟨od, J, _⟩ := O.look
  refine PySem.Calls.call_function_entry kind_abs plain_abs entry_abs (args_abs _) ?_
  unfold Builtin.«abs»
  refine wpAny_bind (m := oneArg "abs" _) (wpAny_pure ?_)
  refine wpAny_bind (m := callSpecial? (.ref a) (Str.ofString "__abs__")) (PySem.W.special_fn I.kIn J M.at_ (beq_iff_eq.mp M.fn) (wpAny_mono (run_below (us := [.ref a]) (vs := [.ref a]) (A := X.A.in1) ⟨hr.in1, rfl⟩ F hb I (.cons rfl .nil) q) (fun w s' z => ?_) fun _ _ x => x))
  exact wpAny_pure ⟨_, rfl, z⟩
end
section
variable {H : Hp} {Q : VK} {a C dx : Addr} {fs : List (Str × V)} {sp : Sp}
theorem r_UO (e : H a = some (.ins C dx fs)) (h : sp ([.ref a] ++ []) H Q E0) : rUO C sp (.ref a) H Q := ⟨a, dx, fs, rfl, e, h⟩
theorem r_absO (e : H a = some (.ins C dx fs)) (h : sp ([.ref a] ++ []) H Q E0) : rAbsO C sp [.ref a] H Q := ⟨a, dx, fs, rfl, e, h⟩
end
section
variable {H : Hp} {Q : VK} {x y : V} {a b C dx : Addr} {fs : List (Str × V)} {sp : Sp} {i : Int}
theorem r_binL (e : H a = some (.ins C dx fs)) (n : NumOr C H y) (h : sp ([.ref a, y] ++ []) H Q E0) : rBinL C sp (.ref a) y H Q := ⟨a, dx, fs, rfl, e, n, h⟩
theorem r_binR (e : H b = some (.ins C dx fs)) (h : sp ([.ref b, .int i] ++ []) H Q E0) : rBinR C sp (.int i) (.ref b) H Q := ⟨i, b, dx, fs, rfl, rfl, e, h⟩
theorem nm_int : NumOr C H (.int i) := .inl ⟨i, rfl⟩
theorem nm_ref (e : H b = some (.ins C dx fs)) : NumOr C H (.ref b) := .inr ⟨b, dx, fs, rfl, e⟩
end
section
variable {X : Cx} {k : Nat} {H : Hp} {Q : VK} {x : V} {p : Addr} {xs : List V} {neg : Bool}
theorem r_inO {P : Program} {w : World} {K : PySem.W.Frag} {mg : Str → Option Value} {base : Heap} (e : V → Bool) (hp : H p = some (.lst xs)) (he : ∀ z ∈ xs, EqG P w K mg base k z x H (e z)) (q : Q (.bl (if neg = true then !xs.any e else xs.any e)) H) : rInO P w K mg base k neg x (.ref p) H Q := ⟨p, xs, e, rfl, hp, he, q⟩
end
end Z
local macro_rules | `(tactic| walk_at "num") => `(tactic| first | exact Z.nm_int | exact Z.nm_ref (by walk_at "hp") | assumption)
local macro_rules | `(tactic| walk_at "call") => `(tactic| first
  | ((with_reducible refine' Z.r_binL ?e ?n ?_); (case e => walk_at "hp"); (case n => walk_at "num"))
  | ((with_reducible refine' Z.r_binR ?e ?_); (case e => walk_at "hp"))
  | ((with_reducible refine' Z.r_UO ?e ?_); (case e => walk_at "hp"))
  | ((with_reducible refine' Z.r_absO ?e ?_); (case e => walk_at "hp")))

theorem rep_non {C : Addr} {H : Hp} : Rep C H .non .non := rfl
theorem rep_num {C : Addr} {H : Hp} {i : Int} : Rep C H (.int i) (.num i) := rfl
theorem rep_mark {C a dx : Addr} {H : Hp} {n : Str} (h : H a = some (.ins C dx [("name", .str n)])) : Rep C H (.ref a) (.mark n) := ⟨a, dx, rfl, h⟩
local macro_rules | `(tactic| walk_at "rep") => `(tactic| first | exact rep_non | exact rep_num | exact rep_mark (by walk_at "hp") | assumption)
namespace Z
open PySem PySem.Spec PyProof.Rows L2 PySem.Builtin PySem.Builtin.Str
section
variable {X : Cx} {k : Nat} {C f : Addr} {fd : FuncData} {ps : List Str} {sp : Sp}
def txB (Q : VK) : VK := fun v H => ∃ y, v = .str y ∧ Q (.str y) H
def rTxO (C : Addr) (sp : Sp) : List V → Hp → VK → Prop := fun xs H Q => ∃ a dx fs, xs = [.ref a] ∧ H a = some (.ins C dx fs) ∧ sp ([.ref a] ++ []) H (txB Q) E0
theorem tx_back {pins : List (Addr × Obj)} {σ : L2.St} {Q : VK} {w : Value} {s' : Shared} (z : EP X pins σ (txB Q) w s') : PySem.W.StrBack (EP X pins σ Q) w s' := by
  obtain ⟨z', H', I', rz, y, e, qz⟩ := z
  subst e
  obtain ⟨t, rfl⟩ := rz
  exact ⟨.str y, H', I', ⟨t, rfl⟩, qz⟩
theorem c_strO (M : Meth X.K C "__str__" f) (F : FnOk X.prog X.w X.K X.mg X.base CX0 k f fd ps sp) (hr : Room (k + 2) X.A) (hb : Binds X.K fd ps []) : CallR X (.type "str") (rTxO C sp) := by
  intro pins s σ H xs us Q I r h
  obtain ⟨a, dx, fs, rfl, ha, q⟩ := h
  obtain ⟨u, rfl, ru⟩ := vals1 r
  cases (show u = Value.ref a from ru)
  obtain ⟨mA, O, _⟩ := ins_get I.hok ha
  obtain ⟨od, J, _⟩ := O.look
  exact PySem.W.kso_call (hr.in1.in1).units0 I.kIn J M.at_ M.fn (wpAny_mono (run_below (us := [.ref a]) (vs := [.ref a]) (A := X.A.in1.in1) ⟨hr.in1.in1, rfl⟩ F hb I (.cons rfl .nil) q) (fun w s' z => tx_back z) fun _ _ x => x)
theorem c_reprO (M : Meth X.K C "__repr__" f) (F : FnOk X.prog X.w X.K X.mg X.base CX0 k f fd ps sp) (hr : Room (k + 2) X.A) (hb : Binds X.K fd ps []) : CallR X (.builtin "repr") (rTxO C sp) := by
  intro pins s σ H xs us Q I r h
  obtain ⟨a, dx, fs, rfl, ha, q⟩ := h
  obtain ⟨u, rfl, ru⟩ := vals1 r
  cases (show u = Value.ref a from ru)
  obtain ⟨mA, O, _⟩ := ins_get I.hok ha
  obtain ⟨od, J, _⟩ := O.look
  obtain ⟨m, hF⟩ := I.fr
  exact PySem.W.repr_K (hr.in1).units0 hF I.ok.mod.kin J M.at_ M.fn (wpAny_mono (run_below (us := [.ref a]) (vs := [.ref a]) (A := X.A.in1) ⟨hr.in1.mono (by omega), rfl⟩ F hb I (.cons rfl .nil) q) (fun w s' z => tx_back z) fun _ _ x => x)
def tFmtO (C : Addr) (sp : Sp) (te : TE) : TE := fun σ H Q => te σ H fun x H1 => rTxO C sp [x] H1 Q
theorem pe_fmtO {e : Expr} {te : TE} {pos : Pos} (TX : TxF X.K C) (M : Meth X.K C "__str__" f) (F : FnOk X.prog X.w X.K X.mg X.base CX0 k f fd ps sp) (hr : Room (k + 2) X.A) (hb : Binds X.K fd ps []) (he : PE X e te) : PE X (.FormattedValue e (-1) none pos) (tFmtO C sp te) := by
  refine ⟨fun pins s σ H Q I h => ?_⟩
  refine wpAny_FormattedValue_plain (thn (he.run pins s σ H _ I h) fun v s1 hv => ?_)
  obtain ⟨x, H1, I1, r1, a, dx, fs, ex, ha, q⟩ := hv
  cases ex
  cases (show v = Value.ref a from r1)
  have I2 := I1.tok (s1.toks + 1)
  obtain ⟨mA, O, _⟩ := ins_get I1.hok ha
  obtain ⟨od, J, _⟩ := O.look
  exact PySem.W.kfo_fieldS (hr.in1).units0 I1.kIn J TX.fm TX.mo M.at_ M.fn (wpAny_mono (run_below (us := [.ref a]) (vs := [.ref a]) (A := X.A.in1) ⟨hr.in1.mono (by omega), rfl⟩ F hb I2 (.cons rfl .nil) q) (fun w s' z => tx_back z) fun _ _ x => x)
end
section
variable {H : Hp} {Q : VK} {σ : L2.St} {te : TE} {ts : List TE} {a C dx : Addr} {fs : List (Str × V)} {sp : Sp} {acc y : Str} {v : V}
theorem r_txO (e : H a = some (.ins C dx fs)) (h : sp ([.ref a] ++ []) H (txB Q) E0) : rTxO C sp [.ref a] H Q := ⟨a, dx, fs, rfl, e, h⟩
theorem r_txB (h : Q (.str y) H) : txB Q (.str y) H := ⟨y, rfl, h⟩
theorem r_fmtO (h : te σ H fun x H1 => rTxO C sp [x] H1 Q) : tFmtO C sp te σ H Q := h
def fmP (Q : VK) : VK := fun x H1 => (∃ y : Str, x = .str y ∧ y.length ≤ sizeLine ∧ Q (.str y) H1) ∨ ∃ i : Int, x = .int i ∧ i.natAbs.log2 < 1920 ∧ Q (.str (toString i)) H1
theorem r_fmt (h : te σ H (fmP Q)) : tFmt te σ H Q := h
theorem r_fmP (l : y.length ≤ sizeLine) (h : Q (.str y) H) : fmP Q (.str y) H := .inl ⟨y, rfl, l, h⟩
def fmR (Q : VK) : VK := fun x H1 => (∃ y : Str, x = .str y ∧ (reprText y).length ≤ sizeLine ∧ Q (.str (reprText y)) H1) ∨ ∃ i : Int, x = .int i ∧ i.natAbs.log2 < 1920 ∧ Q (.str (toString i)) H1
theorem r_fmtR (h : te σ H (fmR Q)) : tFmtR te σ H Q := h
theorem r_fmR (l : (reprText y).length ≤ sizeLine) (h : Q (.str (reprText y)) H) : fmR Q (.str y) H := .inl ⟨y, rfl, l, h⟩
def jsP (acc : Str) (N : Str → Hp → Prop) : VK := fun x H1 => ∃ y : Str, x = .str y ∧ (acc ++ y).length ≤ sizeLine ∧ N (acc ++ y) H1
theorem r_jsC {N : Str → Hp → Prop} (h : te σ H (jsP acc fun z H1 => tJs ts z σ H1 N)) : tJs (te :: ts) acc σ H N := h
theorem r_jsN {N : Str → Hp → Prop} (h : N acc H) : tJs [] acc σ H N := h
theorem r_jsP {N : Str → Hp → Prop} (l : (acc ++ y).length ≤ sizeLine) (h : N (acc ++ y) H) : jsP acc N (.str y) H := ⟨y, rfl, l, h⟩
end
theorem repr_letter : ∀ k : Fin 26, reprChar 39 (97 + k.val) = [97 + k.val] := by decide +kernel
theorem repr_fold : ∀ (l : List Nat) (acc : Array Nat), (∀ c ∈ l, 97 ≤ c ∧ c ≤ 122) → l.foldl (fun out c => out ++ (reprChar 39 c).toArray) acc = acc ++ l.toArray
  | [], acc, _ => by simp
  | c :: l, acc, h => by
    have hc := h c List.mem_cons_self
    have e : reprChar 39 c = [c] := by
      have z := repr_letter ⟨c - 97, by omega⟩
      rwa [show 97 + (c - 97) = c by omega] at z
    rw [List.foldl_cons, repr_fold l _ (fun x hx => h x (List.mem_cons_of_mem _ hx)), e]
    simp
end Z
open PySem.Builtin PySem.Builtin.Str in
theorem word_repr {n : Str} (h : Word n) : reprText n = ("'" : Str) ++ n ++ ("'" : Str) := by
  have hq : reprQuote n = 39 := by
    unfold reprQuote
    rw [if_neg]
    intro e
    rw [Bool.and_eq_true] at e
    have m := e.1
    rw [Array.contains_iff_mem] at m
    have := h.2.2 39 (by simpa using m)
    omega
  have e1 : reprText n = ⟨(#[39] ++ n.cps).push 39⟩ := by
    unfold reprText
    rw [hq, ← Array.foldl_toList, Z.repr_fold _ _ h.2.2]
  have e2 : (("'" : Str) ++ n ++ ("'" : Str)) = ⟨(#[39] ++ n.cps) ++ #[39]⟩ := rfl
  rw [e1, e2, Array.push_eq_append]
local macro_rules | `(tactic| walk_at "call") => `(tactic| first
  | ((with_reducible refine' Z.r_txO ?e ?_); (case e => walk_at "hp"))
  | with_reducible refine Z.r_txB ?_
  | with_reducible refine Z.r_fmtO ?_
  | with_reducible refine Z.r_fmt ?_
  | with_reducible refine Z.r_fmtR ?_
  | with_reducible refine Z.r_jsC ?_
  | with_reducible refine Z.r_jsN ?_
  | ((with_reducible refine' Z.r_fmP ?l ?_); (case l => walk_at "tlen"))
  | ((with_reducible refine' Z.r_fmR ?l ?_); (case l => walk_at "tlen"))
  | ((with_reducible refine' Z.r_jsP ?l ?_); (case l => walk_at "tlen")))
local macro_rules | `(tactic| walk_at "tlen") => `(tactic| first | assumption | exact Z.szle (Nat.le_of_ble_eq_true rfl))
/-! != of instances whose class has an own == alone -/
namespace Z
open PySem PySem.Spec PyProof.Rows L2
section
variable {prog : Program} {w : World} {A : Around} {E : Value → Shared → Prop} {s : Shared} {K : PySem.W.Frag} {x C L f : Addr} {h₀ : Heap} {m : Str → Option Value} {ox : Obj} {od : Option Obj} {b tb : Value}
theorem ifBound_B {M : Model} {name : Str} {id B : String} {args : List Value} {Q : Option Value → Shared → Prop} (X : K.In s.heap) (I : PySem.W.InstAt s.heap x ox C od) (hs : PySem.W.findIn K (.ref C) name = some (some (.builtin id))) (S : Slot B name id)
    (h : wpAny M A (call (.builtin id) (.ref x :: args)) (fun v => Q (some v)) E s) : wpAny M A (callSpecialIfBound? (.ref x) name args) Q E s := by
  simp only [callSpecialIfBound?, bindSpecialIfBound?]
  refine wpAny_holding (wpAny_bind (wpAny_bind (wpAny_bind (I.type.here ((PySem.W.looks_findIn X hs).here ?_)))))
  simp only [S.bind]
  refine wpAny_bind (wpAny_askSetting (wpAny_ite ?_))
  have fin : wpAny M A (call (.builtin id) ([.ref x] ++ args) >>= fun v => pure (some v)) Q E s := wpAny_bind (wpAny_mono h (fun v s' h' => wpAny_pure h') fun _ _ h' => h')
  split
  · exact wpAny_bind (wpAny_pure (wpAny_pure fin))
  · exact wpAny_tryCatch (wpAny_bind (wpAny_pure (wpAny_pure fin)))
theorem ne_entry {Q : Fin → Shared → Prop} (hu : A.units < cLine) (X : K.In s.heap) (I : PySem.W.InstAt s.heap x ox C od) (hs : PySem.W.findIn K (.ref C) "__eq__" = some (some (.ref f))) (hf : PySem.W.isFn K (.ref f) = true)
    (h : wpAny (model prog w) A (call (.ref f) [.ref x, b]) (fun v s' => ∃ c, v = .bool c ∧ Q (.done (.ret (.bool (!c)))) s') E s) :
    wpAny (model prog w) A (Builtin.«object.__ne__» ⟨[.ref x, b], []⟩) Q E s := by
  unfold Builtin.«object.__ne__»
  repeat (first
    | with_reducible refine wpAny_cRoomFor hu ?_
    | (refine wpAny_bind (m := callSpecialIfBound? (.ref x) (Str.ofString "__eq__") [b])
        (PySem.W.ifBound_K X I hs hf (wpAny_mono h (fun r s' hr => by
          obtain ⟨b, rfl, hq⟩ := hr
          repeat (first | exact hq | exact wpAny_pure hq | exact wpAny_truthy_bool hq | (refine wpAny_bind (m := truthy (.bool _)) (wpAny_truthy_bool ?_)) | wp_step)) fun _ _ e => e)))
    | wp_step)
theorem cmp_neD {Q : Value → Shared → Prop} (hu : A.units < cLine) (hu1 : A.in1.units < cLine) (X : K.In s.heap) (I : PySem.W.InstAt s.heap x ox C od) (hb : PySem.W.Looks (model prog w) s.heap (typeOf b) tb) (hn : PySem.W.notFirst K C tb = true)
    (D : NeD K C) (hs : PySem.W.findIn K (.ref C) "__eq__" = some (some (.ref f))) (hf : PySem.W.isFn K (.ref f) = true)
    (h : wpAny (model prog w) A.in1 (call (.ref f) [.ref x, b]) (fun v s' => ∃ c, v = .bool c ∧ Q (.bool (!c)) s') E s) : wpAny (model prog w) A (richCompare .NotEq (.ref x) b) Q E s := by
  have S := PySem.F.cmp_object.ne
  have sub : PySem.W.Looks (model prog w) s.heap (isInstance (.ref x) (.type "object")) true := I.type.andThen (PySem.W.looks_mroIn X D.mo)
  have one : wpAny (model prog w) A (tryCompare (.ref x) "__ne__" b) (fun r s' => ∃ v, r = some v ∧ Q v s') E s := by
    unfold tryCompare
    refine wpAny_bind (ifBound_B X I D.ne S (wpAny_call (codeAny_call_builtin S.plain PySem.F.cmpEntry_ne (@PySem.W.check_slot (model prog w) _ _ s "object.__ne__" "object" "__ne__" (.ref x) [b] [] _ PySem.F.cmpKind_ne PySem.F.cmpSplit_ne sub (PySem.F.cmpArgs_ne _ _)
      (ne_entry (A := A.in1) hu1 X I hs hf (wpAny_mono h (fun v s' hv => ?_) fun _ _ e => e))))))
    obtain ⟨c, rfl, hq⟩ := hv
    first | exact ⟨c, rfl, wpAny_pure ⟨_, rfl, hq⟩⟩ | exact ⟨c, rfl, wpAny_pure (wpAny_pure ⟨_, rfl, hq⟩)⟩ | exact ⟨c, rfl, _, rfl, hq⟩
  unfold richCompare
  simp only [oneThing_ref]
  refine wpAny_holding (wpAny_bind (wpAny_cRoomFor hu ?_))
  refine wpAny_bind (I.type.here (wpAny_bind (hb.here ?_)))
  split
  · rename_i q
    have e : PySem.W.subIn K tb (.ref C) = some false := by
      rcases Bool.or_eq_true_iff.mp hn with e | e
      · rw [beq_iff_eq.mp e] at q; simp at q
      · exact beq_iff_eq.mp e
    refine wpAny_bind ((PySem.W.looks_subIn X e).here ?_)
    simp only [Bool.false_eq_true, if_false]
    refine wpAny_bind (wpAny_mono one (fun r s' z => ?_) fun _ _ e => e)
    obtain ⟨v, rfl, hq⟩ := z
    exact wpAny_pure hq
  · refine wpAny_bind (wpAny_pure ?_)
    simp only [Bool.false_eq_true, if_false]
    refine wpAny_bind (wpAny_mono one (fun r s' z => ?_) fun _ _ e => e)
    obtain ⟨v, rfl, hq⟩ := z
    exact wpAny_pure hq
end
section
variable {X : Cx} {C f : Addr} {fd : FuncData} {k : Nat} {ps : List Str} {sp : Sp}
/-- x != y, x an instance of a class with an own == and no own != -/
def neB (Q : VK) : VK := fun v H' => ∃ c, v = .bl c ∧ Q (.bl (!c)) H'
def rNeX (K : PySem.W.Frag) (C : Addr) (sp : Sp) : R2 := fun x y H Q => ∃ a dx fs t, x = .ref a ∧ H a = some (.ins C dx fs) ∧ TyX K H y t ∧ PySem.W.notFirst K C t = true ∧ sp ([x, y] ++ []) H (neB Q) E0
theorem o_neX (D : NeD X.K C) (M : Meth X.K C "__eq__" f) (F : FnOk X.prog X.w X.K X.mg X.base CX0 k f fd ps sp) (hr : Room (k + 1) X.A) (hb : Binds X.K fd ps []) : OpR X (compareOp .NotEq) (rNeX X.K C sp) := by
  intro pins s σ H x y v u Q I rx ry h
  obtain ⟨a, dx, fs, t, rfl, ha, ty, hn, q⟩ := h
  cases (show v = Value.ref a from rx)
  obtain ⟨mA, O, _⟩ := ins_get I.hok ha
  obtain ⟨od, J, _⟩ := O.look
  obtain ⟨P, Z, p, _⟩ := kit_of I ry ty
  show wpAny _ X.A (richCompare .NotEq (.ref a) u) _ _ s
  refine cmp_neD (tb := t) (hr.mono (by omega) : Room k X.A).units0 hr.in1.units0 I.kIn J (Z.ty _ _ I.kIn p) hn D M.at_ M.fn ?_
  refine wpAny_mono (run_below (us := [.ref a, u]) (vs := [.ref a, y]) (A := X.A.in1) ⟨hr.in1, rfl⟩ F hb I (.cons rfl (.cons ry .nil)) q) (fun w s' z => ?_) fun _ _ x => x
  obtain ⟨z', H', I', rz, c, e, qz⟩ := z
  subst e
  cases (show w = Value.bool c from rz)
  exact ⟨c, rfl, .bl (!c), H', I', rfl, qz⟩
end
section
variable {K : PySem.W.Frag} {H : Hp} {Q : VK} {y : V} {a C dx : Addr} {fs : List (Str × V)} {t : Value} {sp : Sp} {c : Bool}
theorem r_neX (e : H a = some (.ins C dx fs)) (ty : TyX K H y t) (nf : PySem.W.notFirst K C t = true) (h : sp ([.ref a, y] ++ []) H (neB Q) E0) : rNeX K C sp (.ref a) y H Q := ⟨a, dx, fs, t, rfl, e, ty, nf, h⟩
theorem r_neXB (h : Q (.bl (!c)) H) : neB Q (.bl c) H := ⟨c, rfl, h⟩
end
def optV : Option Int → V
  | none => .non
  | some i => .int i
theorem r_eqO {o p : Option Int} {H : Hp} {Q : VK} (h : Q (.bl (decide (o = p))) H) : rEq (optV o) (optV p) H Q := by
  have e : decide (optV o = optV p) = decide (o = p) := by
    cases o <;> cases p <;> simp [optV]
  refine ⟨by cases o <;> cases p <;> rfl, ?_⟩
  rw [e]
  exact h
theorem r_neO {o p : Option Int} {H : Hp} {Q : VK} (h : Q (.bl (!decide (o = p))) H) : rNe (optV o) (optV p) H Q := by
  have e : decide (optV o = optV p) = decide (o = p) := by
    cases o <;> cases p <;> simp [optV]
  refine ⟨by cases o <;> cases p <;> rfl, ?_⟩
  rw [e]
  exact h
def optS : Option Int → Str
  | none => "None"
  | some i => toString i
def optOk (o : Option Int) : Prop := ∀ i, o = some i → 0 ≤ i ∧ i ≤ 100000
theorem log_small {n : Nat} (h : n ≤ 100000) : n.log2 < 1920 := by
  by_cases e : n = 0
  · subst e; decide
  · rw [Nat.log2_lt e]
    exact Nat.lt_of_le_of_lt h (Nat.lt_of_lt_of_le (by decide : 100000 < 2 ^ 17) (Nat.pow_le_pow_right (by decide) (by decide)))
theorem optOk.log {i : Int} (h : optOk (some i)) : i.natAbs.log2 < 1920 := log_small (by have := h i rfl; omega)
theorem optOk.len {o : Option Int} (h : optOk o) : (optS o).length ≤ 100 := by
  cases o with
  | none => decide +kernel
  | some i =>
    have h1 := h i rfl
    have e := int_text_length_le10 (a := i) (k := 6) (by decide) (by omega)
    show (Str.ofString (toString i)).length ≤ 100
    rw [PySem.ofString_length]
    omega
theorem r_neP {K : PySem.W.Frag} {x y : V} {H : Hp} {Q : VK} {d e : PyData} (hd : Dp K H x d) (he : Dp K H y e) (sd : SeqAt.shaped d = true) (se : SeqAt.shaped e = true) (h : Q (.bl (!PyData.eqv d e)) H) : L2.rNeD K x y H Q := ⟨d, e, hd, he, sd, se, h⟩
/-- str of nothing or an int -/
def rStrO : List V → Hp → VK → Prop := fun xs H Q => ∃ o : Option Int, xs = [optV o] ∧ (∀ i, o = some i → i.natAbs.log2 < 1920) ∧ Q (.str (optS o)) H
theorem c_strOpt {X : Cx} : CallR X (.type "str") rStrO := by
  intro pins s σ H xs us Q I r h
  obtain ⟨o, rfl, hz, q⟩ := h
  cases o with
  | none =>
    obtain ⟨u, rfl, ru⟩ := vals1 r
    cases (show u = Value.none from ru)
    exact PySem.P.str_of_none ⟨.str _, H, I.tok _, ⟨_, rfl⟩, q⟩
  | some i =>
    obtain ⟨u, rfl, t, rfl⟩ := vals1 r
    exact PySem.P.str_of_int (hz i rfl) ⟨.str _, H, I.tok _, ⟨_, rfl⟩, q⟩
theorem r_strOpt {o : Option Int} {H : Hp} {Q : VK} (h : ∀ i, o = some i → i.natAbs.log2 < 1920) (q : Q (.str (optS o)) H) : rStrO [optV o] H Q := ⟨o, rfl, h, q⟩
/-- {x!r}: nothing or an int -/
def foP (Q : VK) : VK := fun x H1 => ∃ o : Option Int, x = optV o ∧ (∀ i, o = some i → i.natAbs.log2 < 1920) ∧ Q (.str (optS o)) H1
def tFmtRO (te : TE) : TE := fun σ H Q => te σ H (foP Q)
theorem pe_fmtRO {X : Cx} {e : Expr} {te : TE} {pos : Pos} (he : PE X e te) : PE X (.FormattedValue e 114 none pos) (tFmtRO te) := by
  refine ⟨fun pins s σ H Q I h => ?_⟩
  refine wpAny_FormattedValue_repr (thn (he.run pins s σ H _ I h) fun v s1 hv => ?_)
  obtain ⟨x, H1, I1, r1, o, rfl, hz, q⟩ := hv
  cases o with
  | none =>
    cases (show v = Value.none from r1)
    exact pyReprObj_none (wpAny_formatField_str ⟨.str "None", H1, I1.tok _, ⟨_, rfl⟩, q⟩ ⟨.str "None", H1, I1.tok _, ⟨_, rfl⟩, q⟩ (by decide))
  | some i =>
    obtain ⟨t, rfl⟩ := r1
    exact pyReprObj_int (hz i rfl) (wpAny_formatField_str ⟨.str (toString i), H1, I1.tok _, ⟨_, rfl⟩, q⟩ ⟨.str (toString i), H1, I1.tok _, ⟨_, rfl⟩, q⟩ (int_text_fits (hz i rfl)))
theorem r_fmtRO {σ : L2.St} {H : Hp} {Q : VK} {te : TE} (h : te σ H (foP Q)) : tFmtRO te σ H Q := h
theorem r_foP {o : Option Int} {H : Hp} {Q : VK} (h : ∀ i, o = some i → i.natAbs.log2 < 1920) (q : Q (.str (optS o)) H) : foP Q (optV o) H := ⟨o, rfl, h, q⟩
end Z
local macro_rules | `(tactic| walk_at "call") => `(tactic| first
  | ((with_reducible refine' Z.r_neX ?e ?ty ?nf ?_); (case e => walk_at "hp"); (case ty => walk_at "ty"); (case nf => walk_at "nf"))
  | with_reducible refine Z.r_neXB ?_
  | ((with_reducible refine' Z.r_lenT ?e ?_); (case e => exact SqT.of (by walk_at "hp")))
  | with_reducible refine Z.r_fmtRO ?_)

namespace Z
open PySem PySem.Spec PyProof.Rows L2
section
variable {K : PySem.W.Frag} {σ : L2.St} {H : Hp} {Q : VK} {D : Ends} {ta tb : TE} {A : TA} {v x y : V}
theorem r_dnewK (h : ∀ p H1, H p = none → Same H H1 → H1 p = some (.dK []) → Q (.ref p) H1) : tDNewK σ H Q := fun p np => h p _ np (same_upd np) upd_same
/-- a text that is, or is not, a key -/
def dnR (y x : V) (H : Hp) (Q : VK) : Prop := ∃ a o, x = .ref a ∧ DGet H a y o ∧ Q (.bl (!o.isSome)) H
theorem r_dnotin (h : ta σ H fun y H1 => tb σ H1 fun x H2 => dnR y x H2 Q) : tDNotIn ta tb σ H Q := h
theorem r_dnS {a : Addr} {g : Str} {kvs : List (Key × V)} (e : H a = some (.dK kvs)) (k : Q (.bl (!(valV kvs (.inr g)).isSome)) H) : dnR (.str g) (.ref a) H Q := ⟨a, _, rfl, DGet.k (k := .inr g) e, k⟩
def rTupOf (K : PySem.W.Frag) : List V → Hp → VK → Prop := fun xs H Q => ∃ p ys, xs = [.ref p] ∧ ((SqL K H p ys ∧ ∀ l, H l = none → Q (.ref l) (L2.upd H l (.tup ys))) ∨ (SqT K H p ys ∧ Q (.ref p) H))
theorem c_tupOf {X : Cx} : CallR X (.type "tuple") (rTupOf X.K) := call_tuple_of
theorem r_tupL {p : Addr} {ys : List V} (e : H p = some (.lst ys)) (k : ∀ q H1, H q = none → Same H H1 → H1 q = some (.tup ys) → Q (.ref q) H1) : rTupOf K [.ref p] H Q :=
  ⟨p, ys, rfl, .inl ⟨SqL.of e, fun l nl => k l _ nl (same_upd nl) upd_same⟩⟩
theorem c_isiT {X : Cx} {K : PySem.W.Frag} (e : X.K = K) : CallR X (.builtin "isinstance") (rIsiT K) := e ▸ call_isiT
theorem r_isiLT {tp : Addr} {t : Value} {b : Bool} (e : H tp = some (.tup [.ty "list", .ty "tuple"])) (ty : TyX K H x t) (k : PySem.W.kitAny K t [.type "list", .type "tuple"] = some b) (h : Q (.bl b) H) : rIsiT K [x, .ref tp] H Q :=
  ⟨x, tp, _, t, _, b, rfl, e, .cons (.ty _) (.cons (.ty _) .nil), ty, k, h⟩
/-- for i, x in enumerate(a list) -/
theorem r_forE {g : TG} {tb : TS} (h : A σ H fun vs H1 => ∃ a xs, vs = [.ref a] ∧ SqL K H1 a xs ∧ ∃ W : Nat → Nat → L2.St → Hp → Prop, (∃ m, W 0 m σ H1) ∧ ∀ i m σ H, W i m σ H →
      (((Ite K a).stop i H ∧ D.nx σ H) ∨ ((Ite K a).go i H ∧ ∃ N : L2.St → Hp → Prop, (∀ σ' H', N σ' H' → ∃ m', m' < m ∧ W (i + 1) m' σ' H') ∧ ∀ x H', (Ite K a).yld i H x H' → g x σ H' fun σ2 H2 => tb { D with nx := N, ct := N, bk := D.nx } σ2 H2))) :
    tFor (iEnum K A) g tb D σ H := h
theorem r_enum_by {g : TG} {tb : TS} {a : Addr} {xs : List V} (hs : SqL K H a xs) (Pv : Nat → L2.St → Hp → Prop) (h0 : Pv 0 σ H) (hl : ∀ i σ' H', Pv i σ' H' → SqL K H' a xs)
    (ht : ∀ (i : Nat) x σ' H', xs[i]? = some x → Pv i σ' H' → ∀ T H2, H' T = none → Same H' H2 → H2 T = some (.tup [.int (i : Nat), x]) → g (.ref T) σ' H2 fun σ2 H3 => tb { D with nx := Pv (i + 1), ct := Pv (i + 1), bk := D.nx } σ2 H3) (hd : ∀ σ' H', Pv xs.length σ' H' → D.nx σ' H') :
    ∃ a' xs', [V.ref a] = [.ref a'] ∧ SqL K H a' xs' ∧ ∃ W : Nat → Nat → L2.St → Hp → Prop, (∃ m, W 0 m σ H) ∧ ∀ i m σ H, W i m σ H →
      (((Ite K a').stop i H ∧ D.nx σ H) ∨ ((Ite K a').go i H ∧ ∃ N : L2.St → Hp → Prop, (∀ σ' H', N σ' H' → ∃ m', m' < m ∧ W (i + 1) m' σ' H') ∧ ∀ x H', (Ite K a').yld i H x H' → g x σ H' fun σ2 H2 => tb { D with nx := N, ct := N, bk := D.nx } σ2 H2)) := by
  refine ⟨a, xs, rfl, hs, fun i m σ H => m = xs.length - i ∧ i ≤ xs.length ∧ Pv i σ H, ⟨xs.length, by simp, Nat.zero_le _, h0⟩, ?_⟩
  rintro i m σ H ⟨rfl, hi, p⟩
  have q := hl i σ H p
  by_cases hlt : i < xs.length
  · refine .inr ⟨⟨xs, xs[i], q, by simp [hlt]⟩, Pv (i + 1), fun σ' H' p' => ⟨xs.length - (i + 1), by omega, rfl, hlt, p'⟩, fun x H' y => ?_⟩
    obtain ⟨T, z, e1, nT, e2, hz⟩ := y
    subst e1 e2
    exact ht i z σ H (hz xs q) p T _ nT (same_upd nT) upd_same
  · have e : i = xs.length := by omega
    subst e
    exact .inl ⟨⟨xs, q, Nat.le_refl _⟩, hd σ H p⟩
end
theorem kit_list {K : PySem.W.Frag} (h1 : PySem.W.kitOne K (.type "list") (.type "list") = some true) : PySem.W.kitAny K (.type "list") [.type "list", .type "tuple"] = some true := by
  simp only [PySem.W.kitAny, h1]
theorem kit_tuple {K : PySem.W.Frag} (h1 : PySem.W.kitOne K (.type "tuple") (.type "list") = some false) (h2 : PySem.W.kitOne K (.type "tuple") (.type "tuple") = some true) : PySem.W.kitAny K (.type "tuple") [.type "list", .type "tuple"] = some true := by
  simp only [PySem.W.kitAny, h1, h2]
end Z
local macro_rules | `(tactic| walk_at "call") => `(tactic| first
  | with_reducible refine Z.r_dnewK ?_
  | with_reducible refine Z.r_dnotin ?_
  | with_reducible refine Z.r_forE ?_
  | ((with_reducible refine' Z.r_dnS ?e ?_); (case e => walk_at "hp"))
  | ((with_reducible refine' Z.r_tupL ?e ?_); (case e => walk_at "hp"))
  | ((with_reducible refine' Z.r_isiLT ?e ?ty ?k ?_); (case e => walk_at "hp"); (case ty => walk_at "ty"); (case k => first | exact Z.kit_list (by walk_at "ki") | exact Z.kit_tuple (by walk_at "ki") (by walk_at "ki"))))
/-- entries with what they are -/
abbrev Ens := List (V × Tag)
def EnsOk (C : Addr) (H : Hp) (es : Ens) : Prop := ∀ e ∈ es, Rep C H e.1 e.2 ∧ e.2 ≠ .non
theorem EnsOk.same {C : Addr} {H H' : Hp} {es : Ens} (s : Same H H') (h : EnsOk C H es) : EnsOk C H' es := fun e m => ⟨(h e m).1.same s, (h e m).2⟩
theorem EnsOk.but {C b : Addr} {H H' : Hp} {es : Ens} {xs : List V} (s : Z.But b H H') (hb : H b = some (.lst xs)) (h : EnsOk C H es) : EnsOk C H' es := fun e m => ⟨(h e m).1.but s hb, (h e m).2⟩
/-- the first of them that is this -/
def fst? (es : Ens) (t : Tag) : Option V := (es.find? fun e => decide (e.2 = t)).map (·.1)
def fstV (es : Ens) (t : Tag) : V := (fst? es t).getD .non
theorem fst_num {C : Addr} {H : Hp} {es : Ens} {i : Int} (h : EnsOk C H es) (m : ∃ x, (x, Tag.num i) ∈ es) : fstV es (.num i) = .int i := by
  unfold fstV fst?
  cases q : es.find? fun e => decide (e.2 = .num i) with
  | none =>
    obtain ⟨x, m⟩ := m
    have := List.find?_eq_none.mp q _ m
    simp at this
  | some e =>
    have h1 : e.2 = .num i := by simpa using List.find?_some q
    have h2 := (h e (List.mem_of_find?_eq_some q)).1
    rw [h1] at h2
    exact h2
theorem fst_take {es : Ens} {k : Nat} {t : Tag} {x : V} (h : fst? (es.take k) t = some x) : fst? es t = some x := by
  unfold fst? at h ⊢
  rw [← List.take_append_drop k es, List.find?_append]
  obtain ⟨e, he, hx⟩ := Option.map_eq_some_iff.mp h
  rw [he]
  simp [hx]
theorem fst_snoc {es : Ens} {e : V × Tag} {t : Tag} : fst? (es ++ [e]) t = (fst? es t).or (if e.2 = t then some e.1 else none) := by
  unfold fst?
  rw [List.find?_append]
  cases es.find? fun e => decide (e.2 = t) with
  | some z => simp
  | none =>
    by_cases h : e.2 = t
    · simp [List.find?_cons, h]
    · simp [List.find?_cons, h]
/-- what the dict of first ones tells -/
def Firsts (kvs : List (Key × V)) (es : Ens) : Prop := ∀ n : Str, valV kvs (.inr n) = fst? es (.mark n)
/-! enumerate of a tuple, walked -/
namespace Z
open PySem PySem.Spec PyProof.Rows L2
/-- the iterator and the enumerate object, one behind the other -/
def enIt (l : Addr) : Obj := { cls := .type "tuple_iterator", data := .fields #[.ref l, .int 0 0] }
def enOb (n : Nat) : Obj := { cls := .type "enumerate", data := .fields #[.none, .bool false, .ref n, rawInt 0, .none, .none] }
theorem enumT_meets (l : Addr) (ot : Obj) (its : Array Value) (n : Nat) (hc : ot.cls = .type "tuple") (hd : ot.data = .seq its n) :
    Meets (Builtin.«enumerate.__new__» ⟨[.type "enumerate", .ref l], []⟩) (fun _ R s => s.heap.get? l = some ot ∧ R (.ok (.ret (.ref (s.heap.push (enIt l)).objs.size))) { s with heap := (s.heap.push (enIt l)).push (enOb s.heap.objs.size) }) :=
  .of_wp fun prog w A R s h => by
    obtain ⟨otc, otd, otx, ots⟩ := ot
    simp only at hc hd
    subst hc hd
    obtain ⟨hp, g, d, tk, os⟩ := s
    obtain ⟨hl, h⟩ := h
    have sb := sub_enumerate
    have tp : Heap.IsTuple (Shared.heap ⟨hp, g, d, tk, os⟩) l its := ⟨_, hl, rfl, n, rfl⟩
    wp_walk using AutoSeq1.wpAny_loadPart' hl
    refine wpAny_stack_any fun _ => wpAny_pure ?_
    split
    · rename_i c _ _ _ _ _
      cases (c == Value.type "enumerate") <;> (wp_walk using AutoSeq1.wpAny_loadPart' hl, wpAny_pyIter_tuple tp; exact ⟨_, rfl, h⟩)
    · wp_walk using AutoSeq1.wpAny_loadPart' hl, wpAny_pyIter_tuple tp
      exact ⟨_, rfl, h⟩
section
variable {prog : Program} {w : World} {A : Around} {E : Value → Shared → Prop} {s : Shared}
theorem enumT_call {l : Addr} {its : Array Value} {Q : Value → Shared → Prop} (tp : IsTup s.heap l its)
    (h : ∀ h', IsEnum h' (s.heap.objs.size + 1) s.heap.objs.size 0 .none → h'.IsTupleIter s.heap.objs.size l 0 → (∀ b o, s.heap.get? b = some o → h'.get? b = some o) → Q (.ref (s.heap.objs.size + 1)) { s with heap := h' }) :
    wpAny (model prog w) A (call (.type "enumerate") [.ref l]) Q E s := by
  obtain ⟨ot, hl, hc, n, hd⟩ := tp
  refine callType_new PySem.F.called_enumerate (by decide) (PySem.F.typeCall_enumerate_1 _) (PySem.F.newCall_enumerate_1 _) (fun obj => PySem.F.args_object_init_2 obj _) PySem.F.entry_enumerate_new (enumT_meets l ot its n hc hd) ⟨hl, ?_⟩
  have sz : (s.heap.push (enIt l)).objs.size = s.heap.objs.size + 1 := Heap.size_push ..
  have he : IsEnum ((s.heap.push (enIt l)).push (enOb s.heap.objs.size)) (s.heap.objs.size + 1) s.heap.objs.size 0 .none := by
    have z := Heap.get?_push_size (s.heap.push (enIt l)) (o := enOb s.heap.objs.size) rfl
    rw [sz] at z
    exact z
  show _ ∧ _
  rw [sz]
  exact ⟨⟨_, he, rfl⟩, h _ he ⟨_, Heap.get?_push_of_some _ (Heap.get?_push_size _ rfl), rfl, rfl⟩ fun b o x => Heap.get?_push_of_some _ (Heap.get?_push_of_some _ x)⟩
end
/-- the tuple at a, its items in new pairs with their places -/
def ItT (K : PySem.W.Frag) (a : Addr) : It :=
  ⟨fun i H => ∃ (xs : List V) (x : V), SqT K H a xs ∧ xs[i]? = some x,
   fun i H v H' => ∃ T x, v = .ref T ∧ H T = none ∧ H' = L2.upd H T (.tup [.int (i : Nat), x]) ∧ ∀ xs, SqT K H a xs → xs[i]? = some x,
   fun i H => ∃ xs : List V, SqT K H a xs ∧ xs.length = i⟩
theorem turnT {P : Program} {w : World} {K : PySem.W.Frag} {elts : List Expr} {kk : Nat} {tpos : Pos} (a e it : Addr) :
    Turn P w K (.Tuple elts kk tpos) (ItT K a) [e, it] e (fun i h => (∃ old, IsEnum h e it ((i : Nat) : Int) old) ∧ h.IsTupleIter it a i ∧ e ≠ it) where
  mem := by simp
  obj := fun i h st b hb => by
    obtain ⟨⟨old, he⟩, ⟨o, ho, _, hd⟩, _⟩ := st
    rcases (by simpa using hb : b = e ∨ b = it) with rfl | rfl
    · exact ⟨_, he, fun v q => nomatch q⟩
    · exact ⟨o, ho, fun v q => by rw [hd] at q; cases q⟩
  keep := fun i h h' st k => by
    obtain ⟨⟨old, he⟩, hi, hne⟩ := st
    exact ⟨⟨old, k e (by simp) _ he⟩, hi.at fun o q => k it (by simp) o q, hne⟩
  item := by
    intro X hP hw hK hc i pins s σ H E I hf st hg
    subst hP hw hK
    obtain ⟨⟨old, he⟩, hit, hne⟩ := st
    obtain ⟨xs, x, hq, hx⟩ := hg
    obtain ⟨ts, rv, p, hz⟩ := I.tuple hq
    obtain ⟨u, hu, ru⟩ := rv.get hx
    have hel : e < s.heap.objs.size := Heap.lt_size he
    have hil : it < s.heap.objs.size := by obtain ⟨_, q, _⟩ := hit; exact Heap.lt_size q
    have nit : a ≠ it := by
      rintro rfl
      obtain ⟨o1, q1, c1, _⟩ := hit
      obtain ⟨o2, q2, c2, _⟩ := p
      rw [q1] at q2
      cases q2
      rw [c1] at c2
      simp at c2
    have hi : i < ts.toArray.size := by
      have := (List.getElem?_eq_some_iff.mp hu).1
      simpa using this
    have ex : e ∉ [it, a] := by
      intro m
      rcases (by simpa using m : e = it ∨ e = a) with z | rfl
      · exact hne z
      · obtain ⟨o2, q2, c2, _⟩ := p
        rw [he] at q2
        cases q2
        simp at c2
    refine wpAny_pyNext_enum_itemD (Draws.tuple (A := X.A.in1) (show X.A.in1.handled = none from I.ok.hd hc) it a nit ts.toArray) he ⟨hit, p⟩ hi hne ex fun y h' tk hy ho st' hT hsz hk => ?_
    have eu : y = u := by
      have z : ts.toArray[i]? = some u := by simpa using hu
      exact Option.some.inj (hy.symm.trans z)
    subst eu
    refine ⟨_, rfl, wpAny_letOwnedTupleGo_enum (s := { s with heap := h', toks := tk + 1 }) ho fun h'' he' sb => ?_⟩
    have ke : ∀ b o, b ≠ e → b ≠ it → s.heap.get? b = some o → h''.get? b = some o := fun b o n1 n2 q => (sb.2 b n1).trans (hk b o n1 n2 q)
    have hT2 : h''.get? s.heap.objs.size = some { cls := .type "tuple", data := .seq #[.int i tk, y] } := (sb.2 _ (Nat.ne_of_gt hel)).trans hT
    have new : ObjOk X.prog X.w (L2.upd H s.heap.objs.size (.tup [.int (i : Nat), x])) h'' s.heap.objs.size (.tup [.int (i : Nat), x]) :=
      ⟨by show 2 ≤ sizeLine; decide, [.int i tk, y], .cons ⟨_, rfl⟩ (.cons ru .nil), ⟨_, hT2, rfl, _, rfl⟩⟩
    have I1 : Inv X pins σ (L2.upd H s.heap.objs.size (.tup [.int (i : Nat), x])) { s with heap := h'', toks := tk + 1 } :=
      I.turnedNew (ch := [e, it]) (fun b ob hb q => ke b ob (fun z => hb (by simp [z])) (fun z => hb (by simp [z])) q) hf (Nat.le_refl _) new
    have fin : ((i + 1 : Nat) : Int) = (i : Int) + 1 := by omega
    refine ⟨.ref s.heap.objs.size, _, I1, rfl, ⟨_, x, rfl, I.hok.fresh (Nat.le_refl _), rfl, fun ys hy2 => ?_⟩, ⟨⟨y, by rw [fin]; exact he'⟩, st'.1.at fun o q => (sb.2 it (Ne.symm hne)).trans q, hne⟩, fun b hb => ?_⟩
    · rw [I.tuple_inj hy2 hq]
      exact hx
    · have lt : b < s.heap.objs.size := by
        rcases (by simpa using hb : b = e ∨ b = it) with rfl | rfl
        · exact hel
        · exact hil
      rw [upd_ne (Nat.ne_of_lt lt)]
      exact (hf b hb).1
  done := by
    intro X hP hw hK hc i pins s σ H E I hf st hg
    subst hP hw hK
    obtain ⟨⟨old, he⟩, hit, hne⟩ := st
    obtain ⟨xs, hq, hx⟩ := hg
    obtain ⟨ts, rv, p, hz⟩ := I.tuple hq
    obtain ⟨f0, f1, f2, f3, f4, f5⟩ := hf it (by simp)
    have nit : a ≠ it := by
      rintro rfl
      obtain ⟨o1, q1, c1, _⟩ := hit
      obtain ⟨o2, q2, c2, _⟩ := p
      rw [q1] at q2
      cases q2
      rw [c1] at c2
      simp at c2
    have sz : i = ts.toArray.size := by
      have := rv.length
      simp
      omega
    subst sz
    exact wpAny_pyNext_enum_endD (Draws.tuple (A := X.A.in1) (show X.A.in1.handled = none from I.ok.hd hc) it a nit ts.toArray) he ⟨hit, p⟩ fun h' eb => ⟨rfl, I.turned (t' := s.toks) (fun b o hb q => eb b o hb q) f0 f1 f3 f4 f5⟩
  self := fun A i s Q E st h => let ⟨⟨_, he⟩, _⟩ := st; wpAny_pyIter_enum he h
theorem new_pair {b n : Nat} (h : b = n + 1 ∨ b = n) : n ≤ b := by omega
def iEnT (K : PySem.W.Frag) (ta : TA) : TI := fun σ H R => ta σ H fun vs H1 => ∃ a xs, vs = [.ref a] ∧ SqT K H1 a xs ∧ R (ItT K a) H1
theorem pi_enT {X : Cx} {e : Expr} {ta : TA} {p pos tpos : Pos} {elts : List Expr} {kk : Nat} (hg : Gl X "enumerate") (hm : X.mg "enumerate" = none) (ha : PA X [e] ta) (hs : starEach [e] X.env = [(false, eval e X.env)] := by rfl) :
    PI X (.Tuple elts kk tpos) (.Call (.Name "enumerate" p) [e] [] pos) (iEnT X.K ta) := by
  refine ⟨fun pins s σ H R I h => ?_⟩
  refine Call_ (ld_blt I hg hm boot_enumerate (PyProof.Rows.callWith_type1 (thn (ha.run pos pins s σ H _ I h) fun us s1 ⟨vs, H1, I1, r1, a, xs, ex, hq, q⟩ => ?_) hs rfl))
  subst ex
  obtain rfl := Vals.ref1 r1
  obtain ⟨ts, rv, tp, hz⟩ := I1.tuple hq
  refine enumT_call tp fun h' he hit hk => wpAny_pyIter_enum he ?_
  refine ⟨s1.heap.objs.size + 1, [s1.heap.objs.size + 1, s1.heap.objs.size], _, _, H1, rfl, I1.kept (t' := s1.toks) hk, turnT a (s1.heap.objs.size + 1) s1.heap.objs.size, ⟨⟨.none, he⟩, hit, Nat.succ_ne_self _⟩, fun b hb => ?_, q⟩
  have le := new_pair (by simpa using hb)
  exact I1.fpOk le (I1.hok.fresh le)
section
variable {K : PySem.W.Frag} {σ : L2.St} {H : Hp} {Q : VK} {D : Ends} {A : TA} {te : TE} {tt : TT}
/-- for i, x in enumerate(a tuple) -/
theorem r_forET {g : TG} {tb : TS} (h : A σ H fun vs H1 => ∃ a xs, vs = [.ref a] ∧ SqT K H1 a xs ∧ ∃ W : Nat → Nat → L2.St → Hp → Prop, (∃ m, W 0 m σ H1) ∧ ∀ i m σ H, W i m σ H →
      (((ItT K a).stop i H ∧ D.nx σ H) ∨ ((ItT K a).go i H ∧ ∃ N : L2.St → Hp → Prop, (∀ σ' H', N σ' H' → ∃ m', m' < m ∧ W (i + 1) m' σ' H') ∧ ∀ x H', (ItT K a).yld i H x H' → g x σ H' fun σ2 H2 => tb { D with nx := N, ct := N, bk := D.nx } σ2 H2))) :
    tFor (iEnT K A) g tb D σ H := h
theorem r_enumT_by {g : TG} {tb : TS} {a : Addr} {xs : List V} (hs : SqT K H a xs) (Pv : Nat → L2.St → Hp → Prop) (h0 : Pv 0 σ H) (hl : ∀ i σ' H', Pv i σ' H' → SqT K H' a xs)
    (ht : ∀ (i : Nat) x σ' H', xs[i]? = some x → Pv i σ' H' → ∀ T H2, H' T = none → Same H' H2 → H2 T = some (.tup [.int (i : Nat), x]) → g (.ref T) σ' H2 fun σ2 H3 => tb { D with nx := Pv (i + 1), ct := Pv (i + 1), bk := D.nx } σ2 H3) (hd : ∀ σ' H', Pv xs.length σ' H' → D.nx σ' H') :
    ∃ a' xs', [V.ref a] = [.ref a'] ∧ SqT K H a' xs' ∧ ∃ W : Nat → Nat → L2.St → Hp → Prop, (∃ m, W 0 m σ H) ∧ ∀ i m σ H, W i m σ H →
      (((ItT K a').stop i H ∧ D.nx σ H) ∨ ((ItT K a').go i H ∧ ∃ N : L2.St → Hp → Prop, (∀ σ' H', N σ' H' → ∃ m', m' < m ∧ W (i + 1) m' σ' H') ∧ ∀ x H', (ItT K a').yld i H x H' → g x σ H' fun σ2 H2 => tb { D with nx := N, ct := N, bk := D.nx } σ2 H2)) := by
  refine ⟨a, xs, rfl, hs, fun i m σ H => m = xs.length - i ∧ i ≤ xs.length ∧ Pv i σ H, ⟨xs.length, by simp, Nat.zero_le _, h0⟩, ?_⟩
  rintro i m σ H ⟨rfl, hi, p⟩
  have q := hl i σ H p
  by_cases hlt : i < xs.length
  · refine .inr ⟨⟨xs, xs[i], q, by simp [hlt]⟩, Pv (i + 1), fun σ' H' p' => ⟨xs.length - (i + 1), by omega, rfl, hlt, p'⟩, fun x H' y => ?_⟩
    obtain ⟨T, z, e1, nT, e2, hz⟩ := y
    subst e1 e2
    exact ht i z σ H (hz xs q) p T _ nT (same_upd nT) upd_same
  · have e : i = xs.length := by omega
    subst e
    exact .inl ⟨⟨xs, q, rfl⟩, hd σ H p⟩
/-- [e for i, x in enumerate(a tuple) if t] -/
def lcET (K : PySem.W.Frag) (a : Addr) (g : TG) (tt : TT) (te : TE) (vs : List Nat) (σ : L2.St) (H : Hp) (Q : VK) : Prop := ∀ D, H D = none → ∃ W : Nat → Nat → Hp → Prop, (∃ m, W 0 m (L2.upd H D (.lst []))) ∧ ∀ i m H, W i m H →
  ((ItT K a).stop i H ∧ Q (.ref D) H) ∨ ((ItT K a).go i H ∧ ∃ Nx : Hp → Prop, (∀ H', Nx H' → ∃ m', m' < m ∧ W (i + 1) m' H') ∧ ∀ x H', (ItT K a).yld i H x H' → g x (wipe σ vs) H' fun σ2 H2 => wipe σ2 vs = wipe σ vs ∧ tt σ2 H2 fun b H3 =>
    if b = true then te σ2 H3 fun y H4 => ∃ acc, H4 D = some (.lst acc) ∧ acc.length < sizeLine ∧ Nx (L2.upd H4 D (.lst (acc ++ [y]))) else Nx H3)
theorem r_lcETup {vs : List Nat} {g : TG} (h : A σ H fun ws H1 => ∃ a xs, ws = [.ref a] ∧ SqT K H1 a xs ∧ lcET K a g tt te vs σ H1 Q) : tLc (iEnT K A) g tt te vs σ H Q := h
theorem r_lcET {vs : List Nat} {g : TG} {a : Addr} {xs : List V} (hx : SqT K H a xs) (Pv : Addr → Nat → Hp → Prop)
    (hs : ∀ Dl H1, H Dl = none → Same H H1 → H1 Dl = some (.lst []) → Pv Dl 0 H1) (hl : ∀ Dl i H', H Dl = none → Pv Dl i H' → SqT K H' a xs)
    (ht : ∀ Dl (i : Nat) x H', H Dl = none → xs[i]? = some x → Pv Dl i H' → ∀ T H2, H' T = none → Same H' H2 → H2 T = some (.tup [.int (i : Nat), x]) → g (.ref T) (wipe σ vs) H2 fun σ2 H3 => wipe σ2 vs = wipe σ vs ∧
      tt σ2 H3 fun b H4 => if b = true then te σ2 H4 (apR Dl (Pv Dl (i + 1))) else Pv Dl (i + 1) H4)
    (hd : ∀ Dl H', H Dl = none → Pv Dl xs.length H' → Q (.ref Dl) H') : ∃ a' xs', [V.ref a] = [.ref a'] ∧ SqT K H a' xs' ∧ lcET K a' g tt te vs σ H Q := by
  refine ⟨a, xs, rfl, hx, fun Dl nD => ⟨fun i m H' => m = xs.length - i ∧ i ≤ xs.length ∧ Pv Dl i H', ⟨xs.length, by simp, Nat.zero_le _, hs Dl _ nD (same_upd nD) upd_same⟩, ?_⟩⟩
  rintro i m H' ⟨rfl, hi, p⟩
  have q := hl Dl i H' nD p
  by_cases hlt : i < xs.length
  · refine .inr ⟨⟨xs, xs[i], q, by simp [hlt]⟩, Pv Dl (i + 1), fun H2 p' => ⟨xs.length - (i + 1), by omega, rfl, hlt, p'⟩, fun x H2 y => ?_⟩
    obtain ⟨T, z, e1, nT, e2, hz⟩ := y
    subst e1 e2
    exact ht Dl i z H' nD (hz xs q) p T _ nT (same_upd nT) upd_same
  · have e : i = xs.length := by omega
    subst e
    exact .inl ⟨⟨xs, q, rfl⟩, hd Dl H' nD p⟩
/-- [e for x in a tuple if t] -/
def lcT (K : PySem.W.Frag) (a : Addr) (k : Nat) (tt : TT) (te : TE) (vs : List Nat) (σ : L2.St) (H : Hp) (Q : VK) : Prop := (∃ xs, SqT K H a xs) ∧ ∀ D, H D = none → ∃ W : Nat → Nat → Hp → Prop, (∃ m, W 0 m (L2.upd H D (.lst []))) ∧ ∀ i m H, W i m H →
  ((Itt K a).stop i H ∧ Q (.ref D) H) ∨ ((Itt K a).go i H ∧ ∃ Nx : Hp → Prop, (∀ H', Nx H' → ∃ m', m' < m ∧ W (i + 1) m' H') ∧ ∀ x H', (Itt K a).yld i H x H' → gName k x (wipe σ vs) H' fun σ2 H2 => wipe σ2 vs = wipe σ vs ∧ tt σ2 H2 fun b H3 =>
    if b = true then te σ2 H3 fun y H4 => ∃ acc, H4 D = some (.lst acc) ∧ acc.length < sizeLine ∧ Nx (L2.upd H4 D (.lst (acc ++ [y]))) else Nx H3)
theorem r_lcTup {k : Nat} {vs : List Nat} {tl : TE} (h : tl σ H fun x H1 => ∃ a, x = .ref a ∧ lcT K a k tt te vs σ H1 Q) : tLc (iTup K tl) (gName k) tt te vs σ H Q := h
theorem r_lcT {a : Addr} {xs : List V} {k : Nat} {vs : List Nat} (hx : SqT K H a xs) (hw : ∀ x, wipe ((wipe σ vs).set k (some x)) vs = wipe σ vs) (Pv : Addr → Nat → Hp → Prop)
    (hs : ∀ Dl H1, H Dl = none → Same H H1 → H1 Dl = some (.lst []) → Pv Dl 0 H1) (hl : ∀ Dl i H', H Dl = none → Pv Dl i H' → SqT K H' a xs)
    (ht : ∀ Dl (i : Nat) x H', H Dl = none → xs[i]? = some x → Pv Dl i H' → tt ((wipe σ vs).set k (some x)) H' fun b H3 => if b = true then te ((wipe σ vs).set k (some x)) H3 (apR Dl (Pv Dl (i + 1))) else Pv Dl (i + 1) H3)
    (hd : ∀ Dl H', H Dl = none → Pv Dl xs.length H' → Q (.ref Dl) H') : ∃ a', V.ref a = .ref a' ∧ lcT K a' k tt te vs σ H Q := by
  refine ⟨a, rfl, ⟨xs, hx⟩, fun Dl hD => ?_⟩
  exact lc_tup (xs := xs) (tt := tt) (Pv Dl) (hs Dl _ hD (same_upd hD) upd_same) (fun i H' _ p => hl Dl i H' hD p) (fun i x H' hi p => ⟨hw _, ht Dl i x H' hD hi p⟩) (fun H' p => hd Dl H' hD p)
/-- for x in a tuple -/
theorem r_forT0 {tl : TE} {g : TG} {tb : TS} (h : tl σ H fun x H1 => ∃ a, x = .ref a ∧ (∃ xs, SqT K H1 a xs) ∧ ∃ W : Nat → Nat → L2.St → Hp → Prop, (∃ m, W 0 m σ H1) ∧ ∀ i m σ H, W i m σ H →
      (((Itt K a).stop i H ∧ D.nx σ H) ∨ ((Itt K a).go i H ∧ ∃ N : L2.St → Hp → Prop, (∀ σ' H', N σ' H' → ∃ m', m' < m ∧ W (i + 1) m' σ' H') ∧ ∀ x H', (Itt K a).yld i H x H' → g x σ H' fun σ2 H2 => tb { D with nx := N, ct := N, bk := D.nx } σ2 H2))) :
    tFor (iTup K tl) g tb D σ H := h
theorem r_tup_by {g : TG} {tb : TS} {a : Addr} {xs : List V} (hs : SqT K H a xs) (Pv : Nat → L2.St → Hp → Prop) (h0 : Pv 0 σ H) (hl : ∀ i σ' H', Pv i σ' H' → SqT K H' a xs)
    (ht : ∀ i x σ' H', xs[i]? = some x → Pv i σ' H' → g x σ' H' fun σ2 H2 => tb { D with nx := Pv (i + 1), ct := Pv (i + 1), bk := D.nx } σ2 H2) (hd : ∀ σ' H', Pv xs.length σ' H' → D.nx σ' H') :
    ∃ a', V.ref a = .ref a' ∧ (∃ xs, SqT K H a' xs) ∧ ∃ W : Nat → Nat → L2.St → Hp → Prop, (∃ m, W 0 m σ H) ∧ ∀ i m σ H, W i m σ H →
      (((Itt K a').stop i H ∧ D.nx σ H) ∨ ((Itt K a').go i H ∧ ∃ N : L2.St → Hp → Prop, (∀ σ' H', N σ' H' → ∃ m', m' < m ∧ W (i + 1) m' σ' H') ∧ ∀ x H', (Itt K a').yld i H x H' → g x σ H' fun σ2 H2 => tb { D with nx := N, ct := N, bk := D.nx } σ2 H2)) :=
  ⟨a, rfl, ⟨xs, hs⟩, for_tup (xs := xs) Pv h0 (fun i σ' H' _ p => hl i σ' H' p) ht hd⟩
end
end Z
local macro_rules | `(tactic| walk_at "call") => `(tactic| first
  | with_reducible refine Z.r_forET ?_
  | with_reducible refine Z.r_lcETup ?_
  | with_reducible refine Z.r_lcTup ?_
  | with_reducible refine Z.r_forT0 ?_)

/-! instances of an own class: len, [..], for .. in where __iter__ gives a tuple's iterator -/
namespace Z
open PySem PySem.Spec PyProof.Rows L2
open ItX (dropH dropH_upd inv_drop inv_fp)
/-- the iterator at it of the tuple at t -/
def ItTup (t it : Addr) (i : Nat) : HO := .ext fun h => h.IsTupleIter it t i
theorem itTup_ok {P : Program} {w : World} {H : Hp} {h : Heap} {t it : Addr} {i : Nat} (e : h.IsTupleIter it t i) : ObjOk P w H h it (ItTup t it i) :=
  ⟨e, let ⟨o, ho, _⟩ := e; ⟨o, ho⟩, fun h1 h2 e1 k => e1.at fun o q => k o q⟩
theorem itTup_get {P : Program} {w : World} {H : Hp} {h : Heap} {t it : Addr} {i : Nat} (ok : HOk P w H h) (e : H it = some (ItTup t it i)) : h.IsTupleIter it t i := (show ObjOk P w H h it (ItTup t it i) from ok it _ e).1
/-- iter(a tuple): young, as the caller's start was of n objects -/
def rIterT (K : PySem.W.Frag) (n : Nat) : List V → Hp → VK → Prop := fun xs H Q => ∃ (t : Addr) (zs : List V), xs = [.ref t] ∧ SqT K H t zs ∧ ∀ it, H it = none → n ≤ it → Q (.ref it) (L2.upd H it (ItTup t it 0))
section
variable {X : Cx} {k : Nat} {C f : Addr} {fd : FuncData} {ps : List Str} {sp : Sp}
theorem c_iterT : CallR X (.builtin "iter") (rIterT X.K X.s_0.heap.objs.size) := by
  intro pins s σ H xs us Q I r h
  obtain ⟨t, zs, rfl, hq, q⟩ := h
  obtain rfl := Vals.ref1 r
  obtain ⟨its, rv, tp, hz⟩ := I.tuple hq
  refine Calls.call_function_entry (by decide +kernel) (by decide +kernel) PySem.W.kdk_entry_iter (PySem.W.kdk_args_iter _) ?_
  unfold Builtin.«iter»
  refine wpAny_bind (m := someArgs "iter" 1 2 _) (wpAny_of_eq (a := [Value.ref t]) (by kernel_rfl!) (?_ : wpAny _ _ (pyIter (.ref t) >>= _) _ _ s))
  refine wpAny_bind (wpAny_pyIter_tuple (show s.heap.IsTuple t its.toArray from tp) (wpAny_pure ⟨_, rfl, ?_⟩))
  have fr := I.hok.fresh (Nat.le_refl s.heap.objs.size)
  exact ⟨.ref s.heap.objs.size, _, I.laid (t' := s.toks) (fun b u e => Heap.get?_push_of_some _ e) (Nat.le_refl _) (itTup_ok ⟨_, Heap.get?_push_size _ rfl, rfl, rfl⟩), rfl, q _ fr I.sz⟩
/-- len of an instance -/
def inB (Q : VK) : VK := fun v H' => ∃ n : Nat, v = .int n ∧ n ≤ 1000000 ∧ Q (.int n) H'
def rLenO (C : Addr) (sp : Sp) : List V → Hp → VK → Prop := fun xs H Q => ∃ a dx fs, xs = [.ref a] ∧ H a = some (.ins C dx fs) ∧ sp ([.ref a] ++ []) H (inB Q) E0
theorem c_lenO (M : Meth X.K C "__len__" f) (F : FnOk X.prog X.w X.K X.mg X.base CX0 k f fd ps sp) (hr : Room (k + 1) X.A) (hb : Binds X.K fd ps []) : CallR X (.builtin "len") (rLenO C sp) := by
  intro pins s σ H xs us Q I r h
  obtain ⟨a, dx, fs, rfl, ha, q⟩ := h
  obtain ⟨u, rfl, ru⟩ := vals1 r
  cases (show u = Value.ref a from ru)
  obtain ⟨mA, O, _⟩ := ins_get I.hok ha
  obtain ⟨od, J, _⟩ := O.look
  obtain ⟨m, hF⟩ := I.fr
  refine PySem.W.len_K hF I.ok.mod.kin J M.at_ M.fn (wpAny_mono (run_below (us := [.ref a]) (vs := [.ref a]) (A := X.A.in1) ⟨hr.in1, rfl⟩ F hb I (.cons rfl .nil) q) (fun w s' z => ?_) fun _ _ x => x)
  obtain ⟨z', H', I', rz, n, e, hn, qz⟩ := z
  subst e
  obtain ⟨t, rfl⟩ := (show ∃ t, w = Value.int (n : Int) t from rz)
  have p63 : (1000000 : Int) < 2 ^ 63 := by decide
  exact ⟨⟨by omega, by omega⟩, .int n, H', I'.tok _, ⟨_, rfl⟩, qz⟩
end
section
variable {P : Program} {w : World} {K : PySem.W.Frag} {mg : Str → Option Value} {base : Heap}
/-- a def called in one state, its body's reading told of that state alone -/
theorem fn_at {x qual : Str} {st : Stmt} {f : Addr} {fd : FuncData} {N ps : List Str} {k : Nat} {A : Around} {outer : List Env} {s : Shared} {H : Hp} {args : Args} {us : List Value} {vs : List V} {Q : VK} {E : XK}
    (F : Fun K x qual st f fd) (S : FnScope N ps (defScope st)) (hr : Room (k + 1) A) (e0 : Env0 P w K mg base A outer s H) (hb : BindsTo s fd args (ps.zip us)) (r : Vals vs us) (hl : vs.length = ps.length)
    (hbody : ∀ cdv, Room k (A.deeper (envOfC qual (defScope st) s.heap.objs.size f cdv)) → ∃ t, PSs (cxOf CX0 P w K mg base N qual (defScope st) f cdv A outer s H E) (defBody st) t ∧ t { nx := fun _ H' => Q .non H', rt := Q } (start N vs) H) :
    codeAny (model P w) A (.call (.ref f) args) (CR CX0 outer P w H s Q E) s := by
  obtain ⟨oc, od, kV, doc, pm, an, cdv, ct, osl, rfl, lk, hcd⟩ := F.ex
  have bk : ∀ b o, base.get? b = some o → s.heap.get? b = some o := fun b o e => (e0.bs b o e).1
  have KX : K.In s.heap := e0.mod.kin.keeps bk
  have kinds : ∀ y ∈ ps.zip us, (defScope st).names.lookup y.1 = some .local ∨ ((defScope st).names.lookup y.1 = some .cell ∧ ((cellsFrom (s.heap.objs.size + 1) (defScope st).names []).lookup y.1).isSome = true) := by
    rintro ⟨n, v⟩ hy
    exact (S.par n (List.of_mem_zip hy).1).imp id fun q => ⟨q, PySem.W.cellsFrom_some _ _ _ (.inl q)⟩
  refine codeAny_call_function hr.depth (KX _ _ lk) rfl S.co S.gen rfl (PySem.W.codeRec_of KX hcd) (hb _ _ _ _ (wpAny_newFunctionEnv_cells S.kind kinds fun env he s1 y => ?_))
  subst he
  refine ⟨(e0.mod.nolimit.keeps bk).keeps y.toInCall.keep, codeAny_func ?_⟩
  obtain ⟨t, ht, hq⟩ := hbody cdv (hr.deeper _)
  have I := inv_start (CX := CX0) (P := P) (w := w) (K := K) (mg := mg) (base := base) (E := E) S hr.hd e0 hl r y
  refine wpAny_mono (ht.run [] s1 (start N vs) H _ I hq) (fun fl s' hs => ?_) fun _ _ z => z
  cases fl with
  | ret u =>
    obtain ⟨v, _, H', J, rv, q⟩ := hs
    exact ⟨v, H', J.os, J.bare, J.base, J.hok, rv, q⟩
  | next =>
    obtain ⟨_, H', J, q⟩ := hs
    exact ⟨V.non, H', J.os, J.bare, J.base, J.hok, rfl, q⟩
  | brk => exact False.elim hs.choose_spec.choose_spec.2
  | cont => exact False.elim hs.choose_spec.choose_spec.2
end
end Z
namespace Z
open PySem PySem.Spec PyProof.Rows L2
open ItX (dropH dropH_upd inv_drop inv_fp)
/-- the def at f gives, of an instance of C whose field fl holds a tuple, a young iterator of it -/
def IterOk (P : Program) (w : World) (K : PySem.W.Frag) (mg : Str → Option Value) (base : Heap) (k : Nat) (f C : Addr) (fl : Str) : Prop :=
  ∀ (A : Around) (outer : List Env) (s : Shared) (H : Hp) (a : Addr) (Q : VK), Room k A → Env0 P w K mg base A outer s H →
    (∃ dx fs t zs, H a = some (.ins C dx fs) ∧ fs.lookup fl = some (.ref t) ∧ SqT K H t zs ∧ ∀ it, H it = none → s.heap.objs.size ≤ it → Q (.ref it) (L2.upd H it (ItTup t it 0))) →
    codeAny (model P w) A (.call (.ref f) ⟨[.ref a], []⟩) (CR CX0 outer P w H s Q E0) s
def iOwn (K : PySem.W.Frag) (C : Addr) (fl : Str) (te : TE) : TI := fun σ H R => te σ H fun x H1 => ∃ a dx fs t zs, x = .ref a ∧ H1 a = some (.ins C dx fs) ∧ fs.lookup fl = some (.ref t) ∧ SqT K H1 t zs ∧ R (Itt K t) H1
section
variable {prog : Program} {w : World} {A : Around} {E : Value → Shared → Prop} {s : Shared} {K : PySem.W.Frag} {x C f : Addr} {ox : Obj} {od : Option Obj}
theorem iter_own {Q : Value → Shared → Prop} (X : K.In s.heap) (I : PySem.W.InstAt s.heap x ox C od) (hs : PySem.W.findIn K (.ref C) "__iter__" = some (some (.ref f))) (hf : PySem.W.isFn K (.ref f) = true)
    (h : wpAny (model prog w) A (call (.ref f) [.ref x]) (fun v s' => (∃ t it i, v = .ref it ∧ s'.heap.IsTupleIter it t i) ∧ Q v s') E s) : wpAny (model prog w) A (pyIter (.ref x)) Q E s := by
  have look : ∀ {R : Option Value → Shared → Prop}, R (some (.ref f)) s → wpAny (model prog w) A (specialOf (.ref x) (Str.ofString "__iter__")) R E s := fun q => wpAny_bind (I.type.here ((PySem.W.looks_findIn X hs).here q))
  have go : wpAny (model prog w) A (call (.ref f) [.ref x] >>= fun v => pure (some v)) (fun r s' => ∃ v, r = some v ∧ (∃ t it i, v = .ref it ∧ s'.heap.IsTupleIter it t i) ∧ Q v s') E s :=
    wpAny_bind (wpAny_mono h (fun v s' z => wpAny_pure ⟨v, rfl, z⟩) fun _ _ z => z)
  unfold pyIter
  refine wpAny_bind (look ?_)
  dsimp only
  refine wpAny_bind (wpAny_mono (Q := fun r s' => ∃ v, r = some v ∧ (∃ t it i, v = .ref it ∧ s'.heap.IsTupleIter it t i) ∧ Q v s') ?_ (fun r s' z => ?_) fun _ _ z => z)
  · simp only [callSpecialIfBoundUnlessNone?, bindSpecialIfBound?]
    refine wpAny_holding (wpAny_bind (wpAny_bind (look ?_)))
    refine wpAny_bind (wpAny_askSetting (wpAny_ite ?_))
    split
    · exact wpAny_bind ((PySem.W.bind_fn X _ (beq_iff_eq.mp hf)).here (wpAny_pure (by exact go)))
    · exact wpAny_tryCatch (wpAny_bind ((PySem.W.bind_fn X _ (beq_iff_eq.mp hf)).here (wpAny_pure (by exact go))))
  · obtain ⟨v, rfl, ⟨t, it, i, rfl, hi⟩, q⟩ := z
    exact wpAny_bind (wpAny_specialOf hi.typeIs PySem.F.slot_tuple_iterator_next.lookup (wpAny_pure q))
end
section
variable {X : Cx} {k : Nat} {C f : Addr} {fl : Str} {te : TE} {tg e : Expr}
theorem pi_own (M : Meth X.K C "__iter__" f) (F : IterOk X.prog X.w X.K X.mg X.base k f C fl) (hr : Room k X.A) (he : PE X e te) : PI X tg e (iOwn X.K C fl te) := by
  refine ⟨fun pins s σ H R I h => ?_⟩
  refine thn (he.run pins s σ H _ I h) fun v s1 hv => ?_
  obtain ⟨y, H1, I1, r1, a, dx, fs, t, zs, rfl, ha, hl, ht, q⟩ := hv
  cases (show v = Value.ref a from r1)
  obtain ⟨mA, O, _⟩ := ins_get I1.hok ha
  obtain ⟨od, J, _⟩ := O.look
  refine iter_own I1.kIn J M.at_ M.fn (wpAny_call (codeAny_mono (F X.A X.stack s1 H1 a (fun v H' => ∃ it, v = .ref it ∧ H1 it = none ∧ s1.heap.objs.size ≤ it ∧ H' = L2.upd H1 it (ItTup t it 0)) hr I1.env0
    ⟨dx, fs, t, zs, ha, hl, ht, fun it n1 n2 => ⟨it, rfl, n1, n2, rfl⟩⟩) fun r s' hq => ?_))
  cases r with
  | error e => exact hq.elim
  | ok fl =>
    cases fl with
    | next => exact False.elim hq
    | brk => exact False.elim hq
    | cont => exact False.elim hq
    | ret u =>
      obtain ⟨v, H', I2, rv, it, rfl, n1, n2, rfl⟩ := I1.after hq
      cases (show u = Value.ref it from rv)
      have hi : L2.upd H1 it (ItTup t it 0) it = some (ItTup t it 0) := upd_same
      have st := itTup_get I2.hok hi
      refine ⟨⟨t, it, 0, rfl, st⟩, it, [it], _, _, dropH (L2.upd H1 it (ItTup t it 0)) it, rfl, inv_drop I2 hi, turn_tuple t it, st, fun b hb => ?_, ?_⟩
      · have e : b = it := by simpa using hb
        rw [e]
        exact inv_fp I2 hi (Nat.le_trans I1.sz n2)
      · rw [dropH_upd n1]
        exact q
end
section
variable {K : PySem.W.Frag} {σ : L2.St} {H : Hp} {Q : VK} {D : Ends} {te : TE} {tt : TT} {a C dx t : Addr} {fs : List (Str × V)} {fl : Str} {zs : List V}
def owR (K : PySem.W.Frag) (C : Addr) (fl : Str) (R : It → Hp → Prop) : VK := fun x H1 => ∃ a dx fs t zs, x = .ref a ∧ H1 a = some (.ins C dx fs) ∧ fs.lookup fl = some (.ref t) ∧ SqT K H1 t zs ∧ R (Itt K t) H1
def forOR (g : TG) (tb : TS) (D : Ends) (σ : L2.St) : It → Hp → Prop := fun J H1 => ∃ W : Nat → Nat → L2.St → Hp → Prop, (∃ m, W 0 m σ H1) ∧ ∀ i m σ H, W i m σ H →
  ((J.stop i H ∧ D.nx σ H) ∨ (J.go i H ∧ ∃ N : L2.St → Hp → Prop, (∀ σ' H', N σ' H' → ∃ m', m' < m ∧ W (i + 1) m' σ' H') ∧ ∀ x H', J.yld i H x H' → g x σ H' fun σ2 H2 => tb { D with nx := N, ct := N, bk := D.nx } σ2 H2))
theorem r_forO {g : TG} {tb : TS} (h : te σ H (owR K C fl (forOR g tb D σ))) : tFor (iOwn K C fl te) g tb D σ H := h
theorem r_forO_by {g : TG} {tb : TS} (ha : H a = some (.ins C dx fs)) (hf : fs.lookup fl = some (.ref t)) (hs : SqT K H t zs) (Pv : Nat → L2.St → Hp → Prop) (h0 : Pv 0 σ H) (hl : ∀ i σ' H', Pv i σ' H' → SqT K H' t zs)
    (ht : ∀ i x σ' H', zs[i]? = some x → Pv i σ' H' → g x σ' H' fun σ2 H2 => tb { D with nx := Pv (i + 1), ct := Pv (i + 1), bk := D.nx } σ2 H2) (hd : ∀ σ' H', Pv zs.length σ' H' → D.nx σ' H') : owR K C fl (forOR g tb D σ) (.ref a) H :=
  ⟨a, dx, fs, t, zs, rfl, ha, hf, hs, for_tup (xs := zs) Pv h0 (fun i σ' H' _ p => hl i σ' H' p) ht hd⟩
def lcOR (k : Nat) (tt : TT) (te' : TE) (vs : List Nat) (σ : L2.St) (Q : VK) : It → Hp → Prop := fun J H1 => ∀ D, H1 D = none → ∃ W : Nat → Nat → Hp → Prop, (∃ m, W 0 m (L2.upd H1 D (.lst []))) ∧ ∀ i m H, W i m H →
  (J.stop i H ∧ Q (.ref D) H) ∨ (J.go i H ∧ ∃ Nx : Hp → Prop, (∀ H', Nx H' → ∃ m', m' < m ∧ W (i + 1) m' H') ∧ ∀ x H', J.yld i H x H' → gName k x (wipe σ vs) H' fun σ2 H2 => wipe σ2 vs = wipe σ vs ∧ tt σ2 H2 fun b H3 =>
    if b = true then te' σ2 H3 fun y H4 => ∃ acc, H4 D = some (.lst acc) ∧ acc.length < sizeLine ∧ Nx (L2.upd H4 D (.lst (acc ++ [y]))) else Nx H3)
theorem r_lcO0 {k : Nat} {vs : List Nat} {te' : TE} (h : te σ H (owR K C fl (lcOR k tt te' vs σ Q))) : tLc (iOwn K C fl te) (gName k) tt te' vs σ H Q := h
theorem r_lcO {k : Nat} {vs : List Nat} {te' : TE} (ha : H a = some (.ins C dx fs)) (hf : fs.lookup fl = some (.ref t)) (hx : SqT K H t zs) (hw : ∀ x, wipe ((wipe σ vs).set k (some x)) vs = wipe σ vs) (Pv : Addr → Nat → Hp → Prop)
    (hs : ∀ Dl H1, H Dl = none → Same H H1 → H1 Dl = some (.lst []) → Pv Dl 0 H1) (hl : ∀ Dl i H', H Dl = none → Pv Dl i H' → SqT K H' t zs)
    (ht : ∀ Dl (i : Nat) x H', H Dl = none → zs[i]? = some x → Pv Dl i H' → tt ((wipe σ vs).set k (some x)) H' fun b H3 => if b = true then te' ((wipe σ vs).set k (some x)) H3 (apR Dl (Pv Dl (i + 1))) else Pv Dl (i + 1) H3)
    (hd : ∀ Dl H', H Dl = none → Pv Dl zs.length H' → Q (.ref Dl) H') : owR K C fl (lcOR k tt te' vs σ Q) (.ref a) H :=
  ⟨a, dx, fs, t, zs, rfl, ha, hf, hx, fun Dl hD => lc_tup (xs := zs) (tt := tt) (Pv Dl) (hs Dl _ hD (same_upd hD) upd_same) (fun i H' _ p => hl Dl i H' hD p) (fun i x H' hi p => ⟨hw _, ht Dl i x H' hD hi p⟩) fun H' p => hd Dl H' hD p⟩
theorem r_iterT {n : Nat} (hs : SqT K H t zs) (h : ∀ it, H it = none → n ≤ it → Q (.ref it) (L2.upd H it (ItTup t it 0))) : rIterT K n [.ref t] H Q := ⟨t, zs, rfl, hs, h⟩
theorem r_lenO {sp : Sp} (e : H a = some (.ins C dx fs)) (h : sp ([.ref a] ++ []) H (inB Q) E0) : rLenO C sp [.ref a] H Q := ⟨a, dx, fs, rfl, e, h⟩
theorem r_inB {n : Nat} (l : n ≤ 1000000) (h : Q (.int n) H) : inB Q (.int n) H := ⟨n, rfl, l, h⟩
end
end Z
local macro_rules | `(tactic| walk_at "call") => `(tactic| first
  | with_reducible refine Z.r_forO ?_
  | with_reducible refine Z.r_lcO0 ?_
  | ((with_reducible refine' Z.r_lenO ?e ?_); (case e => walk_at "hp")))
namespace Z
open PySem PySem.Spec PyProof.Rows L2
theorem fn_in {K : PySem.W.Frag} {x qual : Str} {st : Stmt} {f : Addr} {fd : FuncData} (F : Fun K x qual st f fd) : PySem.W.fnIn K f = true := by
  obtain ⟨oc, od, kV, doc, pm, an, cdv, ct, osl, rfl, lk, hcd⟩ := F.ex
  unfold PySem.W.fnIn
  rw [lk]
section
variable {X : Cx} {k : Nat} {C f : Addr} {fd : FuncData} {ps : List Str} {sp : Sp} {a b : Expr} {ta tb : TE} {pos : Pos}
/-- o[i], o an instance whose __getitem__ keeps sp -/
def rIxO (C : Addr) (sp : Sp) : R2 := fun x y H Q => ∃ a dx fs, x = .ref a ∧ H a = some (.ins C dx fs) ∧ sp ([x, y] ++ []) H Q E0
theorem pe_ixO (M : Meth X.K C "__getitem__" f) (hfn : PySem.W.fnIn X.K f = true) (F : FnOk X.prog X.w X.K X.mg X.base CX0 k f fd ps sp) (hr : Room (k + 1) X.A) (hb : Binds X.K fd ps []) (ha : PE X a ta) (hb' : PE X b tb)
    (hs : ∀ x i, subscripted b true (.ref x) i = runValue (.builtin "lifetime.subscript" ⟨[.ref x, i], []⟩) := by intro _ _; with_unfolding_all rfl) : PE X (.Subscript a b pos) (tOp (rIxO C sp) ta tb) := by
  refine ⟨fun pins s σ H Q I h => ?_⟩
  refine Subscript_ (binT ha hb' I h fun v u s2 x y H2 I2 rx ry q => ?_)
  obtain ⟨c, dx, fs, rfl, hc, q⟩ := q
  cases (show v = Value.ref c from rx)
  obtain ⟨mA, O, _⟩ := ins_get I2.hok hc
  obtain ⟨od, J, _⟩ := O.look
  obtain ⟨m, hF⟩ := I2.fr
  refine PySem.W.sub_K hF I2.ok.mod.kin J M.at_ hfn M.fn ?_ (hs c u)
  exact run_below (us := [.ref c, u]) (vs := [.ref c, y]) (A := X.A.in1) ⟨hr.in1, rfl⟩ F hb I2 (.cons rfl (.cons ry .nil)) q
end
section
variable {H : Hp} {Q : VK} {y : V} {a C dx : Addr} {fs : List (Str × V)} {sp : Sp}
theorem r_ixO (e : H a = some (.ins C dx fs)) (h : sp ([.ref a, y] ++ []) H Q E0) : rIxO C sp (.ref a) y H Q := ⟨a, dx, fs, rfl, e, h⟩
end
end Z
namespace Z
open PySem PySem.Spec PyProof.Rows L2
section
variable {X : Cx} {CX : CXT} {k i : Nat} {C f p g : Addr} {fd : FuncData} {ps : List Str} {ds : List Value} {dvs : List V} {sp : Sp} {E : XK} {x m : Str} {e o : Expr} {es : List Expr} {t : TA} {ta : TE} {q pos apos : Pos} {mc : Value} {pl : Sem Bool}
/-- v(e, ..), v a local that holds the class at C -/
def tMakeV (i : Nat) (C : Addr) (sp : Sp) (dvs : List V) (E : XK) (t : TA) : TE := fun σ H Q => σ[i]? = some (some (.ref C)) ∧ tMake C sp dvs E t σ H Q
theorem pe_makeV (M : Mk X.K C f) (F : FnOk X.prog X.w X.K X.mg X.base CX k f fd ps sp) (hr : Room (k + 1) X.A) (hb : Binds X.K fd ps ds) (hd : Vals dvs ds) (hx : Passes CX X E) (hN : X.N[i]? = some x) (hv : Vis X.env.scope x) (ha : PA X (e :: es) t)
    (hdb : (x == ("__debug__" : Str)) = false := by decide) (hcd : (x == ("__classdict__" : Str)) = false := by decide) (he : starEach (e :: es) X.env = (false, eval e X.env) :: starEach es X.env := by rfl) (hpl : (backTo pos (starEach es X.env)).any (·.1) = false := by rfl) :
    PE X (.Call (.Name x q) (e :: es) [] pos) (tMakeV i C sp dvs E t) := by
  refine ⟨fun pins s σ H Q I ⟨hs, h⟩ => ?_⟩
  refine wpAny_Call_Name_kw (thn ((pe_var (pos := q) (i := i) hN hv hdb hcd).run pins s σ H (fun v H1 => v = .ref C ∧ H1 = H) I ⟨.ref C, hs, rfl, rfl⟩) fun u s1 ⟨v, H1, I1, r1, ev, eH⟩ => ?_)
  subst ev eH
  cases r1
  exact PySem.W.callWith_K (h₀ := X.base) I1.ok.mod.kin M.kp (thn (ha.run pos pins s1 σ _ _ I1 h) fun us s2 ⟨vs, H2, I2, r, q⟩ => ⟨I2.kIn, run_make M F hr hb hd hx I2 r q⟩) he hpl
/-- C.m(), m a classmethod -/
def tCMeth0 (C : Addr) (sp : Sp) (E : XK) (ta : TE) : TE := fun σ H Q => ta σ H fun x H1 => x = .ref C ∧ sp [.ref C] H1 Q E
theorem pe_cmeth0 (he : PE X o ta) (r : ClX.CRead X.K C mc) (c : ClX.CMet X.K C mc m p g) (F : FnR X.prog X.w X.K X.mg X.base CX k g sp) (hr : Room k X.A) (hx : Passes CX X E)
    (ht : eval (.Call (.Attribute o m apos) [] [] pos) X.env = (do
      let ov ← eval o X.env
      standAt apos.atName
      let (f, first) ← holding [ov] (getMethod ov m pl)
      callWith pos f first (backTo pos (starEach [] X.env)) (backToKw pos (keywordEach [] X.env))) := by rfl) :
    PE X (.Call (.Attribute o m apos) [] [] pos) (tCMeth0 C sp E ta) := by
  refine ⟨fun pins s σ H Q I h => ?_⟩
  refine PySem.W.methodCall_KW (pl := pl) (thn (he.run pins s σ H _ I h) fun u s1 ⟨x, H1, I1, rx, ex, q⟩ => ?_) ht
  subst ex
  obtain rfl : u = Value.ref C := rx
  refine ClX.getmethcm_ok I1 r c fun s2 I2 => ?_
  exact PySem.W.callWith_M0 ⟨ClX.pin_at I2, I2.kIn⟩ c.fi (ClX.run_cm (us := []) (vs := []) F hr hx I2 .nil q)
end
section
variable {K : PySem.W.Frag} {σ : L2.St} {H : Hp} {Q : VK} {i : Nat} {C : Addr} {sp : Sp} {dvs : List V} {E : XK} {t : TA} {ta : TE}
theorem r_makeV (e : σ[i]? = some (some (.ref C))) (h : tMake C sp dvs E t σ H Q) : tMakeV i C sp dvs E t σ H Q := ⟨e, h⟩
theorem r_cmeth (h : ta σ H fun x H1 => x = .ref C ∧ t σ H1 fun vs H2 => sp (.ref C :: vs) H2 Q E) : ClX.tCMeth C sp E ta t σ H Q := h
theorem r_cmeth0 (h : ta σ H fun x H1 => x = .ref C ∧ sp [.ref C] H1 Q E) : tCMeth0 C sp E ta σ H Q := h
theorem r_eqAnd {P : Prop} {x : V} (h : P) : x = x ∧ P := ⟨rfl, h⟩
/-- sep.join(a list of texts) -/
def jnR (K : PySem.W.Frag) (x : V) (xs : List V) (H : Hp) (Q : VK) : Prop := ∃ a p, ∃ ys : List Str, x = .str a ∧ xs = [.ref p] ∧ (SqL K H p (ys.map V.str) ∨ SqT K H p (ys.map V.str)) ∧ (ys.map (·.length)).sum + ys.length * a.length ≤ 16777216 ∧ Q (.str (Txt.join a ys)) H
end
end Z
local macro_rules | `(tactic| walk_at "call") => `(tactic| first
  | ((with_reducible refine' Z.r_makeV ?e ?_); (case e => exact rfl))
  | with_reducible refine Z.r_cmeth ?_
  | with_reducible refine Z.r_cmeth0 ?_
  | with_reducible refine Z.r_eqAnd ?_)

local macro_rules | `(tactic| walk_at "call") => `(tactic| first
  | with_reducible refine Z.r_xst ?_
  | with_reducible refine Z.r_xv ?_
  | with_reducible refine Z.r_exv ?_)
/-- the promise of an __init__ that stores its one argument -/
def sp_ex (C : Addr) (fl : Str) : Sp := fun vs H Q _ => ∃ a y, vs = [.ref a, y] ∧ H a = some (exo a C none) ∧ ∀ dx H1, H dx = none → Z.But a H H1 → H1 a = some (exo a C (some dx)) → H1 dx = some (exd dx [(fl, y)]) → Q .non H1
theorem k_ex {C : Addr} {fl : Str} {y : V} {H : Hp} {Q : VK} (h : ∀ a d H1, H a = none → H d = none → Same H H1 → H1 a = some (exo a C (some d)) → H1 d = some (exd d [(fl, y)]) → Q (.ref a) H1) : Z.exI C (sp_ex C fl) [y] H Q := by
  refine ⟨Nat.le_of_ble_eq_true rfl, fun a na => ⟨a, y, rfl, upd_same, fun dx H1 n b h1 h2 => ⟨rfl, ?_⟩⟩⟩
  have ne : dx ≠ a := fun e => by
    rw [e, upd_same] at n; cases n
  rw [upd_ne ne] at n
  exact h a dx H1 na n (Z.But.back (Z.same_upd na) na b) h1 h2
theorem k_exR {C : Addr} {fl : Str} {y : V} {H : Hp} {M : XK} (h : ∀ d H', H d = none → Same H H' → H' d = some (.xd [(fl, y)]) → M (.ref C) (some d) H') : ([y] : List V).length ≤ 1000 ∧ ∀ a, H a = none → sp_ex C fl (.ref a :: [y]) (L2.upd H a (exo a C none))
    (fun v H2 => v = .non ∧ ∃ (d : Addr) (fs : List (Str × V)), H2 a = some (exo a C (some d)) ∧ H2 d = some (exd d fs) ∧ H d = none ∧ M (.ref C) (some d) (L2.upd (L2.del H2 a) d (.xd fs))) E0 := by
  refine ⟨Nat.le_of_ble_eq_true rfl, fun a na => ⟨a, y, rfl, upd_same, fun dx H1 n b h1 h2 => ⟨rfl, dx, _, h1, h2, ?_⟩⟩⟩
  have ne : dx ≠ a := fun e => by
    rw [e, upd_same] at n; cases n
  rw [upd_ne ne] at n
  refine ⟨n, h dx _ n (fun c o q => ?_) upd_same⟩
  rw [upd_ne (ne_of_none q n), L2.del_ne (ne_of_none q na)]
  exact b c o (ne_of_none q na) (by rw [upd_ne (ne_of_none q na)]; exact q)

namespace Z
open PySem PySem.Spec PyProof.Rows L2
/-! such exceptions raised, caught, looked at -/
theorem passAt0 {X : Cx} {E : L2.St → XK} (σ : L2.St) : PassesAt CX0 X σ (E σ) := fun _ _ _ _ _ _ h => h.elim
/-- C(e, ..) behind raise -/
def tMkX (C : Addr) (sp : Sp) (t : TA) : L2.St → Hp → XK → Prop := fun σ H Q => t σ H fun vs H1 => vs.length ≤ 1000 ∧ ∀ a, H1 a = none → sp (.ref a :: vs) (L2.upd H1 a (exo a C none))
  (fun v H2 => v = .non ∧ ∃ (d : Addr) (fs : List (Str × V)), H2 a = some (exo a C (some d)) ∧ H2 d = some (exd d fs) ∧ H1 d = none ∧ Q (.ref C) (some d) (L2.upd (L2.del H2 a) d (.xd fs))) E0
section
variable {X : Cx} {e : Expr} {es : List Expr} {ta : TA} {x : Str} {p pos : Pos} {k : Nat} {C f : Addr} {fd : FuncData} {ps : List Str} {sp : Sp}
theorem pmk_exf (T : ExF X.K C f) (F : FnOk X.prog X.w X.K X.mg X.base CX0 k f fd ps sp) (hr : Room (k + 1) X.A) (hg : Gl X x) (hm : X.mg x = some (.ref C)) (hb : Binds X.K fd ps []) (ha : PA X (e :: es) ta)
    (hdb : (x == ("__debug__" : Str)) = false := by decide) (he : starEach (e :: es) X.env = (false, eval e X.env) :: starEach es X.env := by rfl) (hpl : (backTo pos (starEach es X.env)).any (·.1) = false := by rfl) :
    PMk X (.Call (.Name x p) (e :: es) [] pos) (tMkX C sp ta) := by
  intro pins s σ H Q I h
  refine wpAny_Call_Name_kw (ld_glob I hg hm ?_ hdb)
  refine PySem.W.callWith_K (h₀ := X.base) I.ok.mod.kin T.kp (thn (ha.run pos pins s σ H _ I h) fun us s1 z => ?_) he hpl
  obtain ⟨vs, H1, I1, r1, hz, q1⟩ := z
  refine ⟨I1.kIn, ?_⟩
  obtain ⟨B, newId, initId, bmB, FB, hin⟩ := T.mk_
  obtain ⟨nm, N, qn, bs, bm, hdct, sn, sub, ab, col, dd, k0, k1, k2, k3, k5, hC, hT⟩ := PySem.W.excInit_of I1.kIn hin
  show wpAny _ _ (call (.ref C) us) _ _ _
  obtain ⟨hp, g, dr, tk, os⟩ := s1
  have up : hp.objs.size ≤ hp.objs.size + 1 := Nat.le_succ _
  have hq := q1 (hp.objs.size + 1) (I1.hok.fresh up)
  have keep : ∀ b o, hp.get? b = some o → ((hp.push (PySem.W.kdv_tup us)).push (PySem.HandSPX.excO C hp.objs.size)).get? b = some o := fun b o z => Heap.get?_push_of_some _ (Heap.get?_push_of_some _ z)
  have there : ((hp.push (PySem.W.kdv_tup us)).push (PySem.HandSPX.excO C hp.objs.size)).get? (hp.objs.size + 1) = some (PySem.HandSPX.excO C hp.objs.size) := by heap_get
  have I2 : Inv X pins σ (L2.upd H1 (hp.objs.size + 1) (exo (hp.objs.size + 1) C none)) ⟨(hp.push (PySem.W.kdv_tup us)).push (PySem.HandSPX.excO C hp.objs.size), g, dr, tk, os⟩ := I1.laid (t' := tk) keep up (exo_ok there)
  have r2 : Vals (V.ref (hp.objs.size + 1) :: vs) (Value.ref (hp.objs.size + 1) :: us) := .cons rfl r1
  have lus : us.length ≤ sizeLine := by
    rw [← Paired.length r1, sizeLine_eq]; omega
  have lps : (Value.ref (hp.objs.size + 1) :: us ++ []).length = ps.length := by
    have z := r2.length
    rw [F.len _ _ _ _ hq] at z
    rw [List.append_nil]; exact z.symm
  refine wpAny_call (PySem.HandSPX.call_own FB hT hC (PySem.W.looks_findIn I1.kIn T.ini) (fun self => PySem.W.bind_fn I1.kIn self (beq_iff_eq.mp T.fn)) lus
    (codeAny_mono (F.run _ X.stack _ _ ⟨Value.ref (hp.objs.size + 1) :: us, []⟩ (Value.ref (hp.objs.size + 1) :: us) _ _ E0 (hr.make C us []) (I2.env0.make C us []) (by
      have z := hb _ (Value.ref (hp.objs.size + 1) :: us) I2.kIn lps
      rw [List.append_nil] at z
      exact z) r2 hq) fun r s' z => ?_))
  cases r with
  | error x => exact z.elim
  | ok fl =>
    cases fl with
    | next => exact False.elim z
    | brk => exact False.elim z
    | cont => exact False.elim z
    | ret u =>
      obtain ⟨v, H2, os2, bare2, un2, hok2, rv, ev, d, fs, ea, ed, hd1, q2⟩ := z
      subst ev
      obtain ⟨h2, g2, d2, t2, os'⟩ := s'
      exact ⟨rv, L2.mk_end (raises_own T.sb T.ty) I1 up keep un2 hok2 os2 bare2 ea ed hd1 q2⟩
end
section
variable {X : Cx} {CX' : CXT} {pins : List (Addr × Obj)} {σ : L2.St} {H : Hp} {s : Shared} {k : Nat} {f : Addr} {fd : FuncData} {ps : List Str} {sp : Sp} {Q : VK} {us : List Value} {vs : List V} {E : XK}
/-- a def asked from within a built-in, which may let exceptions out -/
theorem run_belowX {A : Around} (sb : Sub X k A) (F : FnOk X.prog X.w X.K X.mg X.base CX' k f fd ps sp) (hb : Binds X.K fd ps []) (hx : PassesAt CX' X σ E) (I : Inv X pins σ H s) (r : Vals vs us) (h : sp vs H Q E) :
    wpAny (model X.prog X.w) A (call (.ref f) us) (EP X pins σ Q) X.xe s := by
  have e0 : Env0 X.prog X.w X.K X.mg X.base A X.stack s H := by
    have e := I.env0
    exact ⟨by rw [sb.fr]; exact e.frames, e.mod, e.bs, e.bsz, e.funs, e.frf, e.hok, e.bare⟩
  have hl : us.length = ps.length := by rw [← r.length]; exact F.len _ _ _ _ h
  refine wpAny_call (codeAny_mono (F.run A X.stack s H ⟨us, []⟩ us vs Q E sb.room e0 (by simpa using hb s us I.kIn (by simpa using hl)) r h) fun r s' z => ?_)
  cases r with
  | error e => exact hx pins H s e s' I z
  | ok fl =>
    cases fl with
    | ret u => exact I.after z
    | next => exact False.elim z
    | brk => exact False.elim z
    | cont => exact False.elim z
end
section
variable {X : Cx} {CX' : CXT} {k : Nat} {C f : Addr} {fd : FuncData} {ps : List Str} {sp : Sp} {a b : Expr} {ta tb : TE} {pos : Pos} {E : L2.St → XK}
/-- o[i] by an own __getitem__ that may raise -/
def tIxX (C : Addr) (sp : Sp) (E : L2.St → XK) (ta tb : TE) : TE := fun σ H Q => ta σ H fun x H1 => tb σ H1 fun y H2 => ∃ a dx fs, x = .ref a ∧ H2 a = some (.ins C dx fs) ∧ sp ([x, y] ++ []) H2 Q (E σ)
theorem pe_ixX (M : Meth X.K C "__getitem__" f) (hfn : PySem.W.fnIn X.K f = true) (F : FnOk X.prog X.w X.K X.mg X.base CX' k f fd ps sp) (hr : Room (k + 1) X.A) (hb : Binds X.K fd ps []) (hx : ∀ σ, PassesAt CX' X σ (E σ)) (ha : PE X a ta) (hb' : PE X b tb)
    (hs : ∀ x i, subscripted b true (.ref x) i = runValue (.builtin "lifetime.subscript" ⟨[.ref x, i], []⟩) := by intro _ _; with_unfolding_all rfl) : PE X (.Subscript a b pos) (tIxX C sp E ta tb) := by
  refine ⟨fun pins s σ H Q I h => ?_⟩
  refine Subscript_ (binT ha hb' I h fun v u s2 x y H2 I2 rx ry q => ?_)
  obtain ⟨c, dx, fs, rfl, hc, q⟩ := q
  cases (show v = Value.ref c from rx)
  obtain ⟨mA, O, _⟩ := ins_get I2.hok hc
  obtain ⟨od, J, _⟩ := O.look
  obtain ⟨m, hF⟩ := I2.fr
  refine PySem.W.sub_K hF I2.ok.mod.kin J M.at_ hfn M.fn ?_ (hs c u)
  exact run_belowX (us := [.ref c, u]) (vs := [.ref c, y]) (A := X.A.in1) ⟨hr.in1, rfl⟩ F hb (hx σ) I2 (.cons rfl (.cons ry .nil)) q
def tAddX (C : Addr) (sp : Sp) (E : L2.St → XK) (ta tb : TE) : TE := fun σ H Q => ta σ H fun x H1 => tb σ H1 fun y H2 => ∃ a dx fs b dy gs, x = .ref a ∧ H2 a = some (.ins C dx fs) ∧ y = .ref b ∧ H2 b = some (.ins C dy gs) ∧
  sp ([x, y] ++ []) H2 (fun v H' => (∃ p, v = .ref p) ∧ Q v H') (E σ)
theorem pe_addX (B : AddF X.K C f) (F : FnOk X.prog X.w X.K X.mg X.base CX' k f fd ps sp) (hr : Room k X.A) (hb : Binds X.K fd ps []) (hx : ∀ σ, PassesAt CX' X σ (E σ)) (ha : PE X a ta) (hb' : PE X b tb) : PE X (.BinOp a .Add b pos) (tAddX C sp E ta tb) := by
  refine ⟨fun pins s σ H Q I h => ?_⟩
  refine wpAny_BinOp (binT ha hb' I h fun v u s2 x y H2 I2 rx ry q => ?_)
  obtain ⟨c, dx, fs, d, dy, gs, rfl, hc, rfl, hd, q⟩ := q
  cases (show v = Value.ref c from rx)
  cases (show u = Value.ref d from ry)
  obtain ⟨mA, O, _⟩ := ins_get I2.hok hc
  obtain ⟨od, J, _⟩ := O.look
  obtain ⟨mB, O', _⟩ := ins_get I2.hok hd
  obtain ⟨od', J', _⟩ := O'.look
  refine bin_of1 (op := .Add) (bin1_same I2.kIn J J' B.sf B.at_ B.fn (wpAny_mono (run_belowX (us := [.ref c, .ref d]) (vs := [.ref c, .ref d]) (A := X.A) ⟨hr, rfl⟩ F hb (hx σ) I2 (.cons rfl (.cons rfl .nil)) q) (fun w s' z => ?_) fun _ _ x => x))
  obtain ⟨z', H', I', rz, ⟨p, rfl⟩, qz⟩ := z
  exact SlX.cmpback rz ⟨_, H', I', rz, qz⟩
end
/-- isinstance(e, c), e caught, an exception with its dict -/
def rIsC (K : PySem.W.Frag) (a : Addr) (cls : Value) (d : Option Addr) : List V → Hp → VK → Prop := fun xs H Q => ∃ (C f dd : Addr) (fs : List (Str × V)) (c : V) (u : Value) (b : Bool), xs = [.ref a, c] ∧ cls = .ref C ∧ d = some dd ∧ ExF K C f ∧ H dd = some (.xd fs) ∧ ClsV c u ∧ PySem.W.kitOne K cls u = some b ∧ Q (.bl b) H
def rIsCT (K : PySem.W.Frag) (a : Addr) (cls : Value) (d : Option Addr) : List V → Hp → VK → Prop := fun xs H Q => ∃ (C f dd tp : Addr) (fs : List (Str × V)) (cs : List V) (us : List Value) (b : Bool), xs = [.ref a, .ref tp] ∧ cls = .ref C ∧ d = some dd ∧ ExF K C f ∧ H dd = some (.xd fs) ∧ H tp = some (.tup cs) ∧ Paired ClsV cs us ∧
  PySem.W.kitAny K cls us = some b ∧ Q (.bl b) H
section
variable {X : Cx} {K : PySem.W.Frag} {a : Addr} {oe : Obj} {cls : Value} {d : Option Addr} {pn : List (Addr × Obj)}
theorem caught_at {C : Addr} {dd : Addr} {fs : List (Str × V)} {pins : List (Addr × Obj)} {σ : L2.St} {H : Hp} {s : Shared} (hz : Zc cls d oe) (hf : ∃ vs, oe.data = .fields vs) (I : Inv (X.suite a ((a, oe) :: pn)) pins σ H s) (ec : cls = .ref C) (ed : d = some dd) (hd : H dd = some (.xd fs)) :
    ∃ od, PySem.W.InstAt s.heap a oe C (some od) := by
  subst ec ed
  obtain ⟨ha, _⟩ := I.pin (a, oe) (List.mem_append_left _ List.mem_cons_self)
  obtain ⟨vs, hv⟩ := hf
  have hx : ObjOk X.prog X.w H s.heap dd (.xd fs) := I.hok dd _ hd
  obtain ⟨mA, hns, hr⟩ := hx
  obtain ⟨od, ho, hl⟩ := lookIn_ns hns
  exact ⟨od, ha, hz.1, by unfold PySem.W.notCls; rw [hv] <;> rfl, by rw [hz.2]; exact ho⟩
theorem kitx {C f : Addr} (T : ExF K C f) {x : Addr} {ox : Obj} {od : Option Obj} : PySem.W.KitX K (.ref x) (.ref C) (fun h => PySem.W.InstAt h x ox C od) :=
  PySem.W.kitx_exc (by obtain ⟨cd, z, _⟩ := PySem.W.any_some T.hd; rw [z]; rfl) T.ga T.gt T.sb T.ca T.cn T.ct T.cm
theorem c_isC (eK : X.K = K) (hz : Zc cls d oe) (hf : ∃ vs, oe.data = .fields vs) : CallR (X.suite a ((a, oe) :: pn)) (.builtin "isinstance") (rIsC K a cls d) := by
  subst eK
  intro pins s σ H xs us Q I r h
  obtain ⟨C, f, dd, fs, c, u, b, rfl, rfl, ed, T, hd, k, ek, q⟩ := h
  obtain ⟨u1, u2, rfl, r1, r2⟩ := vals2 r
  cases (show u1 = Value.ref a from r1)
  have e2 := k.eq r2
  subst e2
  obtain ⟨od, J⟩ := caught_at hz hf I rfl ed hd
  exact PySem.W.kia_one (kitx T) I.kIn J ek (fun z => nomatch z) fun tk => ⟨.bl b, H, I.kept (t' := tk) fun _ _ z => z, rfl, q⟩
end
section
variable {K : PySem.W.Frag} {σ : L2.St} {H : Hp} {Q : VK} {ta tb te : TE} {t : TA} {sp : Sp} {C : Addr} {E : L2.St → XK} {x y : V} {a d : Addr} {dx : Addr} {fs : List (Str × V)}
theorem exm_self {f : Addr} (T : ExF K C f) : PySem.W.exmOne K (.ref C) (.ref C) = some true := PySem.W.exm_ref T.sb T.hd T.ty T.ss
theorem r_mkX {M : XK} (h : t σ H fun vs H1 => vs.length ≤ 1000 ∧ ∀ a, H1 a = none → sp (.ref a :: vs) (L2.upd H1 a (exo a C none))
  (fun v H2 => v = .non ∧ ∃ (d : Addr) (fs : List (Str × V)), H2 a = some (exo a C (some d)) ∧ H2 d = some (exd d fs) ∧ H1 d = none ∧ M (.ref C) (some d) (L2.upd (L2.del H2 a) d (.xd fs))) E0) : tMkX C sp t σ H M := h
theorem r_ixX (h : ta σ H fun x H1 => tb σ H1 fun y H2 => ∃ a dx fs, x = .ref a ∧ H2 a = some (.ins C dx fs) ∧ sp ([x, y] ++ []) H2 Q (E σ)) : tIxX C sp E ta tb σ H Q := h
theorem r_addX (h : ta σ H fun x H1 => tb σ H1 fun y H2 => ∃ a dx fs b dy gs, x = .ref a ∧ H2 a = some (.ins C dx fs) ∧ y = .ref b ∧ H2 b = some (.ins C dy gs) ∧ sp ([x, y] ++ []) H2 (fun v H' => (∃ p, v = .ref p) ∧ Q v H') (E σ)) : tAddX C sp E ta tb σ H Q := h
end
end Z

namespace Z
open PySem PySem.Spec PyProof.Rows L2
section
variable {X : Cx} {K : PySem.W.Frag} {a : Addr} {oe : Obj} {cls : Value} {d : Option Addr} {pn : List (Addr × Obj)}
theorem c_isCT (eK : X.K = K) (hz : Zc cls d oe) (hf : ∃ vs, oe.data = .fields vs) : CallR (X.suite a ((a, oe) :: pn)) (.builtin "isinstance") (rIsCT K a cls d) := by
  subst eK
  intro pins s σ H xs us Q I r h
  obtain ⟨C, f, dd, tp, fs, cs, ws, b, rfl, rfl, ed, T, hd, hT, k, ek, q⟩ := h
  obtain ⟨u1, u2, rfl, r1, r2⟩ := vals2 r
  cases (show u1 = Value.ref a from r1)
  cases (show u2 = Value.ref tp from r2)
  obtain ⟨_, its, rv, o, h1, h2, n, h3⟩ := (show ObjOk X.prog X.w H s.heap tp (.tup cs) from I.hok tp _ hT)
  have e3 := ClsV.all k rv
  subst e3
  obtain ⟨oc, od', dt, sl⟩ := o
  simp only at h2 h3
  subst h2 h3
  obtain ⟨od, J⟩ := caught_at hz hf I rfl ed hd
  exact PySem.W.kia_tup (kitx T) I.kIn J h1 ek (fun z => nomatch z) fun tk => ⟨.bl b, H, I.tok tk, rfl, q⟩
/-- xs != [] -/
def rNeNil (K : PySem.W.Frag) : R2 := fun x y H Q => rNeD K x y H Q ∨ ∃ p q xs, x = .ref p ∧ H p = some (.lst xs) ∧ xs ≠ [] ∧ y = .ref q ∧ H q = some (.lst []) ∧ Q (.bl true) H
theorem o_neNil (hu : X.A.units < cLine) (h0 : OpR X (compareOp .NotEq) (rNeD X.K)) : OpR X (compareOp .NotEq) (rNeNil X.K) := by
  intro pins s σ H x y v u Q I rx ry h
  rcases h with h | ⟨p, q, xs, rfl, hp, hx, rfl, hq, qq⟩
  · exact h0 pins s σ H x y v u Q I rx ry h
  · cases (show v = Value.ref p from rx)
    cases (show u = Value.ref q from ry)
    obtain ⟨its, r, pl, _⟩ := I.list (SqL.of hp)
    obtain ⟨its2, r2, pl2, _⟩ := I.list (SqL.of hq)
    have l1 := r.length
    have l2 := r2.length
    refine (PySem.SeqAt.RcNeAt.lists_lengths pl.isList pl2.isList ?_ hu) X.prog X.w X.xe _ ⟨.bl true, H, I, rfl, qq⟩
    have : xs.length ≠ 0 := fun e => hx (List.eq_nil_of_length_eq_zero e)
    simp only [List.length_nil] at l2
    rw [List.size_toArray, List.size_toArray, ← l1, ← l2]
    simpa using this
end
def xfcR (a : Addr) (cls : Value) (d : Option Addr) (C : Addr) (f : Str) (Q : VK) : VK := fun x H1 => x = .ref a ∧ cls = .ref C ∧ ∃ (dd : Addr) (fs : List (Str × V)) (v : V), d = some dd ∧ H1 dd = some (.xd fs) ∧ fs.lookup f = some v ∧ Q v H1
section
variable {K : PySem.W.Frag} {σ : L2.St} {H : Hp} {Q : VK} {te : TE} {a C dd f : Addr} {cls : Value} {d : Option Addr} {n : Str} {v : V} {fs : List (Str × V)}
theorem r_xfc (h : te σ H (xfcR a cls d C n Q)) : tXf a cls d C n te σ H Q := h
theorem r_xfV (e : H dd = some (.xd [(n, v)])) (q : Q v H) : xfcR a (.ref C) (some dd) C n Q (.ref a) H := ⟨rfl, rfl, dd, _, v, rfl, e, look1, q⟩
theorem r_isC {c : V} {u : Value} {b : Bool} (k : ClsV c u) (T : ExF K C f) (e : H dd = some (.xd fs)) (ek : PySem.W.kitOne K (.ref C) u = some b) (q : Q (.bl b) H) : rIsC K a (.ref C) (some dd) [.ref a, c] H Q := ⟨C, f, dd, fs, c, u, b, rfl, rfl, rfl, T, e, k, ek, q⟩
theorem r_isCT {tp : Addr} {cs : List V} {us : List Value} {b : Bool} (T : ExF K C f) (e : H dd = some (.xd fs)) (et : H tp = some (.tup cs)) (k : Paired ClsV cs us) (ek : PySem.W.kitAny K (.ref C) us = some b) (q : Q (.bl b) H) : rIsCT K a (.ref C) (some dd) [.ref a, .ref tp] H Q := ⟨C, f, dd, tp, fs, cs, us, b, rfl, rfl, rfl, T, e, et, k, ek, q⟩
theorem kit_none2 {t c1 c2 : Value} (h1 : PySem.W.kitOne K t c1 = some false) (h2 : PySem.W.kitOne K t c2 = some false) : PySem.W.kitAny K t [c1, c2] = some false := by
  simp only [PySem.W.kitAny, h1, h2]
end
end Z
local macro_rules | `(tactic| walk_at "call") => `(tactic| first
  | with_reducible refine Z.r_xfc ?_
  | ((with_reducible refine' Z.r_xfV ?e ?_); (case e => walk_at "hp")))

namespace Z
open PySem PySem.Spec PyProof.Rows L2
section
variable {X : Cx} {C f : Addr} {fd : FuncData} {k : Nat} {ps : List Str} {sp : Sp}
/-- x in o, o an instance -/
def rInI (C : Addr) (sp : Sp) : R2 := fun x y H Q => ∃ a dx fs, y = .ref a ∧ H a = some (.ins C dx fs) ∧ sp ([y, x] ++ []) H (fun v H' => ∃ c, v = .bl c ∧ Q (.bl c) H') E0
theorem o_inI (M : Meth X.K C "__contains__" f) (F : FnOk X.prog X.w X.K X.mg X.base CX0 k f fd ps sp) (hr : Room k X.A) (hb : Binds X.K fd ps []) : OpR X (compareOp .In) (rInI C sp) := by
  intro pins s σ H x y v u Q I rx ry h
  obtain ⟨a, dx, fs, rfl, ha, q⟩ := h
  cases (show u = Value.ref a from ry)
  obtain ⟨mA, O, _⟩ := ins_get I.hok ha
  obtain ⟨od, J, _⟩ := O.look
  obtain ⟨m, hF⟩ := I.fr
  refine PySem.W.in_K hF I.ok.mod.kin J M.at_ M.fn (wpAny_mono (run_fn (us := [.ref a, v]) (vs := [.ref a, x]) F hr hb .nil pass0 I (.cons rfl (.cons rx .nil)) q) (fun w s' z => ?_) fun _ _ x => x)
  obtain ⟨z', H', I', rz, c, rfl, qz⟩ := z
  cases (show w = Value.bool c from rz)
  exact wpAny_truthy_bool ⟨.bl c, H', I', rfl, qz⟩
theorem r_inI {a dx : Addr} {fs : List (Str × V)} {x : V} {H : Hp} {Q : VK} (e : H a = some (.ins C dx fs)) (h : sp ([.ref a, x] ++ []) H (fun v H' => ∃ c, v = .bl c ∧ Q (.bl c) H') E0) : rInI C sp x (.ref a) H Q := ⟨a, dx, fs, rfl, e, h⟩
end
end Z
local macro_rules | `(tactic| walk_at "call") => `(tactic| first
  | with_reducible refine Z.r_mkX ?_
  | with_reducible refine Z.r_ixX ?_
  | with_reducible refine Z.r_addX ?_)
namespace Z
open PySem PySem.Spec PyProof.Rows L2
/-! calls within a try suite that may let exceptions out: C(..) of an own class, C.m(..) of a classmethod -/
section
variable {X : Cx} {CX' : CXT} {k : Nat} {C f g p : Addr} {mc : Value} {fd : FuncData} {ps : List Str} {sp : Sp} {x m : Str} {pp pos apos : Pos} {e o : Expr} {es : List Expr} {t : TA} {ta : TE} {E : L2.St → XK} {pl : Sem Bool}
theorem run_makeAt {pins : List (Addr × Obj)} {σ : L2.St} {H : Hp} {s : Shared} {Q : VK} {us : List Value} {vs : List V} (M : Mk X.K C f) (F : FnOk X.prog X.w X.K X.mg X.base CX' k f fd ps sp) (hr : Room (k + 1) X.A) (hb : Binds X.K fd ps [])
    (hx : PassesAt CX' X σ (E σ)) (I : Inv X pins σ H s) (r : Vals vs us)
    (h : ∀ x dx, H x = none → H dx = none → dx ≠ x → sp (.ref x :: vs) (L2.upd (L2.upd H dx (.own x)) x (.ins C dx [])) (fun v H2 => v = .non ∧ Q (.ref x) H2) (E σ)) :
    wpAny (model X.prog X.w) X.A (call (.ref C) us) (EP X pins σ Q) X.xe s := by
  have hq := h (s.heap.objs.size + 1) s.heap.objs.size (I.hok.fresh (Nat.le_succ _)) (I.hok.fresh (Nat.le_refl _)) (Nat.ne_of_lt (Nat.lt_succ_self _))
  have I2 := Inv.made (C := C) I
  have r2 : Vals (V.ref (s.heap.objs.size + 1) :: vs) (Value.ref (s.heap.objs.size + 1) :: us) := .cons rfl r
  have hl : (Value.ref (s.heap.objs.size + 1) :: us).length = ps.length := by
    have e := r2.length
    rw [F.len _ _ _ _ hq] at e
    exact e.symm
  refine wpAny_call (make_map (f := f) I.kIn M.makes M.init (beq_iff_eq.mp M.fn) (codeAny_mono (F.run _ X.stack _ _ ⟨Value.ref (s.heap.objs.size + 1) :: us, []⟩ (Value.ref (s.heap.objs.size + 1) :: us) _ _ (E σ) (hr.make C us [])
    (I2.env0.make C us []) (by
      have z := hb _ (Value.ref (s.heap.objs.size + 1) :: us) I2.kIn (by rw [List.append_nil]; exact hl)
      rw [List.append_nil] at z
      exact z) r2 hq) fun r s' hq' => ?_))
  cases r with
  | error e => exact hx pins _ _ e s' I2 hq'
  | ok fl =>
    cases fl with
    | ret u =>
      obtain ⟨v, H', I3, rv, ev, q3⟩ := I2.after hq'
      subst ev
      exact ⟨rv, ⟨V.ref (s.heap.objs.size + 1), H', I3, rfl, q3⟩⟩
    | next => exact False.elim hq'
    | brk => exact False.elim hq'
    | cont => exact False.elim hq'
def tMakeAt (C : Addr) (sp : Sp) (E : L2.St → XK) (t : TA) : TE := fun σ H Q => t σ H fun vs H1 => ∀ x dx, H1 x = none → H1 dx = none → dx ≠ x →
  sp (.ref x :: vs) (L2.upd (L2.upd H1 dx (.own x)) x (.ins C dx [])) (fun v H2 => v = .non ∧ Q (.ref x) H2) (E σ)
theorem pe_makeAt (M : Mk X.K C f) (F : FnOk X.prog X.w X.K X.mg X.base CX' k f fd ps sp) (hr : Room (k + 1) X.A) (hg : Gl X x) (hm : X.mg x = some (.ref C)) (hb : Binds X.K fd ps []) (hx : ∀ σ, PassesAt CX' X σ (E σ))
    (ha : PA X (e :: es) t) (hdb : (x == ("__debug__" : Str)) = false := by decide) (he : starEach (e :: es) X.env = (false, eval e X.env) :: starEach es X.env := by rfl) (hpl : (backTo pos (starEach es X.env)).any (·.1) = false := by rfl) :
    PE X (.Call (.Name x pp) (e :: es) [] pos) (tMakeAt C sp E t) := by
  refine ⟨fun pins s σ H Q I h => ?_⟩
  refine wpAny_Call_Name_kw (ld_glob I hg hm ?_ hdb)
  refine PySem.W.callWith_K (h₀ := X.base) I.ok.mod.kin M.kp (thn (ha.run pos pins s σ H _ I h) fun us s1 ⟨vs, H1, I1, r, q⟩ => ⟨I1.kIn, ?_⟩) he hpl
  exact run_makeAt M F hr hb (hx σ) I1 r q
theorem run_fnRAt {pins : List (Addr × Obj)} {σ : L2.St} {H : Hp} {s : Shared} {Q : VK} {us : List Value} {vs : List V} (F : FnR X.prog X.w X.K X.mg X.base CX' k f sp) (hr : Room k X.A) (hx : PassesAt CX' X σ (E σ)) (I : Inv X pins σ H s) (r : Vals vs us) (h : sp vs H Q (E σ)) :
    codeAny (model X.prog X.w) X.A (.call (.ref f) ⟨us, []⟩) (fun r s' => match r with | .ok (.ret v) => EP X pins σ Q v s' | .ok _ => False | .error e => X.xe e s') s := by
  refine codeAny_mono (F X.A X.stack s H us vs Q (E σ) hr I.env0 r h) fun r s' hq => ?_
  cases r with
  | error e => exact hx pins H s e s' I hq
  | ok fl =>
    cases fl with
    | ret u => exact I.after hq
    | next => exact False.elim hq
    | brk => exact False.elim hq
    | cont => exact False.elim hq
def tCMethAt (C : Addr) (sp : Sp) (E : L2.St → XK) (ta : TE) (t : TA) : TE := fun σ H Q => ta σ H fun x H1 => x = .ref C ∧ t σ H1 fun vs H2 => sp (.ref C :: vs) H2 Q (E σ)
theorem pe_cmethAt (he : PE X o ta) (r : ClX.CRead X.K C mc) (c : ClX.CMet X.K C mc m p g) (F : FnR X.prog X.w X.K X.mg X.base CX' k g sp) (hr : Room k X.A) (hx : ∀ σ, PassesAt CX' X σ (E σ)) (ha : PA X (e :: es) t)
    (hst : starEach (e :: es) X.env = (false, eval e X.env) :: starEach es X.env := by rfl) (hpl : (backTo pos (starEach es X.env)).any (·.1) = false := by rfl)
    (ht : eval (.Call (.Attribute o m apos) (e :: es) [] pos) X.env = (do
      let ov ← eval o X.env
      standAt apos.atName
      let (f, first) ← holding [ov] (getMethod ov m pl)
      callWith pos f first (backTo pos (starEach (e :: es) X.env)) (backToKw pos (keywordEach [] X.env))) := by rfl) :
    PE X (.Call (.Attribute o m apos) (e :: es) [] pos) (tCMethAt C sp E ta t) := by
  refine ⟨fun pins s σ H Q I h => ?_⟩
  refine PySem.W.methodCall_KW (pl := pl) (thn (he.run pins s σ H _ I h) fun u s1 ⟨x, H1, I1, rx, ex, q⟩ => ?_) ht
  subst ex
  obtain rfl : u = Value.ref C := rx
  refine ClX.getmethcm_ok I1 r c fun s2 I2 => ?_
  refine ClX.callwith_cm I2 (ClX.base_none I1 (Nat.le_refl _)) c.fi (thn (ha.run pos _ s2 σ H1 _ I2 q) fun us s3 ⟨vs, H2, I3, rv, q2⟩ => ⟨⟨ClX.pin_at I3, I3.kIn⟩, ?_⟩) hst hpl
  refine thn (wpAny_call (PySem.W.method_call (ClX.pin_at I3) (run_fnRAt (us := .ref C :: us) (vs := .ref C :: vs) F hr (hx σ) I3 (.cons rfl rv) q2))) fun _ _ y => ClX.unpinE y
end
section
variable {σ : L2.St} {H : Hp} {Q : VK} {C : Addr} {sp : Sp} {E : L2.St → XK} {t : TA} {ta : TE}
/-- what is asked of sp where C(vs) may raise -/
def mkIX (C : Addr) (sp : Sp) (E : XK) (vs : List V) (H1 : Hp) (Q : VK) : Prop := ∀ x dx, H1 x = none → H1 dx = none → dx ≠ x → sp (.ref x :: vs) (L2.upd (L2.upd H1 dx (.own x)) x (.ins C dx [])) (fun v H2 => v = .non ∧ Q (.ref x) H2) E
/-- caught by a base class -/
theorem exm_up {K : PySem.W.Frag} {C D f : Addr} (T : ExF K C f) (sb : PySem.W.subIn K (.ref D) (.type "BaseException") = some true) (k : PySem.W.kitOne K (.ref C) (.ref D) = some true) : PySem.W.exmOne K (.ref C) (.ref D) = some true := by
  unfold PySem.W.kitOne at k
  by_cases e : ((Value.ref C) == (Value.ref D)) = true
  · have e2 : Value.ref C = Value.ref D := by simpa using e
    rw [← e2]; exact exm_self T
  · rw [if_neg e] at k
    unfold PySem.W.exmOne
    rw [if_pos (by rw [sb]; rfl)]
    exact k
theorem kit_none3 {K : PySem.W.Frag} {t c1 c2 c3 : Value} (h1 : PySem.W.kitOne K t c1 = some false) (h2 : PySem.W.kitOne K t c2 = some false) (h3 : PySem.W.kitOne K t c3 = some false) : PySem.W.kitAny K t [c1, c2, c3] = some false := by
  simp only [PySem.W.kitAny, h1, h2, h3]
theorem mkIX_of {vs : List V} {E' : XK} (h : mkI C sp [] vs H Q E') : mkIX C sp E' vs H Q := fun x dx a b c => by
  have z := h x dx a b c
  rw [List.append_nil] at z
  exact z
theorem r_makeAt (h : t σ H fun vs H1 => mkIX C sp (E σ) vs H1 Q) : tMakeAt C sp E t σ H Q := h
theorem r_cmethAt (h : ta σ H fun x H1 => x = .ref C ∧ t σ H1 fun vs H2 => sp (.ref C :: vs) H2 Q (E σ)) : tCMethAt C sp E ta t σ H Q := h
end
end Z
local macro_rules | `(tactic| walk_at "call") => `(tactic| first
  | with_reducible refine Z.r_makeAt ?_
  | with_reducible refine Z.r_cmethAt ?_)

/-! the methods of a series -/
def SerAt (S : Addr) (H : Hp) (a : Addr) (gs : Ens) : Prop := ∃ dx t, H a = some (.ins S dx [("entries", .ref t)]) ∧ H t = some (.tup (gs.map (·.1)))
theorem SerAt.same {S a : Addr} {H H' : Hp} {gs : Ens} (s : Same H H') (h : SerAt S H a gs) : SerAt S H' a gs := by
  obtain ⟨dx, t, h1, h2⟩ := h
  exact ⟨dx, t, s _ _ h1, s _ _ h2⟩
/-- the entries as a series holds them -/
def held (es : Ens) : Ens := es.map fun e => (fstV es e.2, e.2)
theorem held_fst (es : Ens) : (held es).map (·.1) = es.map fun e => fstV es e.2 := by
  unfold held
  rw [List.map_map]; rfl
theorem held_len (es : Ens) : (held es).length = es.length := List.length_map _
theorem fst_rep {C : Addr} {H : Hp} {es : Ens} {e : V × Tag} (h : EnsOk C H es) (m : e ∈ es) : Rep C H (fstV es e.2) e.2 := by
  unfold fstV fst?
  cases q : es.find? fun x => decide (x.2 = e.2) with
  | none =>
    have := List.find?_eq_none.mp q _ m
    simp at this
  | some x =>
    have h1 : x.2 = e.2 := by simpa using List.find?_some q
    have h2 := (h x (List.mem_of_find?_eq_some q)).1
    rw [h1] at h2
    exact h2
theorem held_ok {C : Addr} {H : Hp} {es : Ens} (h : EnsOk C H es) : EnsOk C H (held es) := by
  intro e m
  obtain ⟨x, mx, rfl⟩ := List.mem_map.mp m
  exact ⟨fst_rep h mx, (h x mx).2⟩
def isNumT : Tag → Bool
  | .num _ => true
  | _ => false
def numsOf (gs : Ens) : List V := (gs.filter fun e => isNumT e.2).map (·.1)
def marksFrom (k : Nat) : Ens → List V
  | [] => []
  | e :: r => if isNumT e.2 = true then marksFrom (k + 1) r else .int k :: marksFrom (k + 1) r
theorem marks_snoc (k : Nat) (gs : Ens) (e : V × Tag) : marksFrom k (gs ++ [e]) = marksFrom k gs ++ (if isNumT e.2 = true then [] else [.int ((k + gs.length : Nat) : Int)]) := by
  induction gs generalizing k with
  | nil =>
    show (if isNumT e.2 = true then _ else _) = _
    cases isNumT e.2 <;> rfl
  | cons x r ih =>
    show (if isNumT x.2 = true then marksFrom (k + 1) (r ++ [e]) else .int k :: marksFrom (k + 1) (r ++ [e])) = (if isNumT x.2 = true then marksFrom (k + 1) r else .int k :: marksFrom (k + 1) r) ++ _
    rw [ih]
    have e1 : k + 1 + r.length = k + (x :: r).length := by show k + 1 + r.length = k + (r.length + 1); omega
    rw [e1]
    cases isNumT x.2 <;> rfl
theorem nums_snoc (gs : Ens) (e : V × Tag) : numsOf (gs ++ [e]) = numsOf gs ++ (if isNumT e.2 = true then [e.1] else []) := by
  unfold numsOf
  rw [List.filter_append, List.map_append]
  cases h : isNumT e.2 <;> simp [h]
theorem nums_len (gs : Ens) : (numsOf gs).length ≤ gs.length := by
  unfold numsOf
  rw [List.length_map]
  exact List.length_filter_le _ _
theorem marks_len (k : Nat) (gs : Ens) : (marksFrom k gs).length ≤ gs.length := by
  induction gs generalizing k with
  | nil => exact Nat.le_refl _
  | cons x r ih =>
    have := ih (k + 1)
    show (if isNumT x.2 = true then marksFrom (k + 1) r else .int k :: marksFrom (k + 1) r).length ≤ r.length + 1
    cases isNumT x.2 with
    | true => rw [if_pos rfl]; omega
    | false => rw [if_neg Bool.false_ne_true]; show (marksFrom (k + 1) r).length + 1 ≤ _; omega
theorem take_snoc {gs : Ens} {i : Nat} {e : V × Tag} (h : gs[i]? = some e) : gs.take (i + 1) = gs.take i ++ [e] := by
  rw [List.take_succ, h]; rfl
/-! the text of a series; of(..) -/
def textT : Tag → Str
  | .num i => toString i
  | .mark n => ("?" : Str) ++ n
  | .non => "None"
def tagB : Tag → Prop
  | .num i => i.natAbs < 10 ^ 300
  | .mark n => Word n
  | .non => False
theorem big_log {m : Int} (h : m.natAbs < 10 ^ 300) : m.natAbs.log2 < 1920 := by
  by_cases e : m.natAbs = 0
  · rw [e]; decide
  · rw [Nat.log2_lt e]
    exact Nat.lt_of_lt_of_le h (by decide +kernel)
theorem textT_len {t : Tag} (h : tagB t) : (textT t).length ≤ 310 := by
  cases t with
  | num i =>
    have e := int_text_length_le10 (a := i) (k := 300) (by decide) h
    show (Str.ofString (toString i)).length ≤ 310
    rw [PySem.ofString_length]
    omega
  | mark n =>
    show (("?" : Str) ++ n).length ≤ 310
    rw [Str.length_append]
    have h1 : ("?" : Str).length = 1 := rfl
    have h2 := h.2.1
    omega
  | non => exact h.elim
namespace Z
open PySem PySem.Spec PyProof.Rows L2
theorem sum_le {m : Nat} : ∀ (ys : List Str), (∀ y ∈ ys, y.length ≤ m) → (ys.map (·.length)).sum ≤ ys.length * m
  | [], _ => Nat.zero_le _
  | y :: ys, h => by
    have h1 := sum_le ys fun z hz => h z (List.mem_cons_of_mem _ hz)
    have h2 := h y List.mem_cons_self
    show y.length + (ys.map (·.length)).sum ≤ (ys.length + 1) * m
    rw [Nat.succ_mul]
    omega
section
variable {X : Cx} {C : Addr} {sp : Sp} {σ : L2.St} {H : Hp} {Q : VK} {to te : TE} {K : PySem.W.Frag}
/-- str of an int, or of an instance -/
def rStrM (C : Addr) (sp : Sp) : List V → Hp → VK → Prop := fun xs H Q => rStrI xs H Q ∨ rTxO C sp xs H Q
theorem c_strM (h : CallR X (.type "str") (rTxO C sp)) : CallR X (.type "str") (rStrM C sp) := fun pins s σ H xs us Q I r q => q.elim (fun q => c_strI pins s σ H xs us Q I r q) fun q => h pins s σ H xs us Q I r q
/-- list(a list or a tuple), a new one -/
def rListOf (K : PySem.W.Frag) : List V → Hp → VK → Prop := fun xs H Q => ∃ p ys, xs = [.ref p] ∧ (SqL K H p ys ∨ SqT K H p ys) ∧ ∀ l, H l = none → Q (.ref l) (L2.upd H l (.lst ys))
theorem c_listOf : CallR X (.type "list") (rListOf X.K) := call_list_of
theorem r_listL {p : Addr} {ys : List V} (e : H p = some (.lst ys)) (k : ∀ q H1, H q = none → Same H H1 → H1 q = some (.lst ys) → Q (.ref q) H1) : rListOf K [.ref p] H Q := ⟨p, ys, rfl, .inl (SqL.of e), fun l nl => k l _ nl (same_upd nl) upd_same⟩
theorem r_revL {l : Addr} {xs : List V} (e : H l = some (.lst xs)) (k : ∀ H1, But l H H1 → H1 l = some (.lst xs.reverse) → Q .non H1) : rReverse (.ref l) [] H Q := ⟨l, xs, rfl, rfl, e, k _ But.upd upd_same⟩
theorem r_m1 {r : V → List V → Hp → VK → Prop} (h : to σ H fun x H1 => (∃ a, x = .str a) ∧ te σ H1 fun y H2 => r x [y] H2 Q) : tM1 r to te σ H Q := h
theorem r_tYes {N : Bool → Hp → Prop} (h : N true H) : tYes σ H N := h
theorem r_strAnd {z : Str} {P : Prop} (h : P) : (∃ a, V.str z = .str a) ∧ P := ⟨⟨z, rfl⟩, h⟩
theorem r_join {a : Str} {p : Addr} {ys : List Str} (e : H p = some (.lst (ys.map V.str))) (l : (ys.map (·.length)).sum + ys.length * a.length ≤ 16777216) (h : Q (.str (Txt.join a ys)) H) : jnR K (.str a) [.ref p] H Q := ⟨a, p, ys, rfl, rfl, .inl (SqL.of e), l, h⟩
end
end Z
local macro_rules | `(tactic| walk_at "call") => `(tactic| first
  | with_reducible refine Z.r_m1 ?_
  | with_reducible refine Z.r_tYes ?_
  | with_reducible refine Z.r_strAnd ?_)
/-- the texts of entries, put together -/
def textOf (gs : Ens) : Str := Txt.join (" " : Str) (gs.map fun e => textT e.2)
def TagsB (gs : Ens) : Prop := ∀ e ∈ gs, tagB e.2
theorem texts_sum {gs : Ens} (h : TagsB gs) (n : gs.length ≤ 250) : ((gs.map fun e => textT e.2).map (·.length)).sum + (gs.map fun e => textT e.2).length * (" " : Str).length ≤ 80000 := by
  have e := Z.sum_le (m := 310) (gs.map fun e => textT e.2) (fun y hy => by
    obtain ⟨x, hx, rfl⟩ := List.mem_map.mp hy
    exact textT_len (h x hx))
  rw [List.length_map] at e ⊢
  have l1 : (" " : Str).length = 1 := rfl
  rw [l1]
  have := Nat.mul_le_mul_right 310 n
  omega
theorem textOf_len {gs : Ens} (h : TagsB gs) (n : gs.length ≤ 250) : (textOf gs).length ≤ 80000 := by
  unfold textOf
  rw [show Txt.join (" " : Str) (gs.map fun e => textT e.2) = Str.join (" " : Str) (gs.map fun e => textT e.2) from StrLaws.glued_eq_join _ _]
  exact Nat.le_trans (StrLaws.join_length_le _ _) (texts_sum h n)
def numsI (gs : Ens) : List Int := gs.filterMap fun e => match e.2 with
  | .num i => some i
  | _ => none
def marksI (k : Nat) : Ens → List Int
  | [] => []
  | e :: r => if isNumT e.2 = true then marksI (k + 1) r else (k : Int) :: marksI (k + 1) r
theorem marks_int (k : Nat) (gs : Ens) : marksFrom k gs = (marksI k gs).map V.int := by
  induction gs generalizing k with
  | nil => rfl
  | cons e r ih =>
    show (if isNumT e.2 = true then marksFrom (k + 1) r else .int k :: marksFrom (k + 1) r) = (if isNumT e.2 = true then marksI (k + 1) r else (k : Int) :: marksI (k + 1) r).map V.int
    rw [ih]
    cases isNumT e.2 <;> rfl
theorem nums_int {C : Addr} {H : Hp} : ∀ {gs : Ens}, EnsOk C H gs → numsOf gs = (numsI gs).map V.int
  | [], _ => rfl
  | ⟨x, t⟩ :: r, h => by
    have ih := nums_int (C := C) (H := H) (gs := r) fun e m => h e (List.mem_cons_of_mem _ m)
    have h1 := h ⟨x, t⟩ List.mem_cons_self
    unfold numsOf numsI at ih ⊢
    cases t with
    | num i =>
      have e : x = .int i := h1.1
      subst e
      show V.int i :: _ = V.int i :: _
      rw [ih]
    | mark n => exact ih
    | non => exact absurd rfl h1.2
theorem nums_held (gs es : Ens) : numsI (gs.map fun e => (fstV es e.2, e.2)) = numsI gs := by
  induction gs with
  | nil => rfl
  | cons e r ih =>
    obtain ⟨x, t⟩ := e
    unfold numsI at ih ⊢
    cases t with
    | num i => show i :: _ = i :: _; rw [ih]
    | mark n => exact ih
    | non => exact ih
theorem marks_held (gs es : Ens) (k : Nat) : marksI k (gs.map fun e => (fstV es e.2, e.2)) = marksI k gs := by
  induction gs generalizing k with
  | nil => rfl
  | cons e r ih =>
    show (if isNumT e.2 = true then marksI (k + 1) _ else (k : Int) :: marksI (k + 1) _) = (if isNumT e.2 = true then marksI (k + 1) r else (k : Int) :: marksI (k + 1) r)
    rw [ih]
theorem text_held (es : Ens) : textOf (held es) = textOf es := by
  unfold textOf held
  rw [List.map_map]
  rfl
theorem tags_held {es : Ens} (h : TagsB es) : TagsB (held es) := by
  intro e m
  obtain ⟨x, mx, rfl⟩ := List.mem_map.mp m
  exact h x mx
theorem numsI_len (gs : Ens) : (numsI gs).length ≤ gs.length := List.length_filterMap_le _ _
theorem marksI_len (k : Nat) (gs : Ens) : (marksI k gs).length ≤ gs.length := by
  have h := marks_len k gs
  rw [marks_int, List.length_map] at h
  exact h
namespace Z
open PySem PySem.Spec PyProof.Rows L2
theorem dp_ints {K : PySem.W.Frag} {H : Hp} (is : List Int) : DpAll K H (is.map V.int) (is.map PyData.int) := by
  induction is with
  | nil => exact .nil
  | cons b r ih => exact .cons (.int b) ih
theorem ints_can (is : List Int) : PyData.canLayAll0 (is.map PyData.int) = true := by
  induction is with
  | nil => rfl
  | cons b r ih => show (true && PyData.canLayAll0 (r.map PyData.int)) = true; rw [ih]; rfl
theorem ints_depth (is : List Int) : PyData.depthAll (is.map PyData.int) = 0 := by
  induction is with
  | nil => rfl
  | cons b r ih => show max 0 (PyData.depthAll (r.map PyData.int)) = 0; rw [ih]; rfl
theorem ints_shaped (is : List Int) : SeqAt.shaped (.list (is.map PyData.int)) = true := by
  show (PyData.canLayAll0 (is.map PyData.int) && decide (PyData.depthAll (is.map PyData.int) + 1 ≤ 64)) = true
  rw [ints_can, ints_depth]
  rfl
theorem ints_all (is : List Int) : PyData.eqvAll (is.map PyData.int) (is.map PyData.int) = true := by
  induction is with
  | nil => rfl
  | cons b r ih => show ((b == b) && PyData.eqvAll (r.map PyData.int) (r.map PyData.int)) = true; rw [ih, beq_self_eq_true]; rfl
theorem ints_eqv (is : List Int) : PyData.eqv (.list (is.map PyData.int)) (.list (is.map PyData.int)) = true := ints_all is
section
variable {K : PySem.W.Frag} {σ : L2.St} {H : Hp} {Q : VK} {A : TA} {te ta : TE} {tt : TT} {C : Addr} {m : Str} {sp : Sp} {E : XK}
theorem r_allBs {a : Addr} {bs : List Bool} (hs : SqL K H a (bs.map V.bl)) (h : Q (.bl (bs.all id)) H) : rAll K [.ref a] H Q := ⟨a, bs, rfl, hs, h⟩
/-- [e for i in range(j) if t] -/
def lcRF (j : Int) (k : Nat) (tt : TT) (te : TE) (vs : List Nat) (σ : L2.St) (H : Hp) (Q : VK) : Prop := -(2 ^ 62) ≤ j ∧ j < 2 ^ 62 ∧ ∀ D, H D = none → ∃ W : Nat → Nat → Hp → Prop, (∃ m, W 0 m (L2.upd H D (.lst []))) ∧ ∀ i m H, W i m H →
  ((Itr 0 j.toNat).stop i H ∧ Q (.ref D) H) ∨ ((Itr 0 j.toNat).go i H ∧ ∃ Nx : Hp → Prop, (∀ H', Nx H' → ∃ m', m' < m ∧ W (i + 1) m' H') ∧ ∀ x H', (Itr 0 j.toNat).yld i H x H' → gName k x (wipe σ vs) H' fun σ2 H2 => wipe σ2 vs = wipe σ vs ∧ tt σ2 H2 fun b H3 =>
    if b = true then te σ2 H3 fun y H4 => ∃ acc, H4 D = some (.lst acc) ∧ acc.length < sizeLine ∧ Nx (L2.upd H4 D (.lst (acc ++ [y]))) else Nx H3)
theorem r_lcRFng {k : Nat} {vs : List Nat} (h : A σ H fun ws H1 => ∃ j : Int, ws = [.int j] ∧ lcRF j k tt te vs σ H1 Q) : tLc (iRng1 A) (gName k) tt te vs σ H Q := h
theorem r_lcRF {J : Int} {k : Nat} {vs : List Nat} (h0 : 0 ≤ J) (h1 : J ≤ 100000) (hw : ∀ x, wipe ((wipe σ vs).set k (some x)) vs = wipe σ vs) (Pv : Addr → Nat → Hp → Prop)
    (hs : ∀ Dl H1, H Dl = none → Same H H1 → H1 Dl = some (.lst []) → Pv Dl 0 H1)
    (ht : ∀ Dl (i : Nat) H', H Dl = none → (i : Int) < J → Pv Dl i H' → tt ((wipe σ vs).set k (some (.int (i : Int)))) H' fun b H3 => if b = true then te ((wipe σ vs).set k (some (.int (i : Int)))) H3 (apR Dl (Pv Dl (i + 1))) else Pv Dl (i + 1) H3)
    (hd : ∀ Dl H', H Dl = none → Pv Dl J.toNat H' → Q (.ref Dl) H') : ∃ j' : Int, [V.int J] = [V.int j'] ∧ lcRF j' k tt te vs σ H Q := by
  refine ⟨J, rfl, by omega, by omega, fun Dl hD => ?_⟩
  refine lc_range (lo := 0) (n := J.toNat) (tt := tt) (Pv Dl) (hs Dl _ hD (same_upd hD) upd_same) (fun i H' hi p => ?_) (fun H' p => hd Dl H' hD p)
  have e : (0 : Int) + (i : Int) = (i : Int) := Int.zero_add _
  show wipe ((wipe σ vs).set k (some (.int ((0 : Int) + (i : Int))))) vs = wipe σ vs ∧ tt ((wipe σ vs).set k (some (.int ((0 : Int) + (i : Int))))) H' _
  rw [e]
  exact ⟨hw _, ht Dl i H' hD (by omega) p⟩
/-- o.m() -/
def mtR (C : Addr) (m : Str) (sp : Sp) (E : XK) (Q : VK) : VK := fun x H1 => ∃ a dx fs, x = .ref a ∧ H1 a = some (.ins C dx fs) ∧ fs.lookup m = none ∧ tNil σ H1 fun vs H2 => sp (x :: (vs ++ [])) H2 Q E
theorem r_meth0 (h : ta σ H (mtR (σ := σ) C m sp E Q)) : tMeth C m sp [] E ta tNil σ H Q := h
theorem r_mt0 {a dx : Addr} {fs : List (Str × V)} (e : H a = some (.ins C dx fs)) (l : fs.lookup m = none) (h : sp (.ref a :: ([] ++ [])) H Q E) : mtR (σ := σ) C m sp E Q (.ref a) H := ⟨a, dx, fs, rfl, e, l, h⟩
end
end Z
local macro_rules | `(tactic| walk_at "call") => `(tactic| first
  | with_reducible refine Z.r_lcRFng ?_
  | with_reducible refine Z.r_meth0 ?_)
/-! == of two series -/
namespace Z
open PySem PySem.Spec PyProof.Rows L2
section
variable {K : PySem.W.Frag} {σ : L2.St} {H : Hp} {Q : VK} {A : TA} {te : TE} {tt : TT}
/-- [e for x, y in zip(two tuples)] -/
def lcZT (g : TG) (tt : TT) (te : TE) (vs : List Nat) (σ : L2.St) (Q : VK) : It → Hp → Prop := fun J H1 => ∀ D, H1 D = none → ∃ W : Nat → Nat → Hp → Prop, (∃ m, W 0 m (L2.upd H1 D (.lst []))) ∧ ∀ i m H, W i m H →
  (J.stop i H ∧ Q (.ref D) H) ∨ (J.go i H ∧ ∃ Nx : Hp → Prop, (∀ H', Nx H' → ∃ m', m' < m ∧ W (i + 1) m' H') ∧ ∀ x H', J.yld i H x H' → g x (wipe σ vs) H' fun σ2 H2 => wipe σ2 vs = wipe σ vs ∧ tt σ2 H2 fun b H3 =>
    if b = true then te σ2 H3 fun y H4 => ∃ acc, H4 D = some (.lst acc) ∧ acc.length < sizeLine ∧ Nx (L2.upd H4 D (.lst (acc ++ [y]))) else Nx H3)
def zpR (K : PySem.W.Frag) (R : It → Hp → Prop) (vs : List V) (H1 : Hp) : Prop := ∃ a b xs ys, vs = [.ref a, .ref b] ∧ ((SqL K H1 a xs ∧ SqL K H1 b ys ∧ R (Itz K a b) H1) ∨ (SqT K H1 a xs ∧ SqT K H1 b ys ∧ R (RZ.ItzT K a b) H1))
theorem r_lcZip {vs : List Nat} {g : TG} (h : A σ H (zpR K (lcZT g tt te vs σ Q))) : tLc (RZ.iZipA K A) g tt te vs σ H Q := h
theorem r_lcZT {vs : List Nat} {g : TG} {a b : Addr} {xs ys : List V} (hx : SqT K H a xs) (hy : SqT K H b ys) (hl : xs.length = ys.length) (Pv : Addr → Nat → Hp → Prop)
    (hs : ∀ Dl H1, H Dl = none → Same H H1 → H1 Dl = some (.lst []) → Pv Dl 0 H1) (hq : ∀ Dl i H', H Dl = none → Pv Dl i H' → SqT K H' a xs ∧ SqT K H' b ys)
    (ht : ∀ Dl (i : Nat) x y H', H Dl = none → xs[i]? = some x → ys[i]? = some y → Pv Dl i H' → ∀ T H2, H' T = none → Same H' H2 → H2 T = some (.tup [x, y]) → g (.ref T) (wipe σ vs) H2 fun σ2 H3 => wipe σ2 vs = wipe σ vs ∧
      tt σ2 H3 fun b H4 => if b = true then te σ2 H4 (apR Dl (Pv Dl (i + 1))) else Pv Dl (i + 1) H4)
    (hd : ∀ Dl H', H Dl = none → Pv Dl xs.length H' → Q (.ref Dl) H') : zpR K (lcZT g tt te vs σ Q) [.ref a, .ref b] H := by
  refine ⟨a, b, xs, ys, rfl, .inr ⟨hx, hy, fun Dl nD => ⟨fun i m H' => m = xs.length - i ∧ i ≤ xs.length ∧ Pv Dl i H', ⟨xs.length, by simp, Nat.zero_le _, hs Dl _ nD (same_upd nD) upd_same⟩, ?_⟩⟩⟩
  rintro i m H' ⟨rfl, hi, p⟩
  obtain ⟨q1, q2⟩ := hq Dl i H' nD p
  by_cases hlt : i < xs.length
  · have hlt2 : i < ys.length := by omega
    refine .inr ⟨⟨xs, ys, xs[i], ys[i], q1, q2, by simp [hlt], by simp [hlt2]⟩, Pv Dl (i + 1), fun H2 p' => ⟨xs.length - (i + 1), by omega, rfl, hlt, p'⟩, fun x H2 y => ?_⟩
    obtain ⟨T, u, v, e1, nT, e2, hu, hv⟩ := y
    subst e1 e2
    exact ht Dl i u v H' nD (hu xs q1) (hv ys q2) p T _ nT (same_upd nT) upd_same
  · have e : i = xs.length := by omega
    subst e
    exact .inl ⟨⟨xs, ys, q1, q2, .inl (Nat.le_refl _)⟩, hd Dl H' nD p⟩
end
end Z
local macro_rules | `(tactic| walk_at "call") => `(tactic| with_reducible refine Z.r_lcZip ?_)
def tagsOf (gs : Ens) : List Tag := gs.map (·.2)
/-- place by place: the same -/
def sameB : Ens → Ens → List Bool
  | x :: gs, y :: es => decide (x.2 = y.2) :: sameB gs es
  | _, _ => []
theorem sameB_all : ∀ {gs es : Ens}, gs.length = es.length → (sameB gs es).all id = decide (tagsOf gs = tagsOf es)
  | [], [], _ => rfl
  | x :: gs, y :: es, h => by
    have ih := sameB_all (gs := gs) (es := es) (Nat.succ.inj h)
    show (decide (x.2 = y.2) && (sameB gs es).all id) = decide (x.2 :: tagsOf gs = y.2 :: tagsOf es)
    rw [ih]
    by_cases h1 : x.2 = y.2 <;> by_cases h2 : tagsOf gs = tagsOf es <;> simp [h1, h2]
theorem sameB_len : ∀ {gs es : Ens}, gs.length = es.length → (sameB gs es).length = gs.length
  | [], [], _ => rfl
  | x :: gs, y :: es, h => congrArg (· + 1) (sameB_len (gs := gs) (es := es) (Nat.succ.inj h))
theorem sameB_at : ∀ {gs es : Ens} {i : Nat} {x y : V × Tag}, gs[i]? = some x → es[i]? = some y → (sameB gs es)[i]? = some (decide (x.2 = y.2))
  | a :: gs, b :: es, 0, x, y, h1, h2 => by
    cases h1
    cases h2
    rfl
  | a :: gs, b :: es, i + 1, x, y, h1, h2 => sameB_at (gs := gs) (es := es) (i := i) h1 h2
  | [], _, i, x, y, h1, _ => by cases i <;> cases h1
  | a :: gs, [], i, x, y, _, h2 => by cases i <;> cases h2
theorem sameB_get {gs es : Ens} {i : Nat} {x y : V × Tag} (h1 : gs[i]? = some x) (h2 : es[i]? = some y) : (sameB gs es).take (i + 1) = (sameB gs es).take i ++ [decide (x.2 = y.2)] := by
  rw [List.take_succ, sameB_at h1 h2]
  rfl
theorem tags_len {gs es : Ens} (h : tagsOf gs = tagsOf es) : gs.length = es.length := by
  have z := congrArg List.length h
  unfold tagsOf at z
  rwa [List.length_map, List.length_map] at z
/-! data that can be compared: not too deep, equal to itself -/
structure Fine (n : Nat) (d : PyData) : Prop where
  lay : d.canLay0 = true
  dep : d.depth ≤ n
  same : PyData.eqv d d = true
theorem Fine.mono {n m : Nat} {d : PyData} (l : n ≤ m) (h : Fine n d) : Fine m d := ⟨h.lay, Nat.le_trans h.dep l, h.same⟩
theorem Fine.int (i : Int) : Fine 0 (.int i) := ⟨rfl, Nat.le_refl _, beq_self_eq_true i⟩
theorem Fine.bool (b : Bool) : Fine 0 (.bool b) := ⟨rfl, Nat.le_refl _, by simp [PyData.eqv]⟩
theorem Fine.none : Fine 0 .none := ⟨rfl, Nat.le_refl _, rfl⟩
theorem Fine.str {x : Str} (h : PyData.strOk x = true) : Fine 0 (.str x) := ⟨h, Nat.le_refl _, beq_self_eq_true x⟩
theorem fine_all {n : Nat} : ∀ {ds : List PyData}, (∀ d ∈ ds, Fine n d) → PyData.canLayAll0 ds = true ∧ PyData.depthAll ds ≤ n ∧ PyData.eqvAll ds ds = true
  | [], _ => ⟨rfl, Nat.zero_le _, rfl⟩
  | d :: r, h => by
    obtain ⟨h1, h2, h3⟩ := fine_all fun z hz => h z (List.mem_cons_of_mem _ hz)
    have hd := h d List.mem_cons_self
    refine ⟨?_, ?_, ?_⟩
    · show (PyData.canLay0 d && PyData.canLayAll0 r) = true
      rw [hd.lay, h1]; rfl
    · show max (PyData.depth d) (PyData.depthAll r) ≤ n
      have := hd.dep
      omega
    · show (PyData.eqv d d && PyData.eqvAll r r) = true
      rw [hd.same, h3]; rfl
theorem Fine.list {n : Nat} {ds : List PyData} (h : ∀ d ∈ ds, Fine n d) : Fine (n + 1) (.list ds) := by
  obtain ⟨h1, h2, h3⟩ := fine_all h
  exact ⟨h1, Nat.succ_le_succ h2, h3⟩
theorem Fine.tuple {n : Nat} {ds : List PyData} (h : ∀ d ∈ ds, Fine n d) : Fine (n + 1) (.tuple ds) := by
  obtain ⟨h1, h2, h3⟩ := fine_all h
  exact ⟨h1, Nat.succ_le_succ h2, h3⟩
theorem Fine.shaped {n : Nat} {d : PyData} (h : Fine n d) (l : n ≤ 64) : SeqAt.shaped d = true := by
  show (d.canLay0 && decide (d.depth ≤ 64)) = true
  rw [h.lay, decide_eq_true (Nat.le_trans h.dep l)]; rfl
theorem Fine.map {α : Type} {n : Nat} {f : α → PyData} {l : List α} (h : ∀ x ∈ l, Fine n (f x)) : ∀ d ∈ l.map f, Fine n d := by
  intro d hd
  obtain ⟨x, hx, rfl⟩ := List.mem_map.mp hd
  exact h x hx
theorem fine_cons {n : Nat} {d : PyData} {r : List PyData} (h : Fine n d) (hr : ∀ x ∈ r, Fine n x) : ∀ x ∈ d :: r, Fine n x := fun x hx => by
  rcases List.mem_cons.mp hx with rfl | hx
  · exact h
  · exact hr x hx
theorem fine_nil {n : Nat} : ∀ x ∈ ([] : List PyData), Fine n x := fun x hx => by cases hx
theorem dp_map {α : Type} {K : PySem.W.Frag} {H : Hp} {f : α → V} {g : α → PyData} : ∀ {l : List α}, (∀ x ∈ l, Dp K H (f x) (g x)) → DpAll K H (l.map f) (l.map g)
  | [], _ => .nil
  | x :: r, h => .cons (h x List.mem_cons_self) (dp_map fun z hz => h z (List.mem_cons_of_mem _ hz))
theorem first_of {α : Type} (p : α → Prop) : ∀ l : List α, (∃ x ∈ l, p x) → ∃ A s B, l = A ++ s :: B ∧ (∀ r ∈ A, ¬ p r) ∧ p s
  | [], h => by obtain ⟨x, hx, _⟩ := h; cases hx
  | x :: r, h => by
    by_cases q : p x
    · exact ⟨[], x, r, rfl, (fun z hz => by cases hz), q⟩
    · obtain ⟨y, hy, py⟩ := h
      rcases List.mem_cons.mp hy with rfl | hy
      · exact absurd py q
      obtain ⟨A, s, B, e, h1, h2⟩ := first_of p r ⟨y, hy, py⟩
      refine ⟨x :: A, s, B, by rw [e]; rfl, fun z hz => ?_, h2⟩
      rcases List.mem_cons.mp hz with rfl | hz
      · exact q
      · exact h1 z hz
theorem all_trues (n : Nat) : (List.replicate n true).all id = true := by
  induction n with
  | zero => rfl
  | succ n ih => rw [List.replicate_succ]; exact ih
theorem any_falses (n : Nat) : (List.replicate n false).any id = false := by
  induction n with
  | zero => rfl
  | succ n ih => rw [List.replicate_succ]; exact ih
namespace Z
open PySem PySem.Spec PyProof.Rows L2
theorem hu65 {k : Nat} {A : Around} (r : Room k A) : A.units + 65 < cLine := by have := r.un; omega
section
variable {K : PySem.W.Frag} {σ : L2.St} {H : Hp} {Q : VK} {to : TE} {t tk : TA} {sp : Sp} {E : XK} {g : List V → List V → List V}
theorem r_bmG {ty : String} {r : V → List V → Hp → VK → Prop} (h : to σ H fun x H1 => tyV K ty x H1 ∧ t σ H1 fun xs H2 => r x xs H2 Q) : tBM K ty r to t σ H Q := h
theorem r_bm0G {ty : String} {r : V → List V → Hp → VK → Prop} (h : to σ H fun x H1 => tyV K ty x H1 ∧ r x [] H1 Q) : tBM0 K ty r to σ H Q := h
theorem r_callKG (h : t σ H fun us H1 => tk σ H1 fun ws H2 => sp (g us ws) H2 Q E) : tCallK sp g E t tk σ H Q := h
theorem r_tNilG {N : List V → Hp → Prop} (h : N [] H) : tNil σ H N := h
theorem r_inD {x y : V} {d : PyData} {ds : List PyData} (hd : Dp K H x d) (hs : Dp K H y (.list ds)) (sd : SeqAt.shaped d = true) (ss : SeqAt.shaped (.list ds) = true) (q : Q (.bl (ds.any fun z => PyData.eqv z d)) H) : rInD K x y H Q := ⟨d, ds, hd, hs, sd, ss, q⟩
theorem r_notInD {x y : V} {d : PyData} {ds : List PyData} (hd : Dp K H x d) (hs : Dp K H y (.list ds)) (sd : SeqAt.shaped d = true) (ss : SeqAt.shaped (.list ds) = true) (q : Q (.bl (!ds.any fun z => PyData.eqv z d)) H) : rNotInD K x y H Q := ⟨d, ds, hd, hs, sd, ss, q⟩
theorem r_indexD {a : Addr} {y : V} {d : PyData} {ds : List PyData} (j : Nat) {z : PyData} (hs : Dp K H (.ref a) (.list ds)) (hd : Dp K H y d) (ss : SeqAt.shaped (.list ds) = true) (sd : SeqAt.shaped d = true) (hj : ds[j]? = some z) (e : PyData.eqv z d = true)
    (no : ∀ (m : Nat) (z' : PyData), m < j → ds[m]? = some z' → PyData.eqv z' d = false) (q : Q (.int (j : Nat)) H) : rIndexD K (.ref a) [y] H Q := ⟨a, y, d, ds, j, z, rfl, rfl, hs, hd, ss, sd, hj, e, no, q⟩
theorem r_allG {a : Addr} {bs : List Bool} (hs : SqL K H a (bs.map V.bl)) (h : Q (.bl (bs.all id)) H) : rAll K [.ref a] H Q := ⟨a, bs, rfl, hs, h⟩
theorem r_slTA {a : Addr} {xs : List V} {lo hi : Option Int} (e : H a = some (.tup xs)) (q1 : HT.sIx xs.length 0 lo = 0 ∧ HT.sIx xs.length xs.length hi = xs.length → Q (.ref a) H)
    (q2 : ¬ (HT.sIx xs.length 0 lo = 0 ∧ HT.sIx xs.length xs.length hi = xs.length) → ∀ p H1, H p = none → Same H H1 → H1 p = some (.tup (cutV xs lo hi)) → Q (.ref p) H1) : rSlA K (.ref a) lo hi H Q :=
  ⟨a, xs, rfl, SqT.of e, q1, fun n p np => q2 n p _ np (same_upd np) upd_same⟩
end
section
variable {X : Cx} {CX : CXT} {k : Nat} {f : Addr} {fd : FuncData} {ps ks : List Str} {sp : Sp} {E : XK} {x : Str} {kws : List Keyword} {tk : TA} {p pos : Pos}
theorem pe_callK0 {g : List Value → List Value → List Value} {gV : List V → List V → List V} (F : FnOk X.prog X.w X.K X.mg X.base CX k f fd ps sp) (hr : Room k X.A) (hg : Gl X x) (hm : X.mg x = some (.ref f)) (hk : PySem.W.keepIn X.K (.ref f) = true) (hb : KBinds X.K fd ps ks g gV) (hx : Passes CX X E)
    (hkw : PK X kws tk) (hall : (backToKw pos (keywordEach kws X.env)).all (·.1.isSome) = true := by rfl) (hks : (backToKw pos (keywordEach kws X.env)).filterMap (·.1) = ks := by rfl)
    (hdb : (x == ("__debug__" : Str)) = false := by decide)
    (hpl : ((backTo pos (starEach [] X.env)).any (·.1) || (backToKw pos (keywordEach kws X.env)).any (·.1.isNone)) = false := by rfl) :
    PE X (.Call (.Name x p) [] kws pos) (tCallK sp gV E tNil tk) := by
  refine ⟨fun pins s σ H Q I h => ?_⟩
  refine wpAny_Call_Name_kw (ld_glob I hg hm ?_ hdb)
  refine PySem.W.callWith_KW0 (h₀ := X.base) I.ok.mod.kin hk hall (thn (hkw.run pos pins s σ H _ I h) fun ws s2 ⟨zs, H2, I2, rz, q2⟩ => ⟨I2.kIn, ?_⟩) hpl
  rw [hks]
  exact run_fnk (us := []) (vs := []) F hr hb hx I2 .nil rz q2
end
end Z
namespace Z
open PySem PySem.Spec PyProof.Rows L2
section
variable {σ : L2.St} {H : Hp} {D : Ends} {t : TS} {tt : TT} {N : Bool → Hp → Prop}
/-- a statement whose ways all go on, and meet -/
theorem viaS (R : L2.St → Hp → Prop) (h : ∀ D' : Ends, (∀ σ' H', R σ' H' → D'.nx σ' H') → t D' σ H) (k : ∀ σ' H', R σ' H' → D.nx σ' H') : t D σ H := h D k
/-- a statement that may return, whose other ways meet -/
theorem viaR (R : L2.St → Hp → Prop) (h : ∀ M : L2.St → Hp → Prop, (∀ σ' H', R σ' H' → M σ' H') → t { D with nx := M } σ H) (k : ∀ σ' H', R σ' H' → D.nx σ' H') : t D σ H := h D.nx k
/-- a test whose ways meet -/
theorem viaT (R : Bool → Hp → Prop) (h : ∀ M : Bool → Hp → Prop, (∀ b H', R b H' → M b H') → tt σ H M) (k : ∀ b H', R b H' → N b H') : tt σ H N := h N k
end
end Z
local macro_rules | `(tactic| walk_at "toseq") => `(tactic| ((repeat (first
  | with_reducible refine Z.r_next ?_
  | ((fail_if_success (with_reducible refine Z.r_seq ?_)); walk_at "st"))); with_reducible refine Z.r_seq ?_))

namespace Z
open PySem PySem.Spec PyProof.Rows L2
/-- a sign, so many times -/
def repS (z : Str) (n : Nat) : Str := ⟨(List.replicate n z.cps).foldl (· ++ ·) #[]⟩
def rRepS : R2 := fun x y H Q => ∃ (z : Str) (n : Nat), x = .str z ∧ y = .int (n : Int) ∧ 2 ≤ n ∧ n ≤ 1000 ∧ z.length = 1 ∧ (repS z n).length ≤ 1000 ∧ Q (.str (repS z n)) H
theorem op_repS {X : Cx} : OpR X (binaryOp .Mult) rRepS := by
  intro pins s σ H x y v u Q I rx ry h
  obtain ⟨z, n, rfl, rfl, n2, n3, lz, lr, q⟩ := h
  obtain ⟨t, rfl⟩ := (show ∃ t, v = Value.str z t from rx)
  obtain ⟨t2, rfl⟩ := (show ∃ t, u = Value.int (n : Int) t from ry)
  refine PySem.P.mul_str ?_ (fun _ _ => ?_) (fun _ _ => ?_) ?_
  · rw [decide_eq_false (by omega), decide_eq_false (by omega)]; rfl
  · rw [lz]
    have : (1 : Int) ≤ (2 ^ 63 - 1) / (n : Int) := Int.le_ediv_of_mul_le (by omega) (by omega)
    omega
  · rw [lz]
    have z : sizeLine = 16777216 := sizeLine_eq
    exact decide_eq_false (by rw [z]; simp; omega)
  · rw [if_neg (by omega), if_neg (by rw [lz]; simp; omega)]
    exact ⟨Nat.le_trans lr (by decide), .str (repS z n), H, I.tok _, ⟨_, rfl⟩, q⟩
theorem r_repS {z : Str} {n : Int} {m : Nat} {H : Hp} {Q : VK} (e : n = (m : Int)) (n2 : 2 ≤ m) (n3 : m ≤ 1000) (lz : z.length = 1) (lr : (repS z m).length ≤ 1000) (q : Q (.str (repS z m)) H) : rRepS (.str z) (.int n) H Q := ⟨z, m, rfl, by rw [e], n2, n3, lz, lr, q⟩
end Z

/-! words and numbers in texts -/
namespace Tx
open PySem PySem.Spec PyProof.Rows L2 TL
abbrev tl (x : Str) : List Nat := x.cps.toList
def digs (l : List Nat) : Prop := ∀ c ∈ l, 48 ≤ c ∧ c ≤ 57
theorem sw1 (x : Str) (c : Nat) : Txt.startswith x ⟨#[c]⟩ = decide ((tl x).head? = some c) := by
  have h := StrLaws.subAt_one x c 0
  have e : (tl x).head? = (tl x)[0]? := by cases tl x <;> rfl
  rw [e]
  by_cases q : (tl x)[0]? = some c
  · rw [decide_eq_true q]
    obtain ⟨h1, h2⟩ := h.mpr q
    show (decide (0 + (⟨#[c]⟩ : Str).length ≤ x.length) && Builtin.Str.subAt x ⟨#[c]⟩ 0) = true
    rw [decide_eq_true h1, h2]; rfl
  · rw [decide_eq_false q]
    cases z : Txt.startswith x ⟨#[c]⟩ with
    | false => rfl
    | true =>
      have z : (decide (0 + (⟨#[c]⟩ : Str).length ≤ x.length) && Builtin.Str.subAt x ⟨#[c]⟩ 0) = true := z
      obtain ⟨z1, z2⟩ := Bool.and_eq_true_iff.mp z
      exact absurd (h.mp ⟨of_decide_eq_true z1, z2⟩) q
theorem rp1 (x : Str) (c : Nat) : tl (Txt.removeprefix x ⟨#[c]⟩) = if (tl x).head? = some c then (tl x).tail else tl x := by
  have h := sw1 x c
  have e := StrLaws.removeprefix_eq x ⟨#[c]⟩
  have e2 : Txt.startswith x ⟨#[c]⟩ = (decide (0 + (⟨#[c]⟩ : Str).length ≤ x.length) && Builtin.Str.subAt x ⟨#[c]⟩ 0) := rfl
  rw [← e2, h] at e
  rw [e]
  by_cases q : (tl x).head? = some c
  · rw [decide_eq_true q, if_pos rfl, if_pos q]
    show ((tl x).drop 1).take (x.length - 1) = _
    have l : x.length = (tl x).length := by simp [tl, Str.length]
    rw [l, List.drop_one, List.take_of_length_le (by rw [List.length_tail]; exact Nat.le_refl _)]
  · rw [decide_eq_false q, if_neg (by decide), if_neg q]
theorem tl_len (x : Str) : x.length = (tl x).length := by simp [tl, Str.length]
theorem asc_all (x : Str) : Txt.isascii x = (tl x).all (· < 128) := by
  unfold Txt.isascii
  rw [← Array.all_toList]
theorem dig_tab : ∀ c, c < 128 → Unicode.isDigit c = (decide (48 ≤ c) && decide (c ≤ 57)) := by decide +kernel
theorem alpha_tab : ∀ c, c < 128 → (Unicode.isAlpha c = ((decide (65 ≤ c) && decide (c ≤ 90)) || (decide (97 ≤ c) && decide (c ≤ 122))) ∧ Unicode.isLower c = (decide (97 ≤ c) && decide (c ≤ 122)) ∧ (Unicode.isUpper c || Unicode.isTitle c) = (decide (65 ≤ c) && decide (c ≤ 90))) := by decide +kernel
theorem isdigit_l (x : Str) : Txt.isdigit x = (decide (tl x ≠ []) && (tl x).all Unicode.isDigit) := by
  have e : Txt.isdigit x = (decide (x.length > 0) && x.cps.all Unicode.isDigit) := rfl
  have h2 : x.cps.all Unicode.isDigit = (tl x).all Unicode.isDigit := Array.all_toList.symm
  rw [e, h2, tl_len]
  cases tl x <;> simp
theorem isalpha_l (x : Str) : Txt.isalpha x = (decide (tl x ≠ []) && (tl x).all Unicode.isAlpha) := by
  have e : Txt.isalpha x = (decide (x.length > 0) && x.cps.all Unicode.isAlpha) := rfl
  have h2 : x.cps.all Unicode.isAlpha = (tl x).all Unicode.isAlpha := Array.all_toList.symm
  rw [e, h2, tl_len]
  cases tl x <;> simp
theorem islower_l (x : Str) : Txt.islower x = ((tl x).any Unicode.isLower && !(tl x).any fun c => Unicode.isUpper c || Unicode.isTitle c) := by
  have e : Txt.islower x = (x.cps.any Unicode.isLower && !x.cps.any fun c => Unicode.isUpper c || Unicode.isTitle c) := rfl
  rw [e, ← Array.any_toList, ← Array.any_toList]
/-- what is_word tells -/
def isWordB (x : Str) : Bool := (decide (1 ≤ x.length) && decide (x.length ≤ 8)) && (Txt.isascii x && (Txt.isalpha x && Txt.islower x))
def letters (l : List Nat) : Prop := ∀ c ∈ l, 97 ≤ c ∧ c ≤ 122
theorem isWord_iff (x : Str) : isWordB x = true ↔ 1 ≤ x.length ∧ x.length ≤ 8 ∧ letters (tl x) := by
  unfold isWordB
  rw [asc_all, isalpha_l, islower_l]
  simp only [Bool.and_eq_true, decide_eq_true_eq, List.all_eq_true, List.any_eq_true, Bool.not_eq_true']
  constructor
  · rintro ⟨⟨h1, h2⟩, h3, ⟨h4, h5⟩, ⟨c0, m0, l0⟩, h6⟩
    refine ⟨h1, h2, fun c m => ?_⟩
    have lt := of_decide_eq_true (by simpa using h3 c m : decide (c < 128) = true)
    obtain ⟨a1, a2, a3⟩ := alpha_tab c lt
    have b1 := h5 c m
    have b2 := List.any_eq_false.mp h6 c m
    rw [a3] at b2
    rw [a1] at b1
    simp at b1 b2
    omega
  · rintro ⟨h1, h2, h3⟩
    have ne : tl x ≠ [] := fun e => by rw [tl_len, e] at h1; exact absurd h1 (by decide)
    have tb : ∀ c ∈ tl x, c < 128 := fun c m => by have := h3 c m; omega
    refine ⟨⟨h1, h2⟩, fun c m => by simpa using tb c m, ⟨ne, fun c m => ?_⟩, ?_, ?_⟩
    · rw [(alpha_tab c (tb c m)).1]
      have := h3 c m
      simp; omega
    · obtain ⟨c, r, e⟩ : ∃ c r, tl x = c :: r := by
        cases q : tl x with
        | nil => exact absurd q ne
        | cons c r => exact ⟨c, r, rfl⟩
      have m : c ∈ tl x := by rw [e]; exact List.mem_cons_self
      refine ⟨c, m, ?_⟩
      rw [(alpha_tab c (tb c m)).2.1]
      have := h3 c m
      simp; omega
    · rw [List.any_eq_false]
      intro c m
      rw [(alpha_tab c (tb c m)).2.2]
      have := h3 c m
      simp; omega
theorem rp_len (x : Str) (c : Nat) : (Txt.removeprefix x ⟨#[c]⟩).length ≤ x.length := by
  rw [tl_len, rp1, tl_len x]
  split
  · rw [List.length_tail]; omega
  · exact Nat.le_refl _
/-- what _is_number_but_0 tells -/
def numB (x : Str) : Bool := (Txt.isascii (Txt.removeprefix x ⟨#[45]⟩) && Txt.isdigit (Txt.removeprefix x ⟨#[45]⟩)) && (!Txt.startswith (Txt.removeprefix x ⟨#[45]⟩) ⟨#[48]⟩ && decide ((Txt.removeprefix x ⟨#[45]⟩).length ≤ 300))
theorem digits_iff (x : Str) : (Txt.isascii x && Txt.isdigit x) = true ↔ tl x ≠ [] ∧ digs (tl x) := by
  rw [asc_all, isdigit_l]
  simp only [Bool.and_eq_true, decide_eq_true_eq, List.all_eq_true]
  constructor
  · rintro ⟨h1, h2, h3⟩
    refine ⟨h2, fun c m => ?_⟩
    have lt := of_decide_eq_true (by simpa using h1 c m : decide (c < 128) = true)
    have := h3 c m
    rw [dig_tab c lt] at this
    simpa using this
  · rintro ⟨h1, h2⟩
    refine ⟨fun c m => by have := h2 c m; simp; omega, h1, fun c m => ?_⟩
    have := h2 c m
    rw [dig_tab c (by omega)]
    simp; omega
/-- the digits of a number's text, its sign left out -/
theorem numB_iff (x : Str) : numB x = true ↔ ∃ ds, (tl x = ds ∨ tl x = 45 :: ds) ∧ ds ≠ [] ∧ digs ds ∧ ds.head? ≠ some 48 ∧ ds.length ≤ 300 := by
  have r := rp1 x 45
  unfold numB
  rw [Bool.and_eq_true, digits_iff, sw1, tl_len, r]
  constructor
  · rintro ⟨⟨h1, h2⟩, h3⟩
    simp only [Bool.and_eq_true, Bool.not_eq_true', decide_eq_false_iff_not, decide_eq_true_eq] at h3
    by_cases q : (tl x).head? = some 45
    · rw [if_pos q] at h1 h2 h3
      refine ⟨(tl x).tail, .inr ?_, h1, h2, h3.1, h3.2⟩
      cases e : tl x with
      | nil => rw [e] at q; cases q
      | cons c t => rw [e] at q; cases q; rfl
    · rw [if_neg q] at h1 h2 h3
      exact ⟨tl x, .inl rfl, h1, h2, h3.1, h3.2⟩
  · rintro ⟨ds, h | h, h1, h2, h3, h4⟩
    · have q : ¬ (tl x).head? = some 45 := fun e => by
        rw [h] at e
        cases ds with
        | nil => cases e
        | cons c t => cases e; exact absurd (h2 45 List.mem_cons_self).1 (by decide)
      rw [if_neg q, h]
      refine ⟨⟨h1, h2⟩, ?_⟩
      simp only [Bool.and_eq_true, Bool.not_eq_true', decide_eq_false_iff_not, decide_eq_true_eq]
      exact ⟨h3, h4⟩
    · rw [if_pos (by rw [h]; rfl), h]
      refine ⟨⟨h1, h2⟩, ?_⟩
      simp only [Bool.and_eq_true, Bool.not_eq_true', decide_eq_false_iff_not, decide_eq_true_eq]
      exact ⟨h3, h4⟩
theorem sign_text (c : Nat) (x : String) (h : (Str.ofString x).cps.toList = [c]) : Str.ofString x = ⟨#[c]⟩ := Str.ext' (Array.toList_inj.mp h)
theorem q_text : ("?" : Str) = ⟨#[63]⟩ := sign_text 63 "?" (by decide +kernel)
theorem m_text : ("-" : Str) = ⟨#[45]⟩ := sign_text 45 "-" (by decide +kernel)
theorem z_text : ("0" : Str) = ⟨#[48]⟩ := sign_text 48 "0" (by decide +kernel)
/-- an int's text by its signs -/
theorem tl_int (i : Int) : tl (Str.ofString (toString i)) = if i < 0 then 45 :: numL i.natAbs else numL i.natAbs := by
  by_cases h : i < 0
  · rw [if_pos h]
    obtain ⟨n, rfl⟩ := Int.eq_negSucc_of_lt_zero h
    have e2 := (TL.tl_ofString _).symm.trans (tl_num (n + 1))
    show TL.tl _ = _
    rw [TL.tl_ofString]
    have e3 : (toString (Int.negSucc n)).toList = '-' :: (toString (((n + 1 : Nat)) : Int)).toList := by
      show ("-" ++ Nat.repr (n + 1)).toList = '-' :: (Nat.repr (n + 1)).toList
      rw [String.toList_append]
      rfl
    rw [e3, List.map_cons, e2]
    rfl
  · rw [if_neg h]
    obtain ⟨n, rfl⟩ := Int.eq_ofNat_of_zero_le (Int.not_lt.mp h)
    exact tl_num n
theorem numB_int {x : Str} (h : numB x = true) : ∃ n, intText? x = some n ∧ x.length ≤ 640 := by
  obtain ⟨ds, h1 | h1, h2, h3, h4, h5⟩ := (numB_iff x).mp h
  · have l : x.length = ds.length := by rw [tl_len, h1]
    have e : x.cps.toList = ds := h1
    exact ⟨_, PySem.intText_digits (by rw [e]; exact h3) (by rw [e]; exact h2) (by omega), by omega⟩
  · have l : x.length = ds.length + 1 := by rw [tl_len, h1]; rfl
    exact ⟨_, PySem.intText_neg h1 h3 h2 (by omega), by omega⟩
theorem zero_int : intText? ("0" : Str) = some 0 := by
  have e : ("0" : Str).cps.toList = [48] := by decide +kernel
  have h := PySem.intText_digits (x := ("0" : Str)) (by rw [e]; intro c hc; rw [List.mem_singleton.mp hc]; decide) (by rw [e]; exact nofun) (by decide +kernel)
  rw [h, e]
  rfl
theorem numL_head {n : Nat} (h : 0 < n) : (numL n).head? ≠ some 48 := by
  induction n using Nat.strongRecOn with
  | _ n ih =>
    by_cases q : n < 10
    · rw [numL_lt q]
      intro e
      have := Option.some.inj e
      omega
    · rw [numL_step (by omega)]
      have h1 := ih (n / 10) (by omega) (by omega)
      have h2 := numL_ne (n / 10)
      cases e : numL (n / 10) with
      | nil => exact absurd e h2
      | cons c r => rw [e] at h1; exact h1
theorem tl_int0 {i : Int} (h : i ≠ 0) (hb : i.natAbs < 10 ^ 300) : numB (Str.ofString (toString i)) = true := by
  have hp : 0 < i.natAbs := by omega
  rw [numB_iff, tl_int]
  refine ⟨numL i.natAbs, ?_, numL_ne _, fun c hc => numL_digits _ c hc, numL_head hp, numL_len (by decide) hb⟩
  by_cases q : i < 0
  · rw [if_pos q]; exact .inr rfl
  · rw [if_neg q]; exact .inl rfl
theorem int_back {i : Int} (hb : i.natAbs < 10 ^ 300) : intText? (Str.ofString (toString i)) = some i := by
  have ht := tl_int i
  have hl := numL_len (k := 300) (by decide) hb
  have e : (Str.ofString (toString i)).cps.toList = _ := ht
  by_cases q : i < 0
  · rw [if_pos q] at e
    rw [PySem.intText_neg e (numL_digits _) (numL_ne _) (by rw [tl_len, ht, if_pos q, List.length_cons]; omega), numL_val]
    congr 1; omega
  · rw [if_neg q] at e
    rw [PySem.intText_digits (by rw [e]; exact numL_digits _) (by rw [e]; exact numL_ne _) (by rw [tl_len, ht, if_neg q]; omega), e, numL_val]
    congr 1; omega
theorem zero_iff (i : Int) : Str.ofString (toString i) = ("0" : Str) ↔ i = 0 := by
  constructor
  · intro h
    have h2 := congrArg tl h
    rw [tl_int, show tl ("0" : Str) = [48] from by decide +kernel] at h2
    by_cases q : i < 0
    · rw [if_pos q] at h2
      have := (List.cons.inj h2).1
      exact absurd this (by decide)
    · rw [if_neg q] at h2
      have h3 : numL i.natAbs = numL 0 := by rw [h2, numL_lt (by decide)]
      have := numL_inj h3
      omega
  · rintro rfl; rfl
/-- what a word is read as -/
def tail1 (x : Str) : Str := cutS x (some 1) none
theorem tl_tail (x : Str) : tl (tail1 x) = (tl x).drop 1 := by
  unfold tail1 cutS
  rw [show HT.sIx x.length 0 (some (1 : Int)) = min 1 x.length from HT.sIx_nat .., show HT.sIx x.length x.length none = x.length from HT.sIx_none ..]
  show ((tl x).drop (min 1 x.length)).take (x.length - min 1 x.length) = _
  rw [tl_len]
  cases e : tl x with
  | nil => rfl
  | cons c r =>
    have : min 1 (c :: r).length = 1 := by show min 1 (r.length + 1) = 1; omega
    rw [this, List.drop_one, List.tail_cons, List.take_of_length_le (by show r.length ≤ r.length + 1 - 1; omega)]
/-- a text's word or number, or neither -/
def readT (x : Str) : Tag := if (Txt.startswith x ⟨#[63]⟩ && isWordB (tail1 x)) = true then .mark (tail1 x) else if (decide (x = "0") || numB x) = true then .num ((intText? x).getD 0) else .non
theorem readT_int {i : Int} (hb : i.natAbs < 10 ^ 300) : readT (Str.ofString (toString i)) = .num i := by
  have h63 : Txt.startswith (Str.ofString (toString i)) ⟨#[63]⟩ = false := by
    rw [sw1, tl_int]
    refine decide_eq_false fun e => ?_
    by_cases q : i < 0
    · rw [if_pos q] at e; cases e
    · rw [if_neg q] at e
      cases z : numL i.natAbs with
      | nil => exact numL_ne _ z
      | cons c r =>
        rw [z] at e
        cases e
        have := (numL_digits i.natAbs 63 (by rw [z]; exact List.mem_cons_self)).2
        exact absurd this (by decide)
  unfold readT
  rw [h63, Bool.false_and, if_neg Bool.false_ne_true, int_back hb]
  by_cases q : i = 0
  · rw [decide_eq_true ((zero_iff i).mpr q), Bool.true_or, if_pos rfl]; rfl
  · rw [tl_int0 q hb, Bool.or_true, if_pos rfl]; rfl
theorem readT_mark {n : Str} (h : isWordB n = true) : readT (("?" : Str) ++ n) = .mark n := by
  have e : tl (("?" : Str) ++ n) = 63 :: tl n := by
    show (("?" : Str) ++ n).cps.toList = _
    rw [Str.cps_append, Array.toList_append, show ("?" : Str).cps.toList = [63] by decide +kernel]
    rfl
  have et : tail1 (("?" : Str) ++ n) = n := Str.ext' (Array.toList_inj.mp (by
    show tl _ = tl n
    rw [tl_tail, e]; rfl))
  unfold readT
  rw [et, sw1, e, h]
  rfl
end Tx

namespace Z
open PySem PySem.Spec PyProof.Rows L2
section
variable {K : PySem.W.Frag} {σ : L2.St} {H : Hp} {Q : VK} {ta tb tc : TE} {r r' : R2} {z a b : Str}
theorem r_chain (h : ta σ H fun x H1 => tb σ H1 fun y H2 => r x y H2 fun z H3 => ∃ k, z = .bl k ∧ (if k = true then tc σ H3 fun w' H4 => r' y w' H4 Q else Q (.bl false) H3)) : tChain r r' ta tb tc σ H Q := h
theorem r_lenSS (l : z.length ≤ 100000) (h : Q (.int z.length) H) : rLenS [.str z] H Q := ⟨z, rfl, Nat.le_trans l (by decide), h⟩
theorem r_tyStr {G : Prop} (h : G) : tyV K "str" (.str a) H ∧ G := ⟨rfl, h⟩
theorem r_slSt {lo hi : Option Int} (l : z.length ≤ 100000) (h : Q (.str (cutS z lo hi)) H) : rSlS (.str z) lo hi H Q := ⟨z, rfl, Nat.le_trans l (by decide), h⟩
end
end Z
local macro_rules | `(tactic| walk_at "call") => `(tactic| first
  | with_reducible refine Z.r_chain ?_
  | with_reducible refine Z.r_bmG ?_
  | with_reducible refine Z.r_bm0G ?_
  | with_reducible refine Z.r_tyStr ?_)

/-! texts that are neither words nor numbers -/
namespace Tx
open PySem PySem.Spec PyProof.Rows L2 TL
def dg (c : Nat) : Prop := 48 ≤ c ∧ c ≤ 57
def lt_ (c : Nat) : Prop := 97 ≤ c ∧ c ≤ 122
theorem tl_app (a b : Str) : tl (a ++ b) = tl a ++ tl b := by
  show (a ++ b).cps.toList = _
  rw [Str.cps_append, Array.toList_append]
/-- neither -/
theorem readT_non {x : Str} (h1 : ∀ m, tl x = 63 :: m → ¬ (1 ≤ m.length ∧ m.length ≤ 8 ∧ letters m)) (h2 : tl x ≠ [48]) (h3 : ∀ ds, (tl x = ds ∨ tl x = 45 :: ds) → ds ≠ [] → digs ds → ds.head? ≠ some 48 → ¬ ds.length ≤ 300) : readT x = .non := by
  unfold readT
  rw [if_neg, if_neg]
  · rw [Bool.or_eq_true_iff, not_or]
    refine ⟨fun e => ?_, fun e => ?_⟩
    · have e2 : x = "0" := of_decide_eq_true e
      exact h2 (by rw [e2]; decide +kernel)
    · obtain ⟨ds, a, b, c, d, f⟩ := (numB_iff x).mp e
      exact h3 ds a b c d f
  · intro e
    obtain ⟨e1, e2⟩ := Bool.and_eq_true_iff.mp e
    rw [sw1] at e1
    have e1 := of_decide_eq_true e1
    obtain ⟨l1, l2, l3⟩ := (isWord_iff _).mp e2
    rw [tl_tail] at l3
    rw [tl_len, tl_tail] at l1 l2
    cases z : tl x with
    | nil => rw [z] at e1; cases e1
    | cons c m =>
      rw [z] at e1 l1 l2 l3
      cases e1
      exact h1 m z ⟨l1, l2, l3⟩
variable {x : Str} {c d : Nat} {m : List Nat}
/-- a strange sign behind the first -/
theorem nonA (e : tl x = d :: m) (hc : c ∈ m) (h1 : ¬ dg c) (h2 : ¬ lt_ c) : readT x = .non := by
  refine readT_non (fun k h => ?_) (fun h => ?_) (fun ds h _ hd _ _ => ?_)
  · rw [e] at h; cases h
    exact fun q => h2 (q.2.2 c hc)
  · rw [e] at h; cases h; cases hc
  · rw [e] at h
    rcases h with h | h
    · subst h; exact h1 (hd c (List.mem_cons_of_mem _ hc))
    · cases h; exact h1 (hd c hc)
/-- no letter behind ? -/
theorem nonB (e : tl x = 63 :: m) (hc : c ∈ m) (h : ¬ lt_ c) : readT x = .non := by
  refine readT_non (fun k h' => ?_) (fun h' => ?_) (fun ds h' _ hd _ _ => ?_)
  · rw [e] at h'; cases h'
    exact fun q => h (q.2.2 c hc)
  · rw [e] at h'; cases h'
  · rw [e] at h'
    rcases h' with h' | h'
    · subst h'; exact absurd (hd 63 List.mem_cons_self).2 (by decide)
    · cases h'
/-- no digit behind the first, which isn't ? -/
theorem nonC (e : tl x = d :: m) (hd0 : d ≠ 63) (hc : c ∈ m) (h : ¬ dg c) : readT x = .non := by
  refine readT_non (fun k h' => ?_) (fun h' => ?_) (fun ds h' _ hd _ _ => ?_)
  · rw [e] at h'; cases h'; exact absurd rfl hd0
  · rw [e] at h'; cases h'; cases hc
  · rw [e] at h'
    rcases h' with h' | h'
    · subst h'; exact h (hd c (List.mem_cons_of_mem _ hc))
    · cases h'; exact h (hd c hc)
/-- a strange first sign -/
theorem nonD (e : tl x = d :: m) (h1 : ¬ dg d) (h2 : d ≠ 45) (h3 : d ≠ 63) : readT x = .non := by
  refine readT_non (fun k h' => ?_) (fun h' => ?_) (fun ds h' _ hd _ _ => ?_)
  · rw [e] at h'; cases h'; exact absurd rfl h3
  · rw [e] at h'; cases h'; exact h1 ⟨by decide, by decide⟩
  · rw [e] at h'
    rcases h' with h' | h'
    · subst h'; exact h1 (hd d List.mem_cons_self)
    · cases h'; exact h2 rfl
/-- 0 ahead -/
theorem nonE (e : tl x = 48 :: m) (h : m ≠ []) : readT x = .non := by
  refine readT_non (fun k h' => ?_) (fun h' => ?_) (fun ds h' _ _ hh _ => ?_)
  · rw [e] at h'; cases h'
  · rw [e] at h'; cases h'; exact h rfl
  · rw [e] at h'
    rcases h' with h' | h'
    · subst h'; exact hh rfl
    · cases h'
theorem nonF (e : tl x = 45 :: 48 :: m) : readT x = .non := by
  refine readT_non (fun k h' => ?_) (fun h' => ?_) (fun ds h' _ hd hh _ => ?_)
  · rw [e] at h'; cases h'
  · rw [e] at h'; cases h'
  · rw [e] at h'
    rcases h' with h' | h'
    · subst h'; exact absurd (hd 45 List.mem_cons_self).1 (by decide)
    · cases h'; exact hh rfl
theorem nonG (e : tl x = d :: m) (h : 301 ≤ m.length) : readT x = .non := by
  refine readT_non (fun k h' => ?_) (fun h' => ?_) (fun ds h' _ hd hh => ?_)
  · rw [e] at h'; cases h'; omega
  · rw [e] at h'; cases h'; exact absurd h (by decide)
  · rw [e] at h'
    rcases h' with h' | h'
    · subst h'; rw [List.length_cons]; omega
    · cases h'; omega
theorem nonH (e : tl x = d :: m) (h : 300 ≤ m.length) (h4 : d ≠ 45) : readT x = .non := by
  refine readT_non (fun k h' => ?_) (fun h' => ?_) (fun ds h' _ hd hh => ?_)
  · rw [e] at h'; cases h'; omega
  · rw [e] at h'; cases h'; exact absurd h (by decide)
  · rw [e] at h'
    rcases h' with h' | h'
    · subst h'; rw [List.length_cons]; omega
    · cases h'; exact absurd rfl h4
/-- a constant text -/
def rightL (l : List Nat) : Bool := (decide (l.head? = some 63) && (decide (1 ≤ l.tail.length) && (decide (l.tail.length ≤ 8) && l.tail.all fun c => decide (97 ≤ c) && decide (c ≤ 122)))) || (decide (l = [48]) ||
  (let ds := if l.head? = some 45 then l.tail else l; decide (ds ≠ []) && (ds.all (fun c => decide (48 ≤ c) && decide (c ≤ 57)) && decide (ds.head? ≠ some 48))))
theorem nonK (h : rightL (tl x) = false) : readT x = .non := by
  unfold rightL at h
  obtain ⟨h1, h2⟩ := Bool.or_eq_false_iff.mp h
  obtain ⟨h2, h3⟩ := Bool.or_eq_false_iff.mp h2
  refine readT_non (fun k h' => ?_) (fun h' => ?_) (fun ds h' ne hd hh => ?_)
  · rintro ⟨l1, l2, l3⟩
    rw [h'] at h1
    have : (k.all fun c => decide (97 ≤ c) && decide (c ≤ 122)) = true := List.all_eq_true.mpr fun c hc => by
      have := l3 c hc
      simp; omega
    have h1 : (decide (some 63 = some 63) && (decide (1 ≤ k.length) && (decide (k.length ≤ 8) && k.all fun c => decide (97 ≤ c) && decide (c ≤ 122)))) = false := h1
    rw [this, decide_eq_true l1, decide_eq_true l2] at h1
    exact absurd h1 (by decide)
  · rw [h'] at h2; exact absurd h2 (by decide)
  · have all : (ds.all fun c => decide (48 ≤ c) && decide (c ≤ 57)) = true := List.all_eq_true.mpr fun c hc => by
      have := hd c hc
      simp; omega
    exfalso
    have e : (if (tl x).head? = some 45 then (tl x).tail else tl x) = ds := by
      rcases h' with h' | h'
      · rw [h', if_neg]
        intro e
        cases ds with
        | nil => cases e
        | cons c t => cases e; exact absurd (hd 45 List.mem_cons_self).1 (by decide)
      · rw [h']; exact if_pos rfl
    rw [e] at h3
    simp [all, ne, hh] at h3
theorem up_tab : ∀ c, c < 123 → 97 ≤ c → Unicode.upperOf c = [c - 32] := by decide +kernel
theorem mapIdx_c {α β : Type} (f : α → β) (l : List α) : l.mapIdx (fun _ c => f c) = l.map f := by
  apply List.ext_getElem?
  intro i
  rw [List.getElem?_mapIdx, List.getElem?_map]
theorem tl_upper {x : Str} (h : letters (tl x)) : tl (Txt.upper x) = (tl x).map (· - 32) := by
  unfold Txt.upper placed
  show ((x.cps.mapIdx fun _ c => (Unicode.upperOf c).toArray).flatten).toList = _
  rw [Array.toList_flatten, Array.toList_mapIdx, mapIdx_c]
  have : ∀ l : List Nat, letters l → ((l.map fun c => (Unicode.upperOf c).toArray).map Array.toList).flatten = l.map (· - 32) := by
    intro l hl
    induction l with
    | nil => rfl
    | cons c r ih =>
      have hc := hl c List.mem_cons_self
      simp only [List.map_cons, List.flatten_cons]
      rw [up_tab c (by omega) hc.1]
      have z := ih fun d hd => hl d (List.mem_cons_of_mem _ hd)
      simp only [List.map_map] at z ⊢
      rw [z]
      rfl
  exact this _ h
/-- a wrong word -/
def Wrong (x : Str) : Prop := readT x = .non ∧ 32 ∉ tl x ∧ x.length ≤ 320
theorem wrong_of {x : Str} {l : List Nat} (e : tl x = l) (r : readT x = .non) (f : 32 ∉ l) (n : l.length ≤ 320) : Wrong x := ⟨r, by rw [e]; exact f, by rw [tl_len, e]; exact n⟩
theorem wrong_k {x : Str} (h : rightL (tl x) = false) (f : 32 ∉ tl x) (n : (tl x).length ≤ 320) : Wrong x := ⟨nonK h, f, by rw [tl_len]; exact n⟩
def wrongWs (w : Str) (n : Str) : List Str := [("" : Str), ("-" : Str), ("?" : Str), ("-0" : Str), ("00" : Str), ("0" : Str) ++ n, ("-0" : Str) ++ n, ("+" : Str) ++ n, ("--" : Str) ++ n, w] ++ [("?" : Str) ++ ("abcdefghi" : Str), ("?" : Str) ++ w ++ ("1" : Str), ("??" : Str) ++ w, ("?A" : Str) ++ cutS w none (some 3), ("-?" : Str) ++ w, n ++ (".0" : Str)] ++
  [n ++ ("-" : Str), n ++ w, ("1" : Str) ++ Z.repS ("0" : Str) 300, ("-" : Str) ++ n ++ Z.repS ("7" : Str) 300, ("?" : Str) ++ w ++ ("?" : Str)] ++ [n ++ ("," : Str), ("1_0" : Str), Txt.upper w, ("?" : Str) ++ Txt.upper w, ("None" : Str), ("0x1" : Str), ("1e5" : Str)]
theorem wrongWs_ok {w n : Str} (hw : 1 ≤ w.length ∧ w.length ≤ 8 ∧ ∀ c ∈ w.cps.toList, 97 ≤ c ∧ c ≤ 122) (hd : digs (tl n)) (ne : tl n ≠ []) (ln : (tl n).length ≤ 10) : ∀ x ∈ wrongWs w n, Wrong x := by
  obtain ⟨l1, l2, lw⟩ := hw
  have lw : letters (tl w) := lw
  rw [tl_len] at l1 l2
  have eu := tl_upper lw
  obtain ⟨u, hu⟩ : ∃ u, u = Txt.upper w := ⟨_, rfl⟩
  rw [← hu] at eu
  have hn : 32 ∉ tl n := fun h => absurd (hd 32 h).1 (by decide)
  have hwf : 32 ∉ tl w := fun h => absurd (lw 32 h).1 (by decide)
  have huf : 32 ∉ tl u := fun h => by
    rw [eu] at h
    obtain ⟨c, hc, e⟩ := List.mem_map.mp h
    have := lw c hc
    omega
  obtain ⟨cn, rn, en⟩ : ∃ c r, tl n = c :: r := by
    cases q : tl n with
    | nil => exact absurd q ne
    | cons c r => exact ⟨c, r, rfl⟩
  obtain ⟨cw, rw_, ew⟩ : ∃ c r, tl w = c :: r := by
    cases q : tl w with
    | nil => rw [q] at l1; exact absurd l1 (by decide)
    | cons c r => exact ⟨c, r, rfl⟩
  have hcw := lw cw (by rw [ew]; exact List.mem_cons_self)
  have hcn := hd cn (by rw [en]; exact List.mem_cons_self)
  have euw : tl u = (cw - 32) :: rw_.map (· - 32) := by rw [eu, ew]; rfl
  have lu : (tl u).length ≤ 8 := by rw [eu, List.length_map]; exact l2
  have K : ∀ {c : String} {l : List Nat}, tl (Str.ofString c) = l → ∀ x, tl (Str.ofString c ++ x) = l ++ tl x := fun h x => by rw [tl_app, h]
  have hws : Wrong w := wrong_of ew (nonD ew (fun h => by have := h.2; omega) (by omega) (by omega)) (by rw [← ew]; exact hwf) (by rw [← ew]; omega)
  have hus : Wrong u := wrong_of euw (nonD euw (fun h => by have := h.2; omega) (by omega) (by omega)) (by rw [← euw]; exact huf) (by rw [← euw]; omega)
  have cut : 32 ∉ tl (cutS w none (some 3)) ∧ (tl (cutS w none (some 3))).length ≤ 8 := by
    have e : tl (cutS w none (some 3)) = ((tl w).drop _).take _ := rfl
    rw [e]
    exact ⟨fun h => hwf (List.mem_of_mem_drop (List.mem_of_mem_take h)), by rw [List.length_take, List.length_drop]; omega⟩
  have r0 : tl (Z.repS ("0" : Str) 300) = List.replicate 300 48 := by decide +kernel
  have r7 : tl (Z.repS ("7" : Str) 300) = List.replicate 300 55 := by decide +kernel
  have ln : n.length ≤ 10 := by rw [tl_len]; exact ln
  -- front: a constant ahead of a text
  have app : ∀ {a b : Str}, 32 ∉ tl a → 32 ∉ tl b → a.length ≤ 12 → b.length ≤ 300 → readT (a ++ b) = .non → Wrong (a ++ b) := fun {a b} fa fb la lb r => by
    refine ⟨r, by rw [tl_app]; exact fun h => (List.mem_append.mp h).elim fa fb, ?_⟩
    rw [tl_len, tl_app, List.length_append, ← tl_len, ← tl_len]; omega
  have q0 : ∀ {x : Str} {l : List Nat}, tl x = l → ∀ y, tl (x ++ y) = l ++ tl y := fun h y => by rw [tl_app, h]
  have qn : ∀ (y : Str), tl (n ++ y) = cn :: (rn ++ tl y) := fun y => by rw [tl_app, en]; rfl
  have lw8 : w.length ≤ 300 := by rw [tl_len]; omega
  have lu8 : u.length ≤ 300 := by rw [tl_len]; omega
  have k1 : tl ("?" : Str) = [63] := by decide +kernel
  have k2 : tl ("-" : Str) = [45] := by decide +kernel
  intro x hx
  unfold wrongWs at hx
  rw [← hu] at hx
  simp only [List.cons_append, List.nil_append, List.mem_cons, List.not_mem_nil, or_false] at hx
  rcases hx with rfl | rfl | rfl | rfl | rfl | rfl | rfl | rfl | rfl | rfl | rfl | rfl | rfl | rfl | rfl | rfl | rfl | rfl | rfl | rfl | rfl | rfl | rfl | rfl | rfl | rfl | rfl | rfl
  · exact wrong_k (by decide +kernel) (by decide +kernel) (by decide +kernel)
  · exact wrong_k (by decide +kernel) (by decide +kernel) (by decide +kernel)
  · exact wrong_k (by decide +kernel) (by decide +kernel) (by decide +kernel)
  · exact wrong_k (by decide +kernel) (by decide +kernel) (by decide +kernel)
  · exact wrong_k (by decide +kernel) (by decide +kernel) (by decide +kernel)
  · exact app (by decide +kernel) hn (by decide +kernel) (by omega) (nonE (m := tl n) (q0 (l := [48]) (by decide +kernel) n) ne)
  · exact app (by decide +kernel) hn (by decide +kernel) (by omega) (nonF (m := tl n) (q0 (l := [45, 48]) (by decide +kernel) n))
  · exact app (by decide +kernel) hn (by decide +kernel) (by omega) (nonD (m := tl n) (q0 (l := [43]) (by decide +kernel) n) (fun h => absurd h.1 (by decide)) (by decide) (by decide))
  · exact app (by decide +kernel) hn (by decide +kernel) (by omega) (nonA (c := 45) (m := 45 :: tl n) (q0 (l := [45, 45]) (by decide +kernel) n) List.mem_cons_self (fun h => absurd h.1 (by decide)) (fun h => absurd h.1 (by decide)))
  · exact hws
  · exact wrong_k (by decide +kernel) (by decide +kernel) (by decide +kernel)
  · refine app (by rw [tl_app, k1]; exact fun h => (List.mem_append.mp h).elim (by decide) hwf) (by decide +kernel) (by rw [tl_len, tl_app, k1, List.length_append]; show 1 + _ ≤ _; omega) (by decide +kernel) (nonB (c := 49) (m := tl w ++ tl ("1" : Str)) (by rw [tl_app, tl_app, k1]; rfl) (List.mem_append_right _ (by decide +kernel)) (fun h => absurd h.1 (by decide)))
  · exact app (by decide +kernel) hwf (by decide +kernel) lw8 (nonA (c := 63) (m := 63 :: tl w) (q0 (l := [63, 63]) (by decide +kernel) w) List.mem_cons_self (fun h => absurd h.2 (by decide)) (fun h => absurd h.1 (by decide)))
  · exact app (by decide +kernel) cut.1 (by decide +kernel) (by rw [tl_len]; omega) (nonA (c := 65) (m := 65 :: tl (cutS w none (some 3))) (q0 (l := [63, 65]) (by decide +kernel) _) List.mem_cons_self (fun h => absurd h.2 (by decide)) (fun h => absurd h.1 (by decide)))
  · exact app (by decide +kernel) hwf (by decide +kernel) lw8 (nonA (c := 63) (m := 63 :: tl w) (q0 (l := [45, 63]) (by decide +kernel) w) List.mem_cons_self (fun h => absurd h.2 (by decide)) (fun h => absurd h.1 (by decide)))
  · exact app hn (by decide +kernel) (by omega) (by decide +kernel) (nonA (c := 46) (qn _) (List.mem_append_right _ (by decide +kernel)) (fun h => absurd h.1 (by decide)) (fun h => absurd h.1 (by decide)))
  · exact app hn (by decide +kernel) (by omega) (by decide +kernel) (nonA (c := 45) (qn _) (List.mem_append_right _ (by decide +kernel)) (fun h => absurd h.1 (by decide)) (fun h => absurd h.1 (by decide)))
  · exact app hn hwf (by omega) lw8 (nonC (c := cw) (qn _) (by omega) (List.mem_append_right _ (by rw [ew]; exact List.mem_cons_self)) (fun h => by have := h.2; omega))
  · exact app (by decide +kernel) (by rw [r0]; exact fun h => absurd (List.eq_of_mem_replicate h) (by decide)) (by decide +kernel) (by rw [tl_len, r0, List.length_replicate]; decide) (nonH (d := 49) (m := tl (Z.repS ("0" : Str) 300)) (q0 (l := [49]) (by decide +kernel) _) (by rw [r0, List.length_replicate]; exact Nat.le_refl _) (by decide))
  · refine app (by rw [tl_app, k2]; exact fun h => (List.mem_append.mp h).elim (by decide) hn) (by rw [r7]; exact fun h => absurd (List.eq_of_mem_replicate h) (by decide)) (by rw [tl_len, tl_app, k2, List.length_append, ← tl_len]; show 1 + _ ≤ _; omega) (by rw [tl_len, r7, List.length_replicate]; decide) (nonG (d := 45) (m := tl n ++ tl (Z.repS ("7" : Str) 300)) (by rw [tl_app, tl_app, k2]; rfl) ?_)
    rw [List.length_append, r7, List.length_replicate, en, List.length_cons]; omega
  · refine app (by rw [tl_app, k1]; exact fun h => (List.mem_append.mp h).elim (by decide) hwf) (by decide +kernel) (by rw [tl_len, tl_app, k1, List.length_append]; show 1 + _ ≤ _; omega) (by decide +kernel) (nonA (c := 63) (d := 63) (m := tl w ++ tl ("?" : Str)) (by rw [tl_app, tl_app, k1]; rfl) (List.mem_append_right _ (by decide +kernel)) (fun h => absurd h.2 (by decide)) (fun h => absurd h.1 (by decide)))
  · exact app hn (by decide +kernel) (by omega) (by decide +kernel) (nonA (c := 44) (qn _) (List.mem_append_right _ (by decide +kernel)) (fun h => absurd h.1 (by decide)) (fun h => absurd h.1 (by decide)))
  · exact wrong_k (by decide +kernel) (by decide +kernel) (by decide +kernel)
  · exact hus
  · exact app (by decide +kernel) huf (by decide +kernel) lu8 (nonB (c := cw - 32) (m := tl u) (q0 (l := [63]) (by decide +kernel) u) (by rw [euw]; exact List.mem_cons_self) (fun h => by have := h.1; omega))
  · exact wrong_k (by decide +kernel) (by decide +kernel) (by decide +kernel)
  · exact wrong_k (by decide +kernel) (by decide +kernel) (by decide +kernel)
  · exact wrong_k (by decide +kernel) (by decide +kernel) (by decide +kernel)
end Tx
/-- all signs are signs -/
def Sg (l : List Nat) : Prop := ∀ c ∈ l, c < 1114112
theorem Sg.app {a b : List Nat} (ha : Sg a) (hb : Sg b) : Sg (a ++ b) := fun c h => (List.mem_append.mp h).elim (ha c) (hb c)
theorem Sg.ok {x : Str} (h : Sg x.cps.toList) : PyData.strOk x = true := by
  unfold PyData.strOk
  rw [Array.all_eq_true']
  intro c hc
  exact decide_eq_true (h c (Array.mem_toList_iff.mpr hc))
theorem Sg.cat {x y : Str} (hx : Sg x.cps.toList) (hy : Sg y.cps.toList) : Sg (x ++ y).cps.toList := by
  rw [Str.cps_append, Array.toList_append]; exact hx.app hy
theorem ofString_sg (x : String) : Sg (Str.ofString x).cps.toList := by
  intro c h
  have h : c ∈ (x.toList.map Char.toNat) := by
    rw [Str.ofString_eq_toList] at h
    exact h
  obtain ⟨x, _, rfl⟩ := List.mem_map.mp h
  have := x.valid
  have h2 : x.toNat < 1114112 := by
    rcases this with h | h
    · show x.val.toNat < _
      have : x.val.toNat < 55296 := h
      omega
    · show x.val.toNat < _
      exact h.2
  exact h2
local macro_rules | `(tactic| walk_at "sg") => `(tactic| first
  | with_reducible assumption
  | (with_reducible refine Sg.cat ?_ ?_ <;> walk_at "sg")
  | exact ofString_sg _)
theorem wrongWs_sg {w n : Str} (hw : ∀ c ∈ w.cps.toList, 97 ≤ c ∧ c ≤ 122) (hn : Sg n.cps.toList) : ∀ x ∈ Tx.wrongWs w n, Sg x.cps.toList := by
  have sw : Sg w.cps.toList := fun c hc => by have := hw c hc; omega
  have su : Sg (Txt.upper w).cps.toList := by
    intro c hc
    have hc : c ∈ Tx.tl (Txt.upper w) := hc
    rw [Tx.tl_upper hw] at hc
    obtain ⟨d, hd, rfl⟩ := List.mem_map.mp hc
    have := hw d hd
    omega
  have sc : Sg (cutS w none (some 3)).cps.toList := by
    have e : Tx.tl (cutS w none (some 3)) = ((Tx.tl w).drop _).take _ := rfl
    intro c hc
    have hc : c ∈ Tx.tl (cutS w none (some 3)) := hc
    rw [e] at hc
    exact sw c (List.mem_of_mem_drop (List.mem_of_mem_take hc))
  have s0 : Sg (Z.repS ("0" : Str) 300).cps.toList := by
    have r0 : Tx.tl (Z.repS ("0" : Str) 300) = List.replicate 300 48 := by decide +kernel
    intro c hc
    have hc : c ∈ Tx.tl (Z.repS ("0" : Str) 300) := hc
    rw [r0] at hc
    rw [List.eq_of_mem_replicate hc]; decide
  have s7 : Sg (Z.repS ("7" : Str) 300).cps.toList := by
    have r0 : Tx.tl (Z.repS ("7" : Str) 300) = List.replicate 300 55 := by decide +kernel
    intro c hc
    have hc : c ∈ Tx.tl (Z.repS ("7" : Str) 300) := hc
    rw [r0] at hc
    rw [List.eq_of_mem_replicate hc]; decide
  unfold Tx.wrongWs
  simp only [List.forall_mem_append, List.forall_mem_cons]
  refine ⟨⟨⟨⟨?_, ?_, ?_, ?_, ?_, ?_, ?_, ?_, ?_, ?_, nofun⟩, ?_, ?_, ?_, ?_, ?_, ?_, nofun⟩, ?_, ?_, ?_, ?_, ?_, nofun⟩, ?_, ?_, ?_, ?_, ?_, ?_, ?_, nofun⟩ <;> walk_at "sg"

section
variable {P : Program} {w : World} {K : PySem.W.Frag} {mg : Str → Option Value} {base : Heap}
theorem sc_law_draw : FnScope ["_law_bag_here", "_law_many", "_law_first", "_law_second", "_law_digit"] ["_law_bag_here", "_law_many"] (defScope s_law_draw) := ⟨rfl, rfl, rfl, by decide +kernel, rfl, by decide +kernel, by decide +kernel⟩
def sp_law_draw : Sp := fun vs H Q _ => ∃ (b : Addr) (m : Int) (n : Nat), vs = [.ref b, .int m] ∧ Bag H b n ∧ 0 < m ∧ m < 1073741824 ∧ n < 1073741824 ∧
  ∀ r H', 0 ≤ r → r < m → Z.But b H H' → Bag H' b (n + 1) → Q (.int r) H'
theorem ok_law_draw (T : Top K mg) : FnOk P w K mg base CX0 1 T.f_law_draw T.fd_law_draw ["_law_bag_here", "_law_many"] sp_law_draw := by
  refine T.F_law_draw.ok sc_law_draw (fun vs H Q E h => ?_) (fun cdv A outer s H vs Q E hr h => ?_)
  · obtain ⟨b, m, n, rfl, _⟩ := h
    rfl
  · obtain ⟨b, m, n, rfl, ⟨g, sd, k, hb, hg, hs0, hs1, hk0, hk1⟩, hm0, hm1, hn, q⟩ := h
    refine ⟨_, pss_cons (ps_if (pt_cmpR op_gt (pe_ix (Z.ix_seqG (K := K) rfl) (pv 0) (pe_int) (fun _ _ => rfl)) (pe_int) (nomark _)) (pss_cons (ps_set (i := 4) sc_law_draw.nd rfl (.inl rfl) (pe_op op_mod (pe_callTy Z.c_int1 (by rfl) T.z_int (by decide +kernel) (pa_cons (pe_ix (Z.ix_seqG (K := K) rfl) (pv 0) (pe_int) (fun _ _ => rfl)) (pa_nil))) (pv 1))) (pss_cons (ps_asg (pe_op op_fdiv (pe_ix (Z.ix_seqG (K := K) rfl) (pv 0) (pe_int) (fun _ _ => rfl)) (pv 1)) (pg_sub (pv 0) (pe_int) set_list)) (pss_one (ps_ret (pv 4))))) (pss_nil)) (pss_cons (ps_asg (pe_op op_add (pe_ix (Z.ix_seqG (K := K) rfl) (pv 0) (pe_int) (fun _ _ => rfl)) (pe_int)) (pg_sub (pv 0) (pe_int) set_list)) (pss_cons (ps_set (i := 2) sc_law_draw.nd rfl (.inl rfl) (pe_op op_mod (pe_callTy Z.c_int1 (by rfl) T.z_int (by decide +kernel) (pa_cons (pe_op op_add (pe_op op_pow (pe_op op_add (pe_ix (Z.ix_seqG (K := K) rfl) (pv 0) (pe_int) (fun _ _ => rfl)) (pe_op op_mul (pe_int) (pe_ix (Z.ix_seqG (K := K) rfl) (pv 0) (pe_int) (fun _ _ => rfl)))) (pe_int)) (pe_op op_mul (pe_ix (Z.ix_seqG (K := K) rfl) (pv 0) (pe_int) (fun _ _ => rfl)) (pe_int))) (pa_nil))) (pe_int))) (pss_cons (ps_set (i := 3) sc_law_draw.nd rfl (.inl rfl) (pe_op op_mod (pe_callTy Z.c_int1 (by rfl) T.z_int (by decide +kernel) (pa_cons (pe_op op_add (pe_op op_mul (pv 2) (pv 2)) (pe_op op_mul (pe_int) (pe_ix (Z.ix_seqG (K := K) rfl) (pv 0) (pe_int) (fun _ _ => rfl)))) (pa_nil))) (pe_int))) (pss_one (ps_ret (pe_op op_mod (pe_callTy Z.c_int1 (by rfl) T.z_int (by decide +kernel) (pa_cons (pe_op op_fdiv (pv 3) (pe_int)) (pa_nil))) (pv 1))))))), ?_⟩
    refine Z.r_start (σ' := [some (.ref b), some (.int m), none, none, none]) rfl ?_
    walk_at "go"
    refine Z.ways (fun c => ?_) (fun c => ?_)
    · walk_at "go"
      intro H1 b1 h1
      walk_at "go"
      refine q _ _ ?_ ?_ b1 ⟨_, _, _, h1, ?_, hs0, hs1, hk0, ?_⟩
      · exact Int.emod_nonneg _ (by omega)
      · exact Int.emod_lt_of_pos _ hm0
      · exact Int.ediv_nonneg hg (by omega)
      · omega
    · walk_at "go"
      intro H1 b1 h1
      walk_at "go"
      refine q _ _ (Int.emod_nonneg _ (by omega)) (Int.emod_lt_of_pos _ hm0) b1 ⟨_, _, _, h1, hg, hs0, hs1, by omega, by omega⟩
theorem sc_law_bag : FnScope ["_law_script", "_law_at", "_law_cell", "_law_great"] ["_law_script", "_law_at"] (defScope s_law_bag) := ⟨rfl, rfl, rfl, by decide +kernel, rfl, by decide +kernel, by decide +kernel⟩
def sp_law_bag (K : PySem.W.Frag) : Sp := fun vs H Q _ => ∃ (a : Addr) (ns : List Int) (at_ : Nat), vs = [.ref a, .int at_] ∧ SqL K H a (ns.map V.int) ∧ at_ ≤ 100 ∧
  ∀ p H', Same H H' → H p = none → Bag H' p 0 → Q (.ref p) H'
theorem ok_law_bag (T : Top K mg) : FnOk P w K mg base CX0 1 T.f_law_bag T.fd_law_bag ["_law_script", "_law_at"] (sp_law_bag K) := by
  refine T.F_law_bag.ok sc_law_bag (fun vs H Q E h => ?_) (fun cdv A outer s H vs Q E hr h => ?_)
  · obtain ⟨a, ns, at_, rfl, _⟩ := h
    rfl
  · obtain ⟨a, ns, at_, rfl, hS, hat, q⟩ := h
    refine ⟨_, pss_cons (ps_set (i := 2) sc_law_bag.nd rfl (.inl rfl) (pe_ifExp (pt_cmpR op_lt (pv 1) (pe_callB Z.c_len (by rfl) T.z_len (by decide +kernel) (pa_cons (pv 0) (pa_nil))) (nomark _)) (pe_ix (Z.ix_seqG (K := K) rfl) (pv 0) (pv 1) (fun _ _ => rfl)) (pe_int))) (pss_cons (ps_set (i := 3) sc_law_bag.nd rfl (.inl rfl) (pe_ifExp (pt_cmpR op_ge (pe_callB Z.c_abs (by rfl) T.z_abs (by decide +kernel) (pa_cons (pv 2) (pa_nil))) (pe_op op_pow (pe_int) (pe_int)) (nomark _)) (pe_callB Z.c_abs (by rfl) T.z_abs (by decide +kernel) (pa_cons (pv 2) (pa_nil))) (pe_int))) (pss_one (ps_ret (pe_lst (pa_cons (pv 3) (pa_cons (pe_op op_add (pe_op op_add (pe_op op_mul (pe_op op_mod (pe_callTy Z.c_int1 (by rfl) T.z_int (by decide +kernel) (pa_cons (pv 2) (pa_nil))) (pe_int)) (pe_int)) (pe_op op_mul (pe_int) (pv 1))) (pe_int)) (pa_cons (pe_int) (pa_nil)))))))), ?_⟩
    refine Z.r_start (σ' := [some (.ref a), some (.int at_), none, none]) rfl ?_
    walk_at "go"
    refine Z.join (fun v H' => (∃ c : Int, v = .int c) ∧ H' = H) (fun c M k => ?_) (fun c M k => ?_) (fun v H' hv => ?_)
    · obtain ⟨z, hz⟩ := Z.get_int (ns := ns) (i := at_) (by rw [List.length_map] at c; omega)
      refine' Z.r_op ?_
      walk_at "go"
      exact k _ _ ⟨⟨z, rfl⟩, rfl⟩
    · exact k _ _ ⟨⟨0, rfl⟩, rfl⟩
    · obtain ⟨⟨z, rfl⟩, rfl⟩ := hv
      walk_at "go"
      refine Z.join (fun v H'' => (∃ c : Int, v = .int c ∧ 0 ≤ c) ∧ H'' = H') (fun c M k => ?_) (fun c M k => ?_) (fun v H'' hv => ?_)
      · walk_at "go"
        refine k _ _ ⟨⟨_, rfl, ?_⟩, rfl⟩
        split <;> omega
      · exact k _ _ ⟨⟨0, rfl, Int.le_refl 0⟩, rfl⟩
      · obtain ⟨⟨y, rfl, hy⟩, rfl⟩ := hv
        walk_at "go"
        intro p H1 np s1 hp
        exact q _ _ s1 np ⟨_, _, _, hp, hy, by omega, by omega, Int.le_refl 0, Int.le_refl _⟩
theorem k_law_bag {K : PySem.W.Frag} {a : Addr} {ns : List Int} {at_ : Nat} {H : Hp} {Q : VK} {E : XK} (hS : SqL K H a (ns.map V.int)) (h : at_ ≤ 100) (q : ∀ p H', Same H H' → H p = none → Bag H' p 0 → Q (.ref p) H') :
    sp_law_bag K ([.ref a, .int at_] ++ []) H Q E := ⟨a, ns, at_, rfl, hS, h, q⟩
theorem sc_law_number : FnScope ["_law_bag_here", "_law_road", "_law_number_here", "_law_turn"] ["_law_bag_here"] (defScope s_law_number) := ⟨rfl, rfl, rfl, by decide +kernel, rfl, by decide +kernel, by decide +kernel⟩
def sp_law_number : Sp := fun vs H Q _ => ∃ (b : Addr) (n : Nat), vs = [.ref b] ∧ Bag H b n ∧ n < 1073741000 ∧ ∀ (i : Int) (H' : Hp), i.natAbs < 10 ^ 246 → Z.But b H H' → Bag H' b (n + 60) → Q (.int i) H'
theorem ok_law_number (T : Top K mg) : FnOk P w K mg base CX0 2 T.f_law_number T.fd_law_number ["_law_bag_here"] sp_law_number := by
  refine T.F_law_number.ok sc_law_number (fun vs H Q E h => ?_) (fun cdv A outer s H vs Q E hr h => ?_)
  · obtain ⟨b, n, rfl, _⟩ := h
    rfl
  · obtain ⟨b, n, rfl, hb, hn, q⟩ := h
    refine ⟨_, pss_cons (ps_set (i := 1) sc_law_number.nd rfl (.inl rfl) (pe_call (ok_law_draw T) (hr.mono (by decide)) (by rfl) T.mg_law_draw T.F_law_draw.kp T.B_law_draw .nil pass0 (pa_cons (pv 0) (pa_cons (pe_int) (pa_nil))))) (pss_cons (ps_if (pt_cmpR op_eq (pv 1) (pe_int) (nomark _)) (pss_one (ps_ret (pe_int))) (pss_nil)) (pss_cons (ps_if (pt_cmpR op_lt (pv 1) (pe_int) (nomark _)) (pss_one (ps_ret (pe_op op_sub (pe_call (ok_law_draw T) (hr.mono (by decide)) (by rfl) T.mg_law_draw T.F_law_draw.kp T.B_law_draw .nil pass0 (pa_cons (pv 0) (pa_cons (pe_int) (pa_nil)))) (pe_int)))) (pss_nil)) (pss_cons (ps_if (pt_cmpR op_eq (pv 1) (pe_int) (nomark _)) (pss_one (ps_ret (pe_op op_sub (pe_call (ok_law_draw T) (hr.mono (by decide)) (by rfl) T.mg_law_draw T.F_law_draw.kp T.B_law_draw .nil pass0 (pa_cons (pv 0) (pa_cons (pe_int) (pa_nil)))) (pe_int)))) (pss_nil)) (pss_cons (ps_set (i := 2) sc_law_number.nd rfl (.inl rfl) (pe_op op_add (pe_int) (pe_call (ok_law_draw T) (hr.mono (by decide)) (by rfl) T.mg_law_draw T.F_law_draw.kp T.B_law_draw .nil pass0 (pa_cons (pv 0) (pa_cons (pe_int) (pa_nil)))))) (pss_cons (ps_for PassesOwn.never rfl (pi_range1 (by rfl) T.z_range (pa_cons (pe_call (ok_law_draw T) (hr.mono (by decide)) (by rfl) T.mg_law_draw T.F_law_draw.kp T.B_law_draw .nil pass0 (pa_cons (pv 0) (pa_cons (pe_int) (pa_nil)))) (pa_nil))) (pg_name (i := 3) sc_law_number.nd rfl (.inl rfl)) (pss_one (ps_set (i := 2) sc_law_number.nd rfl (.inl rfl) (pe_op op_add (pe_op op_mul (pv 2) (pe_int)) (pe_call (ok_law_draw T) (hr.mono (by decide)) (by rfl) T.mg_law_draw T.F_law_draw.kp T.B_law_draw .nil pass0 (pa_cons (pv 0) (pa_cons (pe_int) (pa_nil)))))))) (pss_one (ps_ret (pe_ifExp (pt_cmpR op_eq (pe_call (ok_law_draw T) (hr.mono (by decide)) (by rfl) T.mg_law_draw T.F_law_draw.kp T.B_law_draw .nil pass0 (pa_cons (pv 0) (pa_cons (pe_int) (pa_nil)))) (pe_int) (nomark _)) (pv 2) (pe_op op_sub (pe_int) (pv 2)))))))))), ?_⟩
    refine Z.r_start (σ' := [some (.ref b), none, none, none]) rfl ?_
    walk_at "go"
    walk_at "draw"
    intro r H1 r0 r1 t1 g1
    walk_at "go"
    refine Z.ways (fun c => ?_) (fun c => ?_)
    · walk_at "go"
      exact q 0 H1 (by decide) t1 (g1.mono (by omega))
    walk_at "go"
    refine Z.ways (fun c2 => ?_) (fun c2 => ?_)
    · walk_at "go"
      walk_at "draw"
      intro r2 H2 r20 r21 t2 g2
      walk_at "go"
      exact q _ _ (Nat.lt_of_lt_of_le (show (r2 - 4).natAbs < 10000 by omega) (by decide)) (t1.trans t2) (g2.mono (by omega))
    walk_at "go"
    refine Z.ways (fun c3 => ?_) (fun c3 => ?_)
    · walk_at "go"
      walk_at "draw"
      intro r2 H2 r20 r21 t2 g2
      walk_at "go"
      exact q _ _ (Nat.lt_of_lt_of_le (show (r2 - 2000).natAbs < 10000 by omega) (by decide)) (t1.trans t2) (g2.mono (by omega))
    walk_at "go"
    walk_at "draw"
    intro x H2 x0 x1 t2 g2
    walk_at "go"
    walk_at "draw"
    intro j H3 j0 j1 t3 g3
    walk_at "go"
    refine Z.r_rng j0 (by omega) (fun i σ' H' => ∃ (x : Int) (v : Option V), σ' = [some (.ref b), some (.int r), some (.int x), v] ∧ 0 < x ∧ x < 2 * 10 ^ (6 * (i + 1)) ∧ Z.But b H H' ∧ Bag H' b (n + 3 + i)) ?_ ?_ ?_
    · exact ⟨_, _, rfl, by omega, by omega, (t1.trans t2).trans t3, g3⟩
    · rintro i σ' H' hi ⟨x, v, rfl, hx0, hx1, t, gb⟩
      walk_at "go"
      walk_at "draw"
      intro d H4 d0 d1 t4 g4
      walk_at "go"
      refine ⟨_, _, rfl, by omega, ?_, t.trans t4, g4⟩
      have e : (10 : Int) ^ (6 * (i + 1 + 1)) = 10 ^ (6 * (i + 1)) * 1000000 := by
        rw [show 6 * (i + 1 + 1) = 6 * (i + 1) + 6 by omega, Int.pow_add]
        rfl
      rw [e]
      omega
    · rintro σ' H' ⟨x, v, rfl, hx0, hx1, t, gb⟩
      have hb2 : x < 10 ^ 246 := by
        have h2 : (10 : Int) ^ (6 * (j.toNat + 1)) ≤ 10 ^ 240 := by
          exact Z.pow10_le (by omega)
        have e : (10 : Int) ^ 246 = 10 ^ 240 * 1000000 := by decide
        omega
      have hb3 : x.natAbs < 10 ^ 246 := by
        have : ((x.natAbs : Nat) : Int) < ((10 ^ 246 : Nat) : Int) := by
          rw [Int.natAbs_of_nonneg (by omega)]
          exact hb2
        omega
      walk_at "go"
      walk_at "draw"
      intro d H4 d0 d1 t4 g4
      walk_at "go"
      refine Z.ways (fun c => ?_) (fun c => ?_)
      · walk_at "go"
        exact q _ _ hb3 (t.trans t4) (g4.mono (by omega))
      · walk_at "go"
        refine q _ _ ?_ (t.trans t4) (g4.mono (by omega))
        rw [Int.zero_sub, Int.natAbs_neg]
        exact hb3
theorem k_law_number {b : Addr} {n : Nat} {H : Hp} {Q : VK} {E : XK} (bg : Bag H b n) (hn : n < 1073741000) (q : ∀ (i : Int) (H' : Hp), i.natAbs < 10 ^ 246 → Z.But b H H' → Bag H' b (n + 60) → Q (.int i) H') :
    sp_law_number ([.ref b] ++ []) H Q E := ⟨b, n, rfl, bg, hn, q⟩
theorem sc_law_word : FnScope ["_law_bag_here", "_law_word_here", "_law_turn"] ["_law_bag_here"] (defScope s_law_word) := ⟨rfl, rfl, rfl, by decide +kernel, rfl, by decide +kernel, by decide +kernel⟩
def sp_law_word : Sp := fun vs H Q _ => ∃ (b : Addr) (n : Nat), vs = [.ref b] ∧ Bag H b n ∧ n < 1073741000 ∧ ∀ (x : Str) (H' : Hp), Word x → Z.But b H H' → Bag H' b (n + 60) → Q (.str x) H'
theorem ok_law_word (T : Top K mg) : FnOk P w K mg base CX0 2 T.f_law_word T.fd_law_word ["_law_bag_here"] sp_law_word := by
  refine T.F_law_word.ok sc_law_word (fun vs H Q E h => ?_) (fun cdv A outer s H vs Q E hr h => ?_)
  · obtain ⟨b, n, rfl, _⟩ := h
    rfl
  · obtain ⟨b, n, rfl, hb, hn, q⟩ := h
    refine ⟨_, pss_cons (ps_if (pt_cmpR op_eq (pe_call (ok_law_draw T) (hr.mono (by decide)) (by rfl) T.mg_law_draw T.F_law_draw.kp T.B_law_draw .nil pass0 (pa_cons (pv 0) (pa_cons (pe_int) (pa_nil)))) (pe_int) (nomark _)) (pss_one (ps_ret (pe_ix (Z.ix_seqG (K := K) rfl) (pe_lst (pa_cons (pe_str) (pa_cons (pe_str) (pa_cons (pe_str) (pa_cons (pe_str) (pa_nil)))))) (pe_call (ok_law_draw T) (hr.mono (by decide)) (by rfl) T.mg_law_draw T.F_law_draw.kp T.B_law_draw .nil pass0 (pa_cons (pv 0) (pa_cons (pe_int) (pa_nil)))) (fun _ _ => rfl)))) (pss_nil)) (pss_cons (ps_set (i := 1) sc_law_word.nd rfl (.inl rfl) (pe_str)) (pss_cons (ps_for PassesOwn.never rfl (pi_range1 (by rfl) T.z_range (pa_cons (pe_op op_add (pe_int) (pe_call (ok_law_draw T) (hr.mono (by decide)) (by rfl) T.mg_law_draw T.F_law_draw.kp T.B_law_draw .nil pass0 (pa_cons (pv 0) (pa_cons (pe_int) (pa_nil))))) (pa_nil))) (pg_name (i := 2) sc_law_word.nd rfl (.inl rfl)) (pss_one (ps_set (i := 1) sc_law_word.nd rfl (.inl rfl) (pe_op Z.o_addS (pv 1) (pe_ix (Z.ix_seqG (K := K) rfl) (pe_str) (pe_call (ok_law_draw T) (hr.mono (by decide)) (by rfl) T.mg_law_draw T.F_law_draw.kp T.B_law_draw .nil pass0 (pa_cons (pv 0) (pa_cons (pe_int) (pa_nil)))) (fun _ _ => rfl)))))) (pss_one (ps_ret (pv 1))))), ?_⟩
    refine Z.r_start (σ' := [some (.ref b), none, none]) rfl ?_
    walk_at "go"
    walk_at "draw"
    intro r H1 r0 r1 t1 g1
    walk_at "go"
    refine Z.ways (fun c => ?_) (fun c => ?_)
    · walk_at "go"
      intro p H2 np s1 hp
      have nb : p ≠ b := fun e => by
        obtain ⟨_, _, _, hb1, _⟩ := g1
        rw [e, hb1] at np; cases np
      walk_at "go"
      walk_at "draw"
      intro r2 H3 r20 r21 t2 g2
      have fin : ∀ x, Word x → Q (.str x) H3 := fun x hx => q x H3 hx ((t1.trans (Z.But.same s1)).trans t2) (g2.mono (by omega))
      rcases (show r2 = 0 ∨ r2 = 1 ∨ r2 = 2 ∨ r2 = 3 by omega) with rfl | rfl | rfl | rfl
      all_goals
        walk_at "go"
        exact fin _ ⟨by decide +kernel, by decide +kernel, by decide +kernel⟩
    walk_at "go"
    walk_at "draw"
    intro j H2 j0 j1 t2 g2
    walk_at "go"
    refine Z.r_rng (by omega) (by omega) (fun i σ' H' => ∃ (x : Str) (v : Option V), σ' = [some (.ref b), some (.str x), v] ∧ Wd i x ∧ Z.But b H H' ∧ Bag H' b (n + 2 + i)) ?_ ?_ ?_
    · exact ⟨_, _, rfl, ⟨rfl, by decide +kernel⟩, t1.trans t2, g2⟩
    · rintro i σ' H' hi ⟨x, v, rfl, hx, t, gb⟩
      walk_at "go"
      walk_at "draw"
      intro d H3 d0 d1 t3 g3
      obtain ⟨k, rfl⟩ := Int.eq_ofNat_of_zero_le d0
      obtain ⟨c, hc, c0, c1⟩ := Z.letters (n := k) (by omega)
      refine Z.r_ixS (by decide +kernel) (atI_nat hc) ?_
      refine Z.r_addS (Z.szle ?_) ?_
      · have := hx.1
        show x.length + 1 ≤ 1000
        omega
      walk_at "go"
      exact ⟨_, _, rfl, hx.add c0 c1, t.trans t3, g3⟩
    · rintro σ' H' ⟨x, v, rfl, hx, t, gb⟩
      walk_at "go"
      exact q x H' ⟨by have := hx.1; omega, by have := hx.1; omega, hx.2⟩ t (gb.mono (by omega))
theorem k_law_word {b : Addr} {n : Nat} {H : Hp} {Q : VK} {E : XK} (bg : Bag H b n) (hn : n < 1073741000) (q : ∀ (x : Str) (H' : Hp), Word x → Z.But b H H' → Bag H' b (n + 60) → Q (.str x) H') :
    sp_law_word ([.ref b] ++ []) H Q E := ⟨b, n, rfl, bg, hn, q⟩

theorem sc_is_number : FnScope ["thing"] ["thing"] (defScope s_is_number) := ⟨rfl, rfl, rfl, by decide +kernel, rfl, by decide +kernel, by decide +kernel⟩
def sp_is_number (K : PySem.W.Frag) : Sp := fun vs H Q _ => ∃ (x : V) (t : Value) (bi bb : Bool), vs = [x] ∧ TyX K H x t ∧ PySem.W.kitOne K t (.type "int") = some bi ∧ PySem.W.kitOne K t (.type "bool") = some bb ∧ Q (.bl (bi && !bb)) H
theorem ok_is_number (T : Top K mg) : FnOk P w K mg base CX0 1 T.f_is_number T.fd_is_number ["thing"] (sp_is_number K) := by
  refine T.F_is_number.ok sc_is_number (fun vs H Q E h => ?_) (fun cdv A outer s H vs Q E hr h => ?_)
  · obtain ⟨x, t, bi, bb, rfl, _⟩ := h
    rfl
  · obtain ⟨x, t, bi, bb, rfl, ty, ki, kb, q⟩ := h
    refine ⟨_, pss_one (ps_ret (pe_and (pe_callB (Z.c_isi (K := K) rfl) (by rfl) T.z_isinstance (by decide +kernel) (pa_cons (pv 0) (pa_cons (pe_bltn (v := .ty "int") (by rfl) T.z_int (by decide +kernel) rfl) (pa_nil)))) (pe_one (pe_not (pe_callB (Z.c_isi (K := K) rfl) (by rfl) T.z_isinstance (by decide +kernel) (pa_cons (pv 0) (pa_cons (pe_bltn (v := .ty "bool") (by rfl) T.z_bool (by decide +kernel) rfl) (pa_nil)))))))), ?_⟩
    refine Z.r_start (σ' := [some (x)]) rfl ?_
    walk_at "go"
    cases bi with
    | true => walk_at "go"; exact q
    | false => walk_at "go"; exact q
theorem k_is_number {x : V} {t : Value} {bi bb : Bool} {H : Hp} {Q : VK} {E : XK} (ty : TyX K H x t) (ki : PySem.W.kitOne K t (.type "int") = some bi) (kb : PySem.W.kitOne K t (.type "bool") = some bb) (q : Q (.bl (bi && !bb)) H) :
    sp_is_number K ([x] ++ []) H Q E := ⟨x, t, bi, bb, rfl, ty, ki, kb, q⟩
local macro_rules | `(tactic| walk_at "call") => `(tactic| ((with_reducible refine' k_is_number ?ty ?ki ?kb ?_); (case ty => walk_at "ty"); (case ki => walk_at "ki"); (case kb => walk_at "ki")))
theorem sc_Unnumbered___init : FnScope ["self", "name"] ["self", "name"] (defScope s_Unnumbered___init) := ⟨rfl, rfl, rfl, by decide +kernel, rfl, by decide +kernel, by decide +kernel⟩
def sp_Un (C : Addr) : Sp := fun vs H Q _ => ∃ (p dx : Addr) (n : Str), vs = [.ref p, .str n] ∧ H p = some (.ins C dx []) ∧ ∀ H', Z.But p H H' → H' p = some (.ins C dx [("name", .str n)]) → Q .non H'
theorem ok_Unnumbered___init (T : Top K mg) : FnOk P w K mg base CX0 1 T.f_Unnumbered___init T.fd_Unnumbered___init ["self", "name"] (sp_Un T.C_Unnumbered) := by
  refine T.F_Unnumbered___init.ok sc_Unnumbered___init (fun vs H Q E h => ?_) (fun cdv A outer s H vs Q E hr h => ?_)
  · obtain ⟨p, dx, n, rfl, _⟩ := h
    rfl
  · obtain ⟨p, dx, n, rfl, hp, q⟩ := h
    refine ⟨_, pss_one (ps_fld (pv 0) (pv 1) rfl), ?_⟩
    refine Z.r_start (σ' := [some (.ref p), some (.str n)]) rfl ?_
    walk_at "go"
    intro H1 b1 h1
    exact q H1 b1 h1
theorem r_mkUn {C : Addr} {n : Str} {H : Hp} {Q : VK} {E : XK} (h : ∀ x dx H1, H x = none → Same H H1 → H1 x = some (.ins C dx [("name", .str n)]) → Q (.ref x) H1) : Z.mkI C (sp_Un C) [] [.str n] H Q E := by
  intro x dx nx nd ne
  refine ⟨x, dx, n, rfl, upd_same, fun H1 b1 h1 => ⟨rfl, h x dx H1 nx (fun b o e => ?_) h1⟩⟩
  exact b1 _ _ (ne_of_none e nx) (by rw [upd_ne (ne_of_none e nx), upd_ne (ne_of_none e nd)]; exact e)
local macro_rules | `(tactic| walk_at "call") => `(tactic| with_reducible refine r_mkUn ?_)
theorem sc_is_entry : FnScope ["thing"] ["thing"] (defScope s_is_entry) := ⟨rfl, rfl, rfl, by decide +kernel, rfl, by decide +kernel, by decide +kernel⟩
def sp_is_entry (K : PySem.W.Frag) (C : Addr) : Sp := fun vs H Q _ => ∃ (x : V) (t : Value) (bi bb bu : Bool), vs = [x] ∧ TyX K H x t ∧ PySem.W.kitOne K t (.type "int") = some bi ∧ PySem.W.kitOne K t (.type "bool") = some bb ∧ PySem.W.kitOne K t (.ref C) = some bu ∧ Q (.bl ((bi && !bb) || bu)) H
theorem ok_is_entry (T : Top K mg) : FnOk P w K mg base CX0 2 T.f_is_entry T.fd_is_entry ["thing"] (sp_is_entry K T.C_Unnumbered) := by
  refine T.F_is_entry.ok sc_is_entry (fun vs H Q E h => ?_) (fun cdv A outer s H vs Q E hr h => ?_)
  · obtain ⟨x, t, bi, bb, bu, rfl, _⟩ := h
    rfl
  · obtain ⟨x, t, bi, bb, bu, rfl, ty, ki, kb, ku, q⟩ := h
    refine ⟨_, pss_one (ps_ret (pe_or (pe_call (ok_is_number T) (hr.mono (by decide)) (by rfl) T.mg_is_number T.F_is_number.kp T.B_is_number .nil pass0 (pa_cons (pv 0) (pa_nil))) (pe_one (pe_callB (Z.c_isi (K := K) rfl) (by rfl) T.z_isinstance (by decide +kernel) (pa_cons (pv 0) (pa_cons (pe_glob (v := .ref T.C_Unnumbered) (by exact rfl) T.mgC_Unnumbered rfl) (pa_nil))))))), ?_⟩
    refine Z.r_start (σ' := [some (x)]) rfl ?_
    walk_at "go"
    cases bi with
    | true =>
      cases bb with
      | true => walk_at "go"; exact q
      | false => walk_at "go"; exact q
    | false => walk_at "go"; exact q
theorem k_is_entry {K : PySem.W.Frag} {C : Addr} {x : V} {t : Value} {bi bb bu : Bool} {H : Hp} {Q : VK} {E : XK} (ty : TyX K H x t) (ki : PySem.W.kitOne K t (.type "int") = some bi) (kb : PySem.W.kitOne K t (.type "bool") = some bb) (ku : PySem.W.kitOne K t (.ref C) = some bu)
    (q : Q (.bl ((bi && !bb) || bu)) H) : sp_is_entry K C ([x] ++ []) H Q E := ⟨x, t, bi, bb, bu, rfl, ty, ki, kb, ku, q⟩
local macro_rules | `(tactic| walk_at "call") => `(tactic| ((with_reducible refine' k_is_entry ?ty ?ki ?kb ?ku ?_); (case ty => walk_at "ty"); (case ki => walk_at "ki"); (case kb => walk_at "ki"); (case ku => walk_at "ki")))
theorem sc_with_one_object_a_name : FnScope ["entries", "firsts", "kept", "entry"] ["entries"] (defScope s_with_one_object_a_name) := ⟨rfl, rfl, rfl, by decide +kernel, rfl, by decide +kernel, by decide +kernel⟩
def sp_with1 (C : Addr) : Sp := fun vs H Q _ => ∃ (l : Addr) (es : Ens), vs = [.ref l] ∧ H l = some (.lst (es.map (·.1))) ∧ es.length ≤ 250 ∧ EnsOk C H es ∧ ∀ t H', H t = none → Same H H' → H' t = some (.tup (es.map fun e => fstV es e.2)) → Q (.ref t) H'
theorem ok_with_one_object_a_name (T : Top K mg) : FnOk P w K mg base CX0 2 T.f_with_one_object_a_name T.fd_with_one_object_a_name ["entries"] (sp_with1 T.C_Unnumbered) := by
  refine T.F_with_one_object_a_name.ok sc_with_one_object_a_name (fun vs H Q E h => ?_) (fun cdv A outer s H vs Q E hr h => ?_)
  · obtain ⟨l, es, rfl, _⟩ := h
    rfl
  · obtain ⟨l, es, rfl, hl, hn, hes, q⟩ := h
    refine ⟨_, pss_cons (ps_set (i := 1) sc_with_one_object_a_name.nd rfl (.inl rfl) (pe_dnewK)) (pss_cons (ps_set (i := 2) sc_with_one_object_a_name.nd rfl (.inl rfl) (pe_lst (pa_nil))) (pss_cons (ps_for PassesOwn.never rfl (pi_list (pv 0)) (pg_name (i := 3) sc_with_one_object_a_name.nd rfl (.inl rfl)) (pss_one (ps_if (pt_val (pe_call (ok_is_number T) (hr.mono (by decide)) (by rfl) T.mg_is_number T.F_is_number.kp T.B_is_number .nil pass0 (pa_cons (pv 3) (pa_nil)))) (pss_one (ps_expr (pe_bm PySem.F.plainAttrs_list PySem.F.slot_list_append PySem.F.type_list_append mt_append (pv 2) (pa_cons (pv 3) (pa_nil))))) (pss_cons (ps_if (pt_cmp (pc_dnotin (hu_of hr) (pe_fld (pv 3) rfl) (pv 1))) (pss_one (ps_dput (hu_of hr) (pv 1) (pe_fld (pv 3) rfl) (pv 3) rfl)) (pss_nil)) (pss_one (ps_expr (pe_bm PySem.F.plainAttrs_list PySem.F.slot_list_append PySem.F.type_list_append mt_append (pv 2) (pa_cons (pe_dget (hu_of hr) (pv 1) (pe_fld (pv 3) rfl) (fun _ _ => rfl)) (pa_nil))))))))) (pss_one (ps_ret (pe_callTy Z.c_tupOf (by rfl) T.z_tuple (by decide +kernel) (pa_cons (pv 2) (pa_nil))))))), ?_⟩
    refine Z.r_start (σ' := [some (.ref l), none, none, none]) rfl ?_
    walk_at "go"
    intro d H1 nd s1 hd
    walk_at "go"
    intro kp H2 nk s2 hk
    have ndk : d ≠ kp := ne_of_none hd nk
    have s02 := s1.trans s2
    walk_at "go"
    refine Z.r_lst_by (SqL.of (s02 _ _ hl)) (fun k σ' H' => Same H H' ∧ ∃ kvs v3, σ' = [some (.ref l), some (.ref d), some (.ref kp), v3] ∧ H' d = some (.dK kvs) ∧ kvs.length ≤ k ∧ Firsts kvs (es.take k) ∧ H' kp = some (.lst ((es.take k).map fun e => fstV es e.2))) ?_ ?_ ?_ ?_
    · exact ⟨s02, [], _, rfl, s2 _ _ hd, Nat.le_refl _, (fun n => rfl), hk⟩
    · rintro k σ' H' ⟨s', _⟩
      exact SqL.of (s' _ _ hl)
    · rintro k x σ' H3 hx ⟨s3, kvs, v3, rfl, hd3, hkl, hF, hk3⟩
      rw [List.getElem?_map] at hx
      cases hu : es[k]? with
      | none => rw [hu] at hx; cases hx
      | some e =>
      rw [hu] at hx
      cases hx
      have hm := List.mem_of_getElem? hu
      have lk : k < es.length := (List.getElem?_eq_some_iff.mp hu).1
      have tk : es.take (k + 1) = es.take k ++ [e] := by
        rw [List.take_succ, hu]; rfl
      obtain ⟨hr1, hne⟩ := hes e hm
      have hr3 := hr1.same s3
      obtain ⟨x, t⟩ := e
      have ltk : ((es.take k).map fun e => fstV es e.2).length ≤ 250 := by rw [List.length_map, List.length_take]; omega
      have back : ∀ {H' H'' : Hp} {b : Addr}, Same H H' → H b = none → Z.But b H' H'' → Same H H'' := fun s n b a o h => b a o (ne_of_none h n) (s a o h)
      have nd0 : H d = none := nd
      have nk0 : H kp = none := by
        cases z : H kp with
        | none => rfl
        | some o => rw [s1 _ _ z] at nk; cases nk
      cases t with
      | non => exact absurd rfl hne
      | num i =>
        have hxi : x = .int i := hr1
        subst hxi
        walk_at "go"
        refine Z.r_app hk3 (by omega) fun H4 b4 h4 => ?_
        walk_at "go"
        refine ⟨back s3 nk0 b4, kvs, _, rfl, b4 _ _ ndk hd3, by omega, fun n => ?_, ?_⟩
        · rw [tk, fst_snoc, hF n]
          simp
        · rw [h4, tk, List.map_append]
          have e1 : fstV es (.num i) = .int i := fst_num hes ⟨_, hm⟩
          show some (HO.lst _) = some (HO.lst (_ ++ [fstV es (.num i)]))
          rw [e1]
      | mark n =>
        obtain ⟨a, dx, rfl, ha⟩ := hr3
        walk_at "go"
        cases hv : valV kvs (.inr n) with
        | some y =>
          walk_at "go"
          refine Z.r_dgS hd3 hv ?_
          walk_at "go"
          refine Z.r_app hk3 (by omega) fun H4 b4 h4 => ?_
          walk_at "go"
          have hy : fst? (es.take k) (.mark n) = some y := by rw [← hF n, hv]
          refine ⟨back s3 nk0 b4, kvs, _, rfl, b4 _ _ ndk hd3, by omega, fun m => ?_, ?_⟩
          · rw [tk, fst_snoc, hF m]
            by_cases e : n = m
            · subst e
              rw [hy]; rfl
            · simp [e]
          · rw [h4, tk, List.map_append]
            have e1 : fstV es (.mark n) = y := by unfold fstV; rw [fst_take hy]; rfl
            show some (HO.lst _) = some (HO.lst (_ ++ [fstV es (.mark n)]))
            rw [e1]
        | none =>
          have hy : fst? (es.take k) (.mark n) = none := by rw [← hF n, hv]
          walk_at "go"
          refine Z.r_dpS hd3 (by omega) fun H4 b4 h4 => ?_
          have hk4 := b4 _ _ ndk.symm hk3
          walk_at "go"
          refine Z.r_fldV (b4 _ _ (ne_of ha hd3 (by intro z; cases z)) ha) T.cl_Unnumbered T.no_Unnumbered_name Z.look1 ?_
          refine Z.r_dgS h4 (by rw [valV_put, if_pos rfl]) ?_
          walk_at "go"
          refine Z.r_app hk4 (by omega) fun H5 b5 h5 => ?_
          walk_at "go"
          refine ⟨back (back s3 nd0 b4) nk0 b5, _, _, rfl, b5 _ _ ndk h4, ?_, fun m => ?_, ?_⟩
          · rw [putK_new _ hv, List.length_append]
            exact Nat.succ_le_succ hkl
          · rw [valV_put, tk, fst_snoc, hF m]
            by_cases e : n = m
            · subst e
              rw [hy, if_pos rfl]; simp
            · rw [if_neg (by intro z; exact e (by cases z; rfl))]
              simp [e]
          · rw [h5, tk, List.map_append]
            have e1 : fstV es (.mark n) = .ref a := by
              have z : fst? (es.take (k + 1)) (.mark n) = some (.ref a) := by
                rw [tk, fst_snoc, hy]; simp
              unfold fstV; rw [fst_take z]; rfl
            show some (HO.lst _) = some (HO.lst (_ ++ [fstV es (.mark n)]))
            rw [e1]
    · rintro σ' H3 ⟨s3, kvs, v3, rfl, hd3, hkl, hF, hk3⟩
      rw [List.length_map, List.take_length] at hk3
      walk_at "go"
      intro t H4 nt s4 ht
      refine q t H4 ?_ (s3.trans s4) ht
      cases z : H t with
      | none => rfl
      | some o => rw [s3 _ _ z] at nt; cases nt
theorem k_with1 {C l : Addr} {es : Ens} {H : Hp} {Q : VK} {E : XK} (hl : H l = some (.lst (es.map (·.1)))) (hn : es.length ≤ 250) (hes : EnsOk C H es) (q : ∀ t H', H t = none → Same H H' → H' t = some (.tup (es.map fun e => fstV es e.2)) → Q (.ref t) H') :
    sp_with1 C ([.ref l] ++ []) H Q E := ⟨l, es, rfl, hl, hn, hes, q⟩
theorem sc_Series___init : FnScope ["self", "entries", "at", "entry"] ["self", "entries"] (defScope s_Series___init) := ⟨rfl, rfl, rfl, by decide +kernel, rfl, by decide +kernel, by decide +kernel⟩
def sp_Se (C S : Addr) : Sp := fun vs H Q _ => ∃ (p dx l : Addr) (es : Ens), vs = [.ref p, .ref l] ∧ H p = some (.ins S dx []) ∧ H l = some (.lst (es.map (·.1))) ∧ es.length ≤ 250 ∧ EnsOk C H es ∧
  ∀ t H', H t = none → Z.But p H H' → H' t = some (.tup (es.map fun e => fstV es e.2)) → H' p = some (.ins S dx [("entries", .ref t)]) → Q .non H'
theorem ok_Series___init (T : Top K mg) : FnOk P w K mg base CX0 3 T.f_Series___init T.fd_Series___init ["self", "entries"] (sp_Se T.C_Unnumbered T.C_Series) := by
  refine T.F_Series___init.ok sc_Series___init (fun vs H Q E h => ?_) (fun cdv A outer s H vs Q E hr h => ?_)
  · obtain ⟨p, dx, l, es, rfl, _⟩ := h
    rfl
  · obtain ⟨p, dx, l, es, rfl, hp, hl, hn, hes, q⟩ := h
    refine ⟨_, pss_cons (ps_if ((pw_or (pt_not (pt_val (pe_callB (Z.c_isiT (K := K) rfl) (by rfl) T.z_isinstance (by decide +kernel) (pa_cons (pv 1) (pa_cons (pe_tup (pa_cons (pe_bltn (v := .ty "list") (by rfl) T.z_list (by decide +kernel) rfl) (pa_cons (pe_bltn (v := .ty "tuple") (by rfl) T.z_tuple (by decide +kernel) rfl) (pa_nil)))) (pa_nil)))))) (pw_or1 (pt_cmpR op_gt (pe_callB Z.c_len (by rfl) T.z_len (by decide +kernel) (pa_cons (pv 1) (pa_nil))) (pe_glob (v := .int 250) (by rfl) T.mgK_MOST_ENTRIES ⟨_, rfl⟩) (nomark _)))).pt) (pss_one (ps_never)) (pss_nil)) (pss_cons (ps_for PassesOwn.never rfl (pi_enum (by rfl) T.z_enumerate (pa_cons (pv 1) (pa_nil))) (pg_tup rfl (pgs_cons (pg_name (i := 2) sc_Series___init.nd rfl (.inl rfl)) (pgs_cons (pg_name (i := 3) sc_Series___init.nd rfl (.inl rfl)) (pgs_nil)))) (pss_one (ps_if (pt_not (pt_val (pe_call (ok_is_entry T) (hr.mono (by decide)) (by rfl) T.mg_is_entry T.F_is_entry.kp T.B_is_entry .nil pass0 (pa_cons (pv 3) (pa_nil))))) (pss_one (ps_never)) (pss_nil)))) (pss_one (ps_fld (pv 0) (pe_call (ok_with_one_object_a_name T) (hr.mono (by decide)) (by rfl) T.mg_with_one_object_a_name T.F_with_one_object_a_name.kp T.B_with_one_object_a_name .nil pass0 (pa_cons (pv 1) (pa_nil))) rfl))), ?_⟩
    refine Z.r_start (σ' := [some (.ref p), some (.ref l), none, none]) rfl ?_
    walk_at "go"
    intro tp H1 ntp s1 htp
    have hl1 := s1 _ _ hl
    walk_at "go"
    rw [List.length_map]
    refine Z.no (decide_eq_false (by omega)) ?_
    walk_at "go"
    refine Z.r_enum_by (SqL.of hl1) (fun k σ' H' => Same H1 H' ∧ ∃ v2 v3, σ' = [some (.ref p), some (.ref l), v2, v3]) ?_ ?_ ?_ ?_
    · exact ⟨Same.refl _, _, _, rfl⟩
    · rintro k σ' H' ⟨s', _⟩
      exact SqL.of (s' _ _ hl1)
    · rintro k x σ' H2 hx ⟨s2, v2, v3, rfl⟩ TT H3 nTT s3 hTT
      rw [List.getElem?_map] at hx
      cases hu : es[k]? with
      | none => rw [hu] at hx; cases hx
      | some e =>
      rw [hu] at hx
      cases hx
      have hm := List.mem_of_getElem? hu
      obtain ⟨hr1, hne⟩ := hes e hm
      have hr3 := ((hr1.same s1).same s2).same s3
      obtain ⟨x, t⟩ := e
      have s23 := s2.trans s3
      walk_at "go"
      cases t with
      | non => exact absurd rfl hne
      | num i =>
        have hxi : x = .int i := hr1
        subst hxi
        walk_at "go"
        exact ⟨s23, _, _, rfl⟩
      | mark n =>
        obtain ⟨a, dx, rfl, ha⟩ := hr3
        walk_at "go"
        exact ⟨s23, _, _, rfl⟩
    · rintro σ' H2 ⟨s2, v2, v3, rfl⟩
      have s02 := s1.trans s2
      walk_at "go"
      refine k_with1 (s02 _ _ hl) hn (hes.same s02) ?_
      intro t H3 nt s3 ht
      have hp3 := s3 _ _ (s02 _ _ hp)
      walk_at "go"
      intro H4 b4 h4
      have nt0 : H t = none := by
        cases z : H t with
        | none => rfl
        | some o => rw [s02 _ _ z] at nt; cases nt
      refine q t H4 nt0 ((Z.But.same (s02.trans s3)).trans b4) ?_ h4
      exact b4 _ _ (ne_of_none (s02 _ _ hp) nt).symm ht
theorem r_mkSe {C S l : Addr} {es : Ens} {H : Hp} {Q : VK} {E : XK} (hl : H l = some (.lst (es.map (·.1)))) (hn : es.length ≤ 250) (hes : EnsOk C H es)
    (h : ∀ x dx t H1, H x = none → H t = none → Same H H1 → H1 t = some (.tup (es.map fun e => fstV es e.2)) → H1 x = some (.ins S dx [("entries", .ref t)]) → Q (.ref x) H1) : Z.mkI S (sp_Se C S) [] [.ref l] H Q E := by
  intro x dx nx nd ne
  have sm : Same H (L2.upd (L2.upd H dx (.own x)) x (.ins S dx [])) := fun b o e => by
    rw [upd_ne (ne_of_none e nx), upd_ne (ne_of_none e nd)]; exact e
  refine ⟨x, dx, l, es, rfl, upd_same, sm _ _ hl, hn, hes.same sm, fun t H1 nt b1 ht h1 => ⟨rfl, h x dx t H1 nx ?_ (fun b o e => b1 _ _ (ne_of_none e nx) (sm _ _ e)) ht h1⟩⟩
  cases z : H t with
  | none => rfl
  | some o => rw [sm _ _ z] at nt; cases nt

theorem sc_BadSeries___init : FnScope ["self", "at"] ["self", "at"] (defScope s_BadSeries___init) := ⟨rfl, rfl, rfl, by decide +kernel, rfl, by decide +kernel, by decide +kernel⟩
theorem ok_BadSeries___init (T : Top K mg) : FnOk P w K mg base CX0 1 T.f_BadSeries___init T.fd_BadSeries___init ["self", "at"] (sp_ex T.C_BadSeries "at") := by
  refine T.F_BadSeries___init.ok sc_BadSeries___init (fun vs H Q E h => ?_) (fun cdv A outer s H vs Q E hr h => ?_)
  · obtain ⟨a, y, rfl, _⟩ := h
    rfl
  · obtain ⟨a, y, rfl, ha, q⟩ := h
    refine ⟨_, pss_one (Z.ps_xst (pv 0) (pv 1) rfl), ?_⟩
    refine Z.r_start (σ' := [some (.ref a), some (y)]) rfl ?_
    walk_at "go"
    refine Z.r_xstV T.ex_BadSeries T.no_BadSeries_at ha fun dx H1 n b h1 h2 => ?_
    walk_at "go"
    exact q dx H1 n b h1 h2
def sp_with1T (C : Addr) : Sp := fun vs H Q _ => ∃ (l : Addr) (es : Ens), vs = [.ref l] ∧ H l = some (.tup (es.map (·.1))) ∧ es.length ≤ 250 ∧ EnsOk C H es ∧ ∀ t H', H t = none → Same H H' → H' t = some (.tup (es.map fun e => fstV es e.2)) → Q (.ref t) H'
theorem ok_with_one_object_a_name_t (T : Top K mg) : FnOk P w K mg base CX0 2 T.f_with_one_object_a_name T.fd_with_one_object_a_name ["entries"] (sp_with1T T.C_Unnumbered) := by
  refine T.F_with_one_object_a_name.ok sc_with_one_object_a_name (fun vs H Q E h => ?_) (fun cdv A outer s H vs Q E hr h => ?_)
  · obtain ⟨l, es, rfl, _⟩ := h
    rfl
  · obtain ⟨l, es, rfl, hl, hn, hes, q⟩ := h
    refine ⟨_, pss_cons (ps_set (i := 1) sc_with_one_object_a_name.nd rfl (.inl rfl) (pe_dnewK)) (pss_cons (ps_set (i := 2) sc_with_one_object_a_name.nd rfl (.inl rfl) (pe_lst (pa_nil))) (pss_cons (ps_for PassesOwn.never rfl (pi_tup (pv 0)) (pg_name (i := 3) sc_with_one_object_a_name.nd rfl (.inl rfl)) (pss_one (ps_if (pt_val (pe_call (ok_is_number T) (hr.mono (by decide)) (by rfl) T.mg_is_number T.F_is_number.kp T.B_is_number .nil pass0 (pa_cons (pv 3) (pa_nil)))) (pss_one (ps_expr (pe_bm PySem.F.plainAttrs_list PySem.F.slot_list_append PySem.F.type_list_append mt_append (pv 2) (pa_cons (pv 3) (pa_nil))))) (pss_cons (ps_if (pt_cmp (pc_dnotin (hu_of hr) (pe_fld (pv 3) rfl) (pv 1))) (pss_one (ps_dput (hu_of hr) (pv 1) (pe_fld (pv 3) rfl) (pv 3) rfl)) (pss_nil)) (pss_one (ps_expr (pe_bm PySem.F.plainAttrs_list PySem.F.slot_list_append PySem.F.type_list_append mt_append (pv 2) (pa_cons (pe_dget (hu_of hr) (pv 1) (pe_fld (pv 3) rfl) (fun _ _ => rfl)) (pa_nil))))))))) (pss_one (ps_ret (pe_callTy Z.c_tupOf (by rfl) T.z_tuple (by decide +kernel) (pa_cons (pv 2) (pa_nil))))))), ?_⟩
    refine Z.r_start (σ' := [some (.ref l), none, none, none]) rfl ?_
    walk_at "go"
    intro d H1 nd s1 hd
    walk_at "go"
    intro kp H2 nk s2 hk
    have ndk : d ≠ kp := ne_of_none hd nk
    have s02 := s1.trans s2
    walk_at "go"
    refine Z.r_tup_by (SqT.of (s02 _ _ hl)) (fun k σ' H' => Same H H' ∧ ∃ kvs v3, σ' = [some (.ref l), some (.ref d), some (.ref kp), v3] ∧ H' d = some (.dK kvs) ∧ kvs.length ≤ k ∧ Firsts kvs (es.take k) ∧ H' kp = some (.lst ((es.take k).map fun e => fstV es e.2))) ?_ ?_ ?_ ?_
    · exact ⟨s02, [], _, rfl, s2 _ _ hd, Nat.le_refl _, (fun n => rfl), hk⟩
    · rintro k σ' H' ⟨s', _⟩
      exact SqT.of (s' _ _ hl)
    · rintro k x σ' H3 hx ⟨s3, kvs, v3, rfl, hd3, hkl, hF, hk3⟩
      rw [List.getElem?_map] at hx
      cases hu : es[k]? with
      | none => rw [hu] at hx; cases hx
      | some e =>
      rw [hu] at hx
      cases hx
      have hm := List.mem_of_getElem? hu
      have lk : k < es.length := (List.getElem?_eq_some_iff.mp hu).1
      have tk : es.take (k + 1) = es.take k ++ [e] := by
        rw [List.take_succ, hu]; rfl
      obtain ⟨hr1, hne⟩ := hes e hm
      have hr3 := hr1.same s3
      obtain ⟨x, t⟩ := e
      have ltk : ((es.take k).map fun e => fstV es e.2).length ≤ 250 := by rw [List.length_map, List.length_take]; omega
      have back : ∀ {H' H'' : Hp} {b : Addr}, Same H H' → H b = none → Z.But b H' H'' → Same H H'' := fun s n b a o h => b a o (ne_of_none h n) (s a o h)
      have nd0 : H d = none := nd
      have nk0 : H kp = none := by
        cases z : H kp with
        | none => rfl
        | some o => rw [s1 _ _ z] at nk; cases nk
      cases t with
      | non => exact absurd rfl hne
      | num i =>
        have hxi : x = .int i := hr1
        subst hxi
        walk_at "go"
        refine Z.r_app hk3 (by omega) fun H4 b4 h4 => ?_
        walk_at "go"
        refine ⟨back s3 nk0 b4, kvs, _, rfl, b4 _ _ ndk hd3, by omega, fun n => ?_, ?_⟩
        · rw [tk, fst_snoc, hF n]
          simp
        · rw [h4, tk, List.map_append]
          have e1 : fstV es (.num i) = .int i := fst_num hes ⟨_, hm⟩
          show some (HO.lst _) = some (HO.lst (_ ++ [fstV es (.num i)]))
          rw [e1]
      | mark n =>
        obtain ⟨a, dx, rfl, ha⟩ := hr3
        walk_at "go"
        cases hv : valV kvs (.inr n) with
        | some y =>
          walk_at "go"
          refine Z.r_dgS hd3 hv ?_
          walk_at "go"
          refine Z.r_app hk3 (by omega) fun H4 b4 h4 => ?_
          walk_at "go"
          have hy : fst? (es.take k) (.mark n) = some y := by rw [← hF n, hv]
          refine ⟨back s3 nk0 b4, kvs, _, rfl, b4 _ _ ndk hd3, by omega, fun m => ?_, ?_⟩
          · rw [tk, fst_snoc, hF m]
            by_cases e : n = m
            · subst e
              rw [hy]; rfl
            · simp [e]
          · rw [h4, tk, List.map_append]
            have e1 : fstV es (.mark n) = y := by unfold fstV; rw [fst_take hy]; rfl
            show some (HO.lst _) = some (HO.lst (_ ++ [fstV es (.mark n)]))
            rw [e1]
        | none =>
          have hy : fst? (es.take k) (.mark n) = none := by rw [← hF n, hv]
          walk_at "go"
          refine Z.r_dpS hd3 (by omega) fun H4 b4 h4 => ?_
          have hk4 := b4 _ _ ndk.symm hk3
          walk_at "go"
          refine Z.r_fldV (b4 _ _ (ne_of ha hd3 (by intro z; cases z)) ha) T.cl_Unnumbered T.no_Unnumbered_name Z.look1 ?_
          refine Z.r_dgS h4 (by rw [valV_put, if_pos rfl]) ?_
          walk_at "go"
          refine Z.r_app hk4 (by omega) fun H5 b5 h5 => ?_
          walk_at "go"
          refine ⟨back (back s3 nd0 b4) nk0 b5, _, _, rfl, b5 _ _ ndk h4, ?_, fun m => ?_, ?_⟩
          · rw [putK_new _ hv, List.length_append]
            exact Nat.succ_le_succ hkl
          · rw [valV_put, tk, fst_snoc, hF m]
            by_cases e : n = m
            · subst e
              rw [hy, if_pos rfl]; simp
            · rw [if_neg (by intro z; exact e (by cases z; rfl))]
              simp [e]
          · rw [h5, tk, List.map_append]
            have e1 : fstV es (.mark n) = .ref a := by
              have z : fst? (es.take (k + 1)) (.mark n) = some (.ref a) := by
                rw [tk, fst_snoc, hy]; simp
              unfold fstV; rw [fst_take z]; rfl
            show some (HO.lst _) = some (HO.lst (_ ++ [fstV es (.mark n)]))
            rw [e1]
    · rintro σ' H3 ⟨s3, kvs, v3, rfl, hd3, hkl, hF, hk3⟩
      rw [List.length_map, List.take_length] at hk3
      walk_at "go"
      intro t H4 nt s4 ht
      refine q t H4 ?_ (s3.trans s4) ht
      cases z : H t with
      | none => rfl
      | some o => rw [s3 _ _ z] at nt; cases nt
theorem k_with1T {C l : Addr} {es : Ens} {H : Hp} {Q : VK} {E : XK} (hl : H l = some (.tup (es.map (·.1)))) (hn : es.length ≤ 250) (hes : EnsOk C H es) (q : ∀ t H', H t = none → Same H H' → H' t = some (.tup (es.map fun e => fstV es e.2)) → Q (.ref t) H') :
    sp_with1T C ([.ref l] ++ []) H Q E := ⟨l, es, rfl, hl, hn, hes, q⟩
def sp_SeT (C S : Addr) : Sp := fun vs H Q _ => ∃ (p dx l : Addr) (es : Ens), vs = [.ref p, .ref l] ∧ H p = some (.ins S dx []) ∧ H l = some (.tup (es.map (·.1))) ∧ es.length ≤ 250 ∧ EnsOk C H es ∧
  ∀ t H', H t = none → Z.But p H H' → H' t = some (.tup (es.map fun e => fstV es e.2)) → H' p = some (.ins S dx [("entries", .ref t)]) → Q .non H'
theorem ok_Series___init___t (T : Top K mg) : FnOk P w K mg base CX0 3 T.f_Series___init T.fd_Series___init ["self", "entries"] (sp_SeT T.C_Unnumbered T.C_Series) := by
  refine T.F_Series___init.ok sc_Series___init (fun vs H Q E h => ?_) (fun cdv A outer s H vs Q E hr h => ?_)
  · obtain ⟨p, dx, l, es, rfl, _⟩ := h
    rfl
  · obtain ⟨p, dx, l, es, rfl, hp, hl, hn, hes, q⟩ := h
    refine ⟨_, pss_cons (ps_if ((pw_or (pt_not (pt_val (pe_callB (Z.c_isiT (K := K) rfl) (by rfl) T.z_isinstance (by decide +kernel) (pa_cons (pv 1) (pa_cons (pe_tup (pa_cons (pe_bltn (v := .ty "list") (by rfl) T.z_list (by decide +kernel) rfl) (pa_cons (pe_bltn (v := .ty "tuple") (by rfl) T.z_tuple (by decide +kernel) rfl) (pa_nil)))) (pa_nil)))))) (pw_or1 (pt_cmpR op_gt (pe_callB Z.c_len (by rfl) T.z_len (by decide +kernel) (pa_cons (pv 1) (pa_nil))) (pe_glob (v := .int 250) (by rfl) T.mgK_MOST_ENTRIES ⟨_, rfl⟩) (nomark _)))).pt) (pss_one (ps_never)) (pss_nil)) (pss_cons (ps_for PassesOwn.never rfl (Z.pi_enT (by rfl) T.z_enumerate (pa_cons (pv 1) (pa_nil))) (pg_tup rfl (pgs_cons (pg_name (i := 2) sc_Series___init.nd rfl (.inl rfl)) (pgs_cons (pg_name (i := 3) sc_Series___init.nd rfl (.inl rfl)) (pgs_nil)))) (pss_one (ps_if (pt_not (pt_val (pe_call (ok_is_entry T) (hr.mono (by decide)) (by rfl) T.mg_is_entry T.F_is_entry.kp T.B_is_entry .nil pass0 (pa_cons (pv 3) (pa_nil))))) (pss_one (ps_never)) (pss_nil)))) (pss_one (ps_fld (pv 0) (pe_call (ok_with_one_object_a_name_t T) (hr.mono (by decide)) (by rfl) T.mg_with_one_object_a_name T.F_with_one_object_a_name.kp T.B_with_one_object_a_name .nil pass0 (pa_cons (pv 1) (pa_nil))) rfl))), ?_⟩
    refine Z.r_start (σ' := [some (.ref p), some (.ref l), none, none]) rfl ?_
    walk_at "go"
    intro tp H1 ntp s1 htp
    have hl1 := s1 _ _ hl
    walk_at "go"
    rw [List.length_map]
    refine Z.no (decide_eq_false (by omega)) ?_
    walk_at "go"
    refine Z.r_enumT_by (SqT.of hl1) (fun k σ' H' => Same H1 H' ∧ ∃ v2 v3, σ' = [some (.ref p), some (.ref l), v2, v3]) ?_ ?_ ?_ ?_
    · exact ⟨Same.refl _, _, _, rfl⟩
    · rintro k σ' H' ⟨s', _⟩
      exact SqT.of (s' _ _ hl1)
    · rintro k x σ' H2 hx ⟨s2, v2, v3, rfl⟩ TT H3 nTT s3 hTT
      rw [List.getElem?_map] at hx
      cases hu : es[k]? with
      | none => rw [hu] at hx; cases hx
      | some e =>
      rw [hu] at hx
      cases hx
      have hm := List.mem_of_getElem? hu
      obtain ⟨hr1, hne⟩ := hes e hm
      have hr3 := ((hr1.same s1).same s2).same s3
      obtain ⟨x, t⟩ := e
      have s23 := s2.trans s3
      walk_at "go"
      cases t with
      | non => exact absurd rfl hne
      | num i =>
        have hxi : x = .int i := hr1
        subst hxi
        walk_at "go"
        exact ⟨s23, _, _, rfl⟩
      | mark n =>
        obtain ⟨a, dx, rfl, ha⟩ := hr3
        walk_at "go"
        exact ⟨s23, _, _, rfl⟩
    · rintro σ' H2 ⟨s2, v2, v3, rfl⟩
      have s02 := s1.trans s2
      walk_at "go"
      refine k_with1T (s02 _ _ hl) hn (hes.same s02) ?_
      intro t H3 nt s3 ht
      have hp3 := s3 _ _ (s02 _ _ hp)
      walk_at "go"
      intro H4 b4 h4
      have nt0 : H t = none := by
        cases z : H t with
        | none => rfl
        | some o => rw [s02 _ _ z] at nt; cases nt
      refine q t H4 nt0 ((Z.But.same (s02.trans s3)).trans b4) ?_ h4
      exact b4 _ _ (ne_of_none (s02 _ _ hp) nt).symm ht
theorem r_mkSeT {C S l : Addr} {es : Ens} {H : Hp} {Q : VK} {E : XK} (hl : H l = some (.tup (es.map (·.1)))) (hn : es.length ≤ 250) (hes : EnsOk C H es)
    (h : ∀ x dx t H1, H x = none → H t = none → Same H H1 → H1 t = some (.tup (es.map fun e => fstV es e.2)) → H1 x = some (.ins S dx [("entries", .ref t)]) → Q (.ref x) H1) : Z.mkI S (sp_SeT C S) [] [.ref l] H Q E := by
  intro x dx nx nd ne
  have sm : Same H (L2.upd (L2.upd H dx (.own x)) x (.ins S dx [])) := fun b o e => by
    rw [upd_ne (ne_of_none e nx), upd_ne (ne_of_none e nd)]; exact e
  refine ⟨x, dx, l, es, rfl, upd_same, sm _ _ hl, hn, hes.same sm, fun t H1 nt b1 ht h1 => ⟨rfl, h x dx t H1 nx ?_ (fun b o e => b1 _ _ (ne_of_none e nx) (sm _ _ e)) ht h1⟩⟩
  cases z : H t with
  | none => rfl
  | some o => rw [sm _ _ z] at nt; cases nt

theorem sc_is_word : FnScope ["text"] ["text"] (defScope s_is_word) := ⟨rfl, rfl, rfl, by decide +kernel, rfl, by decide +kernel, by decide +kernel⟩
def sp_is_word : Sp := fun vs H Q _ => ∃ x : Str, vs = [.str x] ∧ x.length ≤ 100000 ∧ Q (.bl (Tx.isWordB x)) H
theorem ok_is_word (T : Top K mg) : FnOk P w K mg base CX0 1 T.f_is_word T.fd_is_word ["text"] sp_is_word := by
  refine T.F_is_word.ok sc_is_word (fun vs H Q E h => ?_) (fun cdv A outer s H vs Q E hr h => ?_)
  · obtain ⟨x, rfl, _⟩ := h
    rfl
  · obtain ⟨x, rfl, l, q⟩ := h
    refine ⟨_, pss_one (ps_ret (pe_and (pe_chain op_le op_le (pe_int) (pe_callB Z.c_lenS (by rfl) T.z_len (by decide +kernel) (pa_cons (pv 0) (pa_nil))) (pe_int)) (pe_and (pe_bm0 PySem.F.plainAttrs_str PySem.F.slot_str_isascii PySem.F.type_str_isascii mt_isascii (pv 0)) (pe_and (pe_bm0 PySem.F.plainAttrs_str PySem.F.slot_str_isalpha PySem.F.type_str_isalpha mt_isalpha (pv 0)) (pe_one (pe_bm0 PySem.F.plainAttrs_str PySem.F.slot_str_islower PySem.F.type_str_islower mt_islower (pv 0))))))), ?_⟩
    refine Z.r_start (σ' := [some (.str x)]) rfl ?_
    unfold Tx.isWordB at q
    walk_at "go"
    refine Z.r_lenSS l ?_
    walk_at "go"
    have e1 : decide ((1 : Int) ≤ (x.length : Int)) = decide (1 ≤ x.length) := by
      by_cases h : 1 ≤ x.length
      · rw [decide_eq_true h]; exact decide_eq_true (by omega)
      · rw [decide_eq_false h]; exact decide_eq_false (by omega)
    have e2 : decide ((x.length : Int) ≤ 8) = decide (x.length ≤ 8) := by
      by_cases h : x.length ≤ 8
      · rw [decide_eq_true h]; exact decide_eq_true (by omega)
      · rw [decide_eq_false h]; exact decide_eq_false (by omega)
    rw [e1]
    cases b1 : decide (1 ≤ x.length) with
    | false =>
      rw [b1] at q
      walk_at "go"
      exact q
    | true =>
    rw [b1] at q
    walk_at "go"
    rw [e2]
    cases b2 : decide (x.length ≤ 8) with
    | false =>
      rw [b2] at q
      walk_at "go"
      exact q
    | true =>
    rw [b2] at q
    walk_at "go"
    refine ⟨_, rfl, rfl, trivial, ?_⟩
    cases b3 : Txt.isascii x with
    | false =>
      rw [b3] at q
      walk_at "go"
      exact q
    | true =>
    rw [b3] at q
    walk_at "go"
    refine ⟨_, rfl, rfl, trivial, ?_⟩
    cases b4 : Txt.isalpha x with
    | false =>
      rw [b4] at q
      walk_at "go"
      exact q
    | true =>
    rw [b4] at q
    walk_at "go"
    refine ⟨_, rfl, rfl, trivial, ?_⟩
    exact q
theorem k_is_word {x : Str} {H : Hp} {Q : VK} {E : XK} (l : x.length ≤ 100000) (q : Q (.bl (Tx.isWordB x)) H) : sp_is_word ([.str x] ++ []) H Q E := ⟨x, rfl, l, q⟩
theorem sc_is_number_but_0 : FnScope ["word", "digits"] ["word"] (defScope s_is_number_but_0) := ⟨rfl, rfl, rfl, by decide +kernel, rfl, by decide +kernel, by decide +kernel⟩
def sp_numB : Sp := fun vs H Q _ => ∃ x : Str, vs = [.str x] ∧ x.length ≤ 100000 ∧ Q (.bl (Tx.numB x)) H
theorem ok_is_number_but_0 (T : Top K mg) : FnOk P w K mg base CX0 1 T.f_is_number_but_0 T.fd_is_number_but_0 ["word"] sp_numB := by
  refine T.F_is_number_but_0.ok sc_is_number_but_0 (fun vs H Q E h => ?_) (fun cdv A outer s H vs Q E hr h => ?_)
  · obtain ⟨x, rfl, _⟩ := h
    rfl
  · obtain ⟨x, rfl, l, q⟩ := h
    refine ⟨_, pss_cons (ps_set (i := 1) sc_is_number_but_0.nd rfl (.inl rfl) (Z.pe_bmK (K := K) rfl PySem.F.plainAttrs_str PySem.F.slot_str_removeprefix PySem.F.type_str_removeprefix mt_removeprefix (pv 0) (pa_cons (pe_str) (pa_nil)))) (pss_cons (ps_if ((pw_or (pt_not (pt_val (pe_bm0 PySem.F.plainAttrs_str PySem.F.slot_str_isascii PySem.F.type_str_isascii mt_isascii (pv 1)))) (pw_or1 (pt_not (pt_val (pe_bm0 PySem.F.plainAttrs_str PySem.F.slot_str_isdigit PySem.F.type_str_isdigit mt_isdigit (pv 1)))))).pt) (pss_one (ps_ret (pe_bl))) (pss_nil)) (pss_one (ps_ret (pe_and (pe_not (Z.pe_bmK (K := K) rfl PySem.F.plainAttrs_str PySem.F.slot_str_startswith PySem.F.type_str_startswith mt_startswith (pv 1) (pa_cons (pe_str) (pa_nil)))) (pe_one (pe_cmpR op_le (pe_callB Z.c_lenS (by rfl) T.z_len (by decide +kernel) (pa_cons (pv 1) (pa_nil))) (pe_glob (v := .int 300) (by rfl) T.mgK_MOST_DIGITS ⟨_, rfl⟩) (nomark _))))))), ?_⟩
    refine Z.r_start (σ' := [some (.str x), none]) rfl ?_
    have ld := Tx.rp_len x 45
    have z16 : (100000 : Nat) ≤ sizeLine := by decide
    unfold Tx.numB at q
    walk_at "go"
    refine ⟨_, _, rfl, rfl, Nat.le_trans l z16, ?_⟩
    rw [Tx.m_text]
    generalize Txt.removeprefix x ⟨#[45]⟩ = d at *
    walk_at "go"
    refine ⟨_, rfl, rfl, trivial, ?_⟩
    cases b1 : Txt.isascii d with
    | false =>
      rw [b1] at q
      walk_at "go"
      exact q
    | true =>
    rw [b1] at q
    walk_at "go"
    refine ⟨_, rfl, rfl, trivial, ?_⟩
    cases b2 : Txt.isdigit d with
    | false =>
      rw [b2] at q
      walk_at "go"
      exact q
    | true =>
    rw [b2] at q
    walk_at "go"
    refine ⟨_, _, rfl, rfl, ?_⟩
    rw [Tx.z_text]
    cases b3 : Txt.startswith d ⟨#[48]⟩ with
    | true =>
      rw [b3] at q
      walk_at "go"
      exact q
    | false =>
    rw [b3] at q
    walk_at "go"
    refine Z.r_lenSS (by omega) ?_
    walk_at "go"
    have e2 : decide ((d.length : Int) ≤ 300) = decide (d.length ≤ 300) := by
      by_cases h : d.length ≤ 300
      · rw [decide_eq_true h]; exact decide_eq_true (by omega)
      · rw [decide_eq_false h]; exact decide_eq_false (by omega)
    rw [e2]
    exact q
theorem k_numB {x : Str} {H : Hp} {Q : VK} {E : XK} (l : x.length ≤ 100000) (q : Q (.bl (Tx.numB x)) H) : sp_numB ([.str x] ++ []) H Q E := ⟨x, rfl, l, q⟩
theorem sc_entry_of : FnScope ["word"] ["word"] (defScope s_entry_of) := ⟨rfl, rfl, rfl, by decide +kernel, rfl, by decide +kernel, by decide +kernel⟩
def sp_entry_of (C : Addr) : Sp := fun vs H Q _ => ∃ x : Str, vs = [.str x] ∧ x.length ≤ 100000 ∧ ∀ e H', Same H H' → Rep C H' e (Tx.readT x) → Q e H'
theorem ok_entry_of (T : Top K mg) : FnOk P w K mg base CX0 3 T.f_entry_of T.fd_entry_of ["word"] (sp_entry_of T.C_Unnumbered) := by
  refine T.F_entry_of.ok sc_entry_of (fun vs H Q E h => ?_) (fun cdv A outer s H vs Q E hr h => ?_)
  · obtain ⟨x, rfl, _⟩ := h
    rfl
  · obtain ⟨x, rfl, l, q⟩ := h
    refine ⟨_, pss_cons (ps_if ((pw_and (pt_val (Z.pe_bmK (K := K) rfl PySem.F.plainAttrs_str PySem.F.slot_str_startswith PySem.F.type_str_startswith mt_startswith (pv 0) (pa_cons (pe_str) (pa_nil)))) (pw_and1 (pt_val (pe_call (ok_is_word T) (hr.mono (by decide)) (by rfl) T.mg_is_word T.F_is_word.kp T.B_is_word .nil pass0 (pa_cons (pe_slice sl_str (pv 0) (po_some (pe_int)) po_none) (pa_nil)))))).pt) (pss_one (ps_ret (pe_make T.mk_Unnumbered (ok_Unnumbered___init T) (hr.mono (by decide)) (by rfl) T.mgC_Unnumbered T.B_Unnumbered___init .nil pass0 (pa_cons (pe_slice sl_str (pv 0) (po_some (pe_int)) po_none) (pa_nil))))) (pss_nil)) (pss_cons (ps_if ((pw_or (pt_cmpR op_eq (pv 0) (pe_str) (nomark _)) (pw_or1 (pt_val (pe_call (ok_is_number_but_0 T) (hr.mono (by decide)) (by rfl) T.mg_is_number_but_0 T.F_is_number_but_0.kp T.B_is_number_but_0 .nil pass0 (pa_cons (pv 0) (pa_nil)))))).pt) (pss_one (ps_ret (pe_callTy call_int_str (by rfl) T.z_int (by decide +kernel) (pa_cons (pv 0) (pa_nil))))) (pss_nil)) (pss_one (ps_ret (pe_non)))), ?_⟩
    refine Z.r_start (σ' := [some (.str x)]) rfl ?_
    have lt := cutS_length x (some 1) none
    have num : ∀ (Q' : VK), (decide (x = "0") || Tx.numB x) = true → (Txt.startswith x ⟨#[63]⟩ && Tx.isWordB (Tx.tail1 x)) = false → (∀ n, intText? x = some n → x.length ≤ 640 → Rep T.C_Unnumbered H (.int n) (Tx.readT x) → Q' (.int n) H) → ∃ a n, [V.str x] = [.str a] ∧ intText? a = some n ∧ a.length ≤ 640 ∧ Q' (.int n) H := by
      intro Q' h1 h2 k
      have h3 : ∃ n, intText? x = some n ∧ x.length ≤ 640 := by
        rcases Bool.or_eq_true_iff.mp h1 with h | h
        · rw [of_decide_eq_true h]
          exact ⟨0, Tx.zero_int, by decide +kernel⟩
        · exact Tx.numB_int h
      obtain ⟨n, e1, e2⟩ := h3
      refine ⟨x, n, rfl, e1, e2, k n e1 e2 ?_⟩
      have e : Tx.readT x = .num n := by
        unfold Tx.readT
        rw [h2, if_neg Bool.false_ne_true, h1, if_pos rfl, e1]; rfl
      rw [e]
      rfl
    have rest : (Txt.startswith x ⟨#[63]⟩ && Tx.isWordB (Tx.tail1 x)) = false → (decide (x = "0") || Tx.numB x) = false → Tx.readT x = .non := fun h1 h2 => by
      unfold Tx.readT
      rw [h1, if_neg Bool.false_ne_true, h2, if_neg Bool.false_ne_true]
    with_reducible refine Z.r_seq ?_
    refine Z.viaR (R := fun σ' H' => σ' = [some (.str x)] ∧ H' = H ∧ (Txt.startswith x ⟨#[63]⟩ && Tx.isWordB (Tx.tail1 x)) = false) (fun M km => ?_) ?_
    · walk_at "go"
      refine ⟨_, _, rfl, rfl, ?_⟩
      rw [Tx.q_text]
      cases b1 : Txt.startswith x ⟨#[63]⟩ with
      | true =>
        walk_at "go"
        refine Z.r_slSt l ?_
        walk_at "go"
        refine k_is_word (Nat.le_trans lt l) ?_
        cases b2 : Tx.isWordB (Tx.tail1 x) with
        | true =>
          have b2' : Tx.isWordB (cutS x (some 1) none) = true := b2
          rw [b2']
          walk_at "go"
          refine Z.r_slSt l ?_
          walk_at "go"
          intro u du H1 nu s1 hu
          refine q _ _ s1 ?_
          have e : Tx.readT x = .mark (cutS x (some 1) none) := by
            unfold Tx.readT
            rw [b1, b2]; rfl
          rw [e]
          exact ⟨u, du, rfl, hu⟩
        | false =>
          have b2' : Tx.isWordB (cutS x (some 1) none) = false := b2
          rw [b2']
          walk_at "go"
          exact km _ _ ⟨rfl, rfl, by rw [b1, b2]; rfl⟩
      | false =>
        walk_at "go"
        exact km _ _ ⟨rfl, rfl, by rw [b1]; rfl⟩
    rintro σ' H' ⟨rfl, rfl, no⟩
    walk_at "go"
    refine Z.ways (fun c => ?_) (fun c => ?_)
    · walk_at "go"
      exact num _ (by rw [decide_eq_true c, Bool.true_or]) no fun n _ _ r => q _ _ (Same.refl _) r
    · walk_at "go"
      refine k_numB l ?_
      cases b3 : Tx.numB x with
      | true =>
        walk_at "go"
        exact num _ (by rw [b3, Bool.or_true]) no fun n _ _ r => q _ _ (Same.refl _) r
      | false =>
        walk_at "go"
        refine q _ _ (Same.refl _) ?_
        rw [rest no (by rw [decide_eq_false c, b3]; rfl)]
        rfl
theorem k_entry_of {C : Addr} {x : Str} {H : Hp} {Q : VK} {E : XK} (l : x.length ≤ 100000) (q : ∀ e H', Same H H' → Rep C H' e (Tx.readT x) → Q e H') : sp_entry_of C ([.str x] ++ []) H Q E := ⟨x, rfl, l, q⟩
theorem sc_Series_read : FnScope ["cls", "text", "words", "word"] ["cls", "text"] (defScope s_Series_read) := ⟨rfl, rfl, rfl, by decide +kernel, rfl, by decide +kernel, by decide +kernel⟩
theorem textT_free {t : Tag} (h : tagB t) : 32 ∉ Tx.tl (textT t) ∧ Tx.tl (textT t) ≠ [] := by
  cases t with
  | non => exact h.elim
  | num i =>
    have e : Tx.tl (textT (.num i)) = _ := Tx.tl_int i
    rw [e]
    have f : 32 ∉ TL.numL i.natAbs := TL.numL_free (.inl (by decide))
    have n := TL.numL_ne i.natAbs
    split
    · exact ⟨fun m => by rcases List.mem_cons.mp m with m | m; exact absurd m (by decide); exact f m, nofun⟩
    · exact ⟨f, n⟩
  | mark n =>
    have e : Tx.tl (textT (.mark n)) = 63 :: Tx.tl n := by
      show (("?" : Str) ++ n).cps.toList = _
      rw [Str.cps_append, Array.toList_append, show ("?" : Str).cps.toList = [63] by decide +kernel]
      rfl
    rw [e]
    refine ⟨fun m => ?_, nofun⟩
    rcases List.mem_cons.mp m with m | m
    · exact absurd m (by decide)
    · have := (h.2.2 32 m).1
      exact absurd this (by decide)
theorem read_text {t : Tag} (h : tagB t) : Tx.readT (textT t) = t := by
  cases t with
  | non => exact h.elim
  | num i => exact Tx.readT_int h
  | mark n => exact Tx.readT_mark ((Tx.isWord_iff n).mpr ⟨h.1, h.2.1, h.2.2⟩)
def textsOf (gs : Ens) : List Str := gs.map fun e => textT e.2
theorem text_split {gs : Ens} (h : TagsB gs) (ne : gs ≠ []) : Txt.split (textOf gs) (" " : Str) = textsOf gs ∧ textOf gs ≠ ("" : Str) := by
  have e32 : TL.tl (" " : Str) = 32 :: [] := by show (" " : Str).cps.toList = _; decide +kernel
  constructor
  · exact TL.split_join e32 (by decide +kernel) (fun e => ne (List.map_eq_nil_iff.mp e)) fun p hp => by
      obtain ⟨e, he, rfl⟩ := List.mem_map.mp hp
      exact (textT_free (h e he)).1
  · intro e
    have e2 := congrArg TL.tl e
    unfold textOf at e2
    rw [TL.join_eq, TL.tl_join] at e2
    cases gs with
    | nil => exact ne rfl
    | cons g r =>
      have f := (textT_free (h g List.mem_cons_self)).2
      have e3 : TL.tl ("" : Str) = [] := by show ("" : Str).cps.toList = _; decide +kernel
      rw [e3] at e2
      cases r with
      | nil => exact f e2
      | cons g2 r2 =>
        exact f (List.append_eq_nil_iff.mp (show TL.tl (textT g.2) ++ _ = [] from e2)).1
/-- a text of entries, read -/
def sp_Se_read (C S : Addr) : Sp := fun vs H Q _ => ∃ (x : Str) (gs : Ens), vs = [.ref S, .str x] ∧ x = textOf gs ∧ gs.length ≤ 250 ∧ TagsB gs ∧ ∀ a es H', H a = none → Same H H' → SerAt S H' a (held es) → EnsOk C H' es → es.map (·.2) = gs.map (·.2) → Q (.ref a) H'
theorem okF_Series_read (T : Top K mg) : FnOk P w K mg base CX0 5 T.f_Series_read T.fd_Series_read ["cls", "text"] (sp_Se_read T.C_Unnumbered T.C_Series) := by
  refine T.F_Series_read.ok sc_Series_read (fun vs H Q E h => ?_) (fun cdv A outer s H vs Q E hr h => ?_)
  · obtain ⟨x, gs, rfl, _⟩ := h
    rfl
  · obtain ⟨x, gs, rfl, ex, ln, tb, q⟩ := h
    refine ⟨_, pss_cons (ps_if (pt_not (pt_val (pe_callB (Z.c_isi (K := K) rfl) (by rfl) T.z_isinstance (by decide +kernel) (pa_cons (pv 1) (pa_cons (pe_bltn (v := .ty "str") (by rfl) T.z_str (by decide +kernel) rfl) (pa_nil)))))) (pss_one (ps_never)) (pss_nil)) (pss_cons (ps_set (i := 2) sc_Series_read.nd rfl (.inl rfl) (pe_ifExp (pt_cmpR op_eq (pv 1) (pe_str) (nomark _)) (pe_lst (pa_nil)) (Z.pe_bmK (K := K) rfl PySem.F.plainAttrs_str PySem.F.slot_str_split PySem.F.type_str_split mt_split (pv 1) (pa_cons (pe_str) (pa_nil))))) (pss_one (ps_ret (Z.pe_makeV (i := 0) T.mk_Series (ok_Series___init T) (hr.mono (by decide)) T.B_Series___init .nil pass0 rfl (by first | exact Or.inl rfl | exact Or.inr (Or.inl rfl) | exact Or.inr (Or.inr rfl)) (pa_cons (pe_lc (own := [("word", 3)]) (g := gName 3) (tt := tYes) rfl sc_Series_read.nd (pi_list (pv 2)) (blkOk_by (own := [("word", 3)]) (N := ["cls", "text", "words", "word"]) (sc := defScope s_Series_read) (by decide +kernel)) (fun _ _ _ _ _ => pg_name (i := 3) sc_Series_read.nd rfl (.inl rfl)) (fun _ _ _ _ _ => pts_nil) (fun _ _ _ _ _ => pe_call (ok_entry_of T) (hr.mono (by decide)) (by rfl) T.mg_entry_of T.F_entry_of.kp T.B_entry_of .nil pass0 (pa_cons (pv 3) (pa_nil)))) (pa_nil)))))), ?_⟩
    refine Z.r_start (σ' := [some (.ref T.C_Series), some (.str x), none, none]) rfl ?_
    have lx : x.length ≤ 80000 := by rw [ex]; exact textOf_len tb ln
    have z16 : (100000 : Nat) ≤ sizeLine := by decide
    walk_at "toseq"
    walk_at "toseq"
    refine Z.r_asg (Z.via (R := fun v H' => ∃ p, v = .ref p ∧ Same H H' ∧ H' p = some (.lst ((textsOf gs).map V.str))) (fun M k => ?_) ?_)
    · walk_at "go"
      refine Z.ways (fun c => ?_) (fun c => ?_)
      · walk_at "go"
        intro p H1 np s1 hp
        have e : gs = [] := Classical.byContradiction fun n => (text_split tb n).2 (ex.symm.trans c)
        subst e
        exact k _ _ ⟨p, rfl, s1, hp⟩
      · walk_at "go"
        have ne : gs ≠ [] := fun e => c (by rw [ex, e]; decide +kernel)
        refine ⟨_, _, rfl, rfl, by decide +kernel, by omega, fun p np => ?_⟩
        rw [ex, (text_split tb ne).1]
        exact k _ _ ⟨p, rfl, Z.same_upd np, upd_same⟩
    rintro v H1 ⟨p, rfl, s1, hp⟩
    walk_at "go"
    refine Z.r_lcL (SqL.of hp) (fun _ => rfl) (fun D i H' => Same H1 H' ∧ ∃ es : Ens, H' D = some (.lst (es.map (·.1))) ∧ es.map (·.2) = (gs.take i).map (·.2) ∧ EnsOk T.C_Unnumbered H' es) ?_ ?_ ?_ ?_
    · intro D H2 nD s2 h2
      exact ⟨s2, [], h2, rfl, fun e h => by cases h⟩
    · rintro D i H2 nD ⟨s2, _⟩
      exact SqL.of (s2 _ _ hp)
    · rintro D i y H2 nD hy ⟨s2, es, hD, e2, ok⟩
      rw [List.getElem?_map, textsOf, List.getElem?_map] at hy
      cases hu : gs[i]? with
      | none => rw [hu] at hy; cases hy
      | some g =>
      rw [hu] at hy
      cases hy
      have tg := tb g (List.mem_of_getElem? hu)
      have les : es.length ≤ i := by
        have := congrArg List.length e2
        rw [List.length_map, List.length_map, List.length_take] at this
        omega
      have li := (List.getElem?_eq_some_iff.mp hu).1
      walk_at "go"
      refine k_entry_of (Nat.le_trans (textT_len tg) (by decide)) fun e H3 s3 r3 => ?_
      rw [read_text tg] at r3
      have hD3 := s3 _ _ hD
      refine Z.r_ap hD3 (by rw [List.length_map]; omega) fun H4 b4 h4 => ⟨Z.But.back (s2.trans s3) nD b4, es ++ [(e, g.2)], by rw [h4, List.map_append]; rfl, ?_, fun z hz => ?_⟩
      · rw [List.map_append, e2, List.take_succ, hu, List.map_append]
        rfl
      · rcases List.mem_append.mp hz with hz | hz
        · exact ((ok.same s3).but b4 hD3) z hz
        · rw [List.mem_singleton.mp hz]
          refine ⟨r3.but b4 hD3, ?_⟩
          intro e0
          have e0 : g.2 = .non := e0
          rw [e0] at tg
          exact tg.elim
    · rintro D H2 nD ⟨s2, es, hD, e2, ok⟩
      rw [List.length_map, textsOf, List.length_map, List.take_length] at e2
      have les : es.length = gs.length := by
        have := congrArg List.length e2
        rwa [List.length_map, List.length_map] at this
      walk_at "go"
      refine r_mkSe hD (by omega) ok fun a da t H3 na nt s3 ht ha => ?_
      walk_at "go"
      refine q a es H3 ?_ ((s1.trans s2).trans s3) ⟨da, t, ha, by rw [ht, held_fst]⟩ (ok.same s3) e2
      cases z : H a with
      | none => rfl
      | some o => rw [(s1.trans s2) _ _ z] at na; cases na
theorem ok_Series_read (T : Top K mg) : FnR P w K mg base CX0 5 T.f_Series_read (fun vs H Q E => sp_Se_read T.C_Unnumbered T.C_Series (vs ++ []) H Q E) := FnOk.raw (okF_Series_read T) T.B_Series_read .nil

/-- what is no entry -/
inductive OddL (D S : Addr) (H : Hp) : V → Prop
  | non : OddL D S H .non
  | bl (b : Bool) : OddL D S H (.bl b)
  | str (z : Str) : OddL D S H (.str z)
  | lst {p : Addr} {xs : List V} (h : H p = some (.lst xs)) : OddL D S H (.ref p)
  | tup {p : Addr} {xs : List V} (h : H p = some (.tup xs)) : OddL D S H (.ref p)
  | ser {a dx : Addr} {fs : List (Str × V)} (h : H a = some (.ins S dx fs)) : OddL D S H (.ref a)
  | told {a dx : Addr} {fs : List (Str × V)} (h : H a = some (.ins D dx fs)) : OddL D S H (.ref a)
theorem OddL.same {D S : Addr} {H H' : Hp} {x : V} (s : Same H H') (h : OddL D S H x) : OddL D S H' x := by
  cases h with
  | non => exact .non
  | bl b => exact .bl b
  | str z => exact .str z
  | lst h => exact .lst (s _ _ h)
  | tup h => exact .tup (s _ _ h)
  | ser h => exact .ser (s _ _ h)
  | told h => exact .told (s _ _ h)
theorem oddL_kit {K : PySem.W.Frag} {mg : Str → Option Value} (T : Top K mg) {H : Hp} {y : V} (h : OddL T.C_Told T.C_Series H y) :
    ∃ t bi bb, TyX K H y t ∧ PySem.W.kitOne K t (.type "int") = some bi ∧ PySem.W.kitOne K t (.type "bool") = some bb ∧ (bi && !bb) = false ∧ PySem.W.kitOne K t (.ref T.C_Unnumbered) = some false := by
  cases h <;> exact ⟨_, _, _, by walk_at "ty", by walk_at "ki", by walk_at "ki", rfl, by walk_at "ki"⟩
/-- one of a list handed over: t nothing for what is no entry -/
def ElOk (C D S : Addr) (H : Hp) (v : V) (t : Tag) : Prop := (t = .non ∧ OddL D S H v) ∨ (t ≠ .non ∧ Rep C H v t)
theorem ElOk.same {C D S : Addr} {H H' : Hp} {v : V} {t : Tag} (s : Same H H') (h : ElOk C D S H v t) : ElOk C D S H' v t := by
  rcases h with ⟨e, h⟩ | ⟨e, h⟩
  · exact .inl ⟨e, h.same s⟩
  · exact .inr ⟨e, h.same s⟩
def ElsOk (C D S : Addr) (H : Hp) (es : Ens) : Prop := ∀ e ∈ es, ElOk C D S H e.1 e.2
theorem ElsOk.same {C D S : Addr} {H H' : Hp} {es : Ens} (s : Same H H') (h : ElsOk C D S H es) : ElsOk C D S H' es := fun e he => (h e he).same s
/-- the place of the first that is no entry -/
def badAt : Nat → List Tag → Option Nat
  | _, [] => none
  | k, t :: r => if t = .non then some k else badAt (k + 1) r
/-- where a list of these is wrong: -1 if it is too long -/
def dueT (ts : List Tag) : Option Int := if 250 < ts.length then some (-1) else (badAt 0 ts).map Int.ofNat
theorem badAt_none {ts : List Tag} {k : Nat} : badAt k ts = none ↔ ∀ t ∈ ts, t ≠ .non := by
  induction ts generalizing k with
  | nil => simp [badAt]
  | cons t r ih =>
    unfold badAt
    by_cases h : t = .non
    · simp [h]
    · rw [if_neg h, ih]; simp [h]
theorem badAt_some {ts : List Tag} {k i : Nat} (h : ts[i]? = some .non) (n : ∀ t ∈ ts.take i, t ≠ .non) : badAt k ts = some (k + i) := by
  induction ts generalizing k i with
  | nil => cases h
  | cons t r ih =>
    unfold badAt
    cases i with
    | zero =>
      cases h
      rw [if_pos rfl]; rfl
    | succ i =>
      rw [if_neg (n t (by simp))]
      rw [ih (k := k + 1) (i := i) h fun u hu => n u (by rw [List.take_succ_cons]; exact List.mem_cons_of_mem _ hu)]
      rw [Nat.add_assoc, Nat.add_comm 1 i]
theorem ElsOk.ens {C D S : Addr} {H : Hp} {es : Ens} (h : ElsOk C D S H es) (n : ∀ t ∈ es.map (·.2), t ≠ .non) : EnsOk C H es := fun e he => by
  rcases h e he with ⟨e2, _⟩ | ⟨e2, r⟩
  · exact absurd e2 (n _ (List.mem_map_of_mem he))
  · exact ⟨r, e2⟩
def RaiseAt (B : Addr) (H : Hp) (at_ : Int) (E : XK) : Prop := ∀ d H', H d = none → Same H H' → H' d = some (.xd [("at", .int at_)]) → E (.ref B) (some d) H'
theorem RaiseAt.back {B : Addr} {H H1 : Hp} {at_ : Int} {E : XK} (s : Same H H1) (h : RaiseAt B H at_ E) : RaiseAt B H1 at_ E := fun d H' n s' e => h d H' (by
  cases z : H d with
  | none => rfl
  | some o => rw [s _ _ z] at n; cases n) (s.trans s') e
/-- right or wrong -/
def sp_SeW (K : PySem.W.Frag) (B C D S : Addr) : Sp := fun vs H Q E => ∃ (p dx : Addr) (x : V), vs = [.ref p, x] ∧ H p = some (.ins S dx []) ∧
  ((∃ (l : Addr) (es : Ens), x = .ref l ∧ H l = some (.lst (es.map (·.1))) ∧ ElsOk C D S H es ∧ (∀ at_, dueT (es.map (·.2)) = some at_ → RaiseAt B H at_ E) ∧
      (dueT (es.map (·.2)) = none → ∀ t H', H t = none → Z.But p H H' → H' t = some (.tup (es.map fun e => fstV es e.2)) → H' p = some (.ins S dx [("entries", .ref t)]) → Q .non H')) ∨
   (∃ t, (∀ H', Same H H' → TyX K H' x t) ∧ PySem.W.kitOne K t (.type "list") = some false ∧ PySem.W.kitOne K t (.type "tuple") = some false ∧ RaiseAt B H (-1) E))
theorem ok_Series___init___w (T : Top K mg) : FnOk P w K mg base (L2.CX P w) 3 T.f_Series___init T.fd_Series___init ["self", "entries"] (sp_SeW K T.C_BadSeries T.C_Unnumbered T.C_Told T.C_Series) := by
  refine T.F_Series___init.okX sc_Series___init (fun vs H Q E h => ?_) (fun cdv A outer s H vs Q E hr h => ?_)
  · obtain ⟨p, dx, x, rfl, _⟩ := h
    rfl
  · obtain ⟨p, dx, x, rfl, hp, h⟩ := h
    refine ⟨_, pss_cons (ps_if ((pw_or (pt_not (pt_val (pe_callB (Z.c_isiT (K := K) rfl) (by rfl) T.z_isinstance (by decide +kernel) (pa_cons (pv 1) (pa_cons (pe_tup (pa_cons (pe_bltn (v := .ty "list") (by rfl) T.z_list (by decide +kernel) rfl) (pa_cons (pe_bltn (v := .ty "tuple") (by rfl) T.z_tuple (by decide +kernel) rfl) (pa_nil)))) (pa_nil)))))) (pw_or1 (pt_cmpR op_gt (pe_callB Z.c_len (by rfl) T.z_len (by decide +kernel) (pa_cons (pv 1) (pa_nil))) (pe_glob (v := .int 250) (by rfl) T.mgK_MOST_ENTRIES ⟨_, rfl⟩) (nomark _)))).pt) (pss_one (ps_raise rfl (takes_of rfl rfl rfl rfl) (Z.pmk_exf T.ex_BadSeries (ok_BadSeries___init T) (hr.mono (by decide)) (by rfl) T.mgC_BadSeries T.B_BadSeries___init (pa_cons (pe_un un_neg (pe_int)) (pa_nil))))) (pss_nil)) (pss_cons (ps_for (passes_of rfl) rfl (pi_enum (by rfl) T.z_enumerate (pa_cons (pv 1) (pa_nil))) (pg_tup rfl (pgs_cons (pg_name (i := 2) sc_Series___init.nd rfl (.inl rfl)) (pgs_cons (pg_name (i := 3) sc_Series___init.nd rfl (.inl rfl)) (pgs_nil)))) (pss_one (ps_if (pt_not (pt_val (pe_call (ok_is_entry T) (hr.mono (by decide)) (by rfl) T.mg_is_entry T.F_is_entry.kp T.B_is_entry .nil pass0 (pa_cons (pv 3) (pa_nil))))) (pss_one (ps_raise rfl (takes_of rfl rfl rfl rfl) (Z.pmk_exf T.ex_BadSeries (ok_BadSeries___init T) (hr.mono (by decide)) (by rfl) T.mgC_BadSeries T.B_BadSeries___init (pa_cons (pv 2) (pa_nil))))) (pss_nil)))) (pss_one (ps_fld (pv 0) (pe_call (ok_with_one_object_a_name T) (hr.mono (by decide)) (by rfl) T.mg_with_one_object_a_name T.F_with_one_object_a_name.kp T.B_with_one_object_a_name .nil pass0 (pa_cons (pv 1) (pa_nil))) rfl))), ?_⟩
    refine Z.r_start (σ' := [some (.ref p), some (x), none, none]) rfl ?_
    rcases h with ⟨l, es, rfl, hl, hes, qr, q⟩ | ⟨t, ty, k1, k2, qr⟩
    · walk_at "go"
      intro tp H1 ntp s1 htp
      have hl1 := s1 _ _ hl
      walk_at "go"
      rw [List.length_map]
      refine Z.ways (fun c => ?_) (fun c => ?_)
      · walk_at "go"
        refine k_exR ((qr (-1) ?_).back s1)
        unfold dueT
        rw [List.length_map, if_pos (by omega)]
      have ln : es.length ≤ 250 := by omega
      have du : dueT (es.map (·.2)) = (badAt 0 (es.map (·.2))).map Int.ofNat := by
        unfold dueT
        rw [List.length_map, if_neg (by omega)]
      walk_at "go"
      refine Z.r_enum_by (SqL.of hl1) (fun k σ' H' => Same H1 H' ∧ (∀ t ∈ (es.map (·.2)).take k, t ≠ .non) ∧ ∃ v2 v3, σ' = [some (.ref p), some (.ref l), v2, v3]) ?_ ?_ ?_ ?_
      · exact ⟨Same.refl _, (fun t h => by cases h), _, _, rfl⟩
      · rintro k σ' H' ⟨s', _⟩
        exact SqL.of (s' _ _ hl1)
      · rintro k x σ' H2 hx ⟨s2, nb, v2, v3, rfl⟩ TT H3 nTT s3 hTT
        rw [List.getElem?_map] at hx
        cases hu : es[k]? with
        | none => rw [hu] at hx; cases hx
        | some e =>
        rw [hu] at hx
        cases hx
        have hm := List.mem_of_getElem? hu
        have h3 := (((hes e hm).same s1).same s2).same s3
        have ht : (es.map (·.2))[k]? = some e.2 := by rw [List.getElem?_map, hu]; rfl
        obtain ⟨x, t⟩ := e
        have s23 := s2.trans s3
        walk_at "go"
        rcases h3 with ⟨e0, od⟩ | ⟨ne, rp⟩
        · have e0 : t = .non := e0
          subst e0
          obtain ⟨ty, bi, bb, t1, t2, t3, t4, t5⟩ := oddL_kit T od
          refine k_is_entry t1 t2 t3 t5 ?_
          rw [t4]
          walk_at "go"
          refine k_exR ((qr k ?_).back (s1.trans s23))
          rw [du, badAt_some ht nb, Nat.zero_add]; rfl
        · have nb' : ∀ u ∈ (es.map (·.2)).take (k + 1), u ≠ .non := fun u hu => by
            rw [List.take_succ, ht] at hu
            rcases List.mem_append.mp hu with h | h
            · exact nb u h
            · rw [List.mem_singleton.mp h]; exact ne
          cases t with
          | non => exact absurd rfl ne
          | num i =>
            have hxi : x = .int i := rp
            subst hxi
            walk_at "go"
            exact ⟨s23, nb', _, _, rfl⟩
          | mark n =>
            obtain ⟨a, dx, rfl, ha⟩ := rp
            walk_at "go"
            exact ⟨s23, nb', _, _, rfl⟩
      · rintro σ' H2 ⟨s2, nb, v2, v3, rfl⟩
        have s02 := s1.trans s2
        rw [List.length_map] at nb
        have all : ∀ t ∈ es.map (·.2), t ≠ .non := fun t h => nb t (by rw [← List.length_map (f := fun e : V × Tag => e.2) (as := es), List.take_length]; exact h)
        have en := (hes.ens all).same s02
        walk_at "go"
        refine k_with1 (s02 _ _ hl) ln en ?_
        intro t H3 nt s3 ht
        have hp3 := s3 _ _ (s02 _ _ hp)
        walk_at "go"
        intro H4 b4 h4
        have nt0 : H t = none := by
          cases z : H t with
          | none => rfl
          | some o => rw [s02 _ _ z] at nt; cases nt
        refine q ?_ t H4 nt0 ((Z.But.same (s02.trans s3)).trans b4) ?_ h4
        · rw [du, badAt_none.mpr all]; rfl
        · exact b4 _ _ (ne_of_none (s02 _ _ hp) nt).symm ht
    · walk_at "go"
      intro tp H1 ntp s1 htp
      have ty1 := ty _ s1
      walk_at "go"
      refine Z.r_isiLT htp ty1 (Z.kit_none2 k1 k2) ?_
      walk_at "go"
      exact k_exR (qr.back s1)
theorem r_mkSeW {K : PySem.W.Frag} {B C D S l : Addr} {es : Ens} {H : Hp} {Q : VK} {E : XK} (hl : H l = some (.lst (es.map (·.1)))) (hes : ElsOk C D S H es) (qr : ∀ at_, dueT (es.map (·.2)) = some at_ → RaiseAt B H at_ E)
    (q : dueT (es.map (·.2)) = none → ∀ x dx t H1, H x = none → H t = none → Same H H1 → H1 t = some (.tup (es.map fun e => fstV es e.2)) → H1 x = some (.ins S dx [("entries", .ref t)]) → Q (.ref x) H1) : Z.mkI S (sp_SeW K B C D S) [] [.ref l] H Q E := by
  intro x dx nx nd ne
  have sm : Same H (L2.upd (L2.upd H dx (.own x)) x (.ins S dx [])) := fun b o e => by
    rw [upd_ne (ne_of_none e nx), upd_ne (ne_of_none e nd)]; exact e
  refine ⟨x, dx, .ref l, rfl, upd_same, .inl ⟨l, es, rfl, sm _ _ hl, hes.same sm, fun at_ h => (qr at_ h).back sm, fun h t H1 nt b1 ht h1 => ⟨rfl, q h x dx t H1 nx ?_ (fun b o e => b1 _ _ (ne_of_none e nx) (sm _ _ e)) ht h1⟩⟩⟩
  cases z : H t with
  | none => rfl
  | some o => rw [sm _ _ z] at nt; cases nt
theorem r_mkSeN {K : PySem.W.Frag} {B C D S : Addr} {x : V} {t : Value} {H : Hp} {Q : VK} {E : XK} (ty : ∀ H', Same H H' → TyX K H' x t) (k1 : PySem.W.kitOne K t (.type "list") = some false) (k2 : PySem.W.kitOne K t (.type "tuple") = some false) (qr : RaiseAt B H (-1) E) :
    Z.mkI S (sp_SeW K B C D S) [] [x] H Q E := by
  intro y dx nx nd ne
  have sm : Same H (L2.upd (L2.upd H dx (.own y)) y (.ins S dx [])) := fun b o e => by
    rw [upd_ne (ne_of_none e nx), upd_ne (ne_of_none e nd)]; exact e
  exact ⟨y, dx, x, rfl, upd_same, .inr ⟨t, fun H' s' => ty H' (sm.trans s'), k1, k2, qr.back sm⟩⟩
/-- the words of a text -/
def wordsOf (x : Str) : List Str := if x = ("" : Str) then [] else Txt.split x (" " : Str)
def readW (x : Str) : List Tag := (wordsOf x).map Tx.readT
def sp_Se_readW (K : PySem.W.Frag) (B S : Addr) : Sp := fun vs H Q E => ∃ (y : V), vs = [.ref S, y] ∧
  ((∃ x : Str, y = .str x ∧ x.length ≤ 90000 ∧ (wordsOf x).length ≤ 1000 ∧ (∀ g ∈ wordsOf x, g.length ≤ 1000) ∧ (∀ at_, dueT (readW x) = some at_ → RaiseAt B H at_ E) ∧ (dueT (readW x) = none → ∀ a H', H a = none → Same H H' → Q (.ref a) H')) ∨
   (∃ t, TyX K H y t ∧ PySem.W.kitOne K t (.type "str") = some false ∧ RaiseAt B H (-1) E))
theorem reps_els {C D S : Addr} {H : Hp} {es : Ens} (h : ∀ z ∈ es, Rep C H z.1 z.2) : ElsOk C D S H es := fun e he => by
  have r := h e he
  by_cases c : e.2 = .non
  · rw [c] at r
    have r : e.1 = .non := r
    exact .inl ⟨c, by rw [r]; exact .non⟩
  · exact .inr ⟨c, r⟩
theorem okF_Series_read_w (T : Top K mg) : FnOk P w K mg base (L2.CX P w) 5 T.f_Series_read T.fd_Series_read ["cls", "text"] (sp_Se_readW K T.C_BadSeries T.C_Series) := by
  refine T.F_Series_read.okX sc_Series_read (fun vs H Q E h => ?_) (fun cdv A outer s H vs Q E hr h => ?_)
  · obtain ⟨y, rfl, _⟩ := h
    rfl
  · obtain ⟨y, rfl, h⟩ := h
    refine ⟨_, pss_cons (ps_if (pt_not (pt_val (pe_callB (Z.c_isi (K := K) rfl) (by rfl) T.z_isinstance (by decide +kernel) (pa_cons (pv 1) (pa_cons (pe_bltn (v := .ty "str") (by rfl) T.z_str (by decide +kernel) rfl) (pa_nil)))))) (pss_one (ps_raise rfl (takes_of rfl rfl rfl rfl) (Z.pmk_exf T.ex_BadSeries (ok_BadSeries___init T) (hr.mono (by decide)) (by rfl) T.mgC_BadSeries T.B_BadSeries___init (pa_cons (pe_un un_neg (pe_int)) (pa_nil))))) (pss_nil)) (pss_cons (ps_set (i := 2) sc_Series_read.nd rfl (.inl rfl) (pe_ifExp (pt_cmpR op_eq (pv 1) (pe_str) (nomark _)) (pe_lst (pa_nil)) (Z.pe_bmK (K := K) rfl PySem.F.plainAttrs_str PySem.F.slot_str_split PySem.F.type_str_split mt_split (pv 1) (pa_cons (pe_str) (pa_nil))))) (pss_one (ps_ret (Z.pe_makeV (i := 0) T.mk_Series (ok_Series___init___w T) (hr.mono (by decide)) T.B_Series___init .nil (passes_call (takes_of rfl rfl rfl rfl) fun _ _ _ _ h => h) rfl (by first | exact Or.inl rfl | exact Or.inr (Or.inl rfl) | exact Or.inr (Or.inr rfl)) (pa_cons (pe_lc (own := [("word", 3)]) (g := gName 3) (tt := tYes) rfl sc_Series_read.nd (pi_list (pv 2)) (blkOk_by (own := [("word", 3)]) (N := ["cls", "text", "words", "word"]) (sc := defScope s_Series_read) (by decide +kernel)) (fun _ _ _ _ _ => pg_name (i := 3) sc_Series_read.nd rfl (.inl rfl)) (fun _ _ _ _ _ => pts_nil) (fun _ _ _ _ _ => pe_call (ok_entry_of T) (hr.mono (by decide)) (by rfl) T.mg_entry_of T.F_entry_of.kp T.B_entry_of .nil pass0 (pa_cons (pv 3) (pa_nil)))) (pa_nil)))))), ?_⟩
    refine Z.r_start (σ' := [some (.ref T.C_Series), some y, none, none]) rfl ?_
    rcases h with ⟨x, rfl, lx, lw, lg, qr, q⟩ | ⟨t, ty, k1, qr⟩
    · have z16 : (100000 : Nat) ≤ sizeLine := by decide
      walk_at "toseq"
      walk_at "toseq"
      refine Z.r_asg (Z.via (R := fun v H' => ∃ p, v = .ref p ∧ Same H H' ∧ H' p = some (.lst ((wordsOf x).map V.str))) (fun M k => ?_) ?_)
      · walk_at "go"
        refine Z.ways (fun c => ?_) (fun c => ?_)
        · walk_at "go"
          intro p H1 np s1 hp
          exact k _ _ ⟨p, rfl, s1, by rw [hp]; unfold wordsOf; rw [if_pos c]; rfl⟩
        · walk_at "go"
          refine ⟨_, _, rfl, rfl, by decide +kernel, by omega, fun p np => ?_⟩
          exact k _ _ ⟨p, rfl, Z.same_upd np, by unfold wordsOf; rw [if_neg c]; exact upd_same⟩
      rintro v H1 ⟨p, rfl, s1, hp⟩
      walk_at "go"
      refine Z.r_lcL (SqL.of hp) (fun _ => rfl) (fun D i H' => Same H1 H' ∧ ∃ es : Ens, H' D = some (.lst (es.map (·.1))) ∧ es.map (·.2) = (readW x).take i ∧ ∀ z ∈ es, Rep T.C_Unnumbered H' z.1 z.2) ?_ ?_ ?_ ?_
      · intro D H2 nD s2 h2
        exact ⟨s2, [], h2, rfl, fun e h => by cases h⟩
      · rintro D i H2 nD ⟨s2, _⟩
        exact SqL.of (s2 _ _ hp)
      · rintro D i y H2 nD hy ⟨s2, es, hD, e2, ok⟩
        rw [List.getElem?_map] at hy
        cases hu : (wordsOf x)[i]? with
        | none => rw [hu] at hy; cases hy
        | some g =>
        rw [hu] at hy
        cases hy
        have lgg := lg _ (List.mem_of_getElem? hu)
        have li := (List.getElem?_eq_some_iff.mp hu).1
        have les : es.length ≤ i := by
          have := congrArg List.length e2
          rw [List.length_map, List.length_take] at this
          omega
        walk_at "go"
        refine k_entry_of (by omega) fun e H3 s3 r3 => ?_
        have hD3 := s3 _ _ hD
        refine Z.r_ap hD3 (by rw [List.length_map]; omega) fun H4 b4 h4 => ⟨Z.But.back (s2.trans s3) nD b4, es ++ [(e, Tx.readT g)], by rw [h4, List.map_append]; rfl, ?_, fun z hz => ?_⟩
        · rw [List.map_append, e2, List.take_succ, readW, List.getElem?_map, hu]
          rfl
        · rcases List.mem_append.mp hz with hz | hz
          · exact ((ok z hz).same s3).but b4 hD3
          · rw [List.mem_singleton.mp hz]
            exact r3.but b4 hD3
      · rintro D H2 nD ⟨s2, es, hD, e2, ok⟩
        rw [List.length_map, readW, ← List.length_map (f := Tx.readT), List.take_length] at e2
        walk_at "go"
        have s12 := s1.trans s2
        refine r_mkSeW hD (reps_els ok) (fun at_ h => (qr at_ (by rw [← h, e2]; rfl)).back s12) fun h a da t H3 na nt s3 ht ha => ?_
        walk_at "go"
        refine q (by rw [← h, e2]; rfl) a H3 ?_ (s12.trans s3)
        cases z : H a with
        | none => rfl
        | some o => rw [s12 _ _ z] at na; cases na
    · walk_at "go"
      exact k_exR qr
theorem ok_Series_read_w (T : Top K mg) : FnR P w K mg base (L2.CX P w) 5 T.f_Series_read (fun vs H Q E => sp_Se_readW K T.C_BadSeries T.C_Series (vs ++ []) H Q E) := FnOk.raw (okF_Series_read_w T) T.B_Series_read .nil
theorem sc_law_refused : FnScope ["_law_kind", "_law_thing", "e"] ["_law_kind", "_law_thing"] (defScope s_law_refused) := ⟨rfl, rfl, rfl, by decide +kernel, rfl, by decide +kernel, by decide +kernel⟩
def optI : Option Int → V | none => .non | some i => .int i
/-- what is made or read of x: where it is refused -/
def DueOf (K : PySem.W.Frag) (C D S : Addr) (H : Hp) (kind : Str) (x : V) (due : Option Int) : Prop :=
  (kind = "made" ∧ ((∃ (l : Addr) (es : Ens), x = .ref l ∧ H l = some (.lst (es.map (·.1))) ∧ ElsOk C D S H es ∧ due = dueT (es.map (·.2))) ∨
      (∃ t, (∀ H', Same H H' → TyX K H' x t) ∧ PySem.W.kitOne K t (.type "list") = some false ∧ PySem.W.kitOne K t (.type "tuple") = some false ∧ due = some (-1)))) ∨
  (kind = "read" ∧ ((∃ z : Str, x = .str z ∧ z.length ≤ 90000 ∧ (wordsOf z).length ≤ 1000 ∧ (∀ g ∈ wordsOf z, g.length ≤ 1000) ∧ due = dueT (readW z)) ∨
      (∃ t, TyX K H x t ∧ PySem.W.kitOne K t (.type "str") = some false ∧ due = some (-1))))
def sp_refused (K : PySem.W.Frag) (C D S : Addr) : Sp := fun vs H Q _ => ∃ (kind : Str) (x : V) (due : Option Int), vs = [.str kind, x] ∧ DueOf K C D S H kind x due ∧ ∀ H', Same H H' → Q (optI due) H'
theorem ok_law_refused (T : Top K mg) : FnOk P w K mg base CX0 6 T.f_law_refused T.fd_law_refused ["_law_kind", "_law_thing"] (sp_refused K T.C_Unnumbered T.C_Told T.C_Series) := by
  refine T.F_law_refused.ok sc_law_refused (fun vs H Q E h => ?_) (fun cdv A outer s H vs Q E hr h => ?_)
  · obtain ⟨kind, x, due, rfl, _⟩ := h
    rfl
  · obtain ⟨kind, x, due, rfl, h, q⟩ := h
    refine ⟨_, pss_cons (ps_try_as (i := 2) rfl rfl sc_law_refused.nd rfl rfl ⟨rfl, by decide, .inl T.mgC_UnnumberedError⟩ takes0 (fun W pn xe tk _ => pss_one (ps_if (pt_cmpR op_eq (pv 0) (pe_str) (nomark _)) (pss_one (ps_expr (Z.pe_makeAt T.mk_Series (ok_Series___init___w T) (hr.mono (by decide)) (by rfl) T.mgC_Series T.B_Series___init (fun σ => passAt tk σ) (pa_cons (pv 1) (pa_nil))))) (pss_one (ps_expr (Z.pe_cmethAt (pe_glob (v := .ref T.C_Series) (by exact rfl) T.mgC_Series rfl) T.cr_Series T.cm_Series_read (ok_Series_read_w T) (hr.mono (by decide)) (fun σ => passAt tk σ) (pa_cons (pv 1) (pa_nil))))))) (fun a oe cls d pn hz hf => pss_cons (ps_if ((pw_or (pt_not (pt_val (pe_callB (Z.c_isC (K := K) rfl hz hf) (by rfl) T.z_isinstance (by decide +kernel) (pa_cons (pv 2) (pa_cons (pe_glob (v := .ref T.C_BadSeries) (by exact rfl) T.mgC_BadSeries rfl) (pa_nil)))))) (pw_or (pt_val (pe_callB (Z.c_isCT (K := K) rfl hz hf) (by rfl) T.z_isinstance (by decide +kernel) (pa_cons (pv 2) (pa_cons (pe_tup (pa_cons (pe_glob (v := .ref T.C_BadProgram) (by exact rfl) T.mgC_BadProgram rfl) (pa_cons (pe_glob (v := .ref T.C_BadEntry) (by exact rfl) T.mgC_BadEntry rfl) (pa_cons (pe_glob (v := .ref T.C_TooMany) (by exact rfl) T.mgC_TooMany rfl) (pa_nil))))) (pa_nil))))) (pw_or1 (pt_not (pt_val (pe_callB (Z.c_isC (K := K) rfl hz hf) (by rfl) T.z_isinstance (by decide +kernel) (pa_cons (pv 2) (pa_cons (pe_bltn (v := .ty "ValueError") (by rfl) T.z_ValueError (by decide +kernel) rfl) (pa_nil))))))))).pt) (pss_one (ps_ret (pe_str))) (pss_nil)) (pss_one (ps_ret (pe_xf ⟨T.ex_BadSeries.ga, T.ex_BadSeries.gt, T.ex_BadSeries.sb, T.ex_BadSeries.hd⟩ T.no_BadSeries_at hz hf (pv 2)))))) (pss_one (ps_ret (pe_non))), ?_⟩
    refine Z.r_start (σ' := [some (.str kind), some (x), none]) rfl ?_
    rcases h with ⟨rfl, h⟩ | ⟨rfl, h⟩
    · refine Z.r_seq ?_
      dsimp only
      walk_at "go"
      rcases h with ⟨l, es, rfl, hl, hes, e⟩ | ⟨t, ty, k1, k2, e⟩
      · refine Z.mkIX_of (r_mkSeW hl hes (fun at_ h d H' n s' hd => ?_) (fun h x dx t H1 nx nt s1 ht hx => ?_))
        · rw [h] at e
          subst e
          refine ⟨true, Z.exm_up T.ex_BadSeries T.xu_UnnumberedError T.ki_BadSeries_UnnumberedError, fun _ e ne => ?_, fun z => Bool.noConfusion z⟩
          dsimp only
          walk_at "go"
          refine Z.r_isC (.own _) T.ex_BadSeries hd T.ki_BadSeries_BadSeries ?_
          walk_at "go"
          intro tp H2 ntp s2 htp
          walk_at "go"
          refine Z.r_isCT T.ex_BadSeries (s2 _ _ hd) htp (.cons (.own _) (.cons (.own _) (.cons (.own _) .nil))) (Z.kit_none3 T.ki_BadSeries_BadProgram T.ki_BadSeries_BadEntry T.ki_BadSeries_TooMany) ?_
          walk_at "go"
          refine Z.r_isC (.ty _) T.ex_BadSeries (s2 _ _ hd) T.ki_BadSeries_ValueError ?_
          walk_at "go"
          exact q _ (s'.trans s2)
        · rw [h] at e
          subst e
          walk_at "go"
          exact q _ s1
      · subst e
        refine Z.mkIX_of (r_mkSeN ty k1 k2 (fun d H' n s' hd => ?_))
        refine ⟨true, Z.exm_up T.ex_BadSeries T.xu_UnnumberedError T.ki_BadSeries_UnnumberedError, fun _ e ne => ?_, fun z => Bool.noConfusion z⟩
        dsimp only
        walk_at "go"
        refine Z.r_isC (.own _) T.ex_BadSeries hd T.ki_BadSeries_BadSeries ?_
        walk_at "go"
        intro tp H2 ntp s2 htp
        walk_at "go"
        refine Z.r_isCT T.ex_BadSeries (s2 _ _ hd) htp (.cons (.own _) (.cons (.own _) (.cons (.own _) .nil))) (Z.kit_none3 T.ki_BadSeries_BadProgram T.ki_BadSeries_BadEntry T.ki_BadSeries_TooMany) ?_
        walk_at "go"
        refine Z.r_isC (.ty _) T.ex_BadSeries (s2 _ _ hd) T.ki_BadSeries_ValueError ?_
        walk_at "go"
        exact q _ (s'.trans s2)
    · refine Z.r_seq ?_
      dsimp only
      walk_at "go"
      rcases h with ⟨z, rfl, lz, lw, lg, e⟩ | ⟨t, ty, k1, e⟩
      · refine ⟨_, rfl, .inl ⟨z, rfl, lz, lw, lg, fun at_ h d H' n s' hd => ?_, fun h a H1 na s1 => ?_⟩⟩
        · rw [h] at e
          subst e
          refine ⟨true, Z.exm_up T.ex_BadSeries T.xu_UnnumberedError T.ki_BadSeries_UnnumberedError, fun _ e ne => ?_, fun z => Bool.noConfusion z⟩
          dsimp only
          walk_at "go"
          refine Z.r_isC (.own _) T.ex_BadSeries hd T.ki_BadSeries_BadSeries ?_
          walk_at "go"
          intro tp H2 ntp s2 htp
          walk_at "go"
          refine Z.r_isCT T.ex_BadSeries (s2 _ _ hd) htp (.cons (.own _) (.cons (.own _) (.cons (.own _) .nil))) (Z.kit_none3 T.ki_BadSeries_BadProgram T.ki_BadSeries_BadEntry T.ki_BadSeries_TooMany) ?_
          walk_at "go"
          refine Z.r_isC (.ty _) T.ex_BadSeries (s2 _ _ hd) T.ki_BadSeries_ValueError ?_
          walk_at "go"
          exact q _ (s'.trans s2)
        · rw [h] at e
          subst e
          walk_at "go"
          exact q _ s1
      · subst e
        refine ⟨_, rfl, .inr ⟨t, ty, k1, fun d H' n s' hd => ?_⟩⟩
        refine ⟨true, Z.exm_up T.ex_BadSeries T.xu_UnnumberedError T.ki_BadSeries_UnnumberedError, fun _ e ne => ?_, fun z => Bool.noConfusion z⟩
        dsimp only
        walk_at "go"
        refine Z.r_isC (.own _) T.ex_BadSeries hd T.ki_BadSeries_BadSeries ?_
        walk_at "go"
        intro tp H2 ntp s2 htp
        walk_at "go"
        refine Z.r_isCT T.ex_BadSeries (s2 _ _ hd) htp (.cons (.own _) (.cons (.own _) (.cons (.own _) .nil))) (Z.kit_none3 T.ki_BadSeries_BadProgram T.ki_BadSeries_BadEntry T.ki_BadSeries_TooMany) ?_
        walk_at "go"
        refine Z.r_isC (.ty _) T.ex_BadSeries (s2 _ _ hd) T.ki_BadSeries_ValueError ?_
        walk_at "go"
        exact q _ (s'.trans s2)
theorem k_refused {K : PySem.W.Frag} {C D S : Addr} {kind : Str} {x : V} {due : Option Int} {H : Hp} {Q : VK} {E : XK} (h : DueOf K C D S H kind x due) (q : ∀ H', Same H H' → Q (optI due) H') : sp_refused K C D S ([.str kind, x] ++ []) H Q E := ⟨kind, x, due, rfl, h, q⟩

theorem sc_Told___init : FnScope ["self", "place"] ["self", "place"] (defScope s_Told___init) := ⟨rfl, rfl, rfl, by decide +kernel, rfl, by decide +kernel, by decide +kernel⟩
def sp_To (D : Addr) : Sp := fun vs H Q _ => ∃ (p dx : Addr) (y : V), vs = [.ref p, y] ∧ H p = some (.ins D dx []) ∧ ∀ H', Z.But p H H' → H' p = some (.ins D dx [("place", y)]) → Q .non H'
theorem ok_Told___init (T : Top K mg) : FnOk P w K mg base CX0 1 T.f_Told___init T.fd_Told___init ["self", "place"] (sp_To T.C_Told) := by
  refine T.F_Told___init.ok sc_Told___init (fun vs H Q E h => ?_) (fun cdv A outer s H vs Q E hr h => ?_)
  · obtain ⟨p, dx, y, rfl, _⟩ := h
    rfl
  · obtain ⟨p, dx, y, rfl, hp, q⟩ := h
    refine ⟨_, pss_one (ps_fld (pv 0) (pv 1) rfl), ?_⟩
    refine Z.r_start (σ' := [some (.ref p), some (y)]) rfl ?_
    walk_at "go"
    intro H1 b1 h1
    exact q H1 b1 h1
theorem r_mkTo {D : Addr} {y : V} {H : Hp} {Q : VK} {E : XK} (h : ∀ x dx H1, H x = none → Same H H1 → H1 x = some (.ins D dx [("place", y)]) → Q (.ref x) H1) : Z.mkI D (sp_To D) [] [y] H Q E := by
  intro x dx nx nd ne
  refine ⟨x, dx, y, rfl, upd_same, fun H1 b1 h1 => ⟨rfl, h x dx H1 nx (fun b o e => ?_) h1⟩⟩
  exact b1 _ _ (ne_of_none e nx) (by rw [upd_ne (ne_of_none e nx), upd_ne (ne_of_none e nd)]; exact e)
local macro_rules | `(tactic| walk_at "call") => `(tactic| with_reducible refine r_mkTo ?_)
theorem sc_law_entries : FnScope ["_law_bag_here", "_law_most", "_law_words", "_law_many", "_law_found", "_law_turn"] ["_law_bag_here", "_law_most"] (defScope s_law_entries) := ⟨rfl, rfl, rfl, by decide +kernel, rfl, by decide +kernel, by decide +kernel⟩
def sp_law_entries (C : Addr) : Sp := fun vs H Q _ => ∃ (b : Addr) (most : Int) (n : Nat), vs = [.ref b, .int most] ∧ Bag H b n ∧ n ≤ 1000000 ∧ 11 ≤ most ∧ most ≤ 250 ∧
  ∀ p es H', H p = none → Z.But b H H' → Bag H' b (n + 16000) → H' p = some (.lst (es.map (·.1))) → p ≠ b → (es.length : Int) ≤ most → EnsOk C H' es → TagsB es → Q (.ref p) H'
theorem ok_law_entries (T : Top K mg) : FnOk P w K mg base CX0 3 T.f_law_entries T.fd_law_entries ["_law_bag_here", "_law_most"] (sp_law_entries T.C_Unnumbered) := by
  refine T.F_law_entries.ok sc_law_entries (fun vs H Q E h => ?_) (fun cdv A outer s H vs Q E hr h => ?_)
  · obtain ⟨b, most, n, rfl, _⟩ := h
    rfl
  · obtain ⟨b, most, n, rfl, hb, hn, m0, m1, q⟩ := h
    refine ⟨_, pss_cons (ps_set (i := 2) sc_law_entries.nd rfl (.inl rfl) (pe_lst (pa_cons (pe_call (ok_law_word T) (hr.mono (by decide)) (by rfl) T.mg_law_word T.F_law_word.kp T.B_law_word .nil pass0 (pa_cons (pv 0) (pa_nil))) (pa_cons (pe_call (ok_law_word T) (hr.mono (by decide)) (by rfl) T.mg_law_word T.F_law_word.kp T.B_law_word .nil pass0 (pa_cons (pv 0) (pa_nil))) (pa_cons (pe_str) (pa_nil)))))) (pss_cons (ps_set (i := 3) sc_law_entries.nd rfl (.inl rfl) (pe_ifExp (pt_cmpR op_eq (pe_call (ok_law_draw T) (hr.mono (by decide)) (by rfl) T.mg_law_draw T.F_law_draw.kp T.B_law_draw .nil pass0 (pa_cons (pv 0) (pa_cons (pe_int) (pa_nil)))) (pe_int) (nomark _)) (pv 1) (pe_call (ok_law_draw T) (hr.mono (by decide)) (by rfl) T.mg_law_draw T.F_law_draw.kp T.B_law_draw .nil pass0 (pa_cons (pv 0) (pa_cons (pe_op op_add (pe_callB (Z.c_min2 rfl) (by rfl) T.z_min (by decide +kernel) (pa_cons (pv 1) (pa_cons (pe_int) (pa_nil)))) (pe_int)) (pa_nil)))))) (pss_cons (ps_set (i := 4) sc_law_entries.nd rfl (.inl rfl) (pe_lst (pa_nil))) (pss_cons (ps_for PassesOwn.never rfl (pi_range1 (by rfl) T.z_range (pa_cons (pv 3) (pa_nil))) (pg_name (i := 5) sc_law_entries.nd rfl (.inl rfl)) (pss_one (ps_if (pt_cmpR op_eq (pe_call (ok_law_draw T) (hr.mono (by decide)) (by rfl) T.mg_law_draw T.F_law_draw.kp T.B_law_draw .nil pass0 (pa_cons (pv 0) (pa_cons (pe_int) (pa_nil)))) (pe_int) (nomark _)) (pss_one (ps_expr (pe_bm PySem.F.plainAttrs_list PySem.F.slot_list_append PySem.F.type_list_append mt_append (pv 4) (pa_cons (pe_make T.mk_Unnumbered (ok_Unnumbered___init T) (hr.mono (by decide)) (by rfl) T.mgC_Unnumbered T.B_Unnumbered___init .nil pass0 (pa_cons (pe_ix (Z.ix_seqG (K := K) rfl) (pv 2) (pe_call (ok_law_draw T) (hr.mono (by decide)) (by rfl) T.mg_law_draw T.F_law_draw.kp T.B_law_draw .nil pass0 (pa_cons (pv 0) (pa_cons (pe_int) (pa_nil)))) (fun _ _ => rfl)) (pa_nil))) (pa_nil))))) (pss_one (ps_expr (pe_bm PySem.F.plainAttrs_list PySem.F.slot_list_append PySem.F.type_list_append mt_append (pv 4) (pa_cons (pe_call (ok_law_number T) (hr.mono (by decide)) (by rfl) T.mg_law_number T.F_law_number.kp T.B_law_number .nil pass0 (pa_cons (pv 0) (pa_nil))) (pa_nil)))))))) (pss_one (ps_ret (pv 4)))))), ?_⟩
    refine Z.r_start (σ' := [some (.ref b), some (.int most), none, none, none, none]) rfl ?_
    walk_at "go"
    refine k_law_word hb (by omega) ?_
    intro w1 H1 hw1 t1 g1
    walk_at "go"
    refine k_law_word g1 (by omega) ?_
    intro w2 H2 hw2 t2 g2
    walk_at "go"
    intro wl H3 nwl s3 hwl
    have g3 := g2.same s3
    have nwb := g2.ne nwl
    have t13 : Z.But b H H3 := (t1.trans t2).trans (Z.But.same s3)
    have hws : ∀ x ∈ [w1, w2, ("a" : Str)], Word x := by
      intro x hx
      rcases List.mem_cons.mp hx with rfl | hx
      · exact hw1
      rcases List.mem_cons.mp hx with rfl | hx
      · exact hw2
      rcases List.mem_cons.mp hx with rfl | hx
      · exact ⟨by decide +kernel, by decide +kernel, by decide +kernel⟩
      · cases hx
    dsimp only
    refine Z.r_seq ?_
    refine Z.r_asg (Z.via (R := fun v H4 => ∃ j : Int, v = .int j ∧ 0 ≤ j ∧ j ≤ most ∧ Z.But b H3 H4 ∧ Bag H4 b (n + 122)) (fun M k => ?_) ?_)
    · walk_at "go"
      walk_at "draw"
      intro d H4 d0 d1 t4 g4
      walk_at "go"
      refine Z.ways (fun c => ?_) (fun c => ?_)
      · walk_at "go"
        exact k _ _ ⟨most, rfl, by omega, by omega, t4, g4.mono (by omega)⟩
      · walk_at "go"
        have e11 : (if (11 : Int) < most then 11 else most) = 11 := by split <;> omega
        rw [e11]
        walk_at "draw"
        intro j H5 j0 j1 t5 g5
        exact k _ _ ⟨j, rfl, j0, by omega, t4.trans t5, g5.mono (by omega)⟩
    rintro v H4 ⟨j, rfl, j0, j1, t4, g4⟩
    have hwl4 := t4 _ _ nwb hwl
    walk_at "go"
    intro p H5 np s5 hp
    have hwl5 := s5 _ _ hwl4
    have g5 := g4.same s5
    have npb := g4.ne np
    have npw : p ≠ wl := (ne_of_none hwl4 np).symm
    have np0 : H p = none := (t13.trans t4).free npb np
    walk_at "go"
    refine Z.r_rng j0 (by omega) (fun i σ' H' => ∃ (es : Ens) (v : Option V), σ' = [some (.ref b), some (.int most), some (.ref wl), some (.int j), some (.ref p), v] ∧ es.length = i ∧ H' p = some (.lst (es.map (·.1))) ∧ EnsOk T.C_Unnumbered H' es ∧ TagsB es ∧
      H' wl = some (.lst ([w1, w2, "a"].map V.str)) ∧ Bag H' b (n + 122 + 62 * i) ∧ Z.But b H H') ?_ ?_ ?_
    · exact ⟨[], _, rfl, rfl, hp, (fun e he => by cases he), (fun e he => by cases he), hwl5, g5, (t13.trans t4).trans (Z.But.same s5)⟩
    · rintro i σ' H6 hi ⟨es, v, rfl, hl, hp6, hes, htb, hwl6, g6, t6⟩
      have li : i < 250 := by omega
      walk_at "go"
      walk_at "draw"
      intro r H7 r0 r1 t7 g7
      have hp7 := t7 _ _ npb hp6
      have hwl7 := t7 _ _ nwb hwl6
      obtain ⟨_, _, _, hbl, _⟩ := id g6
      have hes7 := hes.but t7 hbl
      walk_at "go"
      refine Z.ways (fun c => ?_) (fun c => ?_)
      · walk_at "go"
        walk_at "draw"
        intro d H8 d0 d1 t8 g8
        obtain ⟨k, rfl⟩ := Int.eq_ofNat_of_zero_le d0
        have hk : k < 3 := by omega
        have hwl8 := t8 _ _ nwb hwl7
        have hp8 := t8 _ _ npb hp7
        obtain ⟨_, _, _, hbl7, _⟩ := id g7
        have hes8 := hes7.but t8 hbl7
        refine Z.r_ixL (v := .str ([w1, w2, ("a" : Str)][k]'hk)) (SqL.of hwl8) (atI_nat (by rw [List.getElem?_map, List.getElem?_eq_getElem hk]; rfl)) ?_
        walk_at "go"
        intro x dx H9 nx s9 hx
        walk_at "go"
        refine Z.r_app (s9 _ _ hp8) (by rw [List.length_map]; omega) fun H10 b10 h10 => ?_
        walk_at "go"
        have hp9 := s9 _ _ hp8
        have nxp : x ≠ p := (ne_of_none hp8 nx).symm
        refine ⟨es ++ [(.ref x, .mark ([w1, w2, ("a" : Str)][k]'hk))], _, rfl, by rw [List.length_append, hl]; rfl, by rw [h10, List.map_append]; rfl, fun e he => ?_, fun e he => ?_, b10 _ _ npw.symm (s9 _ _ hwl8), ((g8.same s9).but b10 npb.symm).mono (by omega), ?_⟩
        · rcases List.mem_append.mp he with he | he
          · exact ((hes8.same s9).but b10 hp9) e he
          · rw [List.mem_singleton.mp he]
            exact ⟨⟨x, dx, rfl, b10 _ _ nxp hx⟩, nofun⟩
        · rcases List.mem_append.mp he with he | he
          · exact htb e he
          · rw [List.mem_singleton.mp he]
            exact hws _ (List.getElem_mem hk)
        · exact fun a o na ha => b10 _ _ (ne_of_none ha np0) (s9 _ _ (t8 _ _ na (t7 _ _ na (t6 _ _ na ha))))
      · walk_at "go"
        refine k_law_number g7 (by omega) ?_
        intro x H8 hx t8 g8
        have hwl8 := t8 _ _ nwb hwl7
        have hp8 := t8 _ _ npb hp7
        obtain ⟨_, _, _, hbl7, _⟩ := id g7
        have hes8 := hes7.but t8 hbl7
        walk_at "go"
        refine Z.r_app hp8 (by rw [List.length_map]; omega) fun H10 b10 h10 => ?_
        walk_at "go"
        refine ⟨es ++ [(.int x, .num x)], _, rfl, by rw [List.length_append, hl]; rfl, by rw [h10, List.map_append]; rfl, fun e he => ?_, fun e he => ?_, b10 _ _ npw.symm hwl8, (g8.but b10 npb.symm).mono (by omega), ?_⟩
        · rcases List.mem_append.mp he with he | he
          · exact (hes8.but b10 hp8) e he
          · rw [List.mem_singleton.mp he]
            exact ⟨rfl, nofun⟩
        · rcases List.mem_append.mp he with he | he
          · exact htb e he
          · rw [List.mem_singleton.mp he]
            exact Nat.lt_of_lt_of_le hx (by decide)
        · exact fun a o na ha => b10 _ _ (ne_of_none ha np0) (t8 _ _ na (t7 _ _ na (t6 _ _ na ha)))
    · rintro σ' H6 ⟨es, v, rfl, hl, hp6, hes, htb, hwl6, g6, t6⟩
      walk_at "go"
      exact q p es H6 np0 t6 (g6.mono (by omega)) hp6 npb (by omega) hes htb
theorem k_law_entries {C b : Addr} {most : Int} {n : Nat} {H : Hp} {Q : VK} {E : XK} (bg : Bag H b n) (hn : n ≤ 1000000) (m0 : 11 ≤ most) (m1 : most ≤ 250)
    (q : ∀ p es H', H p = none → Z.But b H H' → Bag H' b (n + 16000) → H' p = some (.lst (es.map (·.1))) → p ≠ b → (es.length : Int) ≤ most → EnsOk C H' es → TagsB es → Q (.ref p) H') : sp_law_entries C ([.ref b, .int most] ++ []) H Q E := ⟨b, most, n, rfl, bg, hn, m0, m1, q⟩
theorem sc_law_text : FnScope ["_law_entry"] ["_law_entry"] (defScope s_law_text) := ⟨rfl, rfl, rfl, by decide +kernel, rfl, by decide +kernel, by decide +kernel⟩
def sp_law_text (C : Addr) : Sp := fun vs H Q _ => ∃ (x : V) (t : Tag), vs = [x] ∧ Rep C H x t ∧ tagB t ∧ Q (.str (textT t)) H
theorem ok_law_text (T : Top K mg) : FnOk P w K mg base CX0 1 T.f_law_text T.fd_law_text ["_law_entry"] (sp_law_text T.C_Unnumbered) := by
  refine T.F_law_text.ok sc_law_text (fun vs H Q E h => ?_) (fun cdv A outer s H vs Q E hr h => ?_)
  · obtain ⟨x, t, rfl, _⟩ := h
    rfl
  · obtain ⟨x, t, rfl, hx, hb, q⟩ := h
    refine ⟨_, pss_one (ps_ret (pe_ifExp (pt_val (pe_callB (Z.c_isi (K := K) rfl) (by rfl) T.z_isinstance (by decide +kernel) (pa_cons (pv 0) (pa_cons (pe_glob (v := .ref T.C_Unnumbered) (by exact rfl) T.mgC_Unnumbered rfl) (pa_nil))))) (pe_op Z.o_addS (pe_str) (pe_fld (pv 0) rfl)) (pe_callTy Z.c_strI (by rfl) T.z_str (by decide +kernel) (pa_cons (pv 0) (pa_nil))))), ?_⟩
    refine Z.r_start (σ' := [some (x)]) rfl ?_
    cases t with
    | non => exact hb.elim
    | num i =>
      cases hx; walk_at "go"
      refine Z.r_strI (big_log hb) ?_
      exact q
    | mark n =>
      obtain ⟨a, dx, rfl, ha⟩ := hx; walk_at "go"
      refine Z.r_addS (Z.szle (by have : ("?" : Str).length = 1 := rfl; have := hb.2.1; omega)) ?_
      exact q
theorem k_law_text {C : Addr} {x : V} {t : Tag} {H : Hp} {Q : VK} {E : XK} (hx : Rep C H x t) (hb : tagB t) (q : Q (.str (textT t)) H) : sp_law_text C ([x] ++ []) H Q E := ⟨x, t, rfl, hx, hb, q⟩
theorem sc_law_wrong_things : FnScope ["_law_bag_here", "_law_word_here"] ["_law_bag_here"] (defScope s_law_wrong_things) := ⟨rfl, rfl, rfl, by decide +kernel, rfl, by decide +kernel, by decide +kernel⟩
def sp_wrongs (D S : Addr) : Sp := fun vs H Q _ => ∃ (b : Addr) (n : Nat), vs = [.ref b] ∧ Bag H b n ∧ n ≤ 1000000 ∧
  ∀ p xs H', H p = none → Z.But b H H' → Bag H' b (n + 60) → H' p = some (.lst xs) → p ≠ b → xs.length = 14 → (∀ x ∈ xs, OddL D S H' x) → xs[0]? = some (.bl true) → Q (.ref p) H'
theorem ok_law_wrong_things (T : Top K mg) : FnOk P w K mg base CX0 5 T.f_law_wrong_things T.fd_law_wrong_things ["_law_bag_here"] (sp_wrongs T.C_Told T.C_Series) := by
  refine T.F_law_wrong_things.ok sc_law_wrong_things (fun vs H Q E h => ?_) (fun cdv A outer s H vs Q E hr h => ?_)
  · obtain ⟨b, n, rfl, _⟩ := h
    rfl
  · obtain ⟨b, n, rfl, hb, hn, q⟩ := h
    refine ⟨_, pss_cons (ps_set (i := 1) sc_law_wrong_things.nd rfl (.inl rfl) (pe_call (ok_law_word T) (hr.mono (by decide)) (by rfl) T.mg_law_word T.F_law_word.kp T.B_law_word .nil pass0 (pa_cons (pv 0) (pa_nil)))) (pss_one (ps_ret (pe_lst (pa_cons (pe_bl) (pa_cons (pe_bl) (pa_cons (pe_non) (pa_cons (pv 1) (pa_cons (pe_op Z.o_addS (pe_str) (pv 1)) (pa_cons (pe_str) (pa_cons (pe_lst (pa_nil)) (pa_cons (pe_lst (pa_cons (pe_int) (pa_nil))) (pa_cons (pe_tup (pa_cons (pe_int) (pa_nil))) (pa_cons (pe_make T.mk_Told (ok_Told___init T) (hr.mono (by decide)) (by rfl) T.mgC_Told T.B_Told___init .nil pass0 (pa_cons (pe_int) (pa_nil))) (pa_cons (pe_make T.mk_Told (ok_Told___init T) (hr.mono (by decide)) (by rfl) T.mgC_Told T.B_Told___init .nil pass0 (pa_cons (pe_non) (pa_nil))) (pa_cons (pe_make T.mk_Series (ok_Series___init T) (hr.mono (by decide)) (by rfl) T.mgC_Series T.B_Series___init .nil pass0 (pa_cons (pe_lst (pa_cons (pe_int) (pa_nil))) (pa_nil))) (pa_cons (pe_str) (pa_cons (pe_lst (pa_cons (pe_make T.mk_Unnumbered (ok_Unnumbered___init T) (hr.mono (by decide)) (by rfl) T.mgC_Unnumbered T.B_Unnumbered___init .nil pass0 (pa_cons (pv 1) (pa_nil))) (pa_nil))) (pa_nil)))))))))))))))))), ?_⟩
    refine Z.r_start (σ' := [some (.ref b), none]) rfl ?_
    walk_at "go"
    refine k_law_word hb (by omega) ?_
    intro w1 H1 hw1 t1 g1
    walk_at "go"
    refine Z.r_addS (Z.szle (by have : ("?" : Str).length = 1 := rfl; have := hw1.2.1; omega)) ?_
    walk_at "go"
    intro l1 H2 n2 s2 hl1
    walk_at "go"
    intro l2 H3 n3 s3 hl2
    walk_at "go"
    intro l3 H4 n4 s4 hl3
    walk_at "go"
    intro t5 d5 H5 n5 s5 ht5
    walk_at "go"
    intro t6 d6 H6 n6 s6 ht6
    walk_at "go"
    intro l7 H7 n7 s7 hl7
    walk_at "go"
    refine r_mkSe (es := [(.int 5, .num 5)]) hl7 (by show 1 ≤ 250; decide) ?_ ?_
    · intro e he
      have e1 : e = (V.int 5, Tag.num 5) := by simpa using he
      subst e1
      exact ⟨rfl, nofun⟩
    intro sr dsr tt H8 n8 _ s8 htt hsr
    walk_at "go"
    intro u du H9 n9 s9 hu
    walk_at "go"
    intro l10 H10 n10 s10 hl10
    walk_at "go"
    intro p H11 n11 s11 hp
    have a3 := s2.trans s3
    have a5 := (a3.trans s4).trans s5
    have a8 := ((a5.trans s6).trans s7).trans s8
    have a11 := ((a8.trans s9).trans s10).trans s11
    have b9 := (s9.trans s10).trans s11
    have b8 := s8.trans b9
    have b7 := s7.trans b8
    have b6 := s6.trans b7
    have b5 := s5.trans b6
    have b4 := s4.trans b5
    have b3 := s3.trans b4
    have g11 := g1.same a11
    have np1 : H1 p = none := by
      cases z : H1 p with
      | none => rfl
      | some o => rw [(a8.trans (s9.trans s10)) _ _ z] at n11; cases n11
    have npb := g1.ne np1
    walk_at "go"
    refine q p _ H11 (t1.free npb np1) (t1.trans (Z.But.same a11)) (g11.mono (by omega)) hp npb rfl ?_ rfl
    intro x hx
    rcases List.mem_cons.mp hx with rfl | hx
    · exact .bl _
    rcases List.mem_cons.mp hx with rfl | hx
    · exact .bl _
    rcases List.mem_cons.mp hx with rfl | hx
    · exact .non
    rcases List.mem_cons.mp hx with rfl | hx
    · exact .str _
    rcases List.mem_cons.mp hx with rfl | hx
    · exact .str _
    rcases List.mem_cons.mp hx with rfl | hx
    · exact .str _
    rcases List.mem_cons.mp hx with rfl | hx
    · exact .lst (b3 _ _ hl1)
    rcases List.mem_cons.mp hx with rfl | hx
    · exact .lst (b4 _ _ hl2)
    rcases List.mem_cons.mp hx with rfl | hx
    · exact .tup (b5 _ _ hl3)
    rcases List.mem_cons.mp hx with rfl | hx
    · exact .told (b6 _ _ ht5)
    rcases List.mem_cons.mp hx with rfl | hx
    · exact .told (b7 _ _ ht6)
    rcases List.mem_cons.mp hx with rfl | hx
    · exact .ser (b9 _ _ hsr)
    rcases List.mem_cons.mp hx with rfl | hx
    · exact .str _
    rcases List.mem_cons.mp hx with rfl | hx
    · exact .lst (s11 _ _ hl10)
    cases hx
theorem k_wrongs {D S b : Addr} {n : Nat} {H : Hp} {Q : VK} {E : XK} (hb : Bag H b n) (hn : n ≤ 1000000)
    (q : ∀ p xs H', H p = none → Z.But b H H' → Bag H' b (n + 60) → H' p = some (.lst xs) → p ≠ b → xs.length = 14 → (∀ x ∈ xs, OddL D S H' x) → xs[0]? = some (.bl true) → Q (.ref p) H') : sp_wrongs D S ([.ref b] ++ []) H Q E := ⟨b, n, rfl, hb, hn, q⟩
theorem sc_law_wrong_words : FnScope ["_law_bag_here", "_law_found", "_law_word_here", "_law_number_here"] ["_law_bag_here"] (defScope s_law_wrong_words) := ⟨rfl, rfl, rfl, by decide +kernel, rfl, by decide +kernel, by decide +kernel⟩
def sp_wrongW : Sp := fun vs H Q _ => ∃ (b : Addr) (n : Nat), vs = [.ref b] ∧ Bag H b n ∧ n ≤ 1000000 ∧
  ∀ p (ws : List Str) H', H p = none → Z.But b H H' → Bag H' b (n + 130) → H' p = some (.lst (ws.map V.str)) → p ≠ b → ws.length = 28 → (∀ x ∈ ws, Tx.Wrong x ∧ Sg x.cps.toList) → ws[0]? = some ("" : Str) → Q (.ref p) H'
theorem ok_law_wrong_words (T : Top K mg) : FnOk P w K mg base CX0 3 T.f_law_wrong_words T.fd_law_wrong_words ["_law_bag_here"] sp_wrongW := by
  refine T.F_law_wrong_words.ok sc_law_wrong_words (fun vs H Q E h => ?_) (fun cdv A outer s H vs Q E hr h => ?_)
  · obtain ⟨b, n, rfl, _⟩ := h
    rfl
  · obtain ⟨b, n, rfl, hb, hn, q⟩ := h
    refine ⟨_, pss_cons (ps_par (i := 2) (j := 3) rfl sc_law_wrong_words.nd rfl rfl (by decide) rfl rfl (pa_cons (pe_call (ok_law_word T) (hr.mono (by decide)) (by rfl) T.mg_law_word T.F_law_word.kp T.B_law_word .nil pass0 (pa_cons (pv 0) (pa_nil))) (pa_cons (pe_op op_add (pe_int) (pe_call (ok_law_draw T) (hr.mono (by decide)) (by rfl) T.mg_law_draw T.F_law_draw.kp T.B_law_draw .nil pass0 (pa_cons (pv 0) (pa_cons (pe_int) (pa_nil))))) (pa_nil))) (by rfl)) (pss_cons (ps_set (i := 1) sc_law_wrong_words.nd rfl (.inl rfl) (pe_lst (pa_cons (pe_str) (pa_cons (pe_str) (pa_cons (pe_str) (pa_cons (pe_str) (pa_cons (pe_str) (pa_cons (pe_op Z.o_addS (pe_str) (pe_callTy Z.c_strI (by rfl) T.z_str (by decide +kernel) (pa_cons (pv 3) (pa_nil)))) (pa_cons (pe_op Z.o_addS (pe_str) (pe_callTy Z.c_strI (by rfl) T.z_str (by decide +kernel) (pa_cons (pv 3) (pa_nil)))) (pa_cons (pe_op Z.o_addS (pe_str) (pe_callTy Z.c_strI (by rfl) T.z_str (by decide +kernel) (pa_cons (pv 3) (pa_nil)))) (pa_cons (pe_op Z.o_addS (pe_str) (pe_callTy Z.c_strI (by rfl) T.z_str (by decide +kernel) (pa_cons (pv 3) (pa_nil)))) (pa_cons (pv 2) (pa_nil))))))))))))) (pss_cons (ps_set (i := 1) sc_law_wrong_words.nd rfl (.inl rfl) (pe_op op_cat (pv 1) (pe_lst (pa_cons (pe_op Z.o_addS (pe_str) (pe_str)) (pa_cons (pe_op Z.o_addS (pe_op Z.o_addS (pe_str) (pv 2)) (pe_str)) (pa_cons (pe_op Z.o_addS (pe_str) (pv 2)) (pa_cons (pe_op Z.o_addS (pe_str) (pe_slice sl_str (pv 2) po_none (po_some (pe_int)))) (pa_cons (pe_op Z.o_addS (pe_str) (pv 2)) (pa_cons (pe_op Z.o_addS (pe_callTy Z.c_strI (by rfl) T.z_str (by decide +kernel) (pa_cons (pv 3) (pa_nil))) (pe_str)) (pa_nil)))))))))) (pss_cons (ps_set (i := 1) sc_law_wrong_words.nd rfl (.inl rfl) (pe_op op_cat (pv 1) (pe_lst (pa_cons (pe_op Z.o_addS (pe_callTy Z.c_strI (by rfl) T.z_str (by decide +kernel) (pa_cons (pv 3) (pa_nil))) (pe_str)) (pa_cons (pe_op Z.o_addS (pe_callTy Z.c_strI (by rfl) T.z_str (by decide +kernel) (pa_cons (pv 3) (pa_nil))) (pv 2)) (pa_cons (pe_op Z.o_addS (pe_str) (pe_op Z.op_repS (pe_str) (pe_int))) (pa_cons (pe_op Z.o_addS (pe_op Z.o_addS (pe_str) (pe_callTy Z.c_strI (by rfl) T.z_str (by decide +kernel) (pa_cons (pv 3) (pa_nil)))) (pe_op Z.op_repS (pe_str) (pe_int))) (pa_cons (pe_op Z.o_addS (pe_op Z.o_addS (pe_str) (pv 2)) (pe_str)) (pa_nil))))))))) (pss_one (ps_ret (pe_op op_cat (pv 1) (pe_lst (pa_cons (pe_op Z.o_addS (pe_callTy Z.c_strI (by rfl) T.z_str (by decide +kernel) (pa_cons (pv 3) (pa_nil))) (pe_str)) (pa_cons (pe_str) (pa_cons (pe_bm0 PySem.F.plainAttrs_str PySem.F.slot_str_upper PySem.F.type_str_upper mt_upper (pv 2)) (pa_cons (pe_op Z.o_addS (pe_str) (pe_bm0 PySem.F.plainAttrs_str PySem.F.slot_str_upper PySem.F.type_str_upper mt_upper (pv 2))) (pa_cons (pe_str) (pa_cons (pe_str) (pa_cons (pe_str) (pa_nil))))))))))))))), ?_⟩
    refine Z.r_start (σ' := [some (.ref b), none, none, none]) rfl ?_
    walk_at "go"
    refine k_law_word hb (by omega) ?_
    intro w1 H1 hw1 t1 g1
    walk_at "go"
    walk_at "draw"
    intro d H2 d0 d1 t2 g2
    walk_at "go"
    have zb : ((1 + d : Int)).natAbs < 10 ^ 300 := Nat.lt_of_lt_of_le (show (1 + d : Int).natAbs < 10 ^ 6 by omega) (by decide)
    obtain ⟨N, eN⟩ : ∃ N, N = Str.ofString (toString (1 + d : Int)) := ⟨_, rfl⟩
    have tN : Tx.tl N = TL.numL (1 + d : Int).natAbs := by rw [eN, Tx.tl_int, if_neg (by omega)]
    have dN : Tx.digs (Tx.tl N) := by rw [tN]; exact fun c hc => TL.numL_digits _ c hc
    have nN : Tx.tl N ≠ [] := by rw [tN]; exact TL.numL_ne _
    have lN : (Tx.tl N).length ≤ 10 := by rw [tN]; exact TL.numL_len (by decide) (show (1 + d : Int).natAbs < 10 ^ 10 by omega)
    have lN' : N.length ≤ 10 := by rw [Tx.tl_len]; exact lN
    have lw := hw1.2.1
    have sI : ∀ {H : Hp} {Q : VK}, Q (.str N) H → Z.rStrI [V.int (1 + d)] H Q := fun h => Z.r_strI (big_log zb) (by rw [← eN]; exact h)
    have c1 : ∀ {a b : Str} {H : Hp} {Q : VK}, a.length ≤ 500 → b.length ≤ 500 → Q (.str (a ++ b)) H → Z.rAddS (.str a) (.str b) H Q := by
      intro a b H Q ha hb' h
      exact Z.r_addS (Z.szle (by omega)) h
    have la : ∀ {a b : Str} {k j : Nat}, a.length ≤ k → b.length ≤ j → (a ++ b).length ≤ k + j := fun {a b k j} h1 h2 => by rw [Tx.tl_len, Tx.tl_app, List.length_append, ← Tx.tl_len, ← Tx.tl_len]; omega
    refine sI ?_
    refine c1 (by decide +kernel) (by omega) ?_
    walk_at "go"
    refine sI ?_
    refine c1 (by decide +kernel) (by omega) ?_
    walk_at "go"
    refine sI ?_
    refine c1 (by decide +kernel) (by omega) ?_
    walk_at "go"
    refine sI ?_
    refine c1 (by decide +kernel) (by omega) ?_
    walk_at "go"
    intro p1 H3 n3 s3 h3
    walk_at "go"
    refine c1 (by decide +kernel) (by decide +kernel) ?_
    walk_at "go"
    refine c1 (by decide +kernel) (by omega) ?_
    walk_at "go"
    refine c1 (Nat.le_trans (la (k := 1) (j := 8) (by decide +kernel) lw) (by decide)) (by decide +kernel) ?_
    walk_at "go"
    refine c1 (by decide +kernel) (by omega) ?_
    walk_at "go"
    refine Z.r_slSt (by omega) ?_
    have lcut : (cutS w1 none (some 3)).length ≤ 8 := Nat.le_trans (cutS_length w1 none (some 3)) lw
    refine c1 (by decide +kernel) (by omega) ?_
    walk_at "go"
    refine c1 (by decide +kernel) (by omega) ?_
    walk_at "go"
    refine sI ?_
    walk_at "go"
    refine c1 (by omega) (by decide +kernel) ?_
    walk_at "go"
    intro p2 H4 n4 s4 h4
    walk_at "go"
    refine Z.r_cat (s4 _ _ h3) h4 (by show 10 + 6 ≤ 100000; decide) fun q1 H5 n5 s5 h5 => ?_
    walk_at "go"
    refine sI ?_
    walk_at "go"
    refine c1 (by omega) (by decide +kernel) ?_
    walk_at "go"
    refine sI ?_
    walk_at "go"
    refine c1 (by omega) (by omega) ?_
    walk_at "go"
    refine Z.r_repS (m := 300) rfl (by decide) (by decide) (by decide +kernel) (by decide +kernel) ?_
    refine c1 (by decide +kernel) (by decide +kernel) ?_
    walk_at "go"
    refine sI ?_
    refine c1 (by decide +kernel) (by omega) ?_
    walk_at "go"
    refine Z.r_repS (m := 300) rfl (by decide) (by decide) (by decide +kernel) (by decide +kernel) ?_
    refine c1 (Nat.le_trans (la (k := 1) (j := 10) (by decide +kernel) lN') (by decide)) (by decide +kernel) ?_
    walk_at "go"
    refine c1 (by decide +kernel) (by omega) ?_
    walk_at "go"
    refine c1 (Nat.le_trans (la (k := 1) (j := 8) (by decide +kernel) lw) (by decide)) (by decide +kernel) ?_
    walk_at "go"
    intro p3 H6 n6 s6 h6
    walk_at "go"
    refine Z.r_cat (s6 _ _ h5) h6 (by show 16 + 5 ≤ 100000; decide) fun q2 H7 n7 s7 h7 => ?_
    walk_at "go"
    refine sI ?_
    walk_at "go"
    refine c1 (by omega) (by decide +kernel) ?_
    walk_at "go"
    refine ⟨_, rfl, rfl, by omega, ?_⟩
    walk_at "go"
    refine ⟨_, rfl, rfl, by omega, ?_⟩
    have lup : (Txt.upper w1).length ≤ 8 := by rw [Tx.tl_len, Tx.tl_upper hw1.2.2, List.length_map, ← Tx.tl_len]; exact lw
    refine c1 (by decide +kernel) (by omega) ?_
    walk_at "go"
    intro p4 H8 n8 s8 h8
    walk_at "go"
    refine Z.r_cat (s8 _ _ h7) h8 (by show 21 + 7 ≤ 100000; decide) fun q3 H9 n9 s9 h9 => ?_
    have a8 := ((((s3.trans s4).trans s5).trans s6).trans s7).trans s8
    have np2 : H2 q3 = none := by
      cases z : H2 q3 with
      | none => rfl
      | some o => rw [a8 _ _ z] at n9; cases n9
    have npb := g2.ne np2
    have a9 := a8.trans s9
    exact q q3 (Tx.wrongWs w1 N) H9 ((t1.trans t2).free npb np2) ((t1.trans t2).trans (Z.But.same a9)) ((g2.same a9).mono (by omega)) h9 npb rfl (fun x hx => ⟨Tx.wrongWs_ok hw1 dN nN lN x hx, wrongWs_sg hw1.2.2 (by rw [eN]; exact ofString_sg _) x hx⟩) rfl
theorem k_wrongW {b : Addr} {n : Nat} {H : Hp} {Q : VK} {E : XK} (hb : Bag H b n) (hn : n ≤ 1000000)
    (q : ∀ p (ws : List Str) H', H p = none → Z.But b H H' → Bag H' b (n + 130) → H' p = some (.lst (ws.map V.str)) → p ≠ b → ws.length = 28 → (∀ x ∈ ws, Tx.Wrong x ∧ Sg x.cps.toList) → ws[0]? = some ("" : Str) → Q (.ref p) H') : sp_wrongW ([.ref b] ++ []) H Q E := ⟨b, n, rfl, hb, hn, q⟩
/-! lists of words, joined and read -/
def GoodW (x : Str) : Prop := 32 ∉ Tx.tl x ∧ x.length ≤ 320
theorem join_words {ws : List Str} (h : ∀ x ∈ ws, GoodW x) (n : ws ≠ [("" : Str)]) : wordsOf (Txt.join (" " : Str) ws) = ws := by
  have e32 : TL.tl (" " : Str) = 32 :: [] := by show (" " : Str).cps.toList = _; decide +kernel
  have e0 : TL.tl ("" : Str) = [] := by show ("" : Str).cps.toList = _; decide +kernel
  cases ws with
  | nil =>
    have e : Txt.join (" " : Str) [] = ("" : Str) := Str.ext' (Array.toList_inj.mp (by
      show TL.tl _ = TL.tl _
      rw [TL.join_eq, TL.tl_join, e0]; rfl))
    unfold wordsOf
    rw [if_pos e]
  | cons a r =>
    have sp := TL.split_join e32 (by decide +kernel) (parts := a :: r) nofun fun p hp => (h p hp).1
    unfold wordsOf
    rw [if_neg]
    · exact sp
    · intro e
      have e2 := congrArg TL.tl e
      rw [TL.join_eq, TL.tl_join, e0] at e2
      cases r with
      | nil =>
        have e3 : TL.tl a = [] := e2
        exact n (by rw [show a = ("" : Str) from Str.ext' (Array.toList_inj.mp (by show TL.tl _ = TL.tl _; rw [e3, e0]))])
      | cons b r2 =>
        have e3 : TL.tl a ++ _ = [] := e2
        have := (List.append_eq_nil_iff.mp e3).2
        rw [e32] at this
        cases this
theorem join_len {ws : List Str} (h : ∀ x ∈ ws, GoodW x) (n : ws.length ≤ 251) : (Txt.join (" " : Str) ws).length ≤ 90000 ∧ (ws.map (·.length)).sum + ws.length * (" " : Str).length ≤ 16777216 := by
  have s : ∀ l : List Str, (∀ x ∈ l, GoodW x) → (l.map (·.length)).sum ≤ 320 * l.length := by
    intro l
    induction l with
    | nil => intro _; exact Nat.le_refl _
    | cons a r ih =>
      intro hl
      have h1 := (hl a List.mem_cons_self).2
      have h2 := ih fun x hx => hl x (List.mem_cons_of_mem _ hx)
      simp only [List.map_cons, List.sum_cons, List.length_cons]
      omega
  have h1 := s ws h
  have e1 : (" " : Str).length = 1 := by decide +kernel
  have h2 := StrLaws.join_length_le (" " : Str) ws
  rw [show Txt.join (" " : Str) ws = Str.join (" " : Str) ws from StrLaws.glued_eq_join _ _]
  rw [e1] at h2 ⊢
  omega
/-- where a list of words, joined, is refused -/
def dueW (ws : List Str) : Option Int := if ws = [("" : Str)] then none else dueT (ws.map Tx.readT)
theorem due_read {K : PySem.W.Frag} {C D S : Addr} {H : Hp} {ws : List Str} (h : ∀ x ∈ ws, GoodW x) (n : ws.length ≤ 251) : DueOf K C D S H ("read" : Str) (.str (Txt.join (" " : Str) ws)) (dueW ws) := by
  refine .inr ⟨rfl, .inl ⟨_, rfl, (join_len h n).1, ?_⟩⟩
  by_cases c : ws = [("" : Str)]
  · have e : Txt.join (" " : Str) [("" : Str)] = ("" : Str) := by decide +kernel
    have e2 : wordsOf ("" : Str) = [] := if_pos rfl
    unfold dueW readW
    rw [if_pos c, c, e, e2]
    exact ⟨Nat.zero_le _, (fun g hg => by cases hg), rfl⟩
  · unfold dueW readW
    rw [if_neg c, join_words h c]
    exact ⟨by omega, fun g hg => Nat.le_trans (h g hg).2 (by decide), rfl⟩
theorem due_made {K : PySem.W.Frag} {C D S l : Addr} {H : Hp} {es : Ens} (hl : H l = some (.lst (es.map (·.1)))) (h : ElsOk C D S H es) : DueOf K C D S H ("made" : Str) (.ref l) (dueT (es.map (·.2))) := .inl ⟨rfl, .inl ⟨l, es, rfl, hl, h, rfl⟩⟩
/-- a list with one wrong at a place, right ahead of it -/
theorem due_at {ts : List Tag} {i : Nat} (n : ts.length ≤ 250) (h : ts[i]? = some .non) (a : ∀ t ∈ ts.take i, t ≠ .non) : dueT ts = some (i : Int) := by
  unfold dueT
  rw [if_neg (by omega), badAt_some h a, Nat.zero_add]; rfl
theorem due_long {ts : List Tag} (n : 250 < ts.length) : dueT ts = some (-1) := if_pos n
theorem due_right {ts : List Tag} (n : ts.length ≤ 250) (h : ∀ t ∈ ts, t ≠ .non) : dueT ts = none := by
  unfold dueT
  rw [if_neg (by omega), badAt_none.mpr h]; rfl

theorem sc_law : FnScope ["_law_script", "_law_at", "_law_bag_here", "_law_right", "_law_kind", "_law_thing", "_law_bad", "_law_things", "_law_first", "_law_second", "_law_wrong", "_law_due", "_law_told", "_law_many", "_law_spoilt", "_law_row", "_law_entry"] ["_law_script"] (defScope s_law) := ⟨rfl, rfl, rfl, by decide +kernel, rfl, by decide +kernel, by decide +kernel⟩
theorem OddL.but {D S b : Addr} {H H' : Hp} {x : V} {xs ys : List V} (e : Z.But b H H') (hb : H b = some (.lst xs)) (hb' : H' b = some (.lst ys)) (h : OddL D S H x) : OddL D S H' x := by
  cases h with
  | non => exact .non
  | bl k => exact .bl k
  | str z => exact .str z
  | @lst p _ h =>
    by_cases q : p = b
    · subst q; exact .lst hb'
    · exact .lst (e _ _ q h)
  | tup h => exact .tup (e _ _ (ne_of h hb (by intro z; cases z)) h)
  | ser h => exact .ser (e _ _ (ne_of h hb (by intro z; cases z)) h)
  | told h => exact .told (e _ _ (ne_of h hb (by intro z; cases z)) h)
/-- what stands in a list of either kind -/
def KEl (C D S : Addr) (kind : Str) (H : Hp) (v : V) (t : Tag) : Prop := (kind = "made" ∧ ElOk C D S H v t) ∨ (kind = "read" ∧ ∃ g : Str, v = .str g ∧ GoodW g ∧ Sg g.cps.toList ∧ Tx.readT g = t)
def KEls (C D S : Addr) (kind : Str) (H : Hp) (es : Ens) : Prop := ∀ e ∈ es, KEl C D S kind H e.1 e.2
theorem KEl.same {C D S : Addr} {kind : Str} {H H' : Hp} {v : V} {t : Tag} (s : Same H H') (h : KEl C D S kind H v t) : KEl C D S kind H' v t := h.elim (fun h => .inl ⟨h.1, h.2.same s⟩) .inr
theorem KEls.same {C D S : Addr} {kind : Str} {H H' : Hp} {es : Ens} (s : Same H H') (h : KEls C D S kind H es) : KEls C D S kind H' es := fun e he => (h e he).same s
theorem KEls.but {C D S b : Addr} {kind : Str} {H H' : Hp} {es : Ens} {n m : Nat} (e : Z.But b H H') (g : Bag H b n) (g' : Bag H' b m) (h : KEls C D S kind H es) : KEls C D S kind H' es := fun x hx => by
  obtain ⟨_, _, _, hb, _⟩ := g
  obtain ⟨_, _, _, hb', _⟩ := g'
  rcases h x hx with ⟨k, h⟩ | h
  · rcases h with ⟨e1, o⟩ | ⟨e1, r⟩
    · exact .inl ⟨k, .inl ⟨e1, o.but e hb hb'⟩⟩
    · exact .inl ⟨k, .inr ⟨e1, r.but e hb⟩⟩
  · exact .inr h
theorem KEls.app {C D S : Addr} {kind : Str} {H : Hp} {es us : Ens} (h : KEls C D S kind H es) (g : KEls C D S kind H us) : KEls C D S kind H (es ++ us) := fun e m => (List.mem_append.mp m).elim (h e) (g e)
theorem KEls.sub {C D S : Addr} {kind : Str} {H : Hp} {es us : Ens} (h : KEls C D S kind H es) (g : ∀ e ∈ us, e ∈ es) : KEls C D S kind H us := fun e m => h e (g e m)
theorem kinds_ne : ("made" : Str) ≠ "read" := by decide
theorem KEls.words {C D S : Addr} {kind : Str} {H : Hp} (hk : kind = "read") : ∀ {es : Ens}, KEls C D S kind H es → ∃ ws : List Str, es.map (·.1) = ws.map V.str ∧ (∀ x ∈ ws, GoodW x) ∧ (∀ x ∈ ws, Sg x.cps.toList) ∧ ws.map Tx.readT = es.map (·.2)
  | [], _ => ⟨[], rfl, nofun, nofun, rfl⟩
  | e :: r, h => by
    obtain ⟨ws, h1, h2, h2', h3⟩ := KEls.words hk (es := r) fun x hx => h x (List.mem_cons_of_mem _ hx)
    rcases h e List.mem_cons_self with ⟨k, _⟩ | ⟨_, g, e1, e2, e2', e3⟩
    · exact absurd (k.symm.trans hk) kinds_ne
    · refine ⟨g :: ws, by rw [List.map_cons, List.map_cons, h1, e1], fun x hx => ?_, fun x hx => ?_, by rw [List.map_cons, List.map_cons, h3, e3]⟩
      · rcases List.mem_cons.mp hx with rfl | hx
        · exact e2
        · exact h2 x hx
      · rcases List.mem_cons.mp hx with rfl | hx
        · exact e2'
        · exact h2' x hx
/-- where a list of a kind is refused -/
def dueK (kind : Str) (es : Ens) : Option Int := if kind = "read" ∧ es.map (·.1) = [V.str ""] then none else dueT (es.map (·.2))
theorem due_arg {K : PySem.W.Frag} {C D S l : Addr} {H : Hp} {kind : Str} {es : Ens} (hk : kind = "made") (hl : H l = some (.lst (es.map (·.1)))) (h : KEls C D S kind H es) : DueOf K C D S H kind (.ref l) (dueK kind es) := by
  have e : dueK kind es = dueT (es.map (·.2)) := if_neg fun q => kinds_ne (hk.symm.trans q.1)
  rw [e, hk]
  refine due_made hl fun x hx => ?_
  rcases h x hx with ⟨_, h⟩ | ⟨k, _⟩
  · exact h
  · exact absurd (hk.symm.trans k) kinds_ne
theorem words_one {ws : List Str} {x : Str} : ws.map V.str = [V.str x] ↔ ws = [x] := by
  constructor
  · intro h
    match ws, h with
    | [y], h => injection h with h1 h2; injection h1 with h3; rw [h3]
    | [], h => cases h
    | _ :: _ :: _, h => cases h
  · rintro rfl; rfl
theorem due_arg2 {K : PySem.W.Frag} {C D S : Addr} {H : Hp} {kind : Str} {es : Ens} {ws : List Str} (hk : kind = "read") (n : es.length ≤ 251) (e1 : es.map (·.1) = ws.map V.str) (gw : ∀ x ∈ ws, GoodW x) (e3 : ws.map Tx.readT = es.map (·.2)) :
    DueOf K C D S H kind (.str (Txt.join (" " : Str) ws)) (dueK kind es) := by
  have e : dueK kind es = dueW ws := by
    unfold dueK dueW
    rw [e3, e1]
    by_cases c : ws = [("" : Str)]
    · rw [if_pos ⟨hk, words_one.mpr c⟩, if_pos c]
    · rw [if_neg fun q => c (words_one.mp q.2), if_neg c]
  rw [e, hk]
  exact due_read gw (by have := congrArg List.length e1; rw [List.length_map, List.length_map] at this; omega)
theorem words_len {es : Ens} {ws : List Str} (n : es.length ≤ 251) (e1 : es.map (·.1) = ws.map V.str) (gw : ∀ x ∈ ws, GoodW x) : (ws.map (·.length)).sum + ws.length * (" " : Str).length ≤ 16777216 :=
  (join_len gw (by have := congrArg List.length e1; rw [List.length_map, List.length_map] at this; omega)).2
theorem cut_pre (es : Ens) {k : Nat} (h : k ≤ es.length) : cutV (es.map (·.1)) none (some (k : Int)) = (es.take k).map (·.1) := by
  unfold cutV
  rw [HT.sIx_none, HT.sIx_nat, List.length_map, List.drop_zero, Nat.sub_zero, Nat.min_eq_left h, List.map_take]
theorem cut_suf (es : Ens) (k : Nat) : cutV (es.map (·.1)) (some (k : Int)) none = (es.drop (min k es.length)).map (·.1) := by
  unfold cutV
  rw [HT.sIx_none, HT.sIx_nat, List.length_map, List.map_drop, List.take_of_length_le (by rw [List.length_drop, List.length_map]; omega)]
theorem cut_mid (es : Ens) {j k : Nat} (h : j ≤ k) (h2 : k ≤ es.length) : cutV (es.map (·.1)) (some (j : Int)) (some (k : Int)) = ((es.drop j).take (k - j)).map (·.1) := by
  unfold cutV
  rw [HT.sIx_nat, HT.sIx_nat, List.length_map, Nat.min_eq_left h2, Nat.min_eq_left (by omega), List.map_take, List.map_drop]
theorem dp_strs {K : PySem.W.Frag} {H : Hp} (ys : List Str) : DpAll K H (ys.map V.str) (ys.map PyData.str) := by
  induction ys with
  | nil => exact .nil
  | cons y r ih => exact .cons (.str y) ih
theorem strs_eq : ∀ ws us : List Str, PyData.eqvAll (ws.map PyData.str) (us.map PyData.str) = decide (ws = us)
  | [], [] => rfl
  | [], _ :: _ => rfl
  | _ :: _, [] => rfl
  | a :: r, b :: t => by
    show (PyData.eqv (.str a) (.str b) && PyData.eqvAll (r.map PyData.str) (t.map PyData.str)) = _
    rw [strs_eq r t, show PyData.eqv (.str a) (.str b) = (a == b) from rfl]
    by_cases h : a = b <;> by_cases h2 : r = t <;> simp [h, h2]
theorem rep_flat {n : Nat} {v : V} : (List.replicate n [v]).flatten = List.replicate n v := by simp
theorem fst_pair {xs : List V} : (xs.map fun x => (x, Tag.non)).map (·.1) = xs := by
  rw [List.map_map]
  exact List.map_id _
theorem textT_sg {t : Tag} (h : tagB t) : Sg (textT t).cps.toList := by
  cases t with
  | non => exact h.elim
  | num i => exact ofString_sg _
  | mark n => exact Sg.cat (ofString_sg _) fun c hc => by have := (h.2.2 c hc).2; omega
theorem strs_ok (ys : List Str) (h : ∀ y ∈ ys, Sg y.cps.toList) : SeqAt.shaped (.list (ys.map PyData.str)) = true := by
  have c : PyData.canLayAll0 (ys.map PyData.str) = true := by
    induction ys with
    | nil => rfl
    | cons y r ih =>
      have h1 := ih fun z hz => h z (List.mem_cons_of_mem _ hz)
      have h2 := h y List.mem_cons_self
      show (PyData.canLay0 (.str y) && PyData.canLayAll0 (r.map PyData.str)) = true
      rw [h1, Bool.and_true]
      exact h2.ok
  have d : PyData.depthAll (ys.map PyData.str) = 0 := by
    clear c h
    induction ys with
    | nil => rfl
    | cons y r ih => show max 0 (PyData.depthAll (r.map PyData.str)) = 0; rw [ih]; rfl
  show (PyData.canLayAll0 (ys.map PyData.str) && decide (PyData.depthAll (ys.map PyData.str) + 1 ≤ 64)) = true
  rw [c, d]
  rfl
theorem k_refI {K : PySem.W.Frag} {C D S : Addr} {kind : Str} {x : V} {i : Int} {H : Hp} {Q : VK} {E : XK} (h : DueOf K C D S H kind x (some i)) (q : ∀ H', Same H H' → Q (.int i) H') : sp_refused K C D S ([.str kind, x] ++ []) H Q E := k_refused h q
theorem k_refN {K : PySem.W.Frag} {C D S : Addr} {kind : Str} {x : V} {H : Hp} {Q : VK} {E : XK} (h : DueOf K C D S H kind x none) (q : ∀ H', Same H H' → Q .non H') : sp_refused K C D S ([.str kind, x] ++ []) H Q E := k_refused h q
/-- what stands while a kind's turn goes on -/
structure F12 (C D S b tp bp : Addr) (kind : Str) (et eb : Ens) (n : Nat) (H : Hp) : Prop where
  bag : Bag H b n
  th : H tp = some (.lst (et.map (·.1)))
  bd : H bp = some (.lst (eb.map (·.1)))
  kt : KEls C D S kind H et
  kb : KEls C D S kind H eb
theorem F12.same {C D S b tp bp : Addr} {kind : Str} {et eb : Ens} {n : Nat} {H H' : Hp} (s : Same H H') (F : F12 C D S b tp bp kind et eb n H) : F12 C D S b tp bp kind et eb n H' := ⟨F.bag.same s, s _ _ F.th, s _ _ F.bd, F.kt.same s, F.kb.same s⟩
theorem F12.but {C D S b tp bp : Addr} {kind : Str} {et eb : Ens} {n m : Nat} {H H' : Hp} (e : Z.But b H H') (g : Bag H' b m) (n1 : tp ≠ b) (n2 : bp ≠ b) (F : F12 C D S b tp bp kind et eb n H) : F12 C D S b tp bp kind et eb m H' :=
  ⟨g, e _ _ n1 F.th, e _ _ n2 F.bd, F.kt.but e F.bag g, F.kb.but e F.bag g⟩
theorem mem_take {α : Type} {x : α} {n : Nat} {l : List α} (h : x ∈ l.take n) : x ∈ l := List.mem_of_mem_take h
theorem due_wrong {kind : Str} {et rest : Ens} {e0 : V × Tag} {f : Nat} (hf : f ≤ et.length) (ne : ∀ e ∈ et, e.2 ≠ .non) (h0 : e0.2 = .non) (l : (et.take f ++ e0 :: rest).length ≤ 250) :
    dueK kind (et.take f ++ e0 :: rest) = if kind = "read" ∧ (et.take f ++ e0 :: rest).map (·.1) = [V.str ""] then none else some (f : Int) := by
  unfold dueK
  have lt : ((et.take f).map (·.2)).length = f := by rw [List.length_map, List.length_take, Nat.min_eq_left hf]
  rw [due_at (i := f) (by rw [List.length_map]; exact l)]
  · rw [List.map_append, List.getElem?_append_right (by rw [lt]; exact Nat.le_refl _), lt, Nat.sub_self, List.map_cons, h0]; rfl
  · intro t ht
    rw [List.map_append, List.take_append_of_le_length (by rw [lt]; exact Nat.le_refl _)] at ht
    obtain ⟨e, he, rfl⟩ := List.mem_map.mp (List.mem_of_mem_take ht)
    exact ne e (List.mem_of_mem_take he)
theorem due_good {kind : Str} {es : Ens} (l : es.length ≤ 250) (h : ∀ e ∈ es, e.2 ≠ .non) : dueK kind es = none := by
  unfold dueK
  split
  · rfl
  · exact due_right (by rw [List.length_map]; exact l) fun t ht => by
      obtain ⟨e, he, rfl⟩ := List.mem_map.mp ht
      exact h e he
theorem due_251 {kind : Str} {es : Ens} (h : es.length = 251) : dueK kind es = some (-1) := by
  unfold dueK
  rw [if_neg, due_long (by rw [List.length_map]; omega)]
  rintro ⟨_, e⟩
  have := congrArg List.length e
  rw [List.length_map, h] at this
  exact absurd this (by decide)
def sp_law (K : PySem.W.Frag) : Sp := fun vs H Q _ => ∃ (a : Addr) (ns : List Int), vs = [.ref a] ∧ SqL K H a (ns.map V.int) ∧ ns.length ≤ 63 ∧ ∀ H', Q (.bl true) H'
theorem ok_law (T : Top K mg) : FnOk P w K mg base CX0 7 T.f_law T.fd_law ["_law_script"] (sp_law K) := by
  refine T.F_law.ok sc_law (fun vs H Q E h => ?_) (fun cdv A outer s H vs Q E hr h => ?_)
  · obtain ⟨a, ns, rfl, _⟩ := h
    rfl
  · obtain ⟨a, ns, rfl, hS, hlen, q⟩ := h
    refine ⟨_, pss_cons (ps_for PassesOwn.never rfl (pi_range1 (by rfl) T.z_range (pa_cons (pe_callB (Z.c_max2 rfl) (by rfl) T.z_max (by decide +kernel) (pa_cons (pe_int) (pa_cons (pe_callB (Z.c_min2 rfl) (by rfl) T.z_min (by decide +kernel) (pa_cons (pe_int) (pa_cons (pe_callB Z.c_len (by rfl) T.z_len (by decide +kernel) (pa_cons (pv 0) (pa_nil))) (pa_nil)))) (pa_nil)))) (pa_nil))) (pg_name (i := 1) sc_law.nd rfl (.inl rfl)) (pss_cons (ps_set (i := 2) sc_law.nd rfl (.inl rfl) (pe_call (ok_law_bag T) (hr.mono (by decide)) (by rfl) T.mg_law_bag T.F_law_bag.kp T.B_law_bag .nil pass0 (pa_cons (pv 0) (pa_cons (pv 1) (pa_nil))))) (pss_cons (ps_set (i := 3) sc_law.nd rfl (.inl rfl) (pe_call (ok_law_entries T) (hr.mono (by decide)) (by rfl) T.mg_law_entries T.F_law_entries.kp T.B_law_entries .nil pass0 (pa_cons (pv 2) (pa_cons (pe_int) (pa_nil))))) (pss_cons (ps_for PassesOwn.never rfl (pi_list (pe_lst (pa_cons (pe_str) (pa_cons (pe_str) (pa_nil))))) (pg_name (i := 4) sc_law.nd rfl (.inl rfl)) (pss_cons (ps_set (i := 6) sc_law.nd rfl (.inl rfl) (pe_ifExp (pt_cmpR op_eq (pv 4) (pe_str) (nomark _)) (pe_call (ok_law_wrong_things T) (hr.mono (by decide)) (by rfl) T.mg_law_wrong_things T.F_law_wrong_things.kp T.B_law_wrong_things .nil pass0 (pa_cons (pv 2) (pa_nil))) (pe_call (ok_law_wrong_words T) (hr.mono (by decide)) (by rfl) T.mg_law_wrong_words T.F_law_wrong_words.kp T.B_law_wrong_words .nil pass0 (pa_cons (pv 2) (pa_nil))))) (pss_cons (ps_set (i := 7) sc_law.nd rfl (.inl rfl) (pe_ifExp (pt_cmpR op_eq (pv 4) (pe_str) (nomark _)) (pe_callTy Z.c_listOf (by rfl) T.z_list (by decide +kernel) (pa_cons (pv 3) (pa_nil))) (pe_lc (own := [("_law_entry", 16)]) (g := gName 16) (tt := tYes) rfl sc_law.nd (pi_list (pv 3)) (blkOk_by (own := [("_law_entry", 16)]) (N := ["_law_script", "_law_at", "_law_bag_here", "_law_right", "_law_kind", "_law_thing", "_law_bad", "_law_things", "_law_first", "_law_second", "_law_wrong", "_law_due", "_law_told", "_law_many", "_law_spoilt", "_law_row", "_law_entry"]) (sc := defScope s_law) (by decide +kernel)) (fun _ _ _ _ _ => pg_name (i := 16) sc_law.nd rfl (.inl rfl)) (fun _ _ _ _ _ => pts_nil) (fun _ _ _ _ _ => pe_call (ok_law_text T) (hr.mono (by decide)) (by rfl) T.mg_law_text T.F_law_text.kp T.B_law_text .nil pass0 (pa_cons (pv 16) (pa_nil)))))) (pss_cons (ps_if (pt_cmpR Z.o_notN (pe_call (ok_law_refused T) (hr.mono (by decide)) (by rfl) T.mg_law_refused T.F_law_refused.kp T.B_law_refused .nil pass0 (pa_cons (pv 4) (pa_cons (pe_ifExp (pt_cmpR op_eq (pv 4) (pe_str) (nomark _)) (pv 7) (pe_join (pe_str) (pv 7))) (pa_nil)))) (pe_non) (nomark _)) (pss_one (ps_ret (pe_bl))) (pss_nil)) (pss_cons (ps_set (i := 8) sc_law.nd rfl (.inl rfl) (pe_call (ok_law_draw T) (hr.mono (by decide)) (by rfl) T.mg_law_draw T.F_law_draw.kp T.B_law_draw .nil pass0 (pa_cons (pv 2) (pa_cons (pe_op op_add (pe_callB Z.c_len (by rfl) T.z_len (by decide +kernel) (pa_cons (pv 7) (pa_nil))) (pe_int)) (pa_nil))))) (pss_cons (ps_set (i := 9) sc_law.nd rfl (.inl rfl) (pe_op op_add (pv 8) (pe_call (ok_law_draw T) (hr.mono (by decide)) (by rfl) T.mg_law_draw T.F_law_draw.kp T.B_law_draw .nil pass0 (pa_cons (pv 2) (pa_cons (pe_op op_sub (pe_op op_add (pe_callB Z.c_len (by rfl) T.z_len (by decide +kernel) (pa_cons (pv 7) (pa_nil))) (pe_int)) (pv 8)) (pa_nil)))))) (pss_cons (ps_set (i := 10) sc_law.nd rfl (.inl rfl) (pe_op op_cat (pe_op op_cat (pe_slice sl_list (pv 7) po_none (po_some (pv 8))) (pe_lst (pa_cons (pe_ix (Z.ix_seqG (K := K) rfl) (pv 6) (pe_call (ok_law_draw T) (hr.mono (by decide)) (by rfl) T.mg_law_draw T.F_law_draw.kp T.B_law_draw .nil pass0 (pa_cons (pv 2) (pa_cons (pe_callB Z.c_len (by rfl) T.z_len (by decide +kernel) (pa_cons (pv 6) (pa_nil))) (pa_nil)))) (fun _ _ => rfl)) (pa_nil)))) (pe_slice sl_list (pv 7) (po_some (pv 8)) (po_some (pv 9))))) (pss_cons (ps_if ((pw_and (pt_cmpR op_eq (pe_call (ok_law_draw T) (hr.mono (by decide)) (by rfl) T.mg_law_draw T.F_law_draw.kp T.B_law_draw .nil pass0 (pa_cons (pv 2) (pa_cons (pe_int) (pa_nil)))) (pe_int) (nomark _)) (pw_and1 (pt_cmpR op_lt (pe_callB Z.c_len (by rfl) T.z_len (by decide +kernel) (pa_cons (pv 7) (pa_nil))) (pe_int) (nomark _)))).pt) (pss_one (ps_set (i := 10) sc_law.nd rfl (.inl rfl) (pe_op op_cat (pv 10) (pe_lst (pa_cons (pe_ix (Z.ix_seqG (K := K) rfl) (pv 6) (pe_call (ok_law_draw T) (hr.mono (by decide)) (by rfl) T.mg_law_draw T.F_law_draw.kp T.B_law_draw .nil pass0 (pa_cons (pv 2) (pa_cons (pe_callB Z.c_len (by rfl) T.z_len (by decide +kernel) (pa_cons (pv 6) (pa_nil))) (pa_nil)))) (fun _ _ => rfl)) (pa_nil)))))) (pss_nil)) (pss_cons (ps_set (i := 10) sc_law.nd rfl (.inl rfl) (pe_op op_cat (pv 10) (pe_slice sl_list (pv 7) (po_some (pv 9)) po_none))) (pss_cons (ps_set (i := 11) sc_law.nd rfl (.inl rfl) (pe_ifExp ((pw_and (pt_cmpR op_eq (pv 4) (pe_str) (nomark _)) (pw_and1 (pt_cmpR (op_eqD hr.units) (pv 10) (pe_lst (pa_cons (pe_str) (pa_nil))) (nomark _)))).pt) (pe_un un_neg (pe_int)) (pv 8))) (pss_cons (ps_set (i := 11) sc_law.nd rfl (.inl rfl) (pe_ifExp ((pw_and (pt_cmpR op_eq (pv 4) (pe_str) (nomark _)) (pw_and1 (pt_cmpR (op_eqD hr.units) (pv 10) (pe_lst (pa_cons (pe_str) (pa_nil))) (nomark _)))).pt) (pe_non) (pv 11))) (pss_cons (ps_set (i := 12) sc_law.nd rfl (.inl rfl) (pe_call (ok_law_refused T) (hr.mono (by decide)) (by rfl) T.mg_law_refused T.F_law_refused.kp T.B_law_refused .nil pass0 (pa_cons (pv 4) (pa_cons (pe_ifExp (pt_cmpR op_eq (pv 4) (pe_str) (nomark _)) (pv 10) (pe_join (pe_str) (pv 10))) (pa_nil))))) (pss_cons (ps_if ((pw_or (pt_val (pe_callB (Z.c_isi (K := K) rfl) (by rfl) T.z_isinstance (by decide +kernel) (pa_cons (pv 12) (pa_cons (pe_bltn (v := .ty "bool") (by rfl) T.z_bool (by decide +kernel) rfl) (pa_nil))))) (pw_or1 (pt_cmpR op_ne (pv 12) (pv 11) (nomark _)))).pt) (pss_one (ps_ret (pe_bl))) (pss_nil)) (pss_cons (ps_set (i := 13) sc_law.nd rfl (.inl rfl) (pe_ifExp (pt_cmpR op_eq (pv 4) (pe_str) (nomark _)) (pe_op op_rep (pe_lst (pa_cons (pe_str) (pa_nil))) (pe_int)) (pe_op op_rep (pe_lst (pa_cons (pe_int) (pa_nil))) (pe_int)))) (pss_cons (ps_set (i := 14) sc_law.nd rfl (.inl rfl) (pe_op op_cat (pe_op op_cat (pe_slice sl_list (pv 13) po_none (po_some (pv 8))) (pe_lst (pa_cons (pe_ix (Z.ix_seqG (K := K) rfl) (pv 6) (pe_int) (fun _ _ => rfl)) (pa_nil)))) (pe_slice sl_list (pv 13) (po_some (pe_op op_add (pv 8) (pe_int))) po_none))) (pss_cons (ps_for PassesOwn.never rfl (pi_list (pe_lst (pa_cons (pv 13) (pa_cons (pv 14) (pa_nil))))) (pg_name (i := 15) sc_law.nd rfl (.inl rfl)) (pss_one (ps_if (pt_cmpR op_ne (pe_call (ok_law_refused T) (hr.mono (by decide)) (by rfl) T.mg_law_refused T.F_law_refused.kp T.B_law_refused .nil pass0 (pa_cons (pv 4) (pa_cons (pe_ifExp (pt_cmpR op_eq (pv 4) (pe_str) (nomark _)) (pv 15) (pe_join (pe_str) (pv 15))) (pa_nil)))) (pe_un un_neg (pe_int)) (nomark _)) (pss_one (ps_ret (pe_bl))) (pss_nil)))) (pss_one (ps_if (pt_cmpR Z.o_notN (pe_call (ok_law_refused T) (hr.mono (by decide)) (by rfl) T.mg_law_refused T.F_law_refused.kp T.B_law_refused .nil pass0 (pa_cons (pv 4) (pa_cons (pe_ifExp (pt_cmpR op_eq (pv 4) (pe_str) (nomark _)) (pe_slice sl_list (pv 13) po_none (po_some (pe_int))) (pe_join (pe_str) (pe_slice sl_list (pv 13) po_none (po_some (pe_int))))) (pa_nil)))) (pe_non) (nomark _)) (pss_one (ps_ret (pe_bl))) (pss_nil))))))))))))))))))) (pss_cons (ps_for PassesOwn.never rfl (pi_list (pe_lst (pa_cons (pe_non) (pa_cons (pe_bl) (pa_cons (pe_int) (pa_cons (pe_str) (pa_cons (pe_make T.mk_Unnumbered (ok_Unnumbered___init T) (hr.mono (by decide)) (by rfl) T.mgC_Unnumbered T.B_Unnumbered___init .nil pass0 (pa_cons (pe_str) (pa_nil))) (pa_cons (pe_make T.mk_Series (ok_Series___init T) (hr.mono (by decide)) (by rfl) T.mgC_Series T.B_Series___init .nil pass0 (pa_cons (pe_lst (pa_cons (pe_int) (pa_nil))) (pa_nil))) (pa_cons (pe_make T.mk_Told (ok_Told___init T) (hr.mono (by decide)) (by rfl) T.mgC_Told T.B_Told___init .nil pass0 (pa_cons (pe_int) (pa_nil))) (pa_nil)))))))))) (pg_name (i := 5) sc_law.nd rfl (.inl rfl)) (pss_one (ps_if ((pw_or (pt_cmpR op_ne (pe_call (ok_law_refused T) (hr.mono (by decide)) (by rfl) T.mg_law_refused T.F_law_refused.kp T.B_law_refused .nil pass0 (pa_cons (pe_str) (pa_cons (pv 5) (pa_nil)))) (pe_un un_neg (pe_int)) (nomark _)) (pw_or1 ((pw_and (pt_not (pt_val (pe_callB (Z.c_isi (K := K) rfl) (by rfl) T.z_isinstance (by decide +kernel) (pa_cons (pv 5) (pa_cons (pe_bltn (v := .ty "str") (by rfl) T.z_str (by decide +kernel) rfl) (pa_nil)))))) (pw_and1 (pt_cmpR op_ne (pe_call (ok_law_refused T) (hr.mono (by decide)) (by rfl) T.mg_law_refused T.F_law_refused.kp T.B_law_refused .nil pass0 (pa_cons (pe_str) (pa_cons (pv 5) (pa_nil)))) (pe_un un_neg (pe_int)) (nomark _)))).pt))).pt) (pss_one (ps_ret (pe_bl))) (pss_nil)))) (pss_one (ps_for PassesOwn.never rfl (pi_list (pe_lst (pa_cons (pe_lst (pa_nil)) (pa_cons (pe_lst (pa_cons (pe_str) (pa_nil))) (pa_cons (pe_tup (pa_cons (pe_str) (pa_cons (pe_str) (pa_nil)))) (pa_cons (pe_lst (pa_cons (pe_int) (pa_nil))) (pa_nil))))))) (pg_name (i := 5) sc_law.nd rfl (.inl rfl)) (pss_one (ps_if (pt_cmpR op_ne (pe_call (ok_law_refused T) (hr.mono (by decide)) (by rfl) T.mg_law_refused T.F_law_refused.kp T.B_law_refused .nil pass0 (pa_cons (pe_str) (pa_cons (pv 5) (pa_nil)))) (pe_un un_neg (pe_int)) (nomark _)) (pss_one (ps_ret (pe_bl))) (pss_nil)))))))))) (pss_one (ps_ret (pe_bl))), ?_⟩
    refine Z.r_start (σ' := [some (.ref a), none, none, none, none, none, none, none, none, none, none, none, none, none, none, none, none]) rfl ?_
    walk_at "go"
    refine Z.r_rng (Z.turns _ 4 (by decide) (by decide)).1 (Z.turns _ 4 (by decide) (by decide)).2 (fun i σ' H' => Same H H' ∧ ∃ v1 v2 v3 v4 v5 v6 v7 v8 v9 v10 v11 v12 v13 v14 v15 v16, σ' = [some (.ref a), v1, v2, v3, v4, v5, v6, v7, v8, v9, v10, v11, v12, v13, v14, v15, v16]) ?_ ?_ ?_
    · exact ⟨Same.refl H, _, _, _, _, _, _, _, _, _, _, _, _, _, _, _, _, rfl⟩
    · rintro i σ' H0 hi ⟨s0, v1, v2, v3, v4, v5, v6, v7, v8, v9, v10, v11, v12, v13, v14, v15, v16, rfl⟩
      have hi5 := Int.lt_of_lt_of_le hi (Z.turns_le _ 4 (by decide))
      walk_at "go"
      refine k_law_bag (s0.seq hS) (by omega) ?_
      intro b H1 s1 nb g1
      walk_at "go"
      refine k_law_entries g1 (by omega) (by decide) (by decide) fun l1 es0 H2 nl1 t2 g2 hl1 nl1b hn1 hes0 htb0 => ?_
      walk_at "go"
      intro kl H3 nkl s3 hkl
      have g3 := g2.same s3
      have nkb : kl ≠ b := g2.ne nkl
      have hl13 := s3 _ _ hl1
      have hes3 := hes0.same s3
      walk_at "go"
      refine Z.r_lst_by (SqL.of hkl) (fun k σ' H' => (∃ n, Bag H' b n ∧ n ≤ 16100 + 1000 * k) ∧ Z.But b H3 H' ∧ ∃ v4 v5 v6 v7 v8 v9 v10 v11 v12 v13 v14 v15 v16, σ' = [some (.ref a), some (.int i), some (.ref b), some (.ref l1), v4, v5, v6, v7, v8, v9, v10, v11, v12, v13, v14, v15, v16]) ?_ ?_ ?_ ?_
      · exact ⟨⟨_, g3, by omega⟩, Z.But.refl _, _, _, _, _, _, _, _, _, _, _, _, _, _, rfl⟩
      · rintro k σ' H4 ⟨_, t4, _⟩
        exact SqL.of (t4 _ _ nkb hkl)
      · rintro k x σ' H4 hx ⟨⟨n, g4, ln⟩, t4, v4, v5, v6, v7, v8, v9, v10, v11, v12, v13, v14, v15, v16, rfl⟩
        have lk : k < 2 := (List.getElem?_eq_some_iff.mp hx).1
        obtain ⟨kind, rfl, hk⟩ : ∃ kind : Str, x = .str kind ∧ (kind = "made" ∨ kind = "read") := by
          match k, hx with
          | 0, hx => exact ⟨_, (Option.some.inj hx).symm, .inl rfl⟩
          | 1, hx => exact ⟨_, (Option.some.inj hx).symm, .inr rfl⟩
        have hl14 := t4 _ _ nl1b hl13
        have hes4 : EnsOk T.C_Unnumbered H4 es0 := by
          obtain ⟨_, _, _, hb3, _⟩ := id g3
          exact hes3.but t4 hb3
        have rd : ¬ kind = "made" → kind = "read" := fun c => hk.resolve_left c
        have mk : ¬ kind = "read" → kind = "made" := fun c => hk.resolve_right c
        walk_at "go"
        refine Z.join (fun v H' => ∃ (p : Addr) (eb : Ens), v = .ref p ∧ Z.But b H4 H' ∧ Bag H' b (n + 130) ∧ p ≠ b ∧ H' p = some (.lst (eb.map (·.1))) ∧ KEls T.C_Unnumbered T.C_Told T.C_Series kind H' eb ∧ (∀ e ∈ eb, e.2 = .non) ∧ 0 < eb.length ∧ eb.length ≤ 28) (fun c M q1 => ?_) (fun c M q1 => ?_) (fun v H5 hv => ?_)
        · walk_at "go"
          refine k_wrongs g4 (by omega) fun p xs H5 np t5 g5 hp npb lx od h0 => ?_
          refine q1 _ _ ⟨p, xs.map fun x => (x, .non), rfl, t5, g5.mono (by omega), npb, by rw [fst_pair]; exact hp, fun e he => ?_, fun e he => ?_, by rw [List.length_map]; omega, by rw [List.length_map]; omega⟩
          · obtain ⟨x, hx, rfl⟩ := List.mem_map.mp he
            exact .inl ⟨c, .inl ⟨rfl, od x hx⟩⟩
          · obtain ⟨x, hx, rfl⟩ := List.mem_map.mp he
            rfl
        · walk_at "go"
          refine k_wrongW g4 (by omega) fun p ws H5 np t5 g5 hp npb lx od h0 => ?_
          refine q1 _ _ ⟨p, ws.map fun x => (.str x, .non), rfl, t5, g5, npb, by rw [List.map_map]; exact hp, fun e he => ?_, fun e he => ?_, by rw [List.length_map]; omega, by rw [List.length_map]; omega⟩
          · obtain ⟨x, hx, rfl⟩ := List.mem_map.mp he
            obtain ⟨w, ws⟩ := od x hx
            exact .inr ⟨rd c, x, rfl, ⟨w.2.1, w.2.2⟩, ws, w.1⟩
          · obtain ⟨x, hx, rfl⟩ := List.mem_map.mp he
            rfl
        obtain ⟨bp, eb, rfl, t5, g5, nbb, hbp, keb, neb, lb0, lb1⟩ := hv
        have hl15 := t5 _ _ nl1b hl14
        have hes5 : EnsOk T.C_Unnumbered H5 es0 := by
          obtain ⟨_, _, _, hb4, _⟩ := id g4
          exact hes4.but t5 hb4
        walk_at "go"
        refine Z.join (fun v H' => ∃ (p : Addr) (et : Ens), v = .ref p ∧ Same H5 H' ∧ p ≠ b ∧ H' p = some (.lst (et.map (·.1))) ∧ KEls T.C_Unnumbered T.C_Told T.C_Series kind H' et ∧ (∀ e ∈ et, e.2 ≠ .non) ∧ et.length ≤ 249) (fun c M q1 => ?_) (fun c M q1 => ?_) (fun v H6 hv => ?_)
        · walk_at "go"
          refine Z.r_listL hl15 fun p H6 np s6 hp => ?_
          refine q1 _ _ ⟨p, es0, rfl, s6, g5.ne np, hp, fun e he => .inl ⟨c, .inr ⟨(hes5 e he).2, ((hes5 e he).1.same s6)⟩⟩, fun e he => (hes5 e he).2, by omega⟩
        · walk_at "go"
          refine Z.r_lcL (SqL.of hl15) (fun _ => rfl) (fun D i H' => Same H5 H' ∧ H' D = some (.lst ((es0.take i).map fun e => V.str (textT e.2)))) ?_ ?_ ?_ ?_
          · intro D H6 nD s6 h6
            exact ⟨s6, h6⟩
          · rintro D i H6 nD ⟨s6, _⟩
            exact SqL.of (s6 _ _ hl15)
          · rintro D j y H6 nD hy ⟨s6, hD⟩
            rw [List.getElem?_map] at hy
            cases hu : es0[j]? with
            | none => rw [hu] at hy; cases hy
            | some e =>
            rw [hu] at hy
            cases hy
            have hm := List.mem_of_getElem? hu
            have lj := (List.getElem?_eq_some_iff.mp hu).1
            walk_at "go"
            refine k_law_text ((hes5 e hm).1.same s6) (htb0 e hm) ?_
            refine Z.r_ap hD (by rw [List.length_map, List.length_take]; omega) fun H7 b7 h7 => ⟨Z.But.back s6 nD b7, ?_⟩
            rw [h7, List.take_succ, hu, List.map_append]
            rfl
          · rintro D H6 nD ⟨s6, hD⟩
            rw [List.length_map, List.take_length] at hD
            refine q1 _ _ ⟨D, es0.map fun e => (.str (textT e.2), e.2), rfl, s6, g5.ne nD, by rw [List.map_map]; exact hD, fun e he => ?_, fun e he => ?_, by rw [List.length_map]; omega⟩
            · obtain ⟨x, hx, rfl⟩ := List.mem_map.mp he
              exact .inr ⟨rd c, _, rfl, ⟨(textT_free (htb0 x hx)).1, Nat.le_trans (textT_len (htb0 x hx)) (by decide)⟩, textT_sg (htb0 x hx), read_text (htb0 x hx)⟩
            · obtain ⟨x, hx, rfl⟩ := List.mem_map.mp he
              exact (hes5 x hx).2
        obtain ⟨tp, et, rfl, s6, ntb, htp, ket, net, lt⟩ := hv
        have g6 := g5.same s6
        have hbp6 := s6 _ _ hbp
        have keb6 := keb.same s6
        have due0 : dueK kind et = none := by
          unfold dueK
          split
          · rfl
          · exact due_right (by rw [List.length_map]; omega) fun t ht => by
              obtain ⟨e, he, rfl⟩ := List.mem_map.mp ht
              exact net e he
        walk_at "go"
        refine Z.join (fun v H' => H' = H6 ∧ DueOf K T.C_Unnumbered T.C_Told T.C_Series H6 kind v none) (fun c M q1 => ?_) (fun c M q1 => ?_) (fun v H' hv => ?_)
        · walk_at "go"
          refine q1 _ _ ⟨rfl, ?_⟩
          rw [← due0]; exact due_arg c htp ket
        · obtain ⟨ws, e1, gw, _, e3⟩ := ket.words (rd c)
          walk_at "go"
          refine (Z.r_join (K := K) (by rw [← e1]; exact htp) (words_len (by omega) e1 gw) ?_ : Z.jnR K _ _ _ _)
          refine q1 _ _ ⟨rfl, ?_⟩
          rw [← due0]; exact due_arg2 (rd c) (by omega) e1 gw e3
        obtain ⟨rfl, dv⟩ := hv
        walk_at "go"
        refine k_refN dv fun H7 s7 => ?_
        have F7 : F12 T.C_Unnumbered T.C_Told T.C_Series b tp bp kind et eb (n + 130) H7 := F12.same s7 ⟨g6, htp, hbp6, ket, keb6⟩
        walk_at "go"
        have htp7 := F7.th
        have hbp7 := F7.bd
        walk_at "go"
        rw [List.length_map]
        walk_at "draw"
        intro fI H8 f0 f1 t8 g8
        obtain ⟨f, rfl⟩ := Int.eq_ofNat_of_zero_le f0
        have hf : f ≤ et.length := by omega
        have F8 := F7.but t8 g8 ntb nbb
        have htp8 := F8.th
        walk_at "go"
        rw [List.length_map]
        walk_at "draw"
        intro eI H9 e0 e1 t9 g9
        obtain ⟨e, rfl⟩ := Int.eq_ofNat_of_zero_le e0
        have he : f + e ≤ et.length := by omega
        have F9 := F8.but t9 g9 ntb nbb
        walk_at "go"
        refine Z.r_slL F9.th fun p1 H10 np1 s10 hp1 => ?_
        rw [cut_pre et hf] at hp1
        have F10 := F9.same s10
        have np1b := F9.bag.ne np1
        have hbp10 := F10.bd
        walk_at "go"
        rw [List.length_map]
        walk_at "draw"
        intro jI H11 j0 j1 t11 g11
        obtain ⟨j, rfl⟩ := Int.eq_ofNat_of_zero_le j0
        have hj : j < eb.length := by omega
        have F11 := F10.but t11 g11 ntb nbb
        have hp11 := t11 _ _ np1b hp1
        refine Z.r_ixL (v := (eb[j]'hj).1) (SqL.of F11.bd) (atI_nat (by rw [List.getElem?_map, List.getElem?_eq_getElem hj]; rfl)) ?_
        walk_at "go"
        intro p2 H12 np2 s12 hp2
        refine Z.r_cat (s12 _ _ hp11) hp2 (by rw [List.length_map, List.length_take]; show _ + 1 ≤ _; omega) fun p3 H13 np3 s13 hp3 => ?_
        have F13 := F11.same (s12.trans s13)
        have e21 : ((f : Int) + (e : Int)) = ((f + e : Nat) : Int) := rfl
        walk_at "go"
        refine Z.r_slL F13.th fun p4 H14 np4 s14 hp4 => ?_
        rw [e21, cut_mid et (Nat.le_add_right f e) he] at hp4
        refine Z.r_cat (s14 _ _ hp3) hp4 (by simp only [List.length_append, List.length_map, List.length_take, List.length_drop, List.length_cons, List.length_nil]; omega) fun p5 H15 np5 s15 hp5 => ?_
        have F15 := F13.same (s14.trans s15)
        have np5b := (F13.same s14).bag.ne np5
        have hw5 : H15 p5 = some (.lst ((et.take f ++ eb[j] :: (et.drop f).take (f + e - f)).map (·.1))) := by
          rw [hp5]; simp only [List.map_append, List.map_cons, List.append_assoc, List.singleton_append]
        have kw5 : KEls T.C_Unnumbered T.C_Told T.C_Series kind H15 (et.take f ++ eb[j] :: (et.drop f).take (f + e - f)) := by
          refine (F15.kt.sub fun x hx => List.mem_of_mem_take hx).app fun x hx => ?_
          rcases List.mem_cons.mp hx with rfl | hx
          · exact F15.kb _ (List.getElem_mem hj)
          · exact F15.kt _ (List.mem_of_mem_drop (List.mem_of_mem_take hx))
        have t415 : Z.But b H4 H15 := ((((((t5.trans (Z.But.same s6)).trans (Z.But.same s7)).trans t8).trans t9).trans (Z.But.same s10)).trans t11).trans (Z.But.same (s12.trans (s13.trans (s14.trans s15))))
        have nw : eb[j].2 = .non := neb _ (List.getElem_mem hj)
        have ge5 := e21
        walk_at "toseq"
        refine Z.viaS (fun σ' H' => ∃ (p : Addr) (rest : Ens) (m : Nat), σ' = [some (.ref a), some (.int i), some (.ref b), some (.ref l1), some (.str kind), v5, some (.ref bp), some (.ref tp), some (.int f), some (.int (f + e : Nat)), some (.ref p), v11, v12, v13, v14, v15, v16] ∧
          F12 T.C_Unnumbered T.C_Told T.C_Series b tp bp kind et eb m H' ∧ m ≤ n + 140 ∧ Z.But b H15 H' ∧ H' p = some (.lst ((et.take f ++ eb[j] :: rest).map (·.1))) ∧ p ≠ b ∧ KEls T.C_Unnumbered T.C_Told T.C_Series kind H' (et.take f ++ eb[j] :: rest) ∧ f + 1 + rest.length + (et.length - (f + e)) ≤ 250) (fun D' kk => ?_) ?_
        · have htp15 := F15.th
          walk_at "go"
          walk_at "draw"
          intro dI H16 d0 d1 t16 g16
          have F16 := F15.but t16 g16 ntb nbb
          have htp16 := F16.th
          have hw16 := t16 _ _ np5b hw5
          have kw16 := kw5.but t16 F15.bag F16.bag
          have base : ∀ H', Same H16 H' → D'.nx [some (.ref a), some (.int i), some (.ref b), some (.ref l1), some (.str kind), v5, some (.ref bp), some (.ref tp), some (.int f), some (.int (f + e : Nat)), some (.ref p5), v11, v12, v13, v14, v15, v16] H' := fun H' s' =>
            kk _ _ ⟨p5, (et.drop f).take (f + e - f), _, rfl, F16.same s', by omega, t16.trans (Z.But.same s'), s' _ _ hw16, np5b, kw16.same s', by rw [List.length_take, List.length_drop]; omega⟩
          walk_at "go"
          refine Z.ways (fun c1 => ?_) (fun c1 => ?_)
          · walk_at "go"
            rw [List.length_map]
            refine Z.ways (fun c2 => ?_) (fun c2 => ?_)
            · have hbp16 := F16.bd
              walk_at "go"
              rw [List.length_map]
              walk_at "draw"
              intro j2 H17 j20 j21 t17 g17
              obtain ⟨j2, rfl⟩ := Int.eq_ofNat_of_zero_le j20
              have hj2 : j2 < eb.length := by omega
              have F17 := F16.but t17 g17 ntb nbb
              refine Z.r_ixL (v := (eb[j2]'hj2).1) (SqL.of F17.bd) (atI_nat (by rw [List.getElem?_map, List.getElem?_eq_getElem hj2]; rfl)) ?_
              walk_at "go"
              intro p6 H18 np6 s18 hp6
              refine Z.r_cat (s18 _ _ (t17 _ _ np5b hw16)) hp6 (by simp only [List.length_map, List.length_append, List.length_cons, List.length_nil, List.length_take, List.length_drop]; omega) fun p7 H19 np7 s19 hp7 => ?_
              have F19 := F17.same (s18.trans s19)
              walk_at "go"
              refine kk _ _ ⟨p7, (et.drop f).take (f + e - f) ++ [eb[j2]], _, rfl, F19, by omega, t16.trans (t17.trans (Z.But.same (s18.trans s19))), by rw [hp7]; simp only [List.map_append, List.map_cons, List.append_assoc, List.cons_append, List.map_nil], (F17.same s18).bag.ne np7, ?_, by rw [List.length_append, List.length_take, List.length_drop]; show _ + 1 + (_ + 1) + _ ≤ _; omega⟩
              have kw19 := (kw16.but t17 F16.bag F17.bag).same (s18.trans s19)
              have e3 : et.take f ++ eb[j] :: ((et.drop f).take (f + e - f) ++ [eb[j2]]) = (et.take f ++ eb[j] :: (et.drop f).take (f + e - f)) ++ [eb[j2]] := by simp only [List.append_assoc, List.cons_append]
              rw [e3]
              refine kw19.app fun x hx => ?_
              rw [List.mem_singleton.mp hx]
              exact F19.kb _ (List.getElem_mem hj2)
            · walk_at "go"
              exact base _ (Same.refl _)
          · walk_at "go"
            exact base _ (Same.refl _)
        rintro σ' H20 ⟨wp, rest, m, rfl, F20, lm, t20, hw20, nwb, kw20, lr⟩
        walk_at "go"
        refine Z.r_slL F20.th fun p8 H21 np8 s21 hp8 => ?_
        rw [cut_suf et (f + e), Nat.min_eq_left he] at hp8
        refine Z.r_cat (s21 _ _ hw20) hp8 (by simp only [List.length_map, List.length_append, List.length_cons, List.length_take, List.length_drop]; omega) fun wq H22 nwq s22 hwq => ?_
        have F22 := F20.same (s21.trans s22)
        obtain ⟨tail, etl⟩ : ∃ tail, tail = rest ++ et.drop (f + e) := ⟨_, rfl⟩
        have hw22 : H22 wq = some (.lst ((et.take f ++ eb[j] :: tail).map (·.1))) := by
          rw [hwq, etl]; simp only [List.map_append, List.map_cons, List.append_assoc, List.cons_append]
        have kw22 : KEls T.C_Unnumbered T.C_Told T.C_Series kind H22 (et.take f ++ eb[j] :: tail) := by
          have e3 : et.take f ++ eb[j] :: tail = (et.take f ++ eb[j] :: rest) ++ et.drop (f + e) := by rw [etl]; simp only [List.append_assoc, List.cons_append]
          rw [e3]
          exact (kw20.same (s21.trans s22)).app (F22.kt.sub fun x hx => List.mem_of_mem_drop hx)
        have l22 : (et.take f ++ eb[j] :: tail).length ≤ 250 := by
          rw [etl]; simp only [List.length_append, List.length_cons, List.length_take, List.length_drop]; omega
        have due22 := due_wrong (kind := kind) hf net nw l22
        have nwqb := (F20.same s21).bag.ne nwq
        obtain ⟨ew, eew⟩ : ∃ ew, ew = et.take f ++ eb[j] :: tail := ⟨_, rfl⟩
        rw [← eew] at hw22 kw22 l22 due22
        walk_at "toseq"
        refine Z.r_asg (Z.via (R := fun v H' => Same H22 H' ∧ v = if kind = "read" ∧ ew.map (·.1) = [V.str ""] then V.int (-1) else V.int f) (fun M kk => ?_) ?_)
        · walk_at "go"
          refine Z.ways (fun c => ?_) (fun c => ?_)
          · obtain ⟨ws, e1, gw, sw, e3⟩ := kw22.words c
            walk_at "go"
            intro pl H23 nl s23 hl
            have hw23 := s23 _ _ hw22
            rw [e1] at hw23
            refine Z.r_eqD (.lst (SqL.of hw23) (dp_strs ws)) (.lst (SqL.of hl) (dp_strs [("" : Str)])) (strs_ok ws sw) (strs_ok _ fun y hy => by rw [List.mem_singleton.mp hy]; exact ofString_sg _) ?_
            rw [show PyData.eqv (.list (ws.map PyData.str)) (.list ([("" : Str)].map PyData.str)) = decide (ws = [("" : Str)]) from strs_eq ws [("" : Str)]]
            walk_at "go"
            refine Z.ways (fun c2 => ?_) (fun c2 => ?_)
            · walk_at "go"
              refine kk _ _ ⟨s23, ?_⟩
              rw [if_pos ⟨c, by rw [e1]; exact words_one.mpr c2⟩]
            · walk_at "go"
              refine kk _ _ ⟨s23, ?_⟩
              rw [if_neg fun z => c2 (words_one.mp (by rw [← e1]; exact z.2))]
          · walk_at "go"
            refine kk _ _ ⟨Same.refl _, ?_⟩
            rw [if_neg fun z => c z.1]
        rintro v H23 ⟨s23, ev⟩
        have hw23 := s23 _ _ hw22
        have kw23 := kw22.same s23
        walk_at "toseq"
        refine Z.r_asg (Z.via (R := fun v' H' => Same H23 H' ∧ v' = optI (dueK kind ew)) (fun M kk => ?_) ?_)
        · walk_at "go"
          refine Z.ways (fun c => ?_) (fun c => ?_)
          · obtain ⟨ws, e1, gw, sw, e3⟩ := kw23.words c
            walk_at "go"
            intro pl H24 nl s24 hl
            have hw24 := s24 _ _ hw23
            rw [e1] at hw24
            refine Z.r_eqD (.lst (SqL.of hw24) (dp_strs ws)) (.lst (SqL.of hl) (dp_strs [("" : Str)])) (strs_ok ws sw) (strs_ok _ fun y hy => by rw [List.mem_singleton.mp hy]; exact ofString_sg _) ?_
            rw [show PyData.eqv (.list (ws.map PyData.str)) (.list ([("" : Str)].map PyData.str)) = decide (ws = [("" : Str)]) from strs_eq ws [("" : Str)]]
            walk_at "go"
            refine Z.ways (fun c2 => ?_) (fun c2 => ?_)
            · walk_at "go"
              refine kk _ _ ⟨s24, ?_⟩
              rw [due22, if_pos ⟨c, by rw [e1]; exact words_one.mpr c2⟩]; rfl
            · walk_at "go"
              refine kk _ _ ⟨s24, ?_⟩
              rw [due22, ev, if_neg fun z => c2 (words_one.mp (by rw [← e1]; exact z.2)), if_neg fun z => c2 (words_one.mp (by rw [← e1]; exact z.2))]; rfl
          · walk_at "go"
            refine kk _ _ ⟨Same.refl _, ?_⟩
            rw [due22, ev, if_neg fun z => c z.1, if_neg fun z => c z.1]; rfl
        rintro v' H24 ⟨s24, ev'⟩
        subst ev'
        have F24 := F22.same (s23.trans s24)
        have hw24 := s24 _ _ hw23
        have kw24 := kw23.same s24
        walk_at "go"
        refine Z.join (fun v H' => H' = H24 ∧ DueOf K T.C_Unnumbered T.C_Told T.C_Series H24 kind v (dueK kind ew)) (fun c M q1 => ?_) (fun c M q1 => ?_) (fun v H' hv => ?_)
        · walk_at "go"
          exact q1 _ _ ⟨rfl, due_arg c hw24 kw24⟩
        · obtain ⟨ws, e1, gw, _, e3⟩ := kw24.words (rd c)
          walk_at "go"
          refine (Z.r_join (K := K) (by rw [← e1]; exact hw24) (words_len (by omega) e1 gw) ?_ : Z.jnR K _ _ _ _)
          exact q1 _ _ ⟨rfl, due_arg2 (rd c) (by omega) e1 gw e3⟩
        obtain ⟨rfl, dv2⟩ := hv
        walk_at "go"
        refine k_refused dv2 fun H25 s25 => ?_
        have F25 := F24.same s25
        walk_at "toseq"
        refine Z.viaR (fun σ' H' => σ' = [some (.ref a), some (.int i), some (.ref b), some (.ref l1), some (.str kind), v5, some (.ref bp), some (.ref tp), some (.int f), some (.int (f + e : Nat)), some (.ref wq), some (optI (dueK kind ew)), some (optI (dueK kind ew)), v13, v14, v15, v16] ∧ H25 = H') (fun M kk => ?_) ?_
        · cases dk : dueK kind ew with
          | none =>
            rw [dk] at kk
            rw [show optI none = V.non from rfl] at kk ⊢
            walk_at "go"
            refine Z.r_neO (o := none) (p := none) ?_
            walk_at "go"
            exact kk _ _ ⟨rfl, rfl⟩
          | some d =>
            rw [dk] at kk
            rw [show optI (some d) = V.int d from rfl] at kk ⊢
            walk_at "go"
            refine Z.no (by rw [decide_eq_true rfl]; rfl) ?_
            walk_at "go"
            exact kk _ _ ⟨rfl, rfl⟩
        rintro σ' H' ⟨rfl, rfl⟩
        walk_at "go"
        refine Z.join (fun v H' => ∃ (p : Addr) (em : Ens), v = .ref p ∧ Same H25 H' ∧ H' p = some (.lst (em.map (·.1))) ∧ KEls T.C_Unnumbered T.C_Told T.C_Series kind H' em ∧ (∀ e ∈ em, e.2 ≠ .non) ∧ em.length = 251) (fun c M q1 => ?_) (fun c M q1 => ?_) (fun v H26 hv => ?_)
        · walk_at "go"
          intro p H26 np s26 hp
          refine Z.r_rep hp (by decide) (by decide) (by decide) fun p2 H27 np2 s27 hp2 => ?_
          refine q1 _ _ ⟨p2, List.replicate 251 (.str "7", .num 7), rfl, s26.trans s27, ?_, fun x hx => ?_, fun x hx => ?_, List.length_replicate⟩
          · rw [hp2, rep_flat, List.map_replicate]; rfl
          · rw [List.eq_of_mem_replicate hx]
            exact .inr ⟨c, _, rfl, ⟨by decide +kernel, by decide +kernel⟩, ofString_sg _, Tx.readT_int (i := 7) (by decide +kernel)⟩
          · rw [List.eq_of_mem_replicate hx]; exact nofun
        · walk_at "go"
          intro p H26 np s26 hp
          refine Z.r_rep hp (by decide) (by decide) (by decide) fun p2 H27 np2 s27 hp2 => ?_
          refine q1 _ _ ⟨p2, List.replicate 251 (.int 7, .num 7), rfl, s26.trans s27, ?_, fun x hx => ?_, fun x hx => ?_, List.length_replicate⟩
          · rw [hp2, rep_flat, List.map_replicate]; rfl
          · rw [List.eq_of_mem_replicate hx]
            exact .inl ⟨mk c, .inr ⟨nofun, rfl⟩⟩
          · rw [List.eq_of_mem_replicate hx]; exact nofun
        obtain ⟨mp, em, rfl, s26, hmp, kem, nem, lm2⟩ := hv
        have F26 := F25.same s26
        walk_at "go"
        refine Z.r_slL hmp fun p1 H27 np1 s27 hp1 => ?_
        rw [cut_pre em (by omega)] at hp1
        have F27 := F26.same s27
        have hbp27 := F27.bd
        have z0 : atI (eb.map (·.1)) ((0 : Nat) : Int) = some (eb[0]'lb0).1 := atI_nat (by rw [List.getElem?_map, List.getElem?_eq_getElem lb0]; rfl)
        walk_at "go"
        intro p2 H28 np2 s28 hp2
        refine Z.r_cat (s28 _ _ hp1) hp2 (by rw [List.length_map, List.length_take]; show _ + 1 ≤ _; omega) fun p3 H29 np3 s29 hp3 => ?_
        have s2729 := s27.trans (s28.trans s29)
        walk_at "go"
        refine Z.r_slL (s2729 _ _ hmp) fun p4 H30 np4 s30 hp4 => ?_
        rw [show ((f : Int) + 1) = ((f + 1 : Nat) : Int) from rfl, cut_suf em (f + 1)] at hp4
        refine Z.r_cat (s30 _ _ hp3) hp4 (by simp only [List.length_append, List.length_map, List.length_take, List.length_drop, List.length_cons, List.length_nil]; omega) fun sp H31 nsp s31 hsp => ?_
        have s2631 := s2729.trans (s30.trans s31)
        have F31 := F26.same s2631
        obtain ⟨es, ees⟩ : ∃ es, es = em.take f ++ eb[0]'lb0 :: em.drop (min (f + 1) em.length) := ⟨_, rfl⟩
        have hs31 : H31 sp = some (.lst (es.map (·.1))) := by
          rw [hsp, ees]; simp only [List.map_append, List.map_cons, List.append_assoc, List.singleton_append]
        have kes : KEls T.C_Unnumbered T.C_Told T.C_Series kind H31 es := by
          rw [ees]
          refine ((kem.same s2631).sub fun x hx => List.mem_of_mem_take hx).app fun x hx => ?_
          rcases List.mem_cons.mp hx with rfl | hx
          · exact F31.kb _ (List.getElem_mem lb0)
          · exact (kem.same s2631) _ (List.mem_of_mem_drop hx)
        have les : es.length = 251 := by
          rw [ees]; simp only [List.length_append, List.length_cons, List.length_take, List.length_drop]; omega
        have hm31 := s2631 _ _ hmp
        have km31 := kem.same s2631
        walk_at "go"
        intro rl H32 nrl s32 hrl
        walk_at "go"
        refine Z.r_lst_by (SqL.of hrl) (fun j σ' H' => Same H32 H' ∧ ∃ w15 w16, σ' = [some (.ref a), some (.int i), some (.ref b), some (.ref l1), some (.str kind), v5, some (.ref bp), some (.ref tp), some (.int f), some (.int (f + e : Nat)), some (.ref wq), some (optI (dueK kind ew)), some (optI (dueK kind ew)), some (.ref mp), some (.ref sp), w15, w16]) ?_ ?_ ?_ ?_
        · exact ⟨Same.refl _, _, _, rfl⟩
        · rintro j σ' H33 ⟨s33, _⟩
          exact SqL.of (s33 _ _ hrl)
        · rintro j x σ' H33 hx ⟨s33, w15, w16, rfl⟩
          obtain ⟨r, er, rfl, hr33, ker, ler⟩ : ∃ (r : Addr) (er : Ens), x = .ref r ∧ H33 r = some (.lst (er.map (·.1))) ∧ KEls T.C_Unnumbered T.C_Told T.C_Series kind H33 er ∧ er.length = 251 := by
            have s3 := s32.trans s33
            match j, hx with
            | 0, hx => exact ⟨mp, em, (Option.some.inj hx).symm, s3 _ _ hm31, km31.same s3, lm2⟩
            | 1, hx => exact ⟨sp, es, (Option.some.inj hx).symm, s3 _ _ hs31, kes.same s3, les⟩
          walk_at "go"
          refine Z.join (fun v H' => H' = H33 ∧ DueOf K T.C_Unnumbered T.C_Told T.C_Series H33 kind v (some (-1))) (fun c M q1 => ?_) (fun c M q1 => ?_) (fun v H' hv => ?_)
          · walk_at "go"
            refine q1 _ _ ⟨rfl, ?_⟩
            rw [← due_251 (kind := kind) ler]; exact due_arg c hr33 ker
          · obtain ⟨ws, e1, gw, _, e3⟩ := ker.words (rd c)
            walk_at "go"
            refine (Z.r_join (K := K) (by rw [← e1]; exact hr33) (words_len (by omega) e1 gw) ?_ : Z.jnR K _ _ _ _)
            refine q1 _ _ ⟨rfl, ?_⟩
            rw [← due_251 (kind := kind) ler]; exact due_arg2 (rd c) (by omega) e1 gw e3
          obtain ⟨rfl, dv3⟩ := hv
          walk_at "go"
          refine k_refI dv3 fun H34 s34 => ?_
          walk_at "go"
          exact ⟨s33.trans s34, _, _, rfl⟩
        · rintro σ' H33 ⟨s33, w15, w16, rfl⟩
          have s3 := s32.trans s33
          have hm33 := s3 _ _ hm31
          have km33 := km31.same s3
          have due4 : dueK kind (em.take 250) = none := due_good (by rw [List.length_take]; omega) fun x hx => nem x (List.mem_of_mem_take hx)
          walk_at "go"
          refine Z.join (fun v H' => Same H33 H' ∧ DueOf K T.C_Unnumbered T.C_Told T.C_Series H' kind v none) (fun c M q1 => ?_) (fun c M q1 => ?_) (fun v H34 hv => ?_)
          · walk_at "go"
            refine Z.r_slL hm33 fun p1 H34 np1 s34 hp1 => ?_
            have hp1 := hp1.trans (congrArg (fun z => some (HO.lst z)) (cut_pre em (k := 250) (by omega)))
            refine q1 _ _ ⟨s34, ?_⟩
            rw [← due4]; exact due_arg c hp1 ((km33.same s34).sub fun x hx => List.mem_of_mem_take hx)
          · walk_at "go"
            refine Z.r_slL hm33 fun p1 H34 np1 s34 hp1 => ?_
            have hp1 := hp1.trans (congrArg (fun z => some (HO.lst z)) (cut_pre em (k := 250) (by omega)))
            have kk4 : KEls T.C_Unnumbered T.C_Told T.C_Series kind H34 (em.take 250) := (km33.same s34).sub fun x hx => List.mem_of_mem_take hx
            obtain ⟨ws, e1, gw, _, e3⟩ := kk4.words (rd c)
            have l4 : (em.take 250).length ≤ 251 := by rw [List.length_take]; omega
            refine (Z.r_join (K := K) (by rw [← e1]; exact hp1) (words_len l4 e1 gw) ?_ : Z.jnR K _ _ _ _)
            refine q1 _ _ ⟨s34, ?_⟩
            rw [← due4]; exact due_arg2 (rd c) l4 e1 gw e3
          obtain ⟨s34, dv4⟩ := hv
          walk_at "go"
          refine k_refN dv4 fun H35 s35 => ?_
          have sE := ((s26.trans (s2631.trans s3)).trans s34).trans s35
          have FE := F25.same sE
          walk_at "go"
          refine ⟨⟨_, FE.bag, by omega⟩, t4.trans (t415.trans (t20.trans (Z.But.same ((s21.trans s22).trans ((s23.trans s24).trans (s25.trans sE)))))), _, _, _, _, _, _, _, _, _, _, _, _, _, rfl⟩
      · rintro σ' H4 ⟨⟨n, g4, ln⟩, t4, v4, v5, v6, v7, v8, v9, v10, v11, v12, v13, v14, v15, v16, rfl⟩
        walk_at "go"
        intro x5 d5 H5 n5 s5 hx5
        walk_at "go"
        intro l6 H6 n6 s6 hl6
        walk_at "go"
        refine r_mkSe (es := [(.int 1, .num 1)]) hl6 (by show 1 ≤ 250; decide) ?_ ?_
        · intro e he
          have e1 : e = (V.int 1, Tag.num 1) := by simpa using he
          subst e1
          exact ⟨rfl, nofun⟩
        intro sr dsr tt H7 n7 _ s7 htt hsr
        walk_at "go"
        intro u du H8 n8 s8 hu
        walk_at "go"
        intro p H9 n9 s9 hp
        have hx9 := s9 _ _ (s8 _ _ (s7 _ _ (s6 _ _ hx5)))
        have hsr9 := s9 _ _ (s8 _ _ hsr)
        have hu9 := s9 _ _ hu
        have AL : ∀ x ∈ [V.non, V.bl true, V.int 5, V.str "3 4", V.ref x5, V.ref sr, V.ref u], ∀ H', Same H9 H' → ∃ t k, (∀ H'', Same H' H'' → TyX K H'' x t) ∧ PySem.W.kitOne K t (.type "list") = some false ∧ PySem.W.kitOne K t (.type "tuple") = some false ∧ PySem.W.kitOne K t (.type "str") = some k := by
          intro x hx H' s'
          have hx' := s' _ _ hx9
          have hsr' := s' _ _ hsr9
          have hu' := s' _ _ hu9
          simp only [List.mem_cons, List.not_mem_nil, or_false] at hx
          rcases hx with rfl | rfl | rfl | rfl | rfl | rfl | rfl
          · exact ⟨_, _, fun H'' s => (by walk_at "ty"), by walk_at "ki", by walk_at "ki", by walk_at "ki"⟩
          · exact ⟨_, _, fun H'' s => (by walk_at "ty"), by walk_at "ki", by walk_at "ki", by walk_at "ki"⟩
          · exact ⟨_, _, fun H'' s => (by walk_at "ty"), by walk_at "ki", by walk_at "ki", by walk_at "ki"⟩
          · exact ⟨_, _, fun H'' s => (by walk_at "ty"), by walk_at "ki", by walk_at "ki", by walk_at "ki"⟩
          · exact ⟨_, _, fun H'' s => (by have h := s _ _ hx'; walk_at "ty"), by walk_at "ki", by walk_at "ki", by walk_at "ki"⟩
          · exact ⟨_, _, fun H'' s => (by have h := s _ _ hsr'; walk_at "ty"), by walk_at "ki", by walk_at "ki", by walk_at "ki"⟩
          · exact ⟨_, _, fun H'' s => (by have h := s _ _ hu'; walk_at "ty"), by walk_at "ki", by walk_at "ki", by walk_at "ki"⟩
        walk_at "go"
        refine Z.r_lst_by (SqL.of hp) (fun j σ' H' => Same H9 H' ∧ ∃ w5, σ' = [some (.ref a), some (.int i), some (.ref b), some (.ref l1), v4, w5, v6, v7, v8, v9, v10, v11, v12, v13, v14, v15, v16]) ?_ ?_ ?_ ?_
        · exact ⟨Same.refl _, _, rfl⟩
        · rintro j σ' H' ⟨s', _⟩
          exact SqL.of (s' _ _ hp)
        · rintro j x σ' H10 hx ⟨s10, w5, rfl⟩
          obtain ⟨t, kb, ty, k1, k2, k3⟩ := AL x (List.mem_of_getElem? hx) H10 s10
          walk_at "go"
          refine k_refI (.inl ⟨rfl, .inr ⟨t, ty, k1, k2, rfl⟩⟩) fun H11 s11 => ?_
          walk_at "go"
          refine Z.r_isiT (ty _ s11) k3 ?_
          cases kb with
          | true =>
            walk_at "go"
            exact ⟨s10.trans s11, _, rfl⟩
          | false =>
            walk_at "go"
            refine k_refI (.inr ⟨rfl, .inr ⟨t, ty _ s11, k3, rfl⟩⟩) fun H12 s12 => ?_
            walk_at "go"
            exact ⟨s10.trans (s11.trans s12), _, rfl⟩
        · rintro σ' H10 ⟨s10, w5, rfl⟩
          walk_at "go"
          intro q1 H11 nq1 s11 hq1
          walk_at "go"
          intro q2 H12 nq2 s12 hq2
          walk_at "go"
          intro q3 H13 nq3 s13 hq3
          walk_at "go"
          intro q4 H14 nq4 s14 hq4
          walk_at "go"
          intro q5 H15 nq5 s15 hq5
          have hq11 := s15 _ _ (s14 _ _ (s13 _ _ (s12 _ _ hq1)))
          have hq21 := s15 _ _ (s14 _ _ (s13 _ _ hq2))
          have hq31 := s15 _ _ (s14 _ _ hq3)
          have hq41 := s15 _ _ hq4
          have AL2 : ∀ x ∈ [V.ref q1, V.ref q2, V.ref q3, V.ref q4], ∀ H', Same H15 H' → ∃ t, TyX K H' x t ∧ PySem.W.kitOne K t (.type "str") = some false := by
            intro x hx H' s'
            have h1 := s' _ _ hq11
            have h2 := s' _ _ hq21
            have h3 := s' _ _ hq31
            have h4 := s' _ _ hq41
            simp only [List.mem_cons, List.not_mem_nil, or_false] at hx
            rcases hx with rfl | rfl | rfl | rfl
            · exact ⟨_, by walk_at "ty", by walk_at "ki"⟩
            · exact ⟨_, by walk_at "ty", by walk_at "ki"⟩
            · exact ⟨_, by walk_at "ty", by walk_at "ki"⟩
            · exact ⟨_, by walk_at "ty", by walk_at "ki"⟩
          walk_at "go"
          refine Z.r_lst_by (SqL.of hq5) (fun j σ' H' => Same H15 H' ∧ ∃ w5, σ' = [some (.ref a), some (.int i), some (.ref b), some (.ref l1), v4, w5, v6, v7, v8, v9, v10, v11, v12, v13, v14, v15, v16]) ?_ ?_ ?_ ?_
          · exact ⟨Same.refl _, _, rfl⟩
          · rintro j σ' H' ⟨s', _⟩
            exact SqL.of (s' _ _ hq5)
          · rintro j x σ' H16 hx ⟨s16, w5, rfl⟩
            obtain ⟨t, ty, k1⟩ := AL2 x (List.mem_of_getElem? hx) H16 s16
            walk_at "go"
            refine k_refI (.inr ⟨rfl, .inr ⟨t, ty, k1, rfl⟩⟩) fun H17 s17 => ?_
            walk_at "go"
            exact ⟨s16.trans s17, _, rfl⟩
          · rintro σ' H16 ⟨s16, w5, rfl⟩
            walk_at "go"
            have u59 := s5.trans ((s6.trans s7).trans (s8.trans s9))
            have u916 := s10.trans ((s11.trans (s12.trans (s13.trans (s14.trans s15)))).trans s16)
            exact ⟨s0.trans (Z.But.back s1 nb ((t2.trans (Z.But.same s3)).trans (t4.trans (Z.But.same (u59.trans u916))))), _, _, _, _, _, _, _, _, _, _, _, _, _, _, _, _, rfl⟩
    · rintro σ' H1 ⟨s1, v1, v2, v3, v4, v5, v6, v7, v8, v9, v10, v11, v12, v13, v14, v15, v16, rfl⟩
      walk_at "go"
      exact q _

end
theorem all_mk {l : PySem.W.OpenLaw} {w : World} {K : PySem.W.Frag} {h : Heap} {mg : Str → Option Value} {fa : Addr} (X : K.In h) (G : h.Ns mainGlobals mg) (hfa : mg "law" = some (.ref fa)) {C_BadEntry C_BadProgram C_BadSeries C_NoKey C_Series C_Told C_TooMany C_Unnumbered C_UnnumberedError f_law_draw f_law_bag f_law_number f_law_word f_is_number f_Unnumbered___init f_is_entry f_with_one_object_a_name f_Series___init f_BadSeries___init f_is_word f_is_number_but_0 f_entry_of f_Series_read p_Series_read f_law_refused f_Told___init f_law_entries f_law_text f_law_wrong_things f_law_wrong_words f_law : Addr}
    {od_law_draw an_law_draw : Option Addr} {sl_law_draw : Array (Option Value)} {oc_law_draw kV_law_draw dc_law_draw pm_law_draw cd_law_draw ct_law_draw : Value}
    {od_law_bag an_law_bag : Option Addr} {sl_law_bag : Array (Option Value)} {oc_law_bag kV_law_bag dc_law_bag pm_law_bag cd_law_bag ct_law_bag : Value}
    {od_law_number an_law_number : Option Addr} {sl_law_number : Array (Option Value)} {oc_law_number kV_law_number dc_law_number pm_law_number cd_law_number ct_law_number : Value}
    {od_law_word an_law_word : Option Addr} {sl_law_word : Array (Option Value)} {oc_law_word kV_law_word dc_law_word pm_law_word cd_law_word ct_law_word : Value}
    {od_is_number an_is_number : Option Addr} {sl_is_number : Array (Option Value)} {oc_is_number kV_is_number dc_is_number pm_is_number cd_is_number ct_is_number : Value}
    {od_Unnumbered___init an_Unnumbered___init : Option Addr} {sl_Unnumbered___init : Array (Option Value)} {oc_Unnumbered___init kV_Unnumbered___init dc_Unnumbered___init pm_Unnumbered___init cd_Unnumbered___init ct_Unnumbered___init : Value}
    {od_is_entry an_is_entry : Option Addr} {sl_is_entry : Array (Option Value)} {oc_is_entry kV_is_entry dc_is_entry pm_is_entry cd_is_entry ct_is_entry : Value}
    {od_with_one_object_a_name an_with_one_object_a_name : Option Addr} {sl_with_one_object_a_name : Array (Option Value)} {oc_with_one_object_a_name kV_with_one_object_a_name dc_with_one_object_a_name pm_with_one_object_a_name cd_with_one_object_a_name ct_with_one_object_a_name : Value}
    {od_Series___init an_Series___init : Option Addr} {sl_Series___init : Array (Option Value)} {oc_Series___init kV_Series___init dc_Series___init pm_Series___init cd_Series___init ct_Series___init : Value}
    {od_BadSeries___init an_BadSeries___init : Option Addr} {sl_BadSeries___init : Array (Option Value)} {oc_BadSeries___init kV_BadSeries___init dc_BadSeries___init pm_BadSeries___init cd_BadSeries___init ct_BadSeries___init : Value}
    {od_is_word an_is_word : Option Addr} {sl_is_word : Array (Option Value)} {oc_is_word kV_is_word dc_is_word pm_is_word cd_is_word ct_is_word : Value}
    {od_is_number_but_0 an_is_number_but_0 : Option Addr} {sl_is_number_but_0 : Array (Option Value)} {oc_is_number_but_0 kV_is_number_but_0 dc_is_number_but_0 pm_is_number_but_0 cd_is_number_but_0 ct_is_number_but_0 : Value}
    {od_entry_of an_entry_of : Option Addr} {sl_entry_of : Array (Option Value)} {oc_entry_of kV_entry_of dc_entry_of pm_entry_of cd_entry_of ct_entry_of : Value}
    {rs_Series_read : List Value}
    {od_Series_read an_Series_read : Option Addr} {sl_Series_read : Array (Option Value)} {oc_Series_read kV_Series_read dc_Series_read pm_Series_read cd_Series_read ct_Series_read : Value}
    {od_law_refused an_law_refused : Option Addr} {sl_law_refused : Array (Option Value)} {oc_law_refused kV_law_refused dc_law_refused pm_law_refused cd_law_refused ct_law_refused : Value}
    {od_Told___init an_Told___init : Option Addr} {sl_Told___init : Array (Option Value)} {oc_Told___init kV_Told___init dc_Told___init pm_Told___init cd_Told___init ct_Told___init : Value}
    {od_law_entries an_law_entries : Option Addr} {sl_law_entries : Array (Option Value)} {oc_law_entries kV_law_entries dc_law_entries pm_law_entries cd_law_entries ct_law_entries : Value}
    {od_law_text an_law_text : Option Addr} {sl_law_text : Array (Option Value)} {oc_law_text kV_law_text dc_law_text pm_law_text cd_law_text ct_law_text : Value}
    {od_law_wrong_things an_law_wrong_things : Option Addr} {sl_law_wrong_things : Array (Option Value)} {oc_law_wrong_things kV_law_wrong_things dc_law_wrong_things pm_law_wrong_things cd_law_wrong_things ct_law_wrong_things : Value}
    {od_law_wrong_words an_law_wrong_words : Option Addr} {sl_law_wrong_words : Array (Option Value)} {oc_law_wrong_words kV_law_wrong_words dc_law_wrong_words pm_law_wrong_words cd_law_wrong_words ct_law_wrong_words : Value}
    {od_law an_law : Option Addr} {sl_law : Array (Option Value)} {oc_law kV_law dc_law pm_law cd_law ct_law : Value}
    {tk_MOST_DIGITS : Tok}
    {tk_MOST_ENTRIES : Tok}
    (aC_BadEntry : PySem.W.nsIn K mainGlobals "BadEntry" = some (some (.ref C_BadEntry)))
    (aC_BadProgram : PySem.W.nsIn K mainGlobals "BadProgram" = some (some (.ref C_BadProgram)))
    (aC_BadSeries : PySem.W.nsIn K mainGlobals "BadSeries" = some (some (.ref C_BadSeries)))
    (aC_NoKey : PySem.W.nsIn K mainGlobals "NoKey" = some (some (.ref C_NoKey)))
    (aC_Series : PySem.W.nsIn K mainGlobals "Series" = some (some (.ref C_Series)))
    (aC_Told : PySem.W.nsIn K mainGlobals "Told" = some (some (.ref C_Told)))
    (aC_TooMany : PySem.W.nsIn K mainGlobals "TooMany" = some (some (.ref C_TooMany)))
    (aC_Unnumbered : PySem.W.nsIn K mainGlobals "Unnumbered" = some (some (.ref C_Unnumbered)))
    (aC_UnnumberedError : PySem.W.nsIn K mainGlobals "UnnumberedError" = some (some (.ref C_UnnumberedError)))
    (a_law_draw : PySem.W.nsIn K mainGlobals "_law_draw" = some (some (.ref f_law_draw)))
    (l_law_draw : K.lookup f_law_draw = some ⟨oc_law_draw, od_law_draw, .func (PySem.W.fnOf "_law_draw" "_law_draw" (defArgs s_law_draw) (defBody s_law_draw) (defScope s_law_draw) .none kV_law_draw dc_law_draw pm_law_draw an_law_draw cd_law_draw ct_law_draw), sl_law_draw⟩)
    (c_law_draw : PySem.W.codeIn K cd_law_draw "_law_draw" = true)
    (k_law_draw : PySem.W.keepIn K (.ref f_law_draw) = true)
    (a_law_bag : PySem.W.nsIn K mainGlobals "_law_bag" = some (some (.ref f_law_bag)))
    (l_law_bag : K.lookup f_law_bag = some ⟨oc_law_bag, od_law_bag, .func (PySem.W.fnOf "_law_bag" "_law_bag" (defArgs s_law_bag) (defBody s_law_bag) (defScope s_law_bag) .none kV_law_bag dc_law_bag pm_law_bag an_law_bag cd_law_bag ct_law_bag), sl_law_bag⟩)
    (c_law_bag : PySem.W.codeIn K cd_law_bag "_law_bag" = true)
    (k_law_bag : PySem.W.keepIn K (.ref f_law_bag) = true)
    (a_law_number : PySem.W.nsIn K mainGlobals "_law_number" = some (some (.ref f_law_number)))
    (l_law_number : K.lookup f_law_number = some ⟨oc_law_number, od_law_number, .func (PySem.W.fnOf "_law_number" "_law_number" (defArgs s_law_number) (defBody s_law_number) (defScope s_law_number) .none kV_law_number dc_law_number pm_law_number an_law_number cd_law_number ct_law_number), sl_law_number⟩)
    (c_law_number : PySem.W.codeIn K cd_law_number "_law_number" = true)
    (k_law_number : PySem.W.keepIn K (.ref f_law_number) = true)
    (a_law_word : PySem.W.nsIn K mainGlobals "_law_word" = some (some (.ref f_law_word)))
    (l_law_word : K.lookup f_law_word = some ⟨oc_law_word, od_law_word, .func (PySem.W.fnOf "_law_word" "_law_word" (defArgs s_law_word) (defBody s_law_word) (defScope s_law_word) .none kV_law_word dc_law_word pm_law_word an_law_word cd_law_word ct_law_word), sl_law_word⟩)
    (c_law_word : PySem.W.codeIn K cd_law_word "_law_word" = true)
    (k_law_word : PySem.W.keepIn K (.ref f_law_word) = true)
    (a_is_number : PySem.W.nsIn K mainGlobals "is_number" = some (some (.ref f_is_number)))
    (l_is_number : K.lookup f_is_number = some ⟨oc_is_number, od_is_number, .func (PySem.W.fnOf "is_number" "is_number" (defArgs s_is_number) (defBody s_is_number) (defScope s_is_number) .none kV_is_number dc_is_number pm_is_number an_is_number cd_is_number ct_is_number), sl_is_number⟩)
    (c_is_number : PySem.W.codeIn K cd_is_number "is_number" = true)
    (k_is_number : PySem.W.keepIn K (.ref f_is_number) = true)
    (a_Unnumbered___init : PySem.W.findIn K (.ref C_Unnumbered) "__init__" = some (some (.ref f_Unnumbered___init)))
    (i_Unnumbered___init : PySem.W.isFn K (.ref f_Unnumbered___init) = true)
    (l_Unnumbered___init : K.lookup f_Unnumbered___init = some ⟨oc_Unnumbered___init, od_Unnumbered___init, .func (PySem.W.fnOf "__init__" "Unnumbered.__init__" (defArgs s_Unnumbered___init) (defBody s_Unnumbered___init) (defScope s_Unnumbered___init) .none kV_Unnumbered___init dc_Unnumbered___init pm_Unnumbered___init an_Unnumbered___init cd_Unnumbered___init ct_Unnumbered___init), sl_Unnumbered___init⟩)
    (c_Unnumbered___init : PySem.W.codeIn K cd_Unnumbered___init "Unnumbered.__init__" = true)
    (k_Unnumbered___init : PySem.W.keepIn K (.ref f_Unnumbered___init) = true)
    (a_is_entry : PySem.W.nsIn K mainGlobals "is_entry" = some (some (.ref f_is_entry)))
    (l_is_entry : K.lookup f_is_entry = some ⟨oc_is_entry, od_is_entry, .func (PySem.W.fnOf "is_entry" "is_entry" (defArgs s_is_entry) (defBody s_is_entry) (defScope s_is_entry) .none kV_is_entry dc_is_entry pm_is_entry an_is_entry cd_is_entry ct_is_entry), sl_is_entry⟩)
    (c_is_entry : PySem.W.codeIn K cd_is_entry "is_entry" = true)
    (k_is_entry : PySem.W.keepIn K (.ref f_is_entry) = true)
    (a_with_one_object_a_name : PySem.W.nsIn K mainGlobals "_with_one_object_a_name" = some (some (.ref f_with_one_object_a_name)))
    (l_with_one_object_a_name : K.lookup f_with_one_object_a_name = some ⟨oc_with_one_object_a_name, od_with_one_object_a_name, .func (PySem.W.fnOf "_with_one_object_a_name" "_with_one_object_a_name" (defArgs s_with_one_object_a_name) (defBody s_with_one_object_a_name) (defScope s_with_one_object_a_name) .none kV_with_one_object_a_name dc_with_one_object_a_name pm_with_one_object_a_name an_with_one_object_a_name cd_with_one_object_a_name ct_with_one_object_a_name), sl_with_one_object_a_name⟩)
    (c_with_one_object_a_name : PySem.W.codeIn K cd_with_one_object_a_name "_with_one_object_a_name" = true)
    (k_with_one_object_a_name : PySem.W.keepIn K (.ref f_with_one_object_a_name) = true)
    (a_Series___init : PySem.W.findIn K (.ref C_Series) "__init__" = some (some (.ref f_Series___init)))
    (i_Series___init : PySem.W.isFn K (.ref f_Series___init) = true)
    (l_Series___init : K.lookup f_Series___init = some ⟨oc_Series___init, od_Series___init, .func (PySem.W.fnOf "__init__" "Series.__init__" (defArgs s_Series___init) (defBody s_Series___init) (defScope s_Series___init) .none kV_Series___init dc_Series___init pm_Series___init an_Series___init cd_Series___init ct_Series___init), sl_Series___init⟩)
    (c_Series___init : PySem.W.codeIn K cd_Series___init "Series.__init__" = true)
    (k_Series___init : PySem.W.keepIn K (.ref f_Series___init) = true)
    (a_BadSeries___init : PySem.W.findIn K (.ref C_BadSeries) "__init__" = some (some (.ref f_BadSeries___init)))
    (i_BadSeries___init : PySem.W.isFn K (.ref f_BadSeries___init) = true)
    (l_BadSeries___init : K.lookup f_BadSeries___init = some ⟨oc_BadSeries___init, od_BadSeries___init, .func (PySem.W.fnOf "__init__" "BadSeries.__init__" (defArgs s_BadSeries___init) (defBody s_BadSeries___init) (defScope s_BadSeries___init) .none kV_BadSeries___init dc_BadSeries___init pm_BadSeries___init an_BadSeries___init cd_BadSeries___init ct_BadSeries___init), sl_BadSeries___init⟩)
    (c_BadSeries___init : PySem.W.codeIn K cd_BadSeries___init "BadSeries.__init__" = true)
    (k_BadSeries___init : PySem.W.keepIn K (.ref f_BadSeries___init) = true)
    (a_is_word : PySem.W.nsIn K mainGlobals "is_word" = some (some (.ref f_is_word)))
    (l_is_word : K.lookup f_is_word = some ⟨oc_is_word, od_is_word, .func (PySem.W.fnOf "is_word" "is_word" (defArgs s_is_word) (defBody s_is_word) (defScope s_is_word) .none kV_is_word dc_is_word pm_is_word an_is_word cd_is_word ct_is_word), sl_is_word⟩)
    (c_is_word : PySem.W.codeIn K cd_is_word "is_word" = true)
    (k_is_word : PySem.W.keepIn K (.ref f_is_word) = true)
    (a_is_number_but_0 : PySem.W.nsIn K mainGlobals "_is_number_but_0" = some (some (.ref f_is_number_but_0)))
    (l_is_number_but_0 : K.lookup f_is_number_but_0 = some ⟨oc_is_number_but_0, od_is_number_but_0, .func (PySem.W.fnOf "_is_number_but_0" "_is_number_but_0" (defArgs s_is_number_but_0) (defBody s_is_number_but_0) (defScope s_is_number_but_0) .none kV_is_number_but_0 dc_is_number_but_0 pm_is_number_but_0 an_is_number_but_0 cd_is_number_but_0 ct_is_number_but_0), sl_is_number_but_0⟩)
    (c_is_number_but_0 : PySem.W.codeIn K cd_is_number_but_0 "_is_number_but_0" = true)
    (k_is_number_but_0 : PySem.W.keepIn K (.ref f_is_number_but_0) = true)
    (a_entry_of : PySem.W.nsIn K mainGlobals "_entry_of" = some (some (.ref f_entry_of)))
    (l_entry_of : K.lookup f_entry_of = some ⟨oc_entry_of, od_entry_of, .func (PySem.W.fnOf "_entry_of" "_entry_of" (defArgs s_entry_of) (defBody s_entry_of) (defScope s_entry_of) .none kV_entry_of dc_entry_of pm_entry_of an_entry_of cd_entry_of ct_entry_of), sl_entry_of⟩)
    (c_entry_of : PySem.W.codeIn K cd_entry_of "_entry_of" = true)
    (k_entry_of : PySem.W.keepIn K (.ref f_entry_of) = true)
    (ca_Series_read : PySem.W.findCls K (.ref C_Series) (.type "type") "read" = some (.get (.builtin "classmethod.__get__") (.ref p_Series_read) .none (.ref C_Series)))
    (rc_Series_read : PySem.W.recIn K p_Series_read "classmethod" = some (.ref f_Series_read :: rs_Series_read))
    (l_Series_read : K.lookup f_Series_read = some ⟨oc_Series_read, od_Series_read, .func (PySem.W.fnOf "read" "Series.read" (defArgs s_Series_read) (defBody s_Series_read) (defScope s_Series_read) .none kV_Series_read dc_Series_read pm_Series_read an_Series_read cd_Series_read ct_Series_read), sl_Series_read⟩)
    (c_Series_read : PySem.W.codeIn K cd_Series_read "Series.read" = true)
    (k_Series_read : PySem.W.keepIn K (.ref f_Series_read) = true)
    (a_law_refused : PySem.W.nsIn K mainGlobals "_law_refused" = some (some (.ref f_law_refused)))
    (l_law_refused : K.lookup f_law_refused = some ⟨oc_law_refused, od_law_refused, .func (PySem.W.fnOf "_law_refused" "_law_refused" (defArgs s_law_refused) (defBody s_law_refused) (defScope s_law_refused) .none kV_law_refused dc_law_refused pm_law_refused an_law_refused cd_law_refused ct_law_refused), sl_law_refused⟩)
    (c_law_refused : PySem.W.codeIn K cd_law_refused "_law_refused" = true)
    (k_law_refused : PySem.W.keepIn K (.ref f_law_refused) = true)
    (a_Told___init : PySem.W.findIn K (.ref C_Told) "__init__" = some (some (.ref f_Told___init)))
    (i_Told___init : PySem.W.isFn K (.ref f_Told___init) = true)
    (l_Told___init : K.lookup f_Told___init = some ⟨oc_Told___init, od_Told___init, .func (PySem.W.fnOf "__init__" "Told.__init__" (defArgs s_Told___init) (defBody s_Told___init) (defScope s_Told___init) .none kV_Told___init dc_Told___init pm_Told___init an_Told___init cd_Told___init ct_Told___init), sl_Told___init⟩)
    (c_Told___init : PySem.W.codeIn K cd_Told___init "Told.__init__" = true)
    (k_Told___init : PySem.W.keepIn K (.ref f_Told___init) = true)
    (a_law_entries : PySem.W.nsIn K mainGlobals "_law_entries" = some (some (.ref f_law_entries)))
    (l_law_entries : K.lookup f_law_entries = some ⟨oc_law_entries, od_law_entries, .func (PySem.W.fnOf "_law_entries" "_law_entries" (defArgs s_law_entries) (defBody s_law_entries) (defScope s_law_entries) .none kV_law_entries dc_law_entries pm_law_entries an_law_entries cd_law_entries ct_law_entries), sl_law_entries⟩)
    (c_law_entries : PySem.W.codeIn K cd_law_entries "_law_entries" = true)
    (k_law_entries : PySem.W.keepIn K (.ref f_law_entries) = true)
    (a_law_text : PySem.W.nsIn K mainGlobals "_law_text" = some (some (.ref f_law_text)))
    (l_law_text : K.lookup f_law_text = some ⟨oc_law_text, od_law_text, .func (PySem.W.fnOf "_law_text" "_law_text" (defArgs s_law_text) (defBody s_law_text) (defScope s_law_text) .none kV_law_text dc_law_text pm_law_text an_law_text cd_law_text ct_law_text), sl_law_text⟩)
    (c_law_text : PySem.W.codeIn K cd_law_text "_law_text" = true)
    (k_law_text : PySem.W.keepIn K (.ref f_law_text) = true)
    (a_law_wrong_things : PySem.W.nsIn K mainGlobals "_law_wrong_things" = some (some (.ref f_law_wrong_things)))
    (l_law_wrong_things : K.lookup f_law_wrong_things = some ⟨oc_law_wrong_things, od_law_wrong_things, .func (PySem.W.fnOf "_law_wrong_things" "_law_wrong_things" (defArgs s_law_wrong_things) (defBody s_law_wrong_things) (defScope s_law_wrong_things) .none kV_law_wrong_things dc_law_wrong_things pm_law_wrong_things an_law_wrong_things cd_law_wrong_things ct_law_wrong_things), sl_law_wrong_things⟩)
    (c_law_wrong_things : PySem.W.codeIn K cd_law_wrong_things "_law_wrong_things" = true)
    (k_law_wrong_things : PySem.W.keepIn K (.ref f_law_wrong_things) = true)
    (a_law_wrong_words : PySem.W.nsIn K mainGlobals "_law_wrong_words" = some (some (.ref f_law_wrong_words)))
    (l_law_wrong_words : K.lookup f_law_wrong_words = some ⟨oc_law_wrong_words, od_law_wrong_words, .func (PySem.W.fnOf "_law_wrong_words" "_law_wrong_words" (defArgs s_law_wrong_words) (defBody s_law_wrong_words) (defScope s_law_wrong_words) .none kV_law_wrong_words dc_law_wrong_words pm_law_wrong_words an_law_wrong_words cd_law_wrong_words ct_law_wrong_words), sl_law_wrong_words⟩)
    (c_law_wrong_words : PySem.W.codeIn K cd_law_wrong_words "_law_wrong_words" = true)
    (k_law_wrong_words : PySem.W.keepIn K (.ref f_law_wrong_words) = true)
    (a_law : PySem.W.nsIn K mainGlobals "law" = some (some (.ref f_law)))
    (l_law : K.lookup f_law = some ⟨oc_law, od_law, .func (PySem.W.fnOf "law" "law" (defArgs s_law) (defBody s_law) (defScope s_law) .none kV_law dc_law pm_law an_law cd_law ct_law), sl_law⟩)
    (c_law : PySem.W.codeIn K cd_law "law" = true)
    (k_law : PySem.W.keepIn K (.ref f_law) = true)
    (xi_BadSeries : PySem.W.excInitIn K C_BadSeries [.type "ValueError", .type "Exception", .type "BaseException", .type "object"] "ValueError.__new__" = true)
    (xo_BadSeries : PySem.W.excOver K C_BadSeries [.type "ValueError", .type "Exception", .type "BaseException", .type "object"] = true)
    (xs_BadSeries : PySem.W.findIn K (.ref C_BadSeries) "__setattr__" = some (some (.builtin "object.__setattr__")))
    (xh_BadSeries : PySem.W.hasDictIn K C_BadSeries = true)
    (xg_BadSeries : PySem.W.findIn K (.ref C_BadSeries) "__getattribute__" = some (some (.builtin "BaseException.__getattribute__")))
    (xt_BadSeries : PySem.W.findIn K (.ref C_BadSeries) "__getattr__" = some none)
    (xb_BadSeries : PySem.W.subIn K (.ref C_BadSeries) (.type "BaseException") = some true)
    (xz_BadSeries : PySem.W.subIn K (.ref C_BadSeries) (.ref C_BadSeries) = some true)
    (xy_BadSeries : PySem.W.typeIn K (.ref C_BadSeries) = some (.type "type"))
    (xk_BadSeries : PySem.W.keepIn K (.ref C_BadSeries) = true)
    (xc_BadSeries : PySem.W.findIn K (.ref C_BadSeries) "__class__" = some (some (.builtin "object.__class__")))
    (xm_BadSeries : PySem.W.mroIn K C_BadSeries (.type "object") = some true)
    (pg_Series : PySem.W.plainGet K C_Series Str.empty = true)
    (hd_Series : PySem.W.hasDictIn K C_Series = true)
    (po_Series : PySem.W.plainOver K C_Series = true)
    (sa_Series : PySem.W.findIn K (.ref C_Series) "__setattr__" = some (some (.builtin "object.__setattr__")))
    (ca_Series : PySem.W.findIn K (.ref C_Series) "__class__" = some (some (.builtin "object.__class__")))
    (cm_Series : PySem.W.mroIn K C_Series (.type "object") = some true)
    (mk_Series : PySem.W.makesIn K C_Series = true)
    (kc_Series : PySem.W.keepIn K (.ref C_Series) = true)
    (pg_Told : PySem.W.plainGet K C_Told Str.empty = true)
    (hd_Told : PySem.W.hasDictIn K C_Told = true)
    (po_Told : PySem.W.plainOver K C_Told = true)
    (sa_Told : PySem.W.findIn K (.ref C_Told) "__setattr__" = some (some (.builtin "object.__setattr__")))
    (ca_Told : PySem.W.findIn K (.ref C_Told) "__class__" = some (some (.builtin "object.__class__")))
    (cm_Told : PySem.W.mroIn K C_Told (.type "object") = some true)
    (mk_Told : PySem.W.makesIn K C_Told = true)
    (kc_Told : PySem.W.keepIn K (.ref C_Told) = true)
    (pg_Unnumbered : PySem.W.plainGet K C_Unnumbered Str.empty = true)
    (hd_Unnumbered : PySem.W.hasDictIn K C_Unnumbered = true)
    (po_Unnumbered : PySem.W.plainOver K C_Unnumbered = true)
    (sa_Unnumbered : PySem.W.findIn K (.ref C_Unnumbered) "__setattr__" = some (some (.builtin "object.__setattr__")))
    (ca_Unnumbered : PySem.W.findIn K (.ref C_Unnumbered) "__class__" = some (some (.builtin "object.__class__")))
    (cm_Unnumbered : PySem.W.mroIn K C_Unnumbered (.type "object") = some true)
    (mk_Unnumbered : PySem.W.makesIn K C_Unnumbered = true)
    (kc_Unnumbered : PySem.W.keepIn K (.ref C_Unnumbered) = true)
    (rd_Series : PySem.W.readsIn K C_Series (.type "type") = true)
    (gg_Series : PySem.W.specialIn K (.ref C_Series) "__getattribute__" = some (some (.builtin "type.__getattribute__")))
    (gK_MOST_DIGITS : PySem.W.nsIn K mainGlobals "MOST_DIGITS" = some (some (.int 300 tk_MOST_DIGITS)))
    (gK_MOST_ENTRIES : PySem.W.nsIn K mainGlobals "MOST_ENTRIES" = some (some (.int 250 tk_MOST_ENTRIES)))
    (ocn : PySem.W.specialIn K (.builtin "object.__class__") "__get__" = some (some (.builtin "getset_descriptor.__get__")))
    (oct : PySem.W.takesIn K (.builtin "object.__class__") = some true)
    (xu_UnnumberedError : PySem.W.subIn K (.ref C_UnnumberedError) (.type "BaseException") = some true)
    (no_BadSeries_at : PySem.W.findIn K (.ref C_BadSeries) "at" = some none)
    (no_NoKey_key : PySem.W.findIn K (.ref C_NoKey) "key" = some none)
    (no_Series_entries : PySem.W.findIn K (.ref C_Series) "entries" = some none)
    (no_Told_place : PySem.W.findIn K (.ref C_Told) "place" = some none)
    (no_Unnumbered_name : PySem.W.findIn K (.ref C_Unnumbered) "name" = some none)
    (z_ValueError : PySem.W.nsIn K mainGlobals "ValueError" = some none)
    (z_abs : PySem.W.nsIn K mainGlobals "abs" = some none)
    (z_bool : PySem.W.nsIn K mainGlobals "bool" = some none)
    (z_enumerate : PySem.W.nsIn K mainGlobals "enumerate" = some none)
    (z_int : PySem.W.nsIn K mainGlobals "int" = some none)
    (z_isinstance : PySem.W.nsIn K mainGlobals "isinstance" = some none)
    (z_len : PySem.W.nsIn K mainGlobals "len" = some none)
    (z_list : PySem.W.nsIn K mainGlobals "list" = some none)
    (z_max : PySem.W.nsIn K mainGlobals "max" = some none)
    (z_min : PySem.W.nsIn K mainGlobals "min" = some none)
    (z_range : PySem.W.nsIn K mainGlobals "range" = some none)
    (z_str : PySem.W.nsIn K mainGlobals "str" = some none)
    (z_tuple : PySem.W.nsIn K mainGlobals "tuple" = some none)
    (ki_BadSeries_BadSeries : PySem.W.kitOne K (.ref C_BadSeries) (.ref C_BadSeries) = some true)
    (ki_BadSeries_BadProgram : PySem.W.kitOne K (.ref C_BadSeries) (.ref C_BadProgram) = some false)
    (ki_BadSeries_BadEntry : PySem.W.kitOne K (.ref C_BadSeries) (.ref C_BadEntry) = some false)
    (ki_BadSeries_TooMany : PySem.W.kitOne K (.ref C_BadSeries) (.ref C_TooMany) = some false)
    (ki_BadSeries_ValueError : PySem.W.kitOne K (.ref C_BadSeries) (.type "ValueError") = some true)
    (ki_BadSeries_UnnumberedError : PySem.W.kitOne K (.ref C_BadSeries) (.ref C_UnnumberedError) = some true)
    (ki_NoneType_Unnumbered : PySem.W.kitOne K (.type "NoneType") (.ref C_Unnumbered) = some false)
    (ki_bool_Unnumbered : PySem.W.kitOne K (.type "bool") (.ref C_Unnumbered) = some false)
    (ki_int_Unnumbered : PySem.W.kitOne K (.type "int") (.ref C_Unnumbered) = some false)
    (ki_str_Unnumbered : PySem.W.kitOne K (.type "str") (.ref C_Unnumbered) = some false)
    (ki_list_Unnumbered : PySem.W.kitOne K (.type "list") (.ref C_Unnumbered) = some false)
    (ki_tuple_Unnumbered : PySem.W.kitOne K (.type "tuple") (.ref C_Unnumbered) = some false)
    (ki_Series_Unnumbered : PySem.W.kitOne K (.ref C_Series) (.ref C_Unnumbered) = some false)
    (ki_Told_Unnumbered : PySem.W.kitOne K (.ref C_Told) (.ref C_Unnumbered) = some false)
    (ki_Unnumbered_Unnumbered : PySem.W.kitOne K (.ref C_Unnumbered) (.ref C_Unnumbered) = some true)
    (ki_Series_bool : PySem.W.kitOne K (.ref C_Series) (.type "bool") = some false)
    (ki_Told_bool : PySem.W.kitOne K (.ref C_Told) (.type "bool") = some false)
    (ki_Unnumbered_bool : PySem.W.kitOne K (.ref C_Unnumbered) (.type "bool") = some false)
    (ki_Series_int : PySem.W.kitOne K (.ref C_Series) (.type "int") = some false)
    (ki_Told_int : PySem.W.kitOne K (.ref C_Told) (.type "int") = some false)
    (ki_Unnumbered_int : PySem.W.kitOne K (.ref C_Unnumbered) (.type "int") = some false)
    (ki_Series_list : PySem.W.kitOne K (.ref C_Series) (.type "list") = some false)
    (ki_Told_list : PySem.W.kitOne K (.ref C_Told) (.type "list") = some false)
    (ki_Unnumbered_list : PySem.W.kitOne K (.ref C_Unnumbered) (.type "list") = some false)
    (ki_Series_str : PySem.W.kitOne K (.ref C_Series) (.type "str") = some false)
    (ki_Told_str : PySem.W.kitOne K (.ref C_Told) (.type "str") = some false)
    (ki_Unnumbered_str : PySem.W.kitOne K (.ref C_Unnumbered) (.type "str") = some false)
    (ki_Series_tuple : PySem.W.kitOne K (.ref C_Series) (.type "tuple") = some false)
    (ki_Told_tuple : PySem.W.kitOne K (.ref C_Told) (.type "tuple") = some false)
    (ki_Unnumbered_tuple : PySem.W.kitOne K (.ref C_Unnumbered) (.type "tuple") = some false)
    : ∃ fd : FuncData, (∀ (s : Shared) (v : Value), BindsTo s fd ⟨[v], []⟩ [("_law_script", v)]) ∧ ∀ base : Heap, K.In base → base.Ns mainGlobals mg → FnOk l.prog w K mg base CX0 7 fa fd ["_law_script"] (sp_law K) := by
  have e := hfa.symm.trans (PySem.W.mg_of X G a_law)
  cases e
  have F_law_draw := fun_mk (st := s_law_draw) l_law_draw c_law_draw k_law_draw
  have B_law_draw := F_law_draw.binds (ps := ["_law_bag_here", "_law_many"]) fun _ _ _ _ _ _ us hl => match us, hl with | [_, _], _ => rfl
  have F_law_bag := fun_mk (st := s_law_bag) l_law_bag c_law_bag k_law_bag
  have B_law_bag := F_law_bag.binds (ps := ["_law_script", "_law_at"]) fun _ _ _ _ _ _ us hl => match us, hl with | [_, _], _ => rfl
  have F_law_number := fun_mk (st := s_law_number) l_law_number c_law_number k_law_number
  have B_law_number := F_law_number.binds (ps := ["_law_bag_here"]) fun _ _ _ _ _ _ us hl => match us, hl with | [_], _ => rfl
  have F_law_word := fun_mk (st := s_law_word) l_law_word c_law_word k_law_word
  have B_law_word := F_law_word.binds (ps := ["_law_bag_here"]) fun _ _ _ _ _ _ us hl => match us, hl with | [_], _ => rfl
  have F_is_number := fun_mk (st := s_is_number) l_is_number c_is_number k_is_number
  have B_is_number := F_is_number.binds (ps := ["thing"]) fun _ _ _ _ _ _ us hl => match us, hl with | [_], _ => rfl
  have F_Unnumbered___init := fun_mk (st := s_Unnumbered___init) l_Unnumbered___init c_Unnumbered___init k_Unnumbered___init
  have B_Unnumbered___init := F_Unnumbered___init.binds (ps := ["self", "name"]) fun _ _ _ _ _ _ us hl => match us, hl with | [_, _], _ => rfl
  have F_is_entry := fun_mk (st := s_is_entry) l_is_entry c_is_entry k_is_entry
  have B_is_entry := F_is_entry.binds (ps := ["thing"]) fun _ _ _ _ _ _ us hl => match us, hl with | [_], _ => rfl
  have F_with_one_object_a_name := fun_mk (st := s_with_one_object_a_name) l_with_one_object_a_name c_with_one_object_a_name k_with_one_object_a_name
  have B_with_one_object_a_name := F_with_one_object_a_name.binds (ps := ["entries"]) fun _ _ _ _ _ _ us hl => match us, hl with | [_], _ => rfl
  have F_Series___init := fun_mk (st := s_Series___init) l_Series___init c_Series___init k_Series___init
  have B_Series___init := F_Series___init.binds (ps := ["self", "entries"]) fun _ _ _ _ _ _ us hl => match us, hl with | [_, _], _ => rfl
  have F_BadSeries___init := fun_mk (st := s_BadSeries___init) l_BadSeries___init c_BadSeries___init k_BadSeries___init
  have B_BadSeries___init := F_BadSeries___init.binds (ps := ["self", "at"]) fun _ _ _ _ _ _ us hl => match us, hl with | [_, _], _ => rfl
  have F_is_word := fun_mk (st := s_is_word) l_is_word c_is_word k_is_word
  have B_is_word := F_is_word.binds (ps := ["text"]) fun _ _ _ _ _ _ us hl => match us, hl with | [_], _ => rfl
  have F_is_number_but_0 := fun_mk (st := s_is_number_but_0) l_is_number_but_0 c_is_number_but_0 k_is_number_but_0
  have B_is_number_but_0 := F_is_number_but_0.binds (ps := ["word"]) fun _ _ _ _ _ _ us hl => match us, hl with | [_], _ => rfl
  have F_entry_of := fun_mk (st := s_entry_of) l_entry_of c_entry_of k_entry_of
  have B_entry_of := F_entry_of.binds (ps := ["word"]) fun _ _ _ _ _ _ us hl => match us, hl with | [_], _ => rfl
  have F_Series_read := fun_mk (st := s_Series_read) l_Series_read c_Series_read k_Series_read
  have B_Series_read := F_Series_read.binds (ps := ["cls", "text"]) fun _ _ _ _ _ _ us hl => match us, hl with | [_, _], _ => rfl
  have F_law_refused := fun_mk (st := s_law_refused) l_law_refused c_law_refused k_law_refused
  have B_law_refused := F_law_refused.binds (ps := ["_law_kind", "_law_thing"]) fun _ _ _ _ _ _ us hl => match us, hl with | [_, _], _ => rfl
  have F_Told___init := fun_mk (st := s_Told___init) l_Told___init c_Told___init k_Told___init
  have B_Told___init := F_Told___init.binds (ps := ["self", "place"]) fun _ _ _ _ _ _ us hl => match us, hl with | [_, _], _ => rfl
  have F_law_entries := fun_mk (st := s_law_entries) l_law_entries c_law_entries k_law_entries
  have B_law_entries := F_law_entries.binds (ps := ["_law_bag_here", "_law_most"]) fun _ _ _ _ _ _ us hl => match us, hl with | [_, _], _ => rfl
  have F_law_text := fun_mk (st := s_law_text) l_law_text c_law_text k_law_text
  have B_law_text := F_law_text.binds (ps := ["_law_entry"]) fun _ _ _ _ _ _ us hl => match us, hl with | [_], _ => rfl
  have F_law_wrong_things := fun_mk (st := s_law_wrong_things) l_law_wrong_things c_law_wrong_things k_law_wrong_things
  have B_law_wrong_things := F_law_wrong_things.binds (ps := ["_law_bag_here"]) fun _ _ _ _ _ _ us hl => match us, hl with | [_], _ => rfl
  have F_law_wrong_words := fun_mk (st := s_law_wrong_words) l_law_wrong_words c_law_wrong_words k_law_wrong_words
  have B_law_wrong_words := F_law_wrong_words.binds (ps := ["_law_bag_here"]) fun _ _ _ _ _ _ us hl => match us, hl with | [_], _ => rfl
  have F_law := fun_mk (st := s_law) l_law c_law k_law
  have B_law := F_law.binds (ps := ["_law_script"]) fun _ _ _ _ _ _ us hl => match us, hl with | [_], _ => rfl
  let T : Top K mg := { C_BadEntry := C_BadEntry, C_BadProgram := C_BadProgram, C_BadSeries := C_BadSeries, C_NoKey := C_NoKey, C_Series := C_Series, C_Told := C_Told, C_TooMany := C_TooMany, C_Unnumbered := C_Unnumbered, C_UnnumberedError := C_UnnumberedError, f_law_draw := f_law_draw, fd_law_draw := _, F_law_draw := F_law_draw, B_law_draw := B_law_draw, mg_law_draw := PySem.W.mg_of X G a_law_draw, f_law_bag := f_law_bag, fd_law_bag := _, F_law_bag := F_law_bag, B_law_bag := B_law_bag, mg_law_bag := PySem.W.mg_of X G a_law_bag, f_law_number := f_law_number, fd_law_number := _, F_law_number := F_law_number, B_law_number := B_law_number, mg_law_number := PySem.W.mg_of X G a_law_number, f_law_word := f_law_word, fd_law_word := _, F_law_word := F_law_word, B_law_word := B_law_word, mg_law_word := PySem.W.mg_of X G a_law_word, f_is_number := f_is_number, fd_is_number := _, F_is_number := F_is_number, B_is_number := B_is_number, mg_is_number := PySem.W.mg_of X G a_is_number, f_Unnumbered___init := f_Unnumbered___init, fd_Unnumbered___init := _, F_Unnumbered___init := F_Unnumbered___init, B_Unnumbered___init := B_Unnumbered___init, f_is_entry := f_is_entry, fd_is_entry := _, F_is_entry := F_is_entry, B_is_entry := B_is_entry, mg_is_entry := PySem.W.mg_of X G a_is_entry, f_with_one_object_a_name := f_with_one_object_a_name, fd_with_one_object_a_name := _, F_with_one_object_a_name := F_with_one_object_a_name, B_with_one_object_a_name := B_with_one_object_a_name, mg_with_one_object_a_name := PySem.W.mg_of X G a_with_one_object_a_name, f_Series___init := f_Series___init, fd_Series___init := _, F_Series___init := F_Series___init, B_Series___init := B_Series___init, f_BadSeries___init := f_BadSeries___init, fd_BadSeries___init := _, F_BadSeries___init := F_BadSeries___init, B_BadSeries___init := B_BadSeries___init, f_is_word := f_is_word, fd_is_word := _, F_is_word := F_is_word, B_is_word := B_is_word, mg_is_word := PySem.W.mg_of X G a_is_word, f_is_number_but_0 := f_is_number_but_0, fd_is_number_but_0 := _, F_is_number_but_0 := F_is_number_but_0, B_is_number_but_0 := B_is_number_but_0, mg_is_number_but_0 := PySem.W.mg_of X G a_is_number_but_0, f_entry_of := f_entry_of, fd_entry_of := _, F_entry_of := F_entry_of, B_entry_of := B_entry_of, mg_entry_of := PySem.W.mg_of X G a_entry_of, f_Series_read := f_Series_read, fd_Series_read := _, F_Series_read := F_Series_read, B_Series_read := B_Series_read, f_law_refused := f_law_refused, fd_law_refused := _, F_law_refused := F_law_refused, B_law_refused := B_law_refused, mg_law_refused := PySem.W.mg_of X G a_law_refused, f_Told___init := f_Told___init, fd_Told___init := _, F_Told___init := F_Told___init, B_Told___init := B_Told___init, f_law_entries := f_law_entries, fd_law_entries := _, F_law_entries := F_law_entries, B_law_entries := B_law_entries, mg_law_entries := PySem.W.mg_of X G a_law_entries, f_law_text := f_law_text, fd_law_text := _, F_law_text := F_law_text, B_law_text := B_law_text, mg_law_text := PySem.W.mg_of X G a_law_text, f_law_wrong_things := f_law_wrong_things, fd_law_wrong_things := _, F_law_wrong_things := F_law_wrong_things, B_law_wrong_things := B_law_wrong_things, mg_law_wrong_things := PySem.W.mg_of X G a_law_wrong_things, f_law_wrong_words := f_law_wrong_words, fd_law_wrong_words := _, F_law_wrong_words := F_law_wrong_words, B_law_wrong_words := B_law_wrong_words, mg_law_wrong_words := PySem.W.mg_of X G a_law_wrong_words, f_law := fa, fd_law := _, F_law := F_law, B_law := B_law, mg_law := PySem.W.mg_of X G a_law, mgC_BadEntry := PySem.W.mg_of X G aC_BadEntry, mgC_BadProgram := PySem.W.mg_of X G aC_BadProgram, mgC_BadSeries := PySem.W.mg_of X G aC_BadSeries, ex_BadSeries := ⟨⟨_, _, _, _, PySem.F.excBase_ValueError, xi_BadSeries⟩, ⟨_, _, PySem.F.store_ValueError, xo_BadSeries⟩, a_BadSeries___init, i_BadSeries___init, xs_BadSeries, xh_BadSeries, xg_BadSeries, xt_BadSeries, xb_BadSeries, xz_BadSeries, xy_BadSeries, xk_BadSeries, xc_BadSeries, xm_BadSeries, ocn, oct⟩, mgC_NoKey := PySem.W.mg_of X G aC_NoKey, mgC_Series := PySem.W.mg_of X G aC_Series, cl_Series := ⟨pg_Series, hd_Series, po_Series, sa_Series⟩, in_Series := ⟨ca_Series, cm_Series, ocn, oct⟩, mk_Series := ⟨mk_Series, a_Series___init, i_Series___init, kc_Series⟩, mgC_Told := PySem.W.mg_of X G aC_Told, cl_Told := ⟨pg_Told, hd_Told, po_Told, sa_Told⟩, in_Told := ⟨ca_Told, cm_Told, ocn, oct⟩, mk_Told := ⟨mk_Told, a_Told___init, i_Told___init, kc_Told⟩, mgC_TooMany := PySem.W.mg_of X G aC_TooMany, mgC_Unnumbered := PySem.W.mg_of X G aC_Unnumbered, cl_Unnumbered := ⟨pg_Unnumbered, hd_Unnumbered, po_Unnumbered, sa_Unnumbered⟩, in_Unnumbered := ⟨ca_Unnumbered, cm_Unnumbered, ocn, oct⟩, mk_Unnumbered := ⟨mk_Unnumbered, a_Unnumbered___init, i_Unnumbered___init, kc_Unnumbered⟩, mgC_UnnumberedError := PySem.W.mg_of X G aC_UnnumberedError, p_Series_read := p_Series_read, cm_Series_read := ⟨ca_Series_read, ⟨_, rc_Series_read⟩, Z.fn_in F_Series_read⟩, cr_Series := ⟨rd_Series, gg_Series⟩, tk_MOST_DIGITS := tk_MOST_DIGITS, mgK_MOST_DIGITS := PySem.W.mg_of X G gK_MOST_DIGITS, tk_MOST_ENTRIES := tk_MOST_ENTRIES, mgK_MOST_ENTRIES := PySem.W.mg_of X G gK_MOST_ENTRIES, xu_UnnumberedError := xu_UnnumberedError, no_BadSeries_at := no_BadSeries_at, no_NoKey_key := no_NoKey_key, no_Series_entries := no_Series_entries, no_Told_place := no_Told_place, no_Unnumbered_name := no_Unnumbered_name, z_ValueError := PySem.W.mg_none_of X G z_ValueError, z_abs := PySem.W.mg_none_of X G z_abs, z_bool := PySem.W.mg_none_of X G z_bool, z_enumerate := PySem.W.mg_none_of X G z_enumerate, z_int := PySem.W.mg_none_of X G z_int, z_isinstance := PySem.W.mg_none_of X G z_isinstance, z_len := PySem.W.mg_none_of X G z_len, z_list := PySem.W.mg_none_of X G z_list, z_max := PySem.W.mg_none_of X G z_max, z_min := PySem.W.mg_none_of X G z_min, z_range := PySem.W.mg_none_of X G z_range, z_str := PySem.W.mg_none_of X G z_str, z_tuple := PySem.W.mg_none_of X G z_tuple, ki_BadSeries_BadSeries := ki_BadSeries_BadSeries, ki_BadSeries_BadProgram := ki_BadSeries_BadProgram, ki_BadSeries_BadEntry := ki_BadSeries_BadEntry, ki_BadSeries_TooMany := ki_BadSeries_TooMany, ki_BadSeries_ValueError := ki_BadSeries_ValueError, ki_BadSeries_UnnumberedError := ki_BadSeries_UnnumberedError, ki_NoneType_Unnumbered := ki_NoneType_Unnumbered, ki_bool_Unnumbered := ki_bool_Unnumbered, ki_int_Unnumbered := ki_int_Unnumbered, ki_str_Unnumbered := ki_str_Unnumbered, ki_list_Unnumbered := ki_list_Unnumbered, ki_tuple_Unnumbered := ki_tuple_Unnumbered, ki_Series_Unnumbered := ki_Series_Unnumbered, ki_Told_Unnumbered := ki_Told_Unnumbered, ki_Unnumbered_Unnumbered := ki_Unnumbered_Unnumbered, ki_Series_bool := ki_Series_bool, ki_Told_bool := ki_Told_bool, ki_Unnumbered_bool := ki_Unnumbered_bool, ki_Series_int := ki_Series_int, ki_Told_int := ki_Told_int, ki_Unnumbered_int := ki_Unnumbered_int, ki_Series_list := ki_Series_list, ki_Told_list := ki_Told_list, ki_Unnumbered_list := ki_Unnumbered_list, ki_Series_str := ki_Series_str, ki_Told_str := ki_Told_str, ki_Unnumbered_str := ki_Unnumbered_str, ki_Series_tuple := ki_Series_tuple, ki_Told_tuple := ki_Told_tuple, ki_Unnumbered_tuple := ki_Unnumbered_tuple }
  exact ⟨PySem.W.fnOf "law" "law" (defArgs s_law) (defBody s_law) (defScope s_law) .none kV_law dc_law pm_law an_law cd_law ct_law, fun s v => .of_eq rfl, fun base _ _ => ok_law T⟩
theorem walk {l : PySem.W.OpenLaw} {q : Program} {loose : List Str} {XP : (Str → Option Value) → Heap → Prop} {YP : World → Heap → Prop} {d : DefRec} {K : Params → PySem.W.Frag} (hn : l.most = some 63) (hdf : d.params.defaults = [])
    (hY : ∀ (w : World) (h : Heap), YP w h → (K w.params).In h)
    (F : ∀ (w : World) (mg : Str → Option Value) (fa : Addr) (h : Heap), (K w.params).In h → h.Ns mainGlobals mg → mg d.name = some (.ref fa) →
      ∃ fd : FuncData, (∀ (s : Shared) (u : Value), BindsTo s fd ⟨[u], []⟩ [("_law_script", u)]) ∧ ∀ base : Heap, (K w.params).In base → base.Ns mainGlobals mg → FnOk l.prog w (K w.params) mg base CX0 7 fa fd ["_law_script"] (sp_law (K w.params))) :
    PySem.W.WalkO q loose XP YP l.row.toRowW d [] (fun f vs => PySem.call f vs) :=
  L2.walk_of (n := 63) (k := 7) (x := "_law_script") (CX := fun _ => CX0) (sp := fun w => sp_law (K w.params)) hn (by decide) hdf ⟨rfl, by decide, by decide⟩ hY F (fun _ _ a ns hl _ hS => ⟨a, ns, rfl, hS, hl, fun _ => rfl⟩) fun _ _ _ _ _ z => z
end My

open PySem PySem.W PyProof.Rows in
set_option maxRecDepth 100000 in
set_option maxHeartbeats 0 in
theorem PySem.Challenge.cw_unnumbered_k12_series_refused_holds : PySem.Challenge.rw_unnumbered_k12_series_refused.Holds := by
  w_on; o_law; k_head; (case hw => w_witness2)
  k_fill
  refine My.walk (l := PySem.Challenge.rw_unnumbered_k12_series_refused) rfl rfl (fun w h Y => PySem.W.kIn_of Y) ?F
  case F =>
    intro w mg fa h KX G hmg
    refine' My.all_mk KX G hmg ?aC_BadEntry ?aC_BadProgram ?aC_BadSeries ?aC_NoKey ?aC_Series ?aC_Told ?aC_TooMany ?aC_Unnumbered ?aC_UnnumberedError ?a_law_draw ?l_law_draw ?c_law_draw ?k_law_draw ?a_law_bag ?l_law_bag ?c_law_bag ?k_law_bag ?a_law_number ?l_law_number ?c_law_number ?k_law_number ?a_law_word ?l_law_word ?c_law_word ?k_law_word ?a_is_number ?l_is_number ?c_is_number ?k_is_number ?a_Unnumbered___init ?i_Unnumbered___init ?l_Unnumbered___init ?c_Unnumbered___init ?k_Unnumbered___init ?a_is_entry ?l_is_entry ?c_is_entry ?k_is_entry ?a_with_one_object_a_name ?l_with_one_object_a_name ?c_with_one_object_a_name ?k_with_one_object_a_name ?a_Series___init ?i_Series___init ?l_Series___init ?c_Series___init ?k_Series___init ?a_BadSeries___init ?i_BadSeries___init ?l_BadSeries___init ?c_BadSeries___init ?k_BadSeries___init ?a_is_word ?l_is_word ?c_is_word ?k_is_word ?a_is_number_but_0 ?l_is_number_but_0 ?c_is_number_but_0 ?k_is_number_but_0 ?a_entry_of ?l_entry_of ?c_entry_of ?k_entry_of ?ca_Series_read ?rc_Series_read ?l_Series_read ?c_Series_read ?k_Series_read ?a_law_refused ?l_law_refused ?c_law_refused ?k_law_refused ?a_Told___init ?i_Told___init ?l_Told___init ?c_Told___init ?k_Told___init ?a_law_entries ?l_law_entries ?c_law_entries ?k_law_entries ?a_law_text ?l_law_text ?c_law_text ?k_law_text ?a_law_wrong_things ?l_law_wrong_things ?c_law_wrong_things ?k_law_wrong_things ?a_law_wrong_words ?l_law_wrong_words ?c_law_wrong_words ?k_law_wrong_words ?a_law ?l_law ?c_law ?k_law ?xi_BadSeries ?xo_BadSeries ?xs_BadSeries ?xh_BadSeries ?xg_BadSeries ?xt_BadSeries ?xb_BadSeries ?xz_BadSeries ?xy_BadSeries ?xk_BadSeries ?xc_BadSeries ?xm_BadSeries ?pg_Series ?hd_Series ?po_Series ?sa_Series ?ca_Series ?cm_Series ?mk_Series ?kc_Series ?pg_Told ?hd_Told ?po_Told ?sa_Told ?ca_Told ?cm_Told ?mk_Told ?kc_Told ?pg_Unnumbered ?hd_Unnumbered ?po_Unnumbered ?sa_Unnumbered ?ca_Unnumbered ?cm_Unnumbered ?mk_Unnumbered ?kc_Unnumbered ?rd_Series ?gg_Series ?gK_MOST_DIGITS ?gK_MOST_ENTRIES ?ocn ?oct ?xu_UnnumberedError ?no_BadSeries_at ?no_NoKey_key ?no_Series_entries ?no_Told_place ?no_Unnumbered_name ?z_ValueError ?z_abs ?z_bool ?z_enumerate ?z_int ?z_isinstance ?z_len ?z_list ?z_max ?z_min ?z_range ?z_str ?z_tuple ?ki_BadSeries_BadSeries ?ki_BadSeries_BadProgram ?ki_BadSeries_BadEntry ?ki_BadSeries_TooMany ?ki_BadSeries_ValueError ?ki_BadSeries_UnnumberedError ?ki_NoneType_Unnumbered ?ki_bool_Unnumbered ?ki_int_Unnumbered ?ki_str_Unnumbered ?ki_list_Unnumbered ?ki_tuple_Unnumbered ?ki_Series_Unnumbered ?ki_Told_Unnumbered ?ki_Unnumbered_Unnumbered ?ki_Series_bool ?ki_Told_bool ?ki_Unnumbered_bool ?ki_Series_int ?ki_Told_int ?ki_Unnumbered_int ?ki_Series_list ?ki_Told_list ?ki_Unnumbered_list ?ki_Series_str ?ki_Told_str ?ki_Unnumbered_str ?ki_Series_tuple ?ki_Told_tuple ?ki_Unnumbered_tuple
    (case aC_BadEntry => k_is)
    (case aC_BadProgram => k_is)
    (case aC_BadSeries => k_is)
    (case aC_NoKey => k_is)
    (case aC_Series => k_is)
    (case aC_Told => k_is)
    (case aC_TooMany => k_is)
    (case aC_Unnumbered => k_is)
    (case aC_UnnumberedError => k_is)
    (case a_law_draw => k_is)
    (case l_law_draw => k_is)
    (case c_law_draw => k_is)
    (case k_law_draw => k_is)
    (case a_law_bag => k_is)
    (case l_law_bag => k_is)
    (case c_law_bag => k_is)
    (case k_law_bag => k_is)
    (case a_law_number => k_is)
    (case l_law_number => k_is)
    (case c_law_number => k_is)
    (case k_law_number => k_is)
    (case a_law_word => k_is)
    (case l_law_word => k_is)
    (case c_law_word => k_is)
    (case k_law_word => k_is)
    (case a_is_number => k_is)
    (case l_is_number => k_is)
    (case c_is_number => k_is)
    (case k_is_number => k_is)
    (case a_Unnumbered___init => k_is)
    (case i_Unnumbered___init => k_is)
    (case l_Unnumbered___init => k_is)
    (case c_Unnumbered___init => k_is)
    (case k_Unnumbered___init => k_is)
    (case a_is_entry => k_is)
    (case l_is_entry => k_is)
    (case c_is_entry => k_is)
    (case k_is_entry => k_is)
    (case a_with_one_object_a_name => k_is)
    (case l_with_one_object_a_name => k_is)
    (case c_with_one_object_a_name => k_is)
    (case k_with_one_object_a_name => k_is)
    (case a_Series___init => k_is)
    (case i_Series___init => k_is)
    (case l_Series___init => k_is)
    (case c_Series___init => k_is)
    (case k_Series___init => k_is)
    (case a_BadSeries___init => k_is)
    (case i_BadSeries___init => k_is)
    (case l_BadSeries___init => k_is)
    (case c_BadSeries___init => k_is)
    (case k_BadSeries___init => k_is)
    (case a_is_word => k_is)
    (case l_is_word => k_is)
    (case c_is_word => k_is)
    (case k_is_word => k_is)
    (case a_is_number_but_0 => k_is)
    (case l_is_number_but_0 => k_is)
    (case c_is_number_but_0 => k_is)
    (case k_is_number_but_0 => k_is)
    (case a_entry_of => k_is)
    (case l_entry_of => k_is)
    (case c_entry_of => k_is)
    (case k_entry_of => k_is)
    (case ca_Series_read => k_is)
    (case rc_Series_read => k_is)
    (case l_Series_read => k_is)
    (case c_Series_read => k_is)
    (case k_Series_read => k_is)
    (case a_law_refused => k_is)
    (case l_law_refused => k_is)
    (case c_law_refused => k_is)
    (case k_law_refused => k_is)
    (case a_Told___init => k_is)
    (case i_Told___init => k_is)
    (case l_Told___init => k_is)
    (case c_Told___init => k_is)
    (case k_Told___init => k_is)
    (case a_law_entries => k_is)
    (case l_law_entries => k_is)
    (case c_law_entries => k_is)
    (case k_law_entries => k_is)
    (case a_law_text => k_is)
    (case l_law_text => k_is)
    (case c_law_text => k_is)
    (case k_law_text => k_is)
    (case a_law_wrong_things => k_is)
    (case l_law_wrong_things => k_is)
    (case c_law_wrong_things => k_is)
    (case k_law_wrong_things => k_is)
    (case a_law_wrong_words => k_is)
    (case l_law_wrong_words => k_is)
    (case c_law_wrong_words => k_is)
    (case k_law_wrong_words => k_is)
    (case a_law => k_is)
    (case l_law => k_is)
    (case c_law => k_is)
    (case k_law => k_is)
    (case xi_BadSeries => kx_is)
    (case xo_BadSeries => kx_is)
    (case xs_BadSeries => k_is)
    (case xh_BadSeries => k_is)
    (case xg_BadSeries => k_is)
    (case xt_BadSeries => k_is)
    (case xb_BadSeries => k_is)
    (case xz_BadSeries => k_is)
    (case xy_BadSeries => k_is)
    (case xk_BadSeries => k_is)
    (case xc_BadSeries => k_is)
    (case xm_BadSeries => k_is)
    (case pg_Series => k_is)
    (case hd_Series => k_is)
    (case po_Series => k_is)
    (case sa_Series => k_is)
    (case ca_Series => k_is)
    (case cm_Series => k_is)
    (case mk_Series => k_is)
    (case kc_Series => k_is)
    (case pg_Told => k_is)
    (case hd_Told => k_is)
    (case po_Told => k_is)
    (case sa_Told => k_is)
    (case ca_Told => k_is)
    (case cm_Told => k_is)
    (case mk_Told => k_is)
    (case kc_Told => k_is)
    (case pg_Unnumbered => k_is)
    (case hd_Unnumbered => k_is)
    (case po_Unnumbered => k_is)
    (case sa_Unnumbered => k_is)
    (case ca_Unnumbered => k_is)
    (case cm_Unnumbered => k_is)
    (case mk_Unnumbered => k_is)
    (case kc_Unnumbered => k_is)
    (case rd_Series => k_is)
    (case gg_Series => k_is)
    (case gK_MOST_DIGITS => k_is)
    (case gK_MOST_ENTRIES => k_is)
    (case ocn => k_is)
    (case oct => k_is)
    (case xu_UnnumberedError => k_is)
    (case no_BadSeries_at => k_is)
    (case no_NoKey_key => k_is)
    (case no_Series_entries => k_is)
    (case no_Told_place => k_is)
    (case no_Unnumbered_name => k_is)
    (case z_ValueError => k_is)
    (case z_abs => k_is)
    (case z_bool => k_is)
    (case z_enumerate => k_is)
    (case z_int => k_is)
    (case z_isinstance => k_is)
    (case z_len => k_is)
    (case z_list => k_is)
    (case z_max => k_is)
    (case z_min => k_is)
    (case z_range => k_is)
    (case z_str => k_is)
    (case z_tuple => k_is)
    (case ki_BadSeries_BadSeries => kit_is)
    (case ki_BadSeries_BadProgram => kit_is)
    (case ki_BadSeries_BadEntry => kit_is)
    (case ki_BadSeries_TooMany => kit_is)
    (case ki_BadSeries_ValueError => kit_is)
    (case ki_BadSeries_UnnumberedError => kit_is)
    (case ki_NoneType_Unnumbered => kit_is)
    (case ki_bool_Unnumbered => kit_is)
    (case ki_int_Unnumbered => kit_is)
    (case ki_str_Unnumbered => kit_is)
    (case ki_list_Unnumbered => kit_is)
    (case ki_tuple_Unnumbered => kit_is)
    (case ki_Series_Unnumbered => kit_is)
    (case ki_Told_Unnumbered => kit_is)
    (case ki_Unnumbered_Unnumbered => kit_is)
    (case ki_Series_bool => kit_is)
    (case ki_Told_bool => kit_is)
    (case ki_Unnumbered_bool => kit_is)
    (case ki_Series_int => kit_is)
    (case ki_Told_int => kit_is)
    (case ki_Unnumbered_int => kit_is)
    (case ki_Series_list => kit_is)
    (case ki_Told_list => kit_is)
    (case ki_Unnumbered_list => kit_is)
    (case ki_Series_str => kit_is)
    (case ki_Told_str => kit_is)
    (case ki_Unnumbered_str => kit_is)
    (case ki_Series_tuple => kit_is)
    (case ki_Told_tuple => kit_is)
    (case ki_Unnumbered_tuple => kit_is)
#print axioms PySem.Challenge.cw_unnumbered_k12_series_refused_holds
