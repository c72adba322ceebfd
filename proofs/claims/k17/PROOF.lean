import PyProof.Rows.All
import Wide.All
import OpenK.AllK
import Wide.FinOn
import HandS.ForMost
import HandS.IsInst
import HandS.Style
import HandS.OwnEq
import HandS.SlotsOwn
import KE.RegKIsAll
import KE.KOpsOwn
import HandS.Wide
import HandS.FStr
import HandS.Iter
import KE.GoesMore
import HandS.IterVal
import HandS.ClsMeth
import HandS.Star
import HandS.Text
import HandS.ExcInit
import KE.KExcInit
import KE.KExcLine
import KE.KExcIs
import HandS.Exc
import HandS.ExcOwn
import HandS.ExcField
import HandS.ExcIs
import HandS.WordsExc
import HandS.ExcCtx
import HandS.HotCalls
import HandS.Defaults
import PyProof.Rows.StrIntSpec
import PyProof.FString3
import HandS.StrMore
import HandS.Deep
import HandS.TupAny
import PyProof.StrOps2
import KE.IntTextLaws
import PyProof.Rows.ReprOcc
import HandS.RaiseMore
import HandS.More
import HandS.SuiteRaise
import HandS.RaiseFrom
import HandS.ExcInitHot
import HandS.TryOnly
import HandS.Walk
import PySem.Challenge.RW_unnumbered_k17_names_of_registers
set_option Elab.async false
set_option linter.all false
set_option maxRecDepth 100000
set_option maxHeartbeats 4000000
set_option autoImplicit false
namespace My
open PySem PySem.Spec PyProof.Rows L2
/-! the text by its places -/
def topS (i : Nat) : Stmt := PySem.Challenge.pw_unnumbered_k17_names_of_registers.main.body.getD i (.Pass ⟨0, 0, 0, 0⟩)
abbrev s_is_word : Stmt := topS 23
abbrev s_token_at : Stmt := topS 5
abbrev s_tokens_of : Stmt := topS 4
abbrev s_Reader___init : Stmt := inClass (topS 10) 0
abbrev s_Reader_peek : Stmt := inClass (topS 10) 1
abbrev s_Reader_take : Stmt := inClass (topS 10) 2
abbrev s_Reader_skip_if : Stmt := inClass (topS 10) 3
abbrev s_Reader_expect : Stmt := inClass (topS 10) 4
abbrev s_Reader_expect_end : Stmt := inClass (topS 10) 5
abbrev s_Reader_kind_of : Stmt := inClass (topS 10) 6
abbrev s_Reader_read_name : Stmt := inClass (topS 10) 7
abbrev s_Reader_read_term : Stmt := inClass (topS 10) 8
abbrev s_Reader__sum_atom : Stmt := inClass (topS 10) 12
abbrev s_Reader__terms_in_brackets : Stmt := inClass (topS 10) 14
abbrev s_Reader__term_atom : Stmt := inClass (topS 10) 13
abbrev s_Reader__part : Stmt := inClass (topS 10) 10
abbrev s_Reader__atom : Stmt := inClass (topS 10) 11
abbrev s_Reader_read_test : Stmt := inClass (topS 10) 9
abbrev s_Statement___init : Stmt := inClass (topS 13) 0
abbrev s_Answer___init : Stmt := inClass (topS 14) 0
abbrev s_place_action : Stmt := topS 18
abbrev s_sum_action : Stmt := topS 19
abbrev s_action : Stmt := topS 17
abbrev s_statement : Stmt := topS 16
abbrev s_read_statement : Stmt := topS 15
abbrev s_result : Stmt := topS 21
abbrev s_read_answer : Stmt := topS 20
abbrev s_are_apart : Stmt := topS 7
abbrev s_written : Stmt := topS 6
abbrev s_is_name : Stmt := topS 31
abbrev s_step : Stmt := topS 32
abbrev s_Draft__enter_part : Stmt := inClass (topS 30) 3
abbrev s_Draft__read_register : Stmt := inClass (topS 30) 4
abbrev s_Draft__read_steps : Stmt := inClass (topS 30) 5
abbrev s_Draft__read_answer : Stmt := inClass (topS 30) 6
abbrev s_Draft_read_line : Stmt := inClass (topS 30) 2
abbrev s_Draft___init : Stmt := inClass (topS 30) 0
abbrev s_Draft_names_of : Stmt := inClass (topS 30) 1
abbrev s_BadProgram___init : Stmt := inClass (topS 35) 0
abbrev s_draft_of : Stmt := topS 41
abbrev s_TooMany___init : Stmt := inClass (topS 36) 0
abbrev s_Program__check_limits : Stmt := inClass (topS 40) 6
abbrev s_Program___init : Stmt := inClass (topS 40) 0
abbrev s_law_source : Stmt := topS 43
abbrev s_law_pick : Stmt := topS 44
abbrev s_law_of : Stmt := topS 45
abbrev s_law_word : Stmt := topS 46
abbrev s_law_reserved : Stmt := topS 47
abbrev s_law_fate : Stmt := topS 48
abbrev s_law_free : Stmt := topS 49
abbrev s_law_wrong : Stmt := topS 50
abbrev s_law : Stmt := topS 51
/-! readings, step by step; heaps; short words -/
namespace Z
structure Inst (K : PySem.W.Frag) (C : Addr) : Prop where
  ca : PySem.W.findIn K (.ref C) "__class__" = some (some (.builtin "object.__class__"))
  cm : PySem.W.mroIn K C (.type "object") = some true
  cn : PySem.W.specialIn K (.builtin "object.__class__") "__get__" = some (some (.builtin "getset_descriptor.__get__"))
  ct : PySem.W.takesIn K (.builtin "object.__class__") = some true
/-- all but b stands -/
def But (b : Addr) (H H' : Hp) : Prop := ∀ a o, a ≠ b → H a = some o → H' a = some o
theorem But.refl {b : Addr} (H : Hp) : But b H H := fun _ _ _ h => h
theorem But.trans {b : Addr} {H H1 H2 : Hp} (x : But b H H1) (y : But b H1 H2) : But b H H2 := fun a o n h => y a o n (x a o n h)
theorem But.same {b : Addr} {H H1 : Hp} (x : Same H H1) : But b H H1 := fun a o _ h => x a o h
theorem But.upd {b : Addr} {H : Hp} {o : HO} : But b H (upd H b o) := fun a u n h => by
  rw [upd_ne n]; exact h
theorem same_upd {H : Hp} {p : Addr} {o : HO} (h : H p = none) : Same H (upd H p o) := fun b x e => by
  rw [upd_ne (ne_of_none e h)]; exact e
theorem But.free {b p : Addr} {H H1 : Hp} (e : But b H H1) (n : p ≠ b) (h : H1 p = none) : H p = none := by
  cases q : H p with
  | none => rfl
  | some o => rw [e p o n q] at h; cases h
/-- what was fresh may change: all the old stands -/
theorem But.back {b : Addr} {H H1 H2 : Hp} (s : Same H H1) (n : H b = none) (e : But b H1 H2) : Same H H2 := fun a o h => e a o (ne_of_none h n) (s a o h)
theorem But.seq {K : PySem.W.Frag} {b a : Addr} {H H' : Hp} {xs : List V} (e : But b H H') (n : a ≠ b) (h : SqL K H a xs) : SqL K H' a xs := by
  rcases h with (h | ⟨o, h⟩) | h
  · exact .inl (.inl (e _ _ n h))
  · exact .inl (.inr ⟨o, e _ _ n h⟩)
  · exact .inr h
section
variable {K : PySem.W.Frag} {σ : L2.St} {H : Hp} {Q : VK} {D : Ends} {t u : TS} {ta tb te tc : TE} {tt tu : TT} {i j : Nat} {v x y : V} {r : R2} {A : TA} {sp : Sp} {E : XK}
theorem r_start {σ' : L2.St} (e : σ = σ') (h : t D σ' H) : t D σ H := e ▸ h
theorem r_seq (h : t { D with nx := u D } σ H) : tSeq t u D σ H := h
theorem r_next (h : D.nx σ H) : tNext D σ H := h
theorem r_asg (h : te σ H fun x H1 => D.nx (σ.set i (some x)) H1) : tAsg te (gName i) D σ H := h
theorem r_asgG {g : TG} (h : te σ H fun x H1 => g x σ H1 D.nx) : tAsg te g D σ H := h
theorem r_gName {N : L2.St → Hp → Prop} (h : N (σ.set i (some v)) H) : gName i v σ H N := h
theorem r_ret (h : te σ H D.rt) : tRet te D σ H := h
theorem r_retN (h : D.rt .non H) : tRetN D σ H := h
theorem r_drop (h : te σ H fun _ H1 => D.nx σ H1) : tDrop te D σ H := h
theorem r_if (h : tt σ H fun b H1 => if b = true then t D σ H1 else u D σ H1) : tIfS tt t u D σ H := h
theorem r_par (h : A σ H fun vs H1 => ∃ v w, vs = [v, w] ∧ D.nx ((σ.set i (some v)).set j (some w)) H1) : tPar i j A D σ H := h
theorem r_aug {ti : TIp} (e : σ[i]? = some (some x)) (h : te σ H fun y H1 => ti x y H1 fun z H2 => D.nx (σ.set i (some z)) H2) : tAug i te ti D σ H := ⟨x, e, h⟩
theorem r_par3 {l : Nat} (h : A σ H fun vs H1 => ∃ u v w, vs = [u, v, w] ∧ D.nx (((σ.set i (some u)).set j (some v)).set l (some w)) H1) : tPar3 i j l A D σ H := h
theorem r_gTup {n : Nat} {w : TGs} {a : Addr} {xs : List V} {N : L2.St → Hp → Prop} (e : H a = some (.tup xs)) (hn : xs.length = n) (h : w xs σ H N) : gTup K n w (.ref a) σ H N := ⟨a, xs, rfl, SqT.of e, hn, h⟩
theorem r_gCons {g : TG} {w : TGs} {xs : List V} {N : L2.St → Hp → Prop} (h : g v σ H fun σ1 H1 => w xs σ1 H1 N) : gCons g w (v :: xs) σ H N := ⟨v, xs, rfl, h⟩
theorem r_gNil {N : L2.St → Hp → Prop} (h : N σ H) : gNil [] σ H N := ⟨rfl, h⟩
theorem r_vs2 {N : V → V → Prop} (h : N x y) : ∃ v w, [x, y] = [v, w] ∧ N v w := ⟨x, y, rfl, h⟩
theorem r_vs3 {z : V} {N : V → V → V → Prop} (h : N x y z) : ∃ u v w, [x, y, z] = [u, v, w] ∧ N u v w := ⟨x, y, z, rfl, h⟩
theorem r_var (e : σ[i]? = some (some v)) (h : Q v H) : tVar i σ H Q := ⟨v, e, h⟩
theorem r_c (h : Q v H) : tC v σ H Q := h
theorem r_op (h : ta σ H fun x H1 => tb σ H1 fun y H2 => r x y H2 Q) : tOp r ta tb σ H Q := h
theorem r_un {r : V → Hp → VK → Prop} (h : ta σ H fun x H1 => r x H1 Q) : tUn r ta σ H Q := h
theorem r_test {N : Bool → Hp → Prop} (h : te σ H fun x H' => ∃ k, x = .bl k ∧ N k H') : tTest te σ H N := h
theorem r_tB {N : Bool → Hp → Prop} (h : te σ H fun x H1 => ∃ c, x = .bl c ∧ N c H1) : tB te σ H N := h
theorem r_bl {k : Bool} {N : Bool → Prop} (h : N k) : ∃ c, V.bl k = .bl c ∧ N c := ⟨k, rfl, h⟩
theorem r_and {N : Bool → Hp → Prop} (h : tt σ H fun c H1 => if c = true then tu σ H1 N else N false H1) : tAnd tt tu σ H N := h
theorem r_or {N : Bool → Hp → Prop} (h : tt σ H fun c H1 => if c = true then N true H1 else tu σ H1 N) : tOr tt tu σ H N := h
theorem r_not {N : Bool → Hp → Prop} (h : tt σ H fun c H1 => N (!c) H1) : tNot tt σ H N := h
theorem r_andV (h : ta σ H fun x H1 => ∃ c, x = .bl c ∧ if c = true then tb σ H1 Q else Q (.bl false) H1) : tAndV ta tb σ H Q := h
theorem r_orV (h : ta σ H fun x H1 => ∃ c, x = .bl c ∧ if c = true then Q (.bl true) H1 else tb σ H1 Q) : tOrV ta tb σ H Q := h
theorem r_notV (h : ta σ H fun x H1 => ∃ c, x = .bl c ∧ Q (.bl (!c)) H1) : tNotV ta σ H Q := h
theorem r_ifE (h : tt σ H fun c H1 => if c = true then ta σ H1 Q else tb σ H1 Q) : tIf tt ta tb σ H Q := h
theorem via (R : V → Hp → Prop) (h : ∀ M : VK, (∀ v H', R v H' → M v H') → te σ H M) (k : ∀ v H', R v H' → Q v H') : te σ H Q := h Q k
theorem r_nil {N : List V → Hp → Prop} (h : N [] H) : tNil σ H N := h
theorem r_cons {N : List V → Hp → Prop} (h : te σ H fun x H1 => A σ H1 fun xs H2 => N (x :: xs) H2) : tCons te A σ H N := h
theorem r_call {ds : List V} (h : A σ H fun vs H1 => sp (vs ++ ds) H1 Q E) : tCall sp ds E A σ H Q := h
theorem r_cb {r : List V → Hp → VK → Prop} (h : A σ H fun vs H1 => r vs H1 Q) : tCB r A σ H Q := h
/-- a new list, a new tuple -/
def nwL (xs : List V) (H : Hp) (Q : VK) : Prop := xs.length ≤ sizeLine ∧ ∀ p, H p = none → Q (.ref p) (upd H p (.lst xs))
def nwT (xs : List V) (H : Hp) (Q : VK) : Prop := xs.length ≤ sizeLine ∧ ∀ p, H p = none → Q (.ref p) (upd H p (.tup xs))
theorem r_tup (h : A σ H fun xs H1 => nwT xs H1 Q) : tTup A σ H Q := h
theorem r_lst (h : A σ H fun xs H1 => nwL xs H1 Q) : tLst A σ H Q := h
theorem r_nwL {xs : List V} (z : xs.length ≤ 1000) (h : ∀ p H1, H p = none → Same H H1 → H1 p = some (.lst xs) → Q (.ref p) H1) : nwL xs H Q := ⟨Nat.le_trans z (by decide), fun p np => h p _ np (same_upd np) upd_same⟩
theorem r_nwT {xs : List V} (z : xs.length ≤ 1000) (h : ∀ p H1, H p = none → Same H H1 → H1 p = some (.tup xs) → Q (.ref p) H1) : nwT xs H Q := ⟨Nat.le_trans z (by decide), fun p np => h p _ np (same_upd np) upd_same⟩
def fldR (K : PySem.W.Frag) (f : Str) (x : V) (H : Hp) (Q : VK) : Prop := ∃ a C dx fs v, x = .ref a ∧ H a = some (.ins C dx fs) ∧ Cls K C ∧ NoAttr K C f ∧ fs.lookup f = some v ∧ Q v H
theorem r_fld {f : Str} (h : ta σ H fun x H1 => fldR K f x H1 Q) : tFld K ta f σ H Q := h
theorem r_fldV {f : Str} {a C dx : Addr} {fs : List (Str × V)} (e : H a = some (.ins C dx fs)) (c : Cls K C) (n : NoAttr K C f) (l : fs.lookup f = some v) (h : Q v H) : fldR K f (.ref a) H Q := ⟨a, C, dx, fs, v, rfl, e, c, n, l, h⟩
/-! operators on values that are known -/
theorem r_I0 {g : Int → Int → V} {a b : Int} (h : Q (g a b) H) : rI0 g (.int a) (.int b) H Q := ⟨a, b, rfl, rfl, h⟩
theorem r_I {C : Int → Int → Prop} {g : Int → Int → V} {a b : Int} (c : C a b) (h : Q (g a b) H) : rI C g (.int a) (.int b) H Q := ⟨a, b, rfl, rfl, c, h⟩
theorem r_U {g : Int → V} {a : Int} (h : Q (g a) H) : rU g (.int a) H Q := ⟨a, rfl, h⟩
theorem r_eqI {a b : Int} (h : Q (.bl (decide (a = b))) H) : rEq (.int a) (.int b) H Q := ⟨rfl, by
  have e : decide (V.int a = V.int b) = decide (a = b) := by
    by_cases q : a = b <;> simp [q]
  rw [e]; exact h⟩
theorem r_eqB {a b : Bool} (h : Q (.bl (decide (a = b))) H) : rEq (.bl a) (.bl b) H Q := ⟨rfl, by
  have e : decide (V.bl a = V.bl b) = decide (a = b) := by
    by_cases q : a = b <;> simp [q]
  rw [e]; exact h⟩
theorem r_eqS {a b : Str} (h : Q (.bl (decide (a = b))) H) : rEq (.str a) (.str b) H Q := ⟨rfl, by
  have e : decide (V.str a = V.str b) = decide (a = b) := by
    by_cases q : a = b <;> simp [q]
  rw [e]; exact h⟩
theorem r_neI {a b : Int} (h : Q (.bl (!decide (a = b))) H) : rNe (.int a) (.int b) H Q := ⟨rfl, by
  have e : decide (V.int a = V.int b) = decide (a = b) := by
    by_cases q : a = b <;> simp [q]
  rw [e]; exact h⟩
theorem r_neB {a b : Bool} (h : Q (.bl (!decide (a = b))) H) : rNe (.bl a) (.bl b) H Q := ⟨rfl, by
  have e : decide (V.bl a = V.bl b) = decide (a = b) := by
    by_cases q : a = b <;> simp [q]
  rw [e]; exact h⟩
theorem r_neS {a b : Str} (h : Q (.bl (!decide (a = b))) H) : rNe (.str a) (.str b) H Q := ⟨rfl, by
  have e : decide (V.str a = V.str b) = decide (a = b) := by
    by_cases q : a = b <;> simp [q]
  rw [e]; exact h⟩
theorem r_ixL {p : Addr} {xs : List V} {a : Int} (h : SqL K H p xs) (e : atI xs a = some v) (k : Q v H) : rIx K (.ref p) (.int a) H Q := .inl ⟨p, xs, a, v, rfl, rfl, h, e, k⟩
theorem r_ixT {p : Addr} {xs : List V} {a : Int} (h : SqT K H p xs) (e : atI xs a = some v) (k : Q v H) : rIx K (.ref p) (.int a) H Q := .inr (.inl ⟨p, xs, a, v, rfl, rfl, h, e, k⟩)
theorem r_ixS {z : Str} {a : Int} {c : Nat} (l : z.length ≤ sizeLine) (e : atI z.cps.toList a = some c) (k : Q (.str ⟨#[c]⟩) H) : rIx K (.str z) (.int a) H Q := .inr (.inr ⟨z, a, c, rfl, rfl, l, e, k⟩)
theorem r_setL {p : Addr} {xs : List V} {a : Int} {m : Nat} {N : Hp → Prop} (h : H p = some (.lst xs)) (e : ixN xs.length a = some m) (k : ∀ H1, But p H H1 → H1 p = some (.lst (xs.set m v)) → N H1) : rSetL (.ref p) (.int a) v H N :=
  ⟨p, xs, a, m, rfl, rfl, h, e, k _ But.upd upd_same⟩
theorem r_gSub {to ti : TE} {s : TSet} {N : L2.St → Hp → Prop} (h : to σ H fun o H1 => ti σ H1 fun i H2 => s o i v H2 fun H3 => N σ H3) : gSub to ti s v σ H N := h
theorem yes {c : Bool} {P1 P2 : Prop} (h : c = true) (k : P1) : if c = true then P1 else P2 := by
  rw [h, if_pos rfl]; exact k
theorem no {c : Bool} {P1 P2 : Prop} (h : c = false) (k : P2) : if c = true then P1 else P2 := by
  rw [h, if_neg Bool.false_ne_true]; exact k
theorem ways {c P1 P2 : Prop} [Decidable c] (h : c → P1) (k : ¬ c → P2) : if decide c = true then P1 else P2 := by
  by_cases q : c
  · rw [decide_eq_true q, if_pos rfl]; exact h q
  · rw [decide_eq_false q, if_neg Bool.false_ne_true]; exact k q
theorem waysN {c P1 P2 : Prop} [Decidable c] (h : ¬ c → P1) (k : c → P2) : if (!decide c) = true then P1 else P2 := by
  by_cases q : c
  · rw [decide_eq_true q]; exact k q
  · rw [decide_eq_false q]; exact h q
theorem waysB {c : Bool} {P1 P2 : Prop} (h : c = true → P1) (k : c = false → P2) : if c = true then P1 else P2 := by
  cases c with
  | true => rw [if_pos rfl]; exact h rfl
  | false => rw [if_neg Bool.false_ne_true]; exact k rfl
/-! calls of built-ins, their readings by name -/
def rInt1 : List V → Hp → VK → Prop := fun xs H Q => (∃ i, xs = [.int i] ∧ Q (.int i) H) ∨ ∃ k, xs = [.bl k] ∧ Q (.int (if k then 1 else 0)) H
def rAbs : List V → Hp → VK → Prop := fun xs H Q => ∃ i, xs = [.int i] ∧ Q (.int (if i < 0 then -i else i)) H
def rMax2 : List V → Hp → VK → Prop := fun xs H Q => ∃ i j, xs = [.int i, .int j] ∧ Q (.int (if j > i then j else i)) H
def rMin2 : List V → Hp → VK → Prop := fun xs H Q => ∃ i j, xs = [.int i, .int j] ∧ Q (.int (if j < i then j else i)) H
def rLen (K : PySem.W.Frag) : List V → Hp → VK → Prop := fun xs H Q => ∃ p ys, xs = [.ref p] ∧ (SqL K H p ys ∨ SqT K H p ys) ∧ Q (.int ys.length) H
def rLenS : List V → Hp → VK → Prop := fun xs H Q => ∃ z, xs = [.str z] ∧ z.length ≤ sizeLine ∧ Q (.int z.length) H
def rStrI : List V → Hp → VK → Prop := fun xs H Q => ∃ i, xs = [.int i] ∧ i.natAbs.log2 < 1920 ∧ Q (.str (toString i)) H
def rAddS : R2 := fun x y H Q => ∃ i j, x = .str i ∧ y = .str j ∧ i.length + j.length ≤ sizeLine ∧ Q (.str (i ++ j)) H
theorem c_int1 {X : Cx} : CallR X (.type "int") rInt1 := call_int1
theorem c_abs {X : Cx} : CallR X (.builtin "abs") rAbs := call_abs
theorem c_max2 {X : Cx} (hc : X.calm = true) : CallR X (.builtin "max") rMax2 := call_max2 hc
theorem c_min2 {X : Cx} (hc : X.calm = true) : CallR X (.builtin "min") rMin2 := call_min2 hc
theorem c_len {X : Cx} : CallR X (.builtin "len") (rLen X.K) := call_len_seq
theorem c_lenS {X : Cx} : CallR X (.builtin "len") rLenS := call_len_str
theorem c_strI {X : Cx} : CallR X (.type "str") rStrI := call_str_int
theorem o_addS {X : Cx} : OpR X (binaryOp .Add) rAddS := op_add_str
theorem r_int1 {a : Int} (h : Q (.int a) H) : rInt1 [.int a] H Q := .inl ⟨a, rfl, h⟩
theorem r_abs {a : Int} (h : Q (.int (if a < 0 then -a else a)) H) : rAbs [.int a] H Q := ⟨a, rfl, h⟩
theorem r_max2 {a b : Int} (h : Q (.int (if b > a then b else a)) H) : rMax2 [.int a, .int b] H Q := ⟨a, b, rfl, h⟩
theorem r_min2 {a b : Int} (h : Q (.int (if b < a then b else a)) H) : rMin2 [.int a, .int b] H Q := ⟨a, b, rfl, h⟩
theorem r_lenL {p : Addr} {ys : List V} (e : SqL K H p ys) (h : Q (.int ys.length) H) : rLen K [.ref p] H Q := ⟨p, ys, rfl, .inl e, h⟩
theorem r_lenT {p : Addr} {ys : List V} (e : SqT K H p ys) (h : Q (.int ys.length) H) : rLen K [.ref p] H Q := ⟨p, ys, rfl, .inr e, h⟩
theorem r_strI {a : Int} (e : a.natAbs.log2 < 1920) (h : Q (.str (toString a)) H) : rStrI [.int a] H Q := ⟨a, rfl, e, h⟩
theorem r_addS {a b : Str} (e : a.length + b.length ≤ sizeLine) (h : Q (.str (a ++ b)) H) : rAddS (.str a) (.str b) H Q := ⟨a, b, rfl, rfl, e, h⟩
/-! loops, comprehensions -/
theorem r_rng {tb : TS} {k : Nat} {j : Int} (h0 : 0 ≤ j) (h1 : j ≤ 100000) (Pv : Nat → L2.St → Hp → Prop) (hp : Pv 0 σ H)
    (ht : ∀ (i : Nat) σ' H', (i : Int) < j → Pv i σ' H' → tb { D with nx := Pv (i + 1), ct := Pv (i + 1), bk := D.nx } (σ'.set k (some (.int (i : Int)))) H') (hd : ∀ σ' H', Pv j.toNat σ' H' → D.nx σ' H') :
    ∃ j' : Int, [V.int j] = [V.int j'] ∧ -(2 ^ 62) ≤ j' ∧ j' < 2 ^ 62 ∧ ∃ W : Nat → Nat → L2.St → Hp → Prop, (∃ m, W 0 m σ H) ∧ ∀ i m σ H, W i m σ H →
      (((Itr 0 j'.toNat).stop i H ∧ D.nx σ H) ∨ ((Itr 0 j'.toNat).go i H ∧ ∃ N : L2.St → Hp → Prop, (∀ σ' H', N σ' H' → ∃ m', m' < m ∧ W (i + 1) m' σ' H') ∧ ∀ x H', (Itr 0 j'.toNat).yld i H x H' → gName k x σ H' fun σ2 H2 => tb { D with nx := N, ct := N, bk := D.nx } σ2 H2)) := by
  refine ⟨j, rfl, by omega, by omega, for_range (lo := 0) (n := j.toNat) Pv hp (fun i σ' H' hi p => ?_) hd⟩
  have e : (0 : Int) + (i : Int) = (i : Int) := Int.zero_add _
  show tb _ (σ'.set k (some (.int ((0 : Int) + (i : Int))))) H'
  rw [e]
  exact ht i σ' H' (by omega) p
theorem r_forRng {A : TA} {tb : TS} {k : Nat} (h : A σ H fun vs H1 => ∃ j : Int, vs = [.int j] ∧ -(2 ^ 62) ≤ j ∧ j < 2 ^ 62 ∧ ∃ W : Nat → Nat → L2.St → Hp → Prop, (∃ m, W 0 m σ H1) ∧ ∀ i m σ H, W i m σ H →
      (((Itr 0 j.toNat).stop i H ∧ D.nx σ H) ∨ ((Itr 0 j.toNat).go i H ∧ ∃ N : L2.St → Hp → Prop, (∀ σ' H', N σ' H' → ∃ m', m' < m ∧ W (i + 1) m' σ' H') ∧ ∀ x H', (Itr 0 j.toNat).yld i H x H' → gName k x σ H' fun σ2 H2 => tb { D with nx := N, ct := N, bk := D.nx } σ2 H2))) :
    tFor (iRng1 A) (gName k) tb D σ H := h
theorem r_forL0 {tl : TE} {g : TG} {tb : TS} (h : tl σ H fun x H1 => ∃ a, x = .ref a ∧ (∃ xs, SqL K H1 a xs) ∧ ∃ W : Nat → Nat → L2.St → Hp → Prop, (∃ m, W 0 m σ H1) ∧ ∀ i m σ H, W i m σ H →
      (((Itl K a).stop i H ∧ D.nx σ H) ∨ ((Itl K a).go i H ∧ ∃ N : L2.St → Hp → Prop, (∀ σ' H', N σ' H' → ∃ m', m' < m ∧ W (i + 1) m' σ' H') ∧ ∀ x H', (Itl K a).yld i H x H' → g x σ H' fun σ2 H2 => tb { D with nx := N, ct := N, bk := D.nx } σ2 H2))) :
    tFor (iList K tl) g tb D σ H := h
theorem r_lst_by {g : TG} {tb : TS} {a : Addr} {xs : List V} (hs : SqL K H a xs) (Pv : Nat → L2.St → Hp → Prop) (h0 : Pv 0 σ H) (hl : ∀ i σ' H', Pv i σ' H' → SqL K H' a xs)
    (ht : ∀ i x σ' H', xs[i]? = some x → Pv i σ' H' → g x σ' H' fun σ2 H2 => tb { D with nx := Pv (i + 1), ct := Pv (i + 1), bk := D.nx } σ2 H2) (hd : ∀ σ' H', Pv xs.length σ' H' → D.nx σ' H') :
    ∃ a', V.ref a = .ref a' ∧ (∃ xs, SqL K H a' xs) ∧ ∃ W : Nat → Nat → L2.St → Hp → Prop, (∃ m, W 0 m σ H) ∧ ∀ i m σ H, W i m σ H →
      (((Itl K a').stop i H ∧ D.nx σ H) ∨ ((Itl K a').go i H ∧ ∃ N : L2.St → Hp → Prop, (∀ σ' H', N σ' H' → ∃ m', m' < m ∧ W (i + 1) m' σ' H') ∧ ∀ x H', (Itl K a').yld i H x H' → g x σ H' fun σ2 H2 => tb { D with nx := N, ct := N, bk := D.nx } σ2 H2)) :=
  ⟨a, rfl, ⟨xs, hs⟩, for_list (xs := xs) Pv h0 (fun i σ' H' _ p => hl i σ' H' p) ht hd⟩
theorem r_eqD {d e : PyData} (hd : Dp K H x d) (he : Dp K H y e) (sd : SeqAt.shaped d = true) (se : SeqAt.shaped e = true) (h : Q (.bl (PyData.eqv d e)) H) : rEqD K x y H Q := ⟨d, e, hd, he, sd, se, h⟩
theorem r_cat {p q : Addr} {xs zs : List V} (h1 : H p = some (.lst xs)) (h2 : H q = some (.lst zs)) (l : xs.length + zs.length ≤ 100000) (k : ∀ p H1, H p = none → Same H H1 → H1 p = some (.lst (xs ++ zs)) → Q (.ref p) H1) : rCat (.ref p) (.ref q) H Q :=
  ⟨p, q, xs, zs, rfl, rfl, h1, h2, Nat.le_trans l (by decide), fun p np => k p _ np (same_upd np) upd_same⟩
theorem turns (z m : Int) (hm : 1 ≤ m) (hm2 : m ≤ 100000) : 0 ≤ (if (if z < m then z else m) > 1 then (if z < m then z else m) else 1) ∧ (if (if z < m then z else m) > 1 then (if z < m then z else m) else 1) ≤ 100000 := by
  constructor <;> (split <;> split <;> omega)
theorem turns_le (z m : Int) (hm : 1 ≤ m) : (if (if z < m then z else m) > 1 then (if z < m then z else m) else 1) ≤ m := by
  split <;> split <;> omega
/-- two ways that meet -/
theorem join {c : Prop} [Decidable c] {A B : VK → Prop} {N : VK} (R : V → Hp → Prop) (ha : c → ∀ M : VK, (∀ v H', R v H' → M v H') → A M) (hb : ¬ c → ∀ M : VK, (∀ v H', R v H' → M v H') → B M) (k : ∀ v H', R v H' → N v H') :
    if decide c = true then A N else B N := by
  by_cases q : c
  · rw [decide_eq_true q, if_pos rfl]; exact ha q N k
  · rw [decide_eq_false q, if_neg Bool.false_ne_true]; exact hb q N k
theorem get_int {ns : List Int} {i : Nat} (h : i < ns.length) : ∃ c, atI (ns.map V.int) (i : Int) = some (.int c) := by
  refine ⟨ns[i], atI_nat ?_⟩
  rw [List.getElem?_map, List.getElem?_eq_getElem h]; rfl
/-- [e for name in range(j)], [e for name in a list] -/
def lcR (j : Int) (k : Nat) (te : TE) (vs : List Nat) (σ : L2.St) (H : Hp) (Q : VK) : Prop := -(2 ^ 62) ≤ j ∧ j < 2 ^ 62 ∧ ∀ D, H D = none → ∃ W : Nat → Nat → Hp → Prop, (∃ m, W 0 m (L2.upd H D (.lst []))) ∧ ∀ i m H, W i m H →
  ((Itr 0 j.toNat).stop i H ∧ Q (.ref D) H) ∨ ((Itr 0 j.toNat).go i H ∧ ∃ Nx : Hp → Prop, (∀ H', Nx H' → ∃ m', m' < m ∧ W (i + 1) m' H') ∧ ∀ x H', (Itr 0 j.toNat).yld i H x H' → gName k x (wipe σ vs) H' fun σ2 H2 => wipe σ2 vs = wipe σ vs ∧ tYes σ2 H2 fun b H3 =>
    if b = true then te σ2 H3 fun y H4 => ∃ acc, H4 D = some (.lst acc) ∧ acc.length < sizeLine ∧ Nx (L2.upd H4 D (.lst (acc ++ [y]))) else Nx H3)
theorem r_lcRng {k : Nat} {vs : List Nat} (h : A σ H fun ws H1 => ∃ j : Int, ws = [.int j] ∧ lcR j k te vs σ H1 Q) : tLc (iRng1 A) (gName k) tYes te vs σ H Q := h
/-- what is made is put behind the list at Dl -/
def apR (Dl : Addr) (N : Hp → Prop) (y : V) (H : Hp) : Prop := ∃ acc, H Dl = some (.lst acc) ∧ acc.length < sizeLine ∧ N (L2.upd H Dl (.lst (acc ++ [y])))
theorem r_ap {Dl : Addr} {N : Hp → Prop} {acc : List V} (h : H Dl = some (.lst acc)) (l : acc.length ≤ 100000) (k : ∀ H1, But Dl H H1 → H1 Dl = some (.lst (acc ++ [y])) → N H1) : apR Dl N y H :=
  ⟨acc, h, Nat.lt_of_le_of_lt l (by decide), k _ But.upd upd_same⟩
theorem r_lcR {J : Int} {k : Nat} {vs : List Nat} (h0 : 0 ≤ J) (h1 : J ≤ 100000) (hw : ∀ x, wipe ((wipe σ vs).set k (some x)) vs = wipe σ vs) (Pv : Addr → Nat → Hp → Prop)
    (hs : ∀ Dl H1, H Dl = none → Same H H1 → H1 Dl = some (.lst []) → Pv Dl 0 H1)
    (ht : ∀ Dl (i : Nat) H', H Dl = none → (i : Int) < J → Pv Dl i H' → te ((wipe σ vs).set k (some (.int (i : Int)))) H' (apR Dl (Pv Dl (i + 1))))
    (hd : ∀ Dl H', H Dl = none → Pv Dl J.toNat H' → Q (.ref Dl) H') : ∃ j' : Int, [V.int J] = [V.int j'] ∧ lcR j' k te vs σ H Q := by
  refine ⟨J, rfl, by omega, by omega, fun Dl hD => ?_⟩
  refine lc_range (lo := 0) (n := J.toNat) (tt := tYes) (Pv Dl) (hs Dl _ hD (same_upd hD) upd_same) (fun i H' hi p => ?_) (fun H' p => hd Dl H' hD p)
  have e : (0 : Int) + (i : Int) = (i : Int) := Int.zero_add _
  show wipe ((wipe σ vs).set k (some (.int ((0 : Int) + (i : Int))))) vs = wipe σ vs ∧ (if true = true then te ((wipe σ vs).set k (some (.int ((0 : Int) + (i : Int))))) H' (apR Dl (Pv Dl (i + 1))) else Pv Dl (i + 1) H')
  rw [e, if_pos rfl]
  exact ⟨hw _, ht Dl i H' hD (by omega) p⟩
def lcL (K : PySem.W.Frag) (a : Addr) (k : Nat) (te : TE) (vs : List Nat) (σ : L2.St) (H : Hp) (Q : VK) : Prop := (∃ xs, SqL K H a xs) ∧ ∀ D, H D = none → ∃ W : Nat → Nat → Hp → Prop, (∃ m, W 0 m (L2.upd H D (.lst []))) ∧ ∀ i m H, W i m H →
  ((Itl K a).stop i H ∧ Q (.ref D) H) ∨ ((Itl K a).go i H ∧ ∃ Nx : Hp → Prop, (∀ H', Nx H' → ∃ m', m' < m ∧ W (i + 1) m' H') ∧ ∀ x H', (Itl K a).yld i H x H' → gName k x (wipe σ vs) H' fun σ2 H2 => wipe σ2 vs = wipe σ vs ∧ tYes σ2 H2 fun b H3 =>
    if b = true then te σ2 H3 fun y H4 => ∃ acc, H4 D = some (.lst acc) ∧ acc.length < sizeLine ∧ Nx (L2.upd H4 D (.lst (acc ++ [y]))) else Nx H3)
theorem r_lcLst {k : Nat} {vs : List Nat} {tl : TE} (h : tl σ H fun x H1 => ∃ a, x = .ref a ∧ lcL K a k te vs σ H1 Q) : tLc (iList K tl) (gName k) tYes te vs σ H Q := h
theorem r_lcL {a : Addr} {xs : List V} {k : Nat} {vs : List Nat} (hx : SqL K H a xs) (hw : ∀ x, wipe ((wipe σ vs).set k (some x)) vs = wipe σ vs) (Pv : Addr → Nat → Hp → Prop)
    (hs : ∀ Dl H1, H Dl = none → Same H H1 → H1 Dl = some (.lst []) → Pv Dl 0 H1) (hl : ∀ Dl i H', H Dl = none → Pv Dl i H' → SqL K H' a xs)
    (ht : ∀ Dl (i : Nat) x H', H Dl = none → xs[i]? = some x → Pv Dl i H' → te ((wipe σ vs).set k (some x)) H' (apR Dl (Pv Dl (i + 1))))
    (hd : ∀ Dl H', H Dl = none → Pv Dl xs.length H' → Q (.ref Dl) H') : ∃ a', V.ref a = .ref a' ∧ lcL K a' k te vs σ H Q := by
  refine ⟨a, rfl, ⟨xs, hx⟩, fun Dl hD => ?_⟩
  refine lc_list (xs := xs) (tt := tYes) (Pv Dl) (hs Dl _ hD (same_upd hD) upd_same) (fun i H' _ p => hl Dl i H' hD p) (fun i x H' hi p => ?_) (fun H' p => hd Dl H' hD p)
  show wipe ((wipe σ vs).set k (some x)) vs = wipe σ vs ∧ (if true = true then te ((wipe σ vs).set k (some x)) H' (apR Dl (Pv Dl (i + 1))) else Pv Dl (i + 1) H')
  rw [if_pos rfl]
  exact ⟨hw _, ht Dl i x H' hD hi p⟩
def lcF (K : PySem.W.Frag) (a : Addr) (k : Nat) (tt : TT) (te : TE) (vs : List Nat) (σ : L2.St) (H : Hp) (Q : VK) : Prop := (∃ xs, SqL K H a xs) ∧ ∀ D, H D = none → ∃ W : Nat → Nat → Hp → Prop, (∃ m, W 0 m (L2.upd H D (.lst []))) ∧ ∀ i m H, W i m H →
  ((Itl K a).stop i H ∧ Q (.ref D) H) ∨ ((Itl K a).go i H ∧ ∃ Nx : Hp → Prop, (∀ H', Nx H' → ∃ m', m' < m ∧ W (i + 1) m' H') ∧ ∀ x H', (Itl K a).yld i H x H' → gName k x (wipe σ vs) H' fun σ2 H2 => wipe σ2 vs = wipe σ vs ∧ tt σ2 H2 fun b H3 =>
    if b = true then te σ2 H3 fun y H4 => ∃ acc, H4 D = some (.lst acc) ∧ acc.length < sizeLine ∧ Nx (L2.upd H4 D (.lst (acc ++ [y]))) else Nx H3)
theorem r_lcFLst {k : Nat} {vs : List Nat} {tl : TE} {tt : TT} (h : tl σ H fun x H1 => ∃ a, x = .ref a ∧ lcF K a k tt te vs σ H1 Q) : tLc (iList K tl) (gName k) tt te vs σ H Q := h
theorem r_lcF {a : Addr} {xs : List V} {k : Nat} {vs : List Nat} {tt : TT} (hx : SqL K H a xs) (hw : ∀ x, wipe ((wipe σ vs).set k (some x)) vs = wipe σ vs) (Pv : Addr → Nat → Hp → Prop)
    (hs : ∀ Dl H1, H Dl = none → Same H H1 → H1 Dl = some (.lst []) → Pv Dl 0 H1) (hl : ∀ Dl i H', H Dl = none → Pv Dl i H' → SqL K H' a xs)
    (ht : ∀ Dl (i : Nat) x H', H Dl = none → xs[i]? = some x → Pv Dl i H' → tt ((wipe σ vs).set k (some x)) H' fun b H3 => if b = true then te ((wipe σ vs).set k (some x)) H3 (apR Dl (Pv Dl (i + 1))) else Pv Dl (i + 1) H3)
    (hd : ∀ Dl H', H Dl = none → Pv Dl xs.length H' → Q (.ref Dl) H') : ∃ a', V.ref a = .ref a' ∧ lcF K a' k tt te vs σ H Q := by
  refine ⟨a, rfl, ⟨xs, hx⟩, fun Dl hD => ?_⟩
  exact lc_list (xs := xs) (tt := tt) (Pv Dl) (hs Dl _ hD (same_upd hD) upd_same) (fun i H' _ p => hl Dl i H' hD p) (fun i x H' hi p => ⟨hw _, ht Dl i x H' hD hi p⟩) (fun H' p => hd Dl H' hD p)
theorem r_bmA {to : TE} {t : TA} (h : to σ H fun x H1 => tyV K "list" x H1 ∧ t σ H1 fun xs H2 => rAppend x xs H2 Q) : tBM K "list" rAppend to t σ H Q := h
theorem r_tyL {l : Addr} {xs : List V} {G : Prop} (e : H l = some (.lst xs)) (h : G) : tyV K "list" (.ref l) H ∧ G := ⟨.inl ⟨rfl, xs, SqL.of e⟩, h⟩
theorem r_app {l : Addr} {xs : List V} (e : H l = some (.lst xs)) (n : xs.length ≤ 100000) (k : ∀ H1, But l H H1 → H1 l = some (.lst (xs ++ [y])) → Q .non H1) : rAppend (.ref l) [y] H Q :=
  ⟨l, xs, y, rfl, rfl, e, Nat.lt_of_le_of_lt n (by decide), k _ But.upd upd_same⟩
theorem r_rep {l : Addr} {n : Int} {xs : List V} (e : H l = some (.lst xs)) (h0 : 0 ≤ n) (h1 : n ≤ 1000) (hl : xs.length * n.toNat ≤ 100000) (k : ∀ p H1, H p = none → Same H H1 → H1 p = some (.lst (List.replicate n.toNat xs).flatten) → Q (.ref p) H1) : rRep (.ref l) (.int n) H Q :=
  ⟨l, n, xs, rfl, rfl, e, by omega, by omega, Nat.le_trans hl (by decide), fun p np => k p _ np (same_upd np) upd_same⟩
theorem r_sl {te : TE} {tl th : TO} {r : V → Option Int → Option Int → Hp → VK → Prop} (h : te σ H fun x H1 => tl σ H1 fun l H2 => th σ H2 fun u H3 => r x l u H3 Q) : tSl r te tl th σ H Q := h
def prt (Q : Option Int → Hp → Prop) : VK := fun x H => ∃ i : Int, x = .int i ∧ Q (some i) H
theorem r_part {Q : Option Int → Hp → Prop} (h : te σ H (prt Q)) : tPart te σ H Q := h
theorem r_prt {Q : Option Int → Hp → Prop} {i : Int} (h : Q (some i) H) : prt Q (.int i) H := ⟨i, rfl, h⟩
theorem r_nopart {Q : Option Int → Hp → Prop} (h : Q none H) : tNoPart σ H Q := h
theorem r_slL {a : Addr} {xs : List V} {lo hi : Option Int} (e : H a = some (.lst xs)) (k : ∀ p H1, H p = none → Same H H1 → H1 p = some (.lst (cutV xs lo hi)) → Q (.ref p) H1) : rSlL K (.ref a) lo hi H Q :=
  ⟨a, xs, rfl, SqL.of e, fun p np => k p _ np (same_upd np) upd_same⟩
theorem r_anyB {a : Addr} {bs : List Bool} (hs : SqL K H a (bs.map V.bl)) (h : Q (.bl (bs.any id)) H) : rAny K [.ref a] H Q := ⟨a, bs, rfl, hs, h⟩
/-! dicts with keys that are texts -/
def dgR (x y : V) (H : Hp) (Q : VK) : Prop := ∃ a v, x = .ref a ∧ DGet H a y (some v) ∧ Q v H
theorem r_dget (h : ta σ H fun x H1 => tb σ H1 fun y H2 => dgR x y H2 Q) : tDGet ta tb σ H Q := h
theorem r_dgS {a : Addr} {g : Str} {kvs : List (Key × V)} (e : H a = some (.dK kvs)) (l : valV kvs (.inr g) = some v) (k : Q v H) : dgR (.ref a) (.str g) H Q := ⟨a, v, rfl, by
  have z := DGet.k (H := H) (a := a) (kvs := kvs) (k := .inr g) e
  rw [l] at z
  exact z, k⟩
def dpR (x y v : V) (H : Hp) (N : Hp → Prop) : Prop := ∃ a H1, x = .ref a ∧ DPut H a y v H1 ∧ N H1
theorem r_dput (h : tc σ H fun v H1 => ta σ H1 fun x H2 => tb σ H2 fun y H3 => dpR x y v H3 (D.nx σ)) : sDPut ta tb tc D σ H := h
theorem r_dpS {a : Addr} {g : Str} {kvs : List (Key × V)} {N : Hp → Prop} (e : H a = some (.dK kvs)) (l : kvs.length ≤ 1000) (k : ∀ H1, But a H H1 → H1 a = some (.dK (putK kvs (.inr g) v)) → N H1) : dpR (.ref a) (.str g) v H N :=
  ⟨a, _, rfl, DPut.k (k := .inr g) e (Nat.lt_of_le_of_lt l (by decide)), k _ But.upd upd_same⟩
def dspR (p : Addr) (ps : List (V × V)) (H : Hp) (Q : VK) : Prop := H p = some (.dK []) ∧ ∃ kvs : List (Key × V), ps = kvs.map (fun kv => (kV kv.1, kv.2)) ∧ kvs.length ≤ 15 ∧ Q (.ref p) (L2.upd H p (.dK (mergeK [] kvs)))
theorem r_disp {trs : List (TE × TE)} (h : ∀ p H1, H p = none → Same H H1 → H1 p = some (.dK []) → tPairs trs σ H1 fun ps H2 => dspR p ps H2 Q) : tDisp trs σ H Q := fun p np => h p _ np (same_upd np) upd_same
theorem r_pnil {N : List (V × V) → Hp → Prop} (h : N [] H) : tPairs [] σ H N := h
theorem r_pcons {trs : List (TE × TE)} {N : List (V × V) → Hp → Prop} (h : ta σ H fun x H1 => tb σ H1 fun y H2 => tPairs trs σ H2 fun ps H3 => N ((x, y) :: ps) H3) : tPairs ((ta, tb) :: trs) σ H N := h
theorem r_dsp {p : Addr} {ps : List (V × V)} (kvs : List (Key × V)) (e : H p = some (.dK [])) (hps : ps = kvs.map (fun kv => (kV kv.1, kv.2))) (l : kvs.length ≤ 15) (k : ∀ H1, But p H H1 → H1 p = some (.dK (mergeK [] kvs)) → Q (.ref p) H1) : dspR p ps H Q :=
  ⟨e, kvs, hps, l, k _ But.upd upd_same⟩
theorem pow10_le {a b : Nat} (h : a ≤ b) : (10 : Int) ^ a ≤ 10 ^ b := by
  have e : ∀ k : Nat, (10 : Int) ^ k = ((10 ^ k : Nat) : Int) := fun k => by rw [Int.natCast_pow]; rfl
  rw [e, e]
  exact Int.ofNat_le.mpr (Nat.pow_le_pow_right (by decide) h)
theorem letters {n : Nat} (h : n < 26) : ∃ c, ("abcdefghijklmnopqrstuvwxyz" : Str).cps.toList[n]? = some c ∧ 97 ≤ c ∧ c ≤ 122 := by
  have e : ("abcdefghijklmnopqrstuvwxyz" : Str).cps.toList = List.range' 97 26 := by decide +kernel
  refine ⟨97 + n, ?_, by omega, by omega⟩
  rw [e, List.getElem?_range' (by omega)]
  simp
theorem ty_ins {a C dx : Addr} {fs : List (Str × V)} (c : Cls K C) (i : Inst K C) (e : H a = some (.ins C dx fs)) : TyX K H (.ref a) (.ref C) := .base (.ins e c i.ca i.cn i.ct i.cm)
theorem ix_seqG {X : Cx} {K : PySem.W.Frag} (e : X.K = K) : IxR X (rIx K) := e ▸ ix_seq
theorem c_isi {X : Cx} {K : PySem.W.Frag} (e : X.K = K) : CallR X (.builtin "isinstance") (rIsi K) := e ▸ call_isi
theorem r_isiT {t : Value} {n : String} {b : Bool} (ty : TyX K H x t) (k : PySem.W.kitOne K t (.type n) = some b) (h : Q (.bl b) H) : rIsi K [x, .ty n] H Q := ⟨x, .ty n, t, .type n, b, rfl, .ty n, ty, k, h⟩
theorem r_isiC {t : Value} {C : Addr} {b : Bool} (ty : TyX K H x t) (k : PySem.W.kitOne K t (.ref C) = some b) (h : Q (.bl b) H) : rIsi K [x, .ref C] H Q := ⟨x, .ref C, t, .ref C, b, rfl, .own C, ty, k, h⟩
/-- a new instance, its dict made, its __init__ asked -/
def mkI (C : Addr) (sp : Sp) (ds vs : List V) (H : Hp) (Q : VK) (E : XK) : Prop := ∀ x dx, H x = none → H dx = none → dx ≠ x →
  sp (.ref x :: (vs ++ ds)) (L2.upd (L2.upd H dx (.own x)) x (.ins C dx [])) (fun v H2 => v = .non ∧ Q (.ref x) H2) E
theorem r_make {C : Addr} {ds : List V} (h : A σ H fun vs H1 => mkI C sp ds vs H1 Q E) : tMake C sp ds E A σ H Q := h
theorem look1 {f : Str} : ([(f, v)] : List (Str × V)).lookup f = some v := by simp [List.lookup]
/-- o.f = value -/
def stF (K : PySem.W.Frag) (f : Str) (y x : V) (H : Hp) (N : Hp → Prop) : Prop := ∃ a C dx fs, x = .ref a ∧ H a = some (.ins C dx fs) ∧ Cls K C ∧ NoAttr K C f ∧ fs.length < 1000 ∧ N (L2.upd H a (.ins C dx (putF f y fs)))
theorem r_sfld {f : Str} {tv : TE} (h : tv σ H fun y H1 => ta σ H1 fun x H2 => stF K f y x H2 (D.nx σ)) : sFld K ta tv f D σ H := h
theorem r_stF {f : Str} {a C dx : Addr} {fs : List (Str × V)} {N : Hp → Prop} (e : H a = some (.ins C dx fs)) (c : Cls K C) (n : NoAttr K C f) (l : fs.length ≤ 900) (h : ∀ H1, But a H H1 → H1 a = some (.ins C dx (putF f y fs)) → N H1) :
    stF K f y (.ref a) H N := ⟨a, C, dx, fs, rfl, e, c, n, by omega, h _ But.upd upd_same⟩
def rIsN : R2 := fun x y H Q => y = .non ∧ Q (.bl (decide (x = .non))) H
def rNotN : R2 := fun x y H Q => y = .non ∧ Q (.bl (!decide (x = .non))) H
theorem o_isN {X : Cx} : OpR X (compareOp .Is) rIsN := op_isN
theorem o_notN {X : Cx} : OpR X (compareOp .IsNot) rNotN := op_notN
theorem r_isN (h : Q (.bl (decide (x = .non))) H) : rIsN x .non H Q := ⟨rfl, h⟩
theorem r_notN (h : Q (.bl (!decide (x = .non))) H) : rNotN x .non H Q := ⟨rfl, h⟩
theorem z4 : (4 : Nat) ≤ sizeLine := by decide
theorem szle {n : Nat} (h : n ≤ 1000) : n ≤ sizeLine := Nat.le_trans h (by decide)
end
end Z
namespace Z
open PySem PySem.Spec PyProof.Rows L2
/-- what of the text an own operator leans on, the class of instances over object alone -/
structure BinF (K : PySem.W.Frag) (C : Addr) (nm : String) (f g : Addr) : Prop where
  sf : PySem.W.selfFirst K C = true
  at_ : PySem.W.findIn K (.ref C) (PySem.dunder nm) = some (some (.ref f))
  fn : PySem.W.isFn K (.ref f) = true
  rat : PySem.W.findIn K (.ref C) (PySem.dunderR nm) = some (some (.ref g))
  rfn : PySem.W.isFn K (.ref g) = true
  fo : ∃ fo, PySem.W.findIn K (.type "int") (PySem.dunder nm) = some fo
  ro : ∃ ro, PySem.W.findIn K (.type "int") (PySem.dunderR nm) = some ro
  sub : PySem.W.subIn K (.ref C) (.type "int") = some false
  isub : PySem.W.subIn K (.type "int") (.ref C) = some false
  cls : ∃ cd, PySem.W.clsIn K C = some cd ∧ cd.mro = [.ref C, .type "object"]
  ni : PySem.W.findIn K (.ref C) (PySem.dunderI nm) = some none
  noi : PySem.W.findIn K (.type "object") (PySem.dunderI nm) = some none
/-- what the formatting of an own object leans on -/
structure TxF (K : PySem.W.Frag) (C : Addr) : Prop where
  fm : PySem.W.findIn K (.ref C) "__format__" = some (some (.builtin "object.__format__"))
  mo : PySem.W.mroIn K C (.type "object") = some true
/-- != of an own class is the one of all objects -/
structure NeD (K : PySem.W.Frag) (C : Addr) : Prop where
  ne : PySem.W.findIn K (.ref C) "__ne__" = some (some (.builtin "object.__ne__"))
  mo : PySem.W.mroIn K C (.type "object") = some true
end Z

namespace Z
open PySem PySem.Spec PyProof.Rows L2
/-- a block in a block, no name of which is one of the outer one's -/
def bare : Scope := { kind := .function, names := [], isGenerator := false, isCoroutine := false }
theorem blk_any {N : List Str} {sc scope : Scope} {own : List (Str × Nat)} (h : BlkOk N bare scope own) : BlkOk N sc scope own :=
  ⟨h.kind, h.uniq, h.ix, fun y hy e => (h.free y hy e).elim (fun z => by cases z) (fun z => by cases z), h.own⟩
theorem pi_listK {X : Cx} {K : PySem.W.Frag} {tg l : Expr} {tl : TE} (e : X.K = K) (h : PE X l tl) : PI X tg l (iList K tl) := e ▸ pi_list h
/-- the positional ones, then those by name; no other numbers of them -/
def kwG {α : Type} (m n : Nat) (us ws : List α) : List α := if us.length = m ∧ ws.length = n then us ++ ws else []
theorem kwG_of {α : Type} {m n : Nat} {us ws : List α} (h1 : us.length = m) (h2 : ws.length = n) : kwG m n us ws = us ++ ws := if_pos ⟨h1, h2⟩
theorem kw_binds {K : PySem.W.Frag} {fd : FuncData} {ps ks : List Str} {m n : Nat} (hp : ps.length ≠ 0) (h : ∀ (s : Shared) (us ws : List Value), us.length = m → ws.length = n → BindsTo s fd ⟨us, ks.zip ws⟩ (ps.zip (us ++ ws))) : KBinds K fd ps ks (kwG m n) (kwG m n) where
  to := fun s us ws _ hl => by
    by_cases c : us.length = m ∧ ws.length = n
    · rw [kwG_of c.1 c.2]; exact h s us ws c.1 c.2
    · unfold kwG at hl
      rw [if_neg c] at hl
      exact absurd hl.symm hp
  rel := fun {vs us zs ws} r rz => by
    have e1 := r.length
    have e2 := rz.length
    by_cases c : us.length = m ∧ ws.length = n
    · rw [kwG_of c.1 c.2, kwG_of (e1.trans c.1) (e2.trans c.2)]
      exact r.append rz
    · unfold kwG
      rw [if_neg c, if_neg (by rw [e1, e2]; exact c)]
      exact .nil
theorem kbindsF {K : PySem.W.Frag} {x qual : Str} {st : Stmt} {f : Addr} {fd : FuncData} {ps ks : List Str} {m n : Nat} (F : Fun K x qual st f fd) (hp : ps.length ≠ 0)
    (h : ∀ (kV doc pm : Value) (an : Option Addr) (cdv ct : Value) (us ws : List Value), us.length = m → ws.length = n → bindArgs (PySem.W.fnOf x qual (defArgs st) (defBody st) (defScope st) .none kV doc pm an cdv ct) ⟨us, ks.zip ws⟩ = pure (ps.zip (us ++ ws))) :
    KBinds K fd ps ks (kwG m n) (kwG m n) := by
  obtain ⟨oc, od, kV, doc, pm, an, cdv, ct, osl, rfl, lk, hcd⟩ := F.ex
  exact kw_binds hp fun s us ws h1 h2 => .of_eq (h kV doc pm an cdv ct us ws h1 h2)
end Z

namespace Z
open PySem PySem.Spec PyProof.Rows L2
/-! exceptions of own classes, whose __init__ stores one field, as values -/
/-- what such a class, over a built-in one, leans on; f its __init__ -/
structure ExF (K : PySem.W.Frag) (C f : Addr) : Prop where
  mk_ : ∃ (B newId initId : String) (bmB : List Value), ExcBaseFacts B newId initId bmB ∧ PySem.W.excInitIn K C bmB newId = true
  st : ∃ (B : String) (bmB : List Value), StoreFacts B bmB "object.__setattr__" "object" ∧ PySem.W.excOver K C bmB = true
  ini : PySem.W.findIn K (.ref C) "__init__" = some (some (.ref f))
  fn : PySem.W.isFn K (.ref f) = true
  sa : PySem.W.findIn K (.ref C) "__setattr__" = some (some (.builtin "object.__setattr__"))
  hd : PySem.W.hasDictIn K C = true
  ga : PySem.W.findIn K (.ref C) "__getattribute__" = some (some (.builtin "BaseException.__getattribute__"))
  gt : PySem.W.findIn K (.ref C) "__getattr__" = some none
  sb : PySem.W.subIn K (.ref C) (.type "BaseException") = some true
  ss : PySem.W.subIn K (.ref C) (.ref C) = some true
  ty : PySem.W.typeIn K (.ref C) = some (.type "type")
  kp : PySem.W.keepIn K (.ref C) = true
  ca : PySem.W.findIn K (.ref C) "__class__" = some (some (.builtin "object.__class__"))
  cm : PySem.W.mroIn K C (.type "object") = some true
  cn : PySem.W.specialIn K (.builtin "object.__class__") "__get__" = some (some (.builtin "getset_descriptor.__get__"))
  ct : PySem.W.takesIn K (.builtin "object.__class__") = some true
section
open Builtin Builtin.ObjectAttr PySem.HandSPX
variable {prog : Program} {w : World} {A : Around} {R : Result → Shared → Prop} {s : Shared} {K : PySem.W.Frag} {a C f : Addr} {fv : Array Value} {name : Str} {tk : Tok} {v : Value}
theorem osa_first (T : ExF K C f) (X : K.In s.heap) (hx : s.heap.get? a = some { cls := .ref C, data := .fields fv }) (hn : PySem.W.findIn K (.ref C) name = some none)
    (hq : ∀ h' tk' dx, (∀ b o, b ≠ a → s.heap.get? b = some o → h'.get? b = some o) → s.heap.objs.size ≤ dx → dx ≠ a → h'.get? a = some { cls := .ref C, dict := some dx, data := .fields fv } → h'.Ns1 dx (fun y => if y = name then some v else none) →
      R (.ok (.ret .none)) { s with heap := h', toks := tk' }) : codeAny (model prog w) A (.call (.builtin "object.__setattr__") ⟨[.ref a, .str name tk, v], []⟩) R s := by
  obtain ⟨B, bmB, SF, ho⟩ := T.st
  have J : PySem.W.InstAt s.heap a { cls := .ref C, data := .fields fv } C none := ⟨hx, rfl, rfl, trivial⟩
  refine PySem.W.osa_openX SF X J ho (r := none) (by unfold PySem.W.takerIn; rw [hn]; rfl) fun b => ?_
  obtain ⟨cd, hcd, hdct⟩ := PySem.W.any_some T.hd
  have lc : PySem.W.Looks (model prog w) s.heap (classData C) cd := PySem.W.looks_clsIn X hcd
  have ne : a ≠ s.heap.objs.size := Nat.ne_of_lt (Heap.lt_size hx)
  obtain ⟨hp, g, d, t, os⟩ := s
  obtain ⟨nm, bs, mro, ns, qn, hd, sn, sb, ab, col, del⟩ := cd
  dsimp only at hdct
  subst hdct
  show wpAny _ _ (storeInOwnDict (.ref a) (.ref C) (.str name tk) name v b) _ _ _
  unfold storeInOwnDict ownDictForStores
  repeat (first | with_reducible refine store_in_new ?new ?stored | with_reducible refine wpAny_loadPart_at hx ?_ | with_reducible refine lc.at ?_ | wp_step)
  case new => exact ⟨_, #[], _, (Heap.get?_update_ne _ _ _ _ ne.symm).trans (Heap.get?_push_at rfl rfl), rfl, (fun e he => absurd he (by simp)), fun _ => rfl⟩
  case stored =>
    intro h' t' n1 sbut
    have ha : (hp.push { cls := .type "dict", data := .dict #[] }).get? a = some { cls := .ref C, data := .fields fv } := Heap.get?_push_of_some _ hx
    refine hq h' t' hp.objs.size (fun c o hc hco => ?_) (Nat.le_refl _) ne.symm ?_ n1
    · exact (sbut.2 c (Nat.ne_of_lt (Heap.lt_size hco))).trans ((Heap.get?_update_ne _ _ _ _ hc).trans (Heap.get?_push_of_some _ hco))
    · exact (sbut.2 a ne).trans (Heap.get?_update_self _ ha rfl)
end
section
variable {X : Cx} {pins : List (Addr × Obj)} {σ : L2.St} {H : Hp} {s : Shared} {a C f : Addr} {fl : Str} {y : V} {u : Value}
/-- self.fl = y in such an __init__ -/
theorem set_first {Q : Unit → Shared → Prop} {E : Value → Shared → Prop} {A : Around} (T : ExF X.K C f) (I : Inv X pins σ H s) (e : H a = some (exo a C none)) (hn : PySem.W.findIn X.K (.ref C) fl = some none) (ry : RelV y u)
    (h : ∀ dx s', H dx = none → dx ≠ a → Inv X pins σ (L2.upd (L2.upd H dx (exd dx [(fl, y)])) a (exo a C (some dx))) s' → Q () s') : wpAny (model X.prog X.w) A (setAttr (.ref a) fl u) Q E s := by
  obtain ⟨t1, ho⟩ := exo_at I.hok e
  refine PySem.W.set_plain I.kIn (ox := { cls := .ref C, dict := none, data := .fields #[.ref t1, .none, .none, .none, .bool false, .none] }) (od := none) ⟨ho, rfl, rfl, trivial⟩ T.sa ?_
  refine osa_first (s := { s with toks := s.toks + 1 }) T I.kIn ho hn fun h' tk' dx keep dn dne hx n1 => ?_
  have free : H dx = none := I.hok.fresh dn
  have away : ∀ {b : Addr}, H b = none → b ≠ a := fun z q => by
    rw [q, e] at z; cases z
  have older : ∀ {b : Addr} {o : Obj}, s.heap.get? b = some o → b ≠ dx := fun q => Nat.ne_of_lt (Nat.lt_of_lt_of_le (Heap.lt_size q) dn)
  have other : ∀ {b : Addr} {o : HO}, H b = some o → o ≠ exo a C none → b ≠ a := fun q z r => by
    rw [r, e] at q; exact z (Option.some.inj q).symm
  have U : Un X.fs [] H (L2.upd (L2.upd H dx (exd dx [(fl, y)])) a (exo a C (some dx))) s.heap h' := by
    constructor
    · exact fun b o q z _ _ => keep b o (away z) q
    · exact fun b o q z _ _ => ⟨_, keep b o (away z) q⟩
    · intro b o q z _
      rw [upd_ne (away z), upd_ne (older q)]; exact z
    · intro b o q _
      by_cases r : b = a
      · subst r; exact ⟨_, hx⟩
      · exact ⟨_, keep b o r q⟩
    · intro b xs q
      rw [upd_ne (other q fun z => exo_tup z.symm), upd_ne (ne_of_none q free)]; exact q
    · intro b o v q
      rw [upd_ne (other q fun z => exo_frz z.symm), upd_ne (ne_of_none q free)]; exact q
    · intro b ps q
      refine ⟨#[], ?_⟩
      rw [upd_ne (other q fun z => exo_tbl z.symm), upd_ne (ne_of_none q free), q]; simp
  refine h dx _ free dne (I.un (t' := tk') U fun b o q => ?_)
  by_cases r : b = a
  · subst r
    rw [upd_same] at q
    cases q
    exact exo_ok hx
  rw [upd_ne r] at q
  by_cases r2 : b = dx
  · subst r2
    rw [upd_same] at q
    cases q
    exact exd_ok n1 (relO_put (fs := []) ry fun g => True.intro)
  rw [upd_ne r2] at q
  refine (I.hok b o q).stay (fun c v hc z => keep c v ?_ z) (fun c hc => ?_) fun c xs hc => ?_
  · rcases hc with hc | hc
    · rw [hc]; exact r
    · exact other hc fun z => exo_own z.symm
  · rw [upd_ne (other hc fun z => exo_own z.symm), upd_ne (ne_of_none hc free)]; exact hc
  · rw [upd_ne (other hc fun z => exo_tup z.symm), upd_ne (ne_of_none hc free)]; exact hc
/-- such an exception, read -/
theorem exv_at (T : ExF X.K C f) (I : Inv X pins σ H s) {d : Addr} {fs : List (Str × V)} (ea : H a = some (exo a C (some d))) (ed : H d = some (exd d fs)) :
    ∃ ox od, PySem.W.InstAt s.heap a ox C (some od) ∧ ∀ n v, fs.lookup n = some v → ∃ u, PySem.W.lookIn n od = some (some u) ∧ RelV v u := by
  obtain ⟨t1, ho⟩ := exo_at I.hok ea
  obtain ⟨mA, hns, hr⟩ := exd_at I.hok ed
  obtain ⟨od, hod, hl⟩ := lookIn_ns hns
  refine ⟨_, od, ⟨ho, rfl, rfl, hod⟩, fun n v l => ?_⟩
  obtain ⟨u, hu, ru⟩ := RelO.some_of (v := v) (o := mA n) (by rw [← l]; exact hr n)
  exact ⟨u, by rw [hl, hu], ru⟩
end
def xstR (K : PySem.W.Frag) (fl : Str) (y x : V) (H : Hp) (N : Hp → Prop) : Prop := ∃ a C f, x = .ref a ∧ ExF K C f ∧ PySem.W.findIn K (.ref C) fl = some none ∧ H a = some (exo a C none) ∧
  ∀ dx, H dx = none → dx ≠ a → N (L2.upd (L2.upd H dx (exd dx [(fl, y)])) a (exo a C (some dx)))
def tXst (K : PySem.W.Frag) (fl : Str) (to te : TE) : TS := fun D σ H => te σ H fun y H1 => to σ H1 fun x H2 => xstR K fl y x H2 (D.nx σ)
def xvR (K : PySem.W.Frag) (n : Str) (x : V) (H : Hp) (Q : VK) : Prop := ∃ a C f d fs v, x = .ref a ∧ ExF K C f ∧ PySem.W.findIn K (.ref C) n = some none ∧ H a = some (exo a C (some d)) ∧ H d = some (exd d fs) ∧ fs.lookup n = some v ∧ Q v H
def tXv (K : PySem.W.Frag) (n : Str) (te : TE) : TE := fun σ H Q => te σ H fun x H1 => xvR K n x H1 Q
/-- C(e, ..), a new exception -/
def exI (C : Addr) (sp : Sp) (vs : List V) (H : Hp) (Q : VK) : Prop := vs.length ≤ 1000 ∧ ∀ a, H a = none → sp (.ref a :: vs) (L2.upd H a (exo a C none)) (fun v H2 => v = .non ∧ Q (.ref a) H2) E0
def tExv (C : Addr) (sp : Sp) (t : TA) : TE := fun σ H Q => t σ H fun vs H1 => exI C sp vs H1 Q
def rIsX (K : PySem.W.Frag) : List V → Hp → VK → Prop := fun xs H Q => ∃ a C f d fs c u b, xs = [.ref a, c] ∧ ClsV c u ∧ ExF K C f ∧ H a = some (exo a C (some d)) ∧ H d = some (exd d fs) ∧ PySem.W.kitOne K (.ref C) u = some b ∧ Q (.bl b) H
section
variable {X : Cx} {o e : Expr} {es : List Expr} {to te : TE} {ta : TA} {fl n x : Str} {p p' pos : Pos} {k : Nat} {C f : Addr} {fd : FuncData} {ps : List Str} {sp : Sp}
theorem ps_xst (ho : PE X o to) (he : PE X e te) (hs : swapsWith e (some (.Attribute o fl p')) pos.line X.env = pure false := by rfl) : PS X (.Assign [.Attribute o fl p'] e pos) (tXst X.K fl to te) := by
  refine ⟨fun pins s σ H D I h => ?_⟩
  refine plainObj_wpAny_Assign_Attribute (thn (he.run pins s σ H _ I h) fun v s1 ⟨y, H1, I1, r1, q1⟩ => thn (ho.run pins s1 σ H1 _ I1 q1) fun u s2 z => ?_) hs
  obtain ⟨x, H2, I2, r2, a, C, f, rfl, T, hn, ea, q⟩ := z
  cases (show u = Value.ref a from r2)
  exact set_first T I2 ea hn r1 fun dx s' n1 n2 J => ⟨σ, _, J, q dx n1 n2⟩
theorem pe_xv (he : PE X e te) (hb : attributeBase e n X.env (eval e X.env) = eval e X.env := by rfl) : PE X (.Attribute e n pos) (tXv X.K n te) := by
  refine ⟨fun pins s σ H Q I h => ?_⟩
  refine attr_of hb (thn (he.run pins s σ H _ I h) fun u s1 z => ?_)
  obtain ⟨x, H1, I1, rx, a, C, f, d, fs, v, rfl, T, hn, ea, ed, l, q⟩ := z
  cases (show u = Value.ref a from rx)
  obtain ⟨ox, od, J, look⟩ := exv_at T I1 ea ed
  obtain ⟨u, hu, ru⟩ := look n v l
  exact HandSPX.exc_get I1.kIn J T.ga T.gt T.sb (PySem.W.findObj_own T.hd hn rfl hu) (handed_of ru) ⟨v, H1, I1.tok _, ru, q⟩
theorem pe_exv (T : ExF X.K C f) (F : FnOk X.prog X.w X.K X.mg X.base CX0 k f fd ps sp) (hr : Room (k + 1) X.A) (hg : Gl X x) (hm : X.mg x = some (.ref C)) (hb : Binds X.K fd ps []) (ha : PA X (e :: es) ta)
    (hdb : (x == ("__debug__" : Str)) = false := by decide) (he : starEach (e :: es) X.env = (false, eval e X.env) :: starEach es X.env := by rfl) (hpl : (backTo pos (starEach es X.env)).any (·.1) = false := by rfl) :
    PE X (.Call (.Name x p) (e :: es) [] pos) (tExv C sp ta) := by
  refine ⟨fun pins s σ H Q I h => ?_⟩
  refine wpAny_Call_Name_kw (ld_glob I hg hm ?_ hdb)
  refine PySem.W.callWith_K (h₀ := X.base) I.ok.mod.kin T.kp (thn (ha.run pos pins s σ H _ I h) fun us s1 z => ?_) he hpl
  obtain ⟨vs, H1, I1, r1, hz, q1⟩ := z
  refine ⟨I1.kIn, ?_⟩
  obtain ⟨B, newId, initId, bmB, FB, hin⟩ := T.mk_
  obtain ⟨nm, N, qn, bs, bm, hdct, sn, sub, ab, col, dd, k0, k1, k2, k3, k5, hC, hT⟩ := PySem.W.excInit_of I1.kIn hin
  show wpAny _ _ (call (.ref C) us) _ _ _
  obtain ⟨hp, g, dr, tk, os⟩ := s1
  have up : hp.objs.size ≤ hp.objs.size + 1 := Nat.le_succ _
  have hq := q1 (hp.objs.size + 1) (I1.hok.fresh up)
  have keep : ∀ b o, hp.get? b = some o → ((hp.push (PySem.W.kdv_tup us)).push (PySem.HandSPX.excO C hp.objs.size)).get? b = some o := fun b o z => Heap.get?_push_of_some _ (Heap.get?_push_of_some _ z)
  have there : ((hp.push (PySem.W.kdv_tup us)).push (PySem.HandSPX.excO C hp.objs.size)).get? (hp.objs.size + 1) = some (PySem.HandSPX.excO C hp.objs.size) := by heap_get
  have I2 : Inv X pins σ (L2.upd H1 (hp.objs.size + 1) (exo (hp.objs.size + 1) C none)) ⟨(hp.push (PySem.W.kdv_tup us)).push (PySem.HandSPX.excO C hp.objs.size), g, dr, tk, os⟩ := I1.laid (t' := tk) keep up (exo_ok there)
  have r2 : Vals (V.ref (hp.objs.size + 1) :: vs) (Value.ref (hp.objs.size + 1) :: us) := .cons rfl r1
  have lus : us.length ≤ sizeLine := by
    rw [← Paired.length r1, sizeLine_eq]; omega
  have lps : (Value.ref (hp.objs.size + 1) :: us ++ []).length = ps.length := by
    have z := r2.length
    rw [F.len _ _ _ _ hq] at z
    rw [List.append_nil]; exact z.symm
  refine wpAny_call (PySem.HandSPX.call_own FB hT hC (PySem.W.looks_findIn I1.kIn T.ini) (fun self => PySem.W.bind_fn I1.kIn self (beq_iff_eq.mp T.fn)) lus
    (codeAny_mono (F.run _ X.stack _ _ ⟨Value.ref (hp.objs.size + 1) :: us, []⟩ (Value.ref (hp.objs.size + 1) :: us) _ _ E0 (hr.make C us []) (I2.env0.make C us []) (by
      have z := hb _ (Value.ref (hp.objs.size + 1) :: us) I2.kIn lps
      rw [List.append_nil] at z
      exact z) r2 hq) fun r s' z => ?_))
  cases r with
  | error x => exact z.elim
  | ok fl =>
    cases fl with
    | next => exact False.elim z
    | brk => exact False.elim z
    | cont => exact False.elim z
    | ret u =>
      obtain ⟨v, H', I3, rv, rfl, q3⟩ := I2.after z
      exact ⟨rv, ⟨V.ref (hp.objs.size + 1), H', I3, rfl, q3⟩⟩
theorem c_isX {K : PySem.W.Frag} (e : X.K = K) : CallR X (.builtin "isinstance") (rIsX K) := by
  subst e
  intro pins s σ H xs us Q I r h
  obtain ⟨a, C, f, d, fs, c, u, b, rfl, k, T, ea, ed, ek, q⟩ := h
  obtain ⟨u1, u2, rfl, r1, r2⟩ := vals2 r
  cases (show u1 = Value.ref a from r1)
  have e2 := k.eq r2
  subst e2
  obtain ⟨ox, od, J, _⟩ := exv_at T I ea ed
  exact PySem.W.kia_one (PySem.W.kitx_exc (by obtain ⟨cd, z, _⟩ := PySem.W.any_some T.hd; rw [z]; rfl) T.ga T.gt T.sb T.ca T.cn T.ct T.cm) I.kIn J ek (fun z => nomatch z) fun tk => ⟨.bl b, H, I.kept (t' := tk) fun _ _ z => z, rfl, q⟩
end
section
variable {K : PySem.W.Frag} {σ : L2.St} {H : Hp} {Q : VK} {D : Ends} {to te : TE} {ta : TA} {fl n : Str} {y v : V} {a C f d : Addr} {fs : List (Str × V)} {sp : Sp} {vs : List V}
theorem r_xst (h : te σ H fun y H1 => to σ H1 fun x H2 => xstR K fl y x H2 (D.nx σ)) : tXst K fl to te D σ H := h
theorem r_xstV {N : Hp → Prop} (T : ExF K C f) (hn : PySem.W.findIn K (.ref C) fl = some none) (e : H a = some (exo a C none))
    (h : ∀ dx H1, H dx = none → But a H H1 → H1 a = some (exo a C (some dx)) → H1 dx = some (exd dx [(fl, y)]) → N H1) : xstR K fl y (.ref a) H N :=
  ⟨a, C, f, rfl, T, hn, e, fun dx n1 n2 => h dx _ n1 (fun b o nb q => by rw [upd_ne nb, upd_ne (ne_of_none q n1)]; exact q) upd_same (by rw [upd_ne n2, upd_same])⟩
theorem r_xv (h : te σ H fun x H1 => xvR K n x H1 Q) : tXv K n te σ H Q := h
theorem r_xvV (T : ExF K C f) (hn : PySem.W.findIn K (.ref C) n = some none) (ea : H a = some (exo a C (some d))) (ed : H d = some (exd d fs)) (l : fs.lookup n = some v) (q : Q v H) : xvR K n (.ref a) H Q := ⟨a, C, f, d, fs, v, rfl, T, hn, ea, ed, l, q⟩
theorem r_exv (h : ta σ H fun vs H1 => exI C sp vs H1 Q) : tExv C sp ta σ H Q := h
theorem r_isX {u : Value} {c : V} {b : Bool} (k : ClsV c u) (T : ExF K C f) (ea : H a = some (exo a C (some d))) (ed : H d = some (exd d fs)) (ek : PySem.W.kitOne K (.ref C) u = some b) (q : Q (.bl b) H) : rIsX K [.ref a, c] H Q := ⟨a, C, f, d, fs, c, u, b, rfl, k, T, ea, ed, ek, q⟩
end
end Z
namespace Z
open PySem PySem.Spec PyProof.Rows L2
/-- one + other of two instances of a class -/
structure AddF (K : PySem.W.Frag) (C f : Addr) : Prop where
  sf : PySem.W.selfFirst K C = true
  at_ : PySem.W.findIn K (.ref C) (PySem.dunder "add") = some (some (.ref f))
  fn : PySem.W.isFn K (.ref f) = true
end Z
/-! {x:+,} of an int; ljust, rjust; the digits in groups of three -/
namespace Z
open PySem PySem.Spec PyProof.Rows L2
section
open Builtin Builtin.Float
/-- how "+," is read -/
def plusF : FormatSpec := { align := 62, sign := some 43, grouping := some ',' }
theorem plus_read : parseFormatSpec ("+," : Str).cps.toList "int" 62 = .ok plusF := by kernel_rfl
def plusText (a : Int) : Str := intField' plusF (decide (a < 0)) [] ((Nat.toDigits 10 a.natAbs).map fun c => (if (100 : Nat) == 88 then c.toUpper else c).toNat) [] 3
theorem ret_text {prog : Program} {w : World} {A : Around} {R : Result → Shared → Prop} {s : Shared} {x y : Str} (e : x = y) (hq : (Made.str x).post (fun v s' => R (.ok (.ret v)) s') s) :
    wpAny (model prog w) A.in1 (retStr y) (fun fin s' => match fin with | .done f => R (.ok f) s' | .again c' => c'.quiet = true ∧ codeAny (model prog w) A c' R s') (fun e s' => R (.error e) s') s := by
  subst e
  unfold retStr
  exact wpAny_bind (wpAny_mkStr (wpAny_pure hq.2) hq.1)
theorem gives_plus (a : Int) (t u : Tok) (h : a.natAbs.log2 < 1920) : Gives (Builtin.«int.__format__» ⟨[.int a t, .str "+," u], []⟩) (.str (plusText a)) := by
  intro prog w A R s hq
  have ne : ((("+," : Str).length == 0)) = false := by decide +kernel
  have asc : (((("+," : Str)).cps.toList.drop 1).any (· ≥ 128) || ((("+," : Str)).cps.getD 0 0 ≥ 128 && !([60, 62, 61, 94] : List Nat).contains ((("+," : Str)).cps.getD 1 0))) = false := by decide +kernel
  unfold Builtin.«int.__format__»
  simp only [selfAndOne, noKeywords, Builtin.Int.intOfSelf, asInt?, asStr?, List.isEmpty_nil, if_true, pure_bind, bind_pure, bind_assoc, ne, asc, Bool.false_eq_true, if_false, show (Value.str ("+," : Str) u == Value.none) = false from rfl]
  refine wpAny_bind (wpAny_typeNameOf (T := "str") (typeIs_str _ _ _) (by decide) fun _ => ?_)
  refine wpAny_bind (wpAny_typeNameOfCut_int ?_)
  have hty : plusF.type.getD (if ("+," : Str).cps.back? == some 0 then 0 else 100) = 100 := by decide +kernel
  simp only [plus_read, hty]
  rw [if_pos]
  case hc => decide
  conv => arg 3; whnf
  rw [PySem.overDigitLimit_small h]
  refine wpAny_bind (m := (pure none : Sem (Option Nat))) (wpAny_pure ?_)
  conv => arg 3; whnf
  refine ret_text (x := plusText a) ?txt hq
  case txt => kernel_rfl
/-- groups of three, put ahead of F one by one -/
def grp : Nat → List Nat → List Nat → List Nat
  | 0, ds, F => ds ++ F
  | k + 1, ds, F => if 3 < ds.length then grp k (ds.take (ds.length - 3)) (44 :: (ds.drop (ds.length - 3) ++ F)) else ds ++ F
theorem rev_take {ds : List Nat} (n : Nat) : (ds.reverse.take n).reverse = ds.drop (ds.length - n) := by
  rw [List.take_reverse, List.reverse_reverse]
theorem rev_drop {ds : List Nat} (n : Nat) : ds.reverse.drop n = (ds.take (ds.length - n)).reverse := by
  rw [List.drop_reverse]
theorem grp_end {k : Nat} {ds F : List Nat} (h : ds.length ≤ 3) : grp k ds F = ds ++ F := by
  cases k with
  | zero => rfl
  | succ k => show (if 3 < ds.length then _ else _) = _; rw [if_neg (by omega)]
theorem groups_grp : ∀ (k : Nat) (ds F : List Nat) (room : Int), ds.length ≤ k → 1 ≤ ds.length → room ≤ 0 → groupsFromRight' 3 44 (k + 1) ds.reverse room F = grp k ds F
  | 0, ds, F, room, h1, h2, _ => by omega
  | k + 1, ds, F, room, h1, h2, h3 => by
    have e1 : ∀ m : Nat, 1 ≤ m → (max (max (m : Int) room) 1).toNat = m := fun m hm => by omega
    by_cases c : 3 < ds.length
    · have n3 : min 3 ds.length = 3 := by omega
      have ih := groups_grp k (ds.take (ds.length - 3)) (44 :: (ds.drop (ds.length - 3) ++ F)) (room - (3 : Nat) - 1) (by rw [List.length_take]; omega) (by rw [List.length_take]; omega) (by omega)
      show _ = (if 3 < ds.length then _ else _)
      rw [if_pos c, ← ih]
      rw [groupsFromRight']
      simp only [List.length_reverse, e1 _ h2, n3]
      have z : (ds.reverse.drop 3).isEmpty = false := by
        rw [rev_drop]
        cases q : (ds.take (ds.length - 3)).reverse with
        | nil =>
          have := congrArg List.length q
          rw [List.length_reverse, List.length_take] at this
          simp at this
          omega
        | cons _ _ => rfl
      rw [z, Bool.false_and, if_neg Bool.false_ne_true, rev_drop, rev_take, show 3 - ds.length = 0 by omega]
      rfl
    · have n3 : min 3 ds.length = ds.length := by omega
      rw [grp_end (by omega)]
      rw [groupsFromRight']
      simp only [List.length_reverse, e1 _ h2, n3]
      have z : (ds.reverse.drop ds.length).isEmpty = true := by
        rw [List.drop_eq_nil_of_le (by rw [List.length_reverse]; exact Nat.le_refl _)]; rfl
      rw [z, Bool.true_and, if_pos (decide_eq_true (by omega)), rev_take, Nat.sub_self, List.drop_zero]
      simp
def digs (a : Int) : List Nat := (Nat.toDigits 10 a.natAbs).map Char.toNat
theorem digs_pos (a : Int) : 1 ≤ (digs a).length := by
  unfold digs
  rw [List.length_map]
  exact tDigits_len_ge 10 a.natAbs
theorem plus_text (a : Int) : plusText a = ⟨((if a < 0 then [45] else [43]) ++ grp (digs a).length (digs a) []).toArray⟩ := by
  have e : ((Nat.toDigits 10 a.natAbs).map fun c => (if (100 : Nat) == 88 then c.toUpper else c).toNat) = digs a := rfl
  unfold plusText
  rw [e]
  have ne : (digs a).isEmpty = false := by
    have := digs_pos a
    cases h : digs a with
    | nil => rw [h] at this; simp at this
    | cons _ _ => rfl
  have g := groups_grp (digs a).length (digs a) [] 0 (Nat.le_refl _) (digs_pos a) (Int.le_refl 0)
  unfold intField'
  rw [ne]
  show (⟨(List.replicate _ _ ++ _ ++ [] ++ List.replicate 0 _ ++ groupsFromRight' 3 44 ((digs a).length + 0 + 1) (digs a).reverse 0 [] ++ [] ++ List.replicate 0 _).toArray⟩ : Str) = _
  rw [g]
  by_cases c : a < 0
  · rw [decide_eq_true c]
    simp [c, plusF]
    rfl
  · rw [decide_eq_false c]
    simp [c, plusF]
    rfl
theorem digs_text (m : Nat) : Str.ofString (toString ((m : Nat) : Int)) = ⟨(digs ((m : Nat) : Int)).toArray⟩ := text_ofNat m
theorem grp_len : ∀ (k : Nat) (ds F : List Nat), ds.length ≤ k → (grp k ds F).length ≤ 2 * ds.length + F.length
  | 0, ds, F, h => by show (ds ++ F).length ≤ _; rw [List.length_append]; omega
  | k + 1, ds, F, h => by
    by_cases c : 3 < ds.length
    · show (if 3 < ds.length then _ else _ : List Nat).length ≤ _
      rw [if_pos c]
      have ih := grp_len k (ds.take (ds.length - 3)) (44 :: (ds.drop (ds.length - 3) ++ F)) (by rw [List.length_take]; omega)
      rw [List.length_take, List.length_cons, List.length_append, List.length_drop] at ih
      omega
    · rw [grp_end (by omega), List.length_append]; omega
theorem digs_len {a : Int} (h : a.natAbs < 10 ^ 246) : (digs a).length ≤ 246 := by
  unfold digs
  rw [List.length_map]
  exact digits10_le (by decide) h
theorem plus_len {a : Int} (h : a.natAbs < 10 ^ 246) : (plusText a).length ≤ 600 := by
  rw [plus_text]
  have h1 := grp_len (digs a).length (digs a) [] (Nat.le_refl _)
  have h2 := digs_len h
  show (((if a < 0 then [45] else [43] : List Nat) ++ grp (digs a).length (digs a) []).toArray).size ≤ 600
  rw [List.size_toArray, List.length_append]
  have h3 : (if a < 0 then [45] else [43] : List Nat).length = 1 := by split <;> rfl
  rw [h3]
  simp only [List.length_nil] at h1
  omega
end
section
variable {X : Cx} {e sp : Expr} {te : TE} {pos : Pos} {σ : L2.St} {H : Hp} {Q : VK}
/-- {x:+,} -/
def fpR (Q : VK) : VK := fun x H1 => ∃ i : Int, x = .int i ∧ i.natAbs.log2 < 1920 ∧ (plusText i).length ≤ sizeLine ∧ Q (.str (plusText i)) H1
def tFmtP (te : TE) : TE := fun σ H Q => te σ H (fpR Q)
theorem pe_fmtP (he : PE X e te) (hs : PE X sp (tC (.str "+,"))) : PE X (.FormattedValue e (-1) (some sp) pos) (tFmtP te) := by
  refine ⟨fun pins s σ H Q I h => ?_⟩
  refine wpAny_FormattedValue_spec (thn (he.run pins s σ H _ I h) fun v s1 z => ?_)
  obtain ⟨x, H1, I1, r1, i, rfl, h1, h2, q⟩ := z
  obtain ⟨t, rfl⟩ := r1
  refine thn (hs.run pins s1 σ H1 (fun y H2 => y = .str "+," ∧ H2 = H1) I1 ⟨rfl, rfl⟩) fun u s2 y => ?_
  obtain ⟨y, H2, I2, r2, rfl, rfl⟩ := y
  obtain ⟨t2, rfl⟩ := r2
  refine ⟨_, _, rfl, wpAny_formatField_spec (by decide +kernel) (fun s' => typeIs_int s' i t) slot_int_format entry_int_format args_int_format (fun u => gives_plus i t u h1) ⟨.str (plusText i), H2, I2.tok _, ⟨_, rfl⟩, q⟩ (by decide +kernel) h2⟩
theorem r_fmtP (h : te σ H (fpR Q)) : tFmtP te σ H Q := h
theorem r_fpR {i : Int} (h1 : i.natAbs.log2 < 1920) (h2 : (plusText i).length ≤ sizeLine) (q : Q (.str (plusText i)) H) : fpR Q (.int i) H := ⟨i, rfl, h1, h2, q⟩
def rLjust (x : V) (xs : List V) (H : Hp) (Q : VK) : Prop := ∃ (a : Str) (i : Int), x = .str a ∧ xs = [.int i] ∧ PadOk i = true ∧ Q (.str (Txt.ljust a i)) H
def rRjust (x : V) (xs : List V) (H : Hp) (Q : VK) : Prop := ∃ (a : Str) (i : Int), x = .str a ∧ xs = [.int i] ∧ PadOk i = true ∧ Q (.str (Txt.rjust a i)) H
theorem m_ljust : MtR X "str.ljust" rLjust := mt_ljust
theorem m_rjust : MtR X "str.rjust" rRjust := mt_rjust
theorem r_ljust {a : Str} {i : Int} (h : PadOk i = true) (q : Q (.str (Txt.ljust a i)) H) : rLjust (.str a) [.int i] H Q := ⟨a, i, rfl, rfl, h, q⟩
theorem r_rjust {a : Str} {i : Int} (h : PadOk i = true) (q : Q (.str (Txt.rjust a i)) H) : rRjust (.str a) [.int i] H Q := ⟨a, i, rfl, rfl, h, q⟩
theorem r_slS {z : Str} {lo hi : Option Int} (l : z.length ≤ sizeLine) (q : Q (.str (cutS z lo hi)) H) : rSlS (.str z) lo hi H Q := ⟨z, rfl, l, q⟩
theorem r_star {K : PySem.W.Frag} {A : TA} {N : List V → Hp → Prop} {p : Addr} {xs : List V} (e : SqT K H p xs ∨ SqL K H p xs) (h : A σ H fun ys H2 => N (xs ++ ys) H2) : ∃ p' xs', V.ref p = V.ref p' ∧ (SqT K H p' xs' ∨ SqL K H p' xs') ∧ A σ H fun ys H2 => N (xs' ++ ys) H2 := ⟨p, xs, rfl, e, h⟩
theorem r_starA {K : PySem.W.Frag} {A : TA} {N : List V → Hp → Prop} (h : te σ H fun x H1 => ∃ p xs, x = V.ref p ∧ (SqT K H1 p xs ∨ SqL K H1 p xs) ∧ A σ H1 fun ys H2 => N (xs ++ ys) H2) : StX.tStar K te A σ H N := h
theorem r_while {c : TT} {tb : TS} {D : Ends} (h : ∃ W : Nat → L2.St → Hp → Prop, (∃ m, W m σ H) ∧ ∀ m σ H, W m σ H →
    c σ H fun b H1 => if b = true then ∃ N : L2.St → Hp → Prop, (∀ σ' H', N σ' H' → ∃ m', m' < m ∧ W m' σ' H') ∧ tb { D with nx := N, ct := N, bk := D.nx } σ H1 else D.nx σ H1) : tWhile c tb D σ H := h
end
section
variable {X : Cx} {K : PySem.W.Frag} {o e : Expr} {es : List Expr} {to : TE} {t : TA} {T : String} {name : Str} {id : String} {r : V → List V → Hp → VK → Prop} {apos cpos : Pos}
/-- o.name(e, ..), at any place -/
theorem pe_bmK (eK : X.K = K) (pa : PlainAttrs T) (slot : Slot T name id) (hty : typeOf (.builtin id) = pure (.type "method_descriptor")) (hm : MtR X id r) (ho : PE X o to) (ha : PA X (e :: es) t) (hbase : attributeBase o name X.env (eval o X.env) = eval o X.env := by rfl)
    (few : ((backTo cpos (starEach (e :: es) X.env)).all (fun x => !x.1) && (backToKw cpos (keywordEach [] X.env)).all (fun x => x.1.isSome) && decide ((e :: es).length + ([] : List Keyword).length + (if ([] : List Keyword).isEmpty then 0 else 1) < 30)) = true := by rfl)
    (line : (apos.endLine == cpos.line) = true := by rfl) (one : starEach (e :: es) X.env = (false, eval e X.env) :: starEach es X.env := by rfl) (plain : (backTo cpos (starEach es X.env)).any (·.1) = false := by rfl) :
    PE X (.Call (.Attribute o name apos) (e :: es) [] cpos) (tBM K T r to t) := eK ▸ pe_bm pa slot hty hm ho ha hbase few line one plain
end
section
variable {K : PySem.W.Frag} {σ : L2.St} {H : Hp} {Q : VK} {to : TE} {t : TA} {r : V → List V → Hp → VK → Prop}
theorem r_bmS (h : to σ H fun x H1 => tyV K "str" x H1 ∧ t σ H1 fun xs H2 => r x xs H2 Q) : tBM K "str" r to t σ H Q := h
theorem r_tyS {z : Str} {P : Prop} (h : P) : tyV K "str" (.str z) H ∧ P := ⟨rfl, h⟩
end
end Z

/-! rules for the reading of programs: errors without an __init__, written dicts, stores that add, defaults -/
namespace Z
open PySem PySem.Spec PyProof.Rows L2
/-- an own error, over a built-in one, without an __init__ of its own -/
structure ExP (K : PySem.W.Frag) (C : Addr) : Prop where
  mk_ : ∃ (B newId initId : String) (bmB : List Value), ExcBaseFacts B newId initId bmB ∧ PySem.W.excIn K C bmB newId = true
  kp : PySem.W.keepIn K (.ref C) = true
  sb : PySem.W.subIn K (.ref C) (.type "BaseException") = some true
  ty : PySem.W.typeIn K (.ref C) = some (.type "type")
  hd : PySem.W.hasDictIn K C = true
  ss : PySem.W.subIn K (.ref C) (.ref C) = some true
theorem exm_plain {K : PySem.W.Frag} {C : Addr} (T : ExP K C) : PySem.W.exmOne K (.ref C) (.ref C) = some true := PySem.W.exm_ref T.sb T.hd T.ty T.ss
def tMkP (C : Addr) (ta : TE) : L2.St → Hp → (Value → Option Addr → Hp → Prop) → Prop := fun σ H Q => ta σ H fun _ H1 => Q (.ref C) none H1
section
variable {X : Cx} {C : Addr} {x : Str} {e : Expr} {ta : TE} {p pos : Pos}
theorem pmk_plainN (T : ExP X.K C) (gC : X.mg x = some (.ref C)) (hg : Gl X x) (he : PE X e ta) (hs : starEach [e] X.env = (false, eval e X.env) :: starEach [] X.env := by rfl) (hdb : (x == ("__debug__" : Str)) = false := by decide) :
    L2N.PMk X (.Call (.Name x p) [e] [] pos) (tMkP C ta) := by
  obtain ⟨B, newId, initId, bmB, F, q⟩ := T.mk_
  intro pins s σ H Q I h
  refine wpAny_Call_Name_kw (ld_glob I hg gC ?_ hdb)
  refine PySem.W.callWith_K (h₀ := X.base) I.ok.mod.kin T.kp ?_ hs (by rfl)
  rw [hs]
  show wpAny _ _ (spliced ((false, eval e X.env) :: backTo pos (starEach [] X.env))) _ _ s
  refine Calls.spliced_cons (thn (he.run pins s σ H _ I h) fun u s1 ⟨v, H1, I1, r1, q1⟩ => ?_)
  refine Calls.spliced_nil ⟨I1.kIn, ?_⟩
  show wpAny _ _ (call (.ref C) [u]) _ _ _
  obtain ⟨bm, N, nm, qn, bs, hdct, sn, sub, ab, col, dd, k0, k1, k2, k3, k5, mN, hC, hN, hni, TT⟩ := exc_obj I1.kIn q
  refine wpAny_call_exc_subT F TT hC hN hni (fun h' e hm => ?_) (by show 1 ≤ sizeLine; rw [sizeLine_eq]; omega)
  exact L2N.mk_of I1 hm (raises_own T.sb T.ty) q1 (I1.hok.gone hm.new)
end
section
variable {σ : L2.St} {H : Hp} {C : Addr} {ta : TE} {M : Value → Option Addr → Hp → Prop}
theorem r_mkP (h : ta σ H fun _ H1 => M (.ref C) none H1) : tMkP C ta σ H M := h
end
/-! a written dict with texts as keys -/
structure KD (K : PySem.W.Frag) (w : World) (a : Addr) (kvs : List (Str × V)) : Prop where
  ex : ∃ es n, K.lookup a = some ⟨.type "dict", none, .dict es n, #[]⟩ ∧ PySem.W.KeysLit w.params es.toList ∧ Paired (fun (e : DictEntry) (kv : Str × V) => (∃ t, e.key = .str kv.1 t) ∧ RelV kv.2 e.val) es.toList kvs
  low : (a == sysModules) = false
theorem kd_find {es : List DictEntry} {kvs : List (Str × V)} (h : Paired (fun (e : DictEntry) (kv : Str × V) => (∃ t, e.key = .str kv.1 t) ∧ RelV kv.2 e.val) es kvs) (z : Str) :
    (∀ v, kvs.lookup z = some v → ∃ e, es.find? (·.key.isStr z) = some e ∧ RelV v e.val) ∧ (kvs.lookup z = none → es.find? (·.key.isStr z) = none) ∧ es.any (·.refKey) = false := by
  induction h with
  | nil => exact ⟨nofun, fun _ => rfl, rfl⟩
  | @cons e kv es kvs h _ ih =>
    obtain ⟨⟨t, ek⟩, r⟩ := h
    obtain ⟨i1, i2, i3⟩ := ih
    obtain ⟨k, v0⟩ := kv
    have ek : e.key = .str k t := ek
    have hs : e.key.isStr z = decide (z = k) := by
      rw [ek]
      show (k == z) = _
      by_cases c : z = k
      · subst c; simp
      · have : ¬ k = z := fun h => c h.symm
        simp [c, this]
    have rk : e.refKey = false := by
      unfold DictEntry.refKey; rw [ek]
    by_cases c : z = k
    · subst c
      refine ⟨fun v l => ?_, fun l => ?_, by rw [List.any_cons, rk, i3]; rfl⟩
      · rw [List.lookup_cons, beq_self_eq_true] at l
        refine ⟨e, by rw [List.find?_cons, hs, decide_eq_true rfl], ?_⟩
        rw [← Option.some.inj l]; exact r
      · rw [List.lookup_cons, beq_self_eq_true] at l; cases l
    · have cb : (z == k) = false := by simpa using c
      refine ⟨fun v l => ?_, fun l => ?_, by rw [List.any_cons, rk, i3]; rfl⟩
      · rw [List.lookup_cons, cb] at l
        rw [List.find?_cons, hs, decide_eq_false c]; exact i1 v l
      · rw [List.lookup_cons, cb] at l
        rw [List.find?_cons, hs, decide_eq_false c]; exact i2 l
theorem KD.look {K : PySem.W.Frag} {w : World} {a : Addr} {kvs : List (Str × V)} (D : KD K w a kvs) (z : Str) : ∃ es n, L2.KDict K w a es n ∧ ((∃ v u, kvs.lookup z = some v ∧ PySem.W.nsIn K a z = some (some u) ∧ RelV v u) ∨ (kvs.lookup z = none ∧ PySem.W.nsIn K a z = some none)) := by
  obtain ⟨es, n, hl, hk, hp⟩ := D.ex
  refine ⟨es, n, ⟨hl, hk, D.low⟩, ?_⟩
  obtain ⟨f1, f2, f3⟩ := kd_find hp z
  cases l : kvs.lookup z with
  | some v =>
    obtain ⟨e, h1, h2⟩ := f1 v l
    refine .inl ⟨v, e.val, rfl, ?_, h2⟩
    unfold PySem.W.nsIn
    rw [hl]
    dsimp only
    rw [h1]
  | none =>
    refine .inr ⟨rfl, ?_⟩
    unfold PySem.W.nsIn
    rw [hl]
    dsimp only
    rw [f2 l, f3]; rfl
/-- d.get(k, x), d written -/
def kgR (K : PySem.W.Frag) (w : World) (x y z : V) (H : Hp) (Q : VK) : Prop := ∃ a kvs g, x = .ref a ∧ KD K w a kvs ∧ y = .str g ∧ Q ((kvs.lookup g).getD z) H
def tKGet2 (K : PySem.W.Frag) (w : World) (td ty tx : TE) : TE := fun σ H Q => td σ H fun x H1 => (∃ a kvs, x = .ref a ∧ KD K w a kvs) ∧ ty σ H1 fun y H2 => tx σ H2 fun z H3 => kgR K w x y z H3 Q
section
variable {X : Cx} {o e f : Expr} {td ty tx : TE} {apos cpos : Pos}
theorem kd_at {pins : List (Addr × Obj)} {σ : L2.St} {H : Hp} {s : Shared} {a : Addr} {kvs : List (Str × V)} (I : Inv X pins σ H s) (D : KD X.K X.w a kvs) : s.TypeIs (.ref a) "dict" ∧ (∀ b, Value.ref a = .ref b → ∃ ob, s.heap.get? b = some ob ∧ ob.dict = none) := by
  obtain ⟨es, n, hl, hk, hp⟩ := D.ex
  refine ⟨(PySem.W.mapOf_K (prog := X.prog) (w := X.w) I.kIn hl hk).typeIs, fun b q => ?_⟩
  cases q
  exact ⟨_, I.kIn _ _ hl, rfl⟩
theorem pe_kget2 (ho : PE X o td) (he : PE X e ty) (hf : PE X f tx) (m : M2 X o "get" apos e f cpos) : PE X (.Call (.Attribute o "get" apos) [e, f] [] cpos) (tKGet2 X.K X.w td ty tx) := by
  refine ⟨fun pins s σ H Q I h => ?_⟩
  refine wpAny_Call_method m.base m.few m.line PySem.F.plainAttrs_dict PySem.F.slot_dict_get PySem.F.type_dict_get (thn (ho.run pins s σ H _ I h) fun u s1 ⟨x, H1, I1, rx, ⟨a, kvs, ex, D⟩, q1⟩ => ?_)
  subst ex
  obtain rfl : u = Value.ref a := rx
  obtain ⟨t1, t2⟩ := kd_at I1 D
  refine ⟨t1, t2, ?_⟩
  rw [m.trees]
  refine Calls.callWith_builtin rfl (Calls.evalArgs_plain (Calls.spliced_cons (thn (he.run pins s1 σ H1 _ I1 q1) fun iv s2 ⟨y, H2, I2, ry, q2⟩ =>
    Calls.spliced_cons (thn (hf.run pins s2 σ H2 _ I2 q2) fun fv s3 ⟨z, H3, I3, rz, q3⟩ => Calls.spliced_nil ?_))))
  obtain ⟨a', kvs', g, ea, D', ey, q3⟩ := q3
  cases ea
  subst ey
  obtain ⟨t, rfl⟩ := (show ∃ t, iv = Value.str g t from ry)
  obtain ⟨es, n, KDi, hh⟩ := D'.look g
  have mo := PySem.W.mapOf_K (prog := X.prog) (w := X.w) I3.kIn KDi.at_ KDi.lit
  refine call_meetsIn PySem.F.slot_dict_get mo.typeIs PySem.F.entry_dict_get (PySem.F.args_dict_get_3 _ _ _) (meets_dict_get_default (strKind X.prog X.w) a (strKind_is X.prog X.w g t) KDi.low fv) ⟨_, mo, ?_⟩
  rcases hh with ⟨v, u, l, e, r⟩ | ⟨l, e⟩
  · rw [PySem.W.find_K KDi.at_ e]
    rw [l] at q3
    exact ⟨v, H3, I3.tok _, r, q3⟩
  · rw [PySem.W.find_K KDi.at_ e]
    rw [l] at q3
    exact ⟨z, H3, I3.tok _, rz, q3⟩
end
section
variable {K : PySem.W.Frag} {w : World} {σ : L2.St} {H : Hp} {Q : VK} {td ty tx : TE} {a : Addr} {kvs : List (Str × V)} {g : Str} {z : V}
theorem r_kget2 (h : td σ H fun x H1 => (∃ a kvs, x = .ref a ∧ KD K w a kvs) ∧ ty σ H1 fun y H2 => tx σ H2 fun z H3 => kgR K w x y z H3 Q) : tKGet2 K w td ty tx σ H Q := h
theorem r_kgD {G : Prop} (D : KD K w a kvs) (h : G) : (∃ a' kvs', V.ref a = .ref a' ∧ KD K w a' kvs') ∧ G := ⟨⟨a, kvs, rfl, D⟩, h⟩
theorem r_kgR (D : KD K w a kvs) (h : Q ((kvs.lookup g).getD z) H) : kgR K w (.ref a) (.str g) z H Q := ⟨a, kvs, g, rfl, D, rfl, h⟩
end
/-- z in d, z not in d, d[z]: d written -/
def rInKD (K : PySem.W.Frag) (w : World) (f : Bool → Bool) : R2 := fun x y H Q => ∃ a kvs z, x = .str z ∧ y = .ref a ∧ KD K w a kvs ∧ Q (.bl (f (kvs.lookup z).isSome)) H
theorem o_inKD {X : Cx} {K : PySem.W.Frag} {w : World} (eK : X.K = K) (ew : X.w = w) : OpR X (compareOp .In) (rInKD K w id) := by
  subst eK ew
  intro pins s σ H x y v u Q I rx ry h
  obtain ⟨a, kvs, z, rfl, rfl, D, q⟩ := h
  obtain ⟨es, n, KDi, hh⟩ := D.look z
  refine op_in_kd KDi pins s σ H _ _ v u Q I rx ry ?_
  rcases hh with ⟨v0, u0, l, e, _⟩ | ⟨l, e⟩
  · exact ⟨z, _, rfl, rfl, e, by rw [l] at q; exact q⟩
  · exact ⟨z, _, rfl, rfl, e, by rw [l] at q; exact q⟩
theorem o_ninKD {X : Cx} {K : PySem.W.Frag} {w : World} (eK : X.K = K) (ew : X.w = w) : OpR X (compareOp .NotIn) (rInKD K w not) := by
  subst eK ew
  intro pins s σ H x y v u Q I rx ry h
  obtain ⟨a, kvs, z, rfl, rfl, D, q⟩ := h
  obtain ⟨es, n, KDi, hh⟩ := D.look z
  refine op_notIn_kd KDi pins s σ H _ _ v u Q I rx ry ?_
  rcases hh with ⟨v0, u0, l, e, _⟩ | ⟨l, e⟩
  · exact ⟨z, _, rfl, rfl, e, by rw [l] at q; exact q⟩
  · exact ⟨z, _, rfl, rfl, e, by rw [l] at q; exact q⟩
theorem r_inKD {K : PySem.W.Frag} {w : World} {f : Bool → Bool} {a : Addr} {kvs : List (Str × V)} {z : Str} {H : Hp} {Q : VK} (D : KD K w a kvs) (q : Q (.bl (f (kvs.lookup z).isSome)) H) : rInKD K w f (.str z) (.ref a) H Q := ⟨a, kvs, z, rfl, rfl, D, q⟩
theorem KD.dct {K : PySem.W.Frag} {w : World} {a : Addr} {kvs : List (Str × V)} {z : Str} {v : V} (D : KD K w a kvs) (l : kvs.lookup z = some v) : KDct K w a z v := by
  obtain ⟨es, n, KDi, hh⟩ := D.look z
  rcases hh with ⟨v0, u0, l0, e, r⟩ | ⟨l0, _⟩
  · rw [l] at l0; cases l0
    exact ⟨es, n, u0, KDi.at_, KDi.lit, e, r⟩
  · rw [l] at l0; cases l0
theorem ix_KD {X : Cx} {K : PySem.W.Frag} {w : World} (eK : X.K = K) (ew : X.w = w) : IxR X (rIxD K w) := by
  subst eK ew
  exact ix_kdict
theorem r_ixKD {K : PySem.W.Frag} {w : World} {a : Addr} {kvs : List (Str × V)} {z : Str} {v : V} {H : Hp} {Q : VK} (D : KD K w a kvs) (l : kvs.lookup z = some v) (q : Q v H) : rIxD K w (.ref a) (.str z) H Q := ⟨a, z, v, rfl, rfl, D.dct l, q⟩
section
variable {X : Cx} {K : PySem.W.Frag} {e : Expr} {ta : TE} {f : Str} {pos : Pos}
theorem pe_fldQ (eK : X.K = K) (he : PE X e ta) (hb : attributeBase e f X.env (eval e X.env) = eval e X.env := by rfl) : PE X (.Attribute e f pos) (tFld K ta f) := eK ▸ pe_fld he hb
end
def tMethAt (C : Addr) (m : Str) (sp : Sp) (E : L2.St → XK) (ta : TE) (t : TA) : TE := fun σ H Q => ta σ H fun x H1 => ∃ a dx fs, x = .ref a ∧ H1 a = some (.ins C dx fs) ∧ fs.lookup m = none ∧ t σ H1 fun vs H2 => sp ((x :: vs) ++ []) H2 Q (E σ)
section
variable {X : Cx} {CX' : CXT} {k : Nat} {C f : Addr} {fd : FuncData} {ps : List Str} {sp : Sp} {m : Str} {pos apos : Pos} {e o : Expr} {es : List Expr} {t : TA} {ta : TE} {E : L2.St → XK} {pl : Sem Bool}
theorem run_fnAt2 {pins : List (Addr × Obj)} {σ : L2.St} {H : Hp} {s : Shared} {Q : VK} {us : List Value} {vs : List V} {sp' : Sp} (F : FnR X.prog X.w X.K X.mg X.base CX' k f sp') (hr : Room k X.A) (hx : PassesAt CX' X σ (E σ)) (I : Inv X pins σ H s) (r : Vals vs us) (h : sp' vs H Q (E σ)) :
    codeAny (model X.prog X.w) X.A (.call (.ref f) ⟨us, []⟩) (fun r s' => match r with | .ok (.ret v) => EP X pins σ Q v s' | .ok _ => False | .error e => X.xe e s') s := by
  refine codeAny_mono (F X.A X.stack s H us vs Q (E σ) hr I.env0 r h) fun r s' hq => ?_
  cases r with
  | error e => exact hx pins H s e s' I hq
  | ok fl =>
    cases fl with
    | ret u => exact I.after hq
    | next => exact False.elim hq
    | brk => exact False.elim hq
    | cont => exact False.elim hq
theorem pe_methAt (he : PE X o ta) (c : Cls X.K C) (hm : Meth X.K C m f) (F : FnOk X.prog X.w X.K X.mg X.base CX' k f fd ps sp) (hr : Room k X.A) (hb : Binds X.K fd ps []) (hx : ∀ σ, PassesAt CX' X σ (E σ)) (ha : PA X (e :: es) t)
    (hst : starEach (e :: es) X.env = (false, eval e X.env) :: starEach es X.env := by rfl) (hpl : (backTo pos (starEach es X.env)).any (·.1) = false := by rfl)
    (ht : eval (.Call (.Attribute o m apos) (e :: es) [] pos) X.env = (do
      let ov ← eval o X.env
      standAt apos.atName
      let (f, first) ← holding [ov] (getMethod ov m pl)
      callWith pos f first (backTo pos (starEach (e :: es) X.env)) (backToKw pos (keywordEach [] X.env))) := by rfl) :
    PE X (.Call (.Attribute o m apos) (e :: es) [] pos) (tMethAt C m sp E ta t) := by
  refine ⟨fun pins s σ H Q I h => ?_⟩
  refine PySem.W.methodCall_KW (pl := pl) (thn (he.run pins s σ H _ I h) fun u s1 ⟨x, H1, I1, rx, a, dx, fs, ex, ea, l, q⟩ => ?_) ht
  subst ex
  obtain rfl : u = Value.ref a := rx
  refine getmeth_ok I1 ea c hm l ?_
  refine PySem.W.callWith_K (first := [.ref a]) (h₀ := X.base) I.ok.mod.kin hm.kp (thn (ha.run pos pins s1 σ H1 _ I1 q) fun us s2 ⟨vs, H2, I2, r, q2⟩ => ⟨I2.kIn, ?_⟩) hst hpl
  exact wpAny_call (run_fnAt2 (us := .ref a :: us) (vs := .ref a :: vs) (F.raw hb .nil) hr (hx σ) I2 (.cons rfl r) q2)
end
section
variable {σ : L2.St} {H : Hp} {Q : VK} {C a dx : Addr} {fs : List (Str × V)} {m : Str} {sp : Sp} {E : L2.St → XK} {ta : TE} {t : TA}
def mtAtR (C : Addr) (m : Str) (sp : Sp) (E : L2.St → XK) (t : TA) (σ : L2.St) (Q : VK) : VK := fun x H1 => ∃ a dx fs, x = .ref a ∧ H1 a = some (.ins C dx fs) ∧ fs.lookup m = none ∧ t σ H1 fun vs H2 => sp ((x :: vs) ++ []) H2 Q (E σ)
theorem r_methAt (h : ta σ H (mtAtR C m sp E t σ Q)) : tMethAt C m sp E ta t σ H Q := h
theorem r_mtAtV (e : H a = some (.ins C dx fs)) (l : fs.lookup m = none) (h : t σ H fun vs H2 => sp ((.ref a :: vs) ++ []) H2 Q (E σ)) : mtAtR C m sp E t σ Q (.ref a) H := ⟨a, dx, fs, rfl, e, l, h⟩
end
def tTryX (K : PySem.W.Frag) (c : Value) (ts : Addr → Value → Option Addr → TS) (Wout : WX) (tb : WX → TS) : TS := fun D σ H => tb (wOnly K c ts Wout D) D σ H
section
variable {X : Cx} {x : Str} {c : Value} {body suite : List Stmt} {b₀ : Stmt} {np pos pos' : Pos} {tb : WX → TS} {ts : Addr → Value → Option Addr → TS} {Wout : WX}
theorem ps_tryX (hs : X.stack = X.env :: X.outer) (hf : X.env.frame = some X.env.locals) (hc : Names X x c) (hpa : ∀ hd : Option Value, PassesOwnAt (model X.prog X.w) (X.A.mark hd) X.A X.env X.xe) (tk : L2.Takes X Wout)
    (hb : ∀ (W : WX) (pn : List (Addr × Obj)) (xe : Value → Shared → Prop), L2N.Takes (X.tr pn xe) W → L2.Takes (X.tr pn xe) (L2H.wPass X.K c Wout) → PassesOwn (model X.prog X.w) X.A X.env xe → PSs (X.tr pn xe) body (tb W))
    (hsu : ∀ (a : Addr) (oe : Obj) (cls : Value) (d : Option Addr) (pn : List (Addr × Obj)), L2N.Zn cls d oe → (∃ vs, oe.data = .fields vs) → L2.Takes (L2H.suiteX X a ((a, oe) :: pn)) Wout → L2H.HotC (L2H.suiteX X a ((a, oe) :: pn)) →
      PSs (L2H.suiteX X a ((a, oe) :: pn)) (b₀ :: suite) (ts a cls d)) :
    PS X (.Try body [.ExceptHandler (some (.Name x np)) none (b₀ :: suite) pos'] [] [] pos) (tTryX X.K c ts Wout tb) := L2H.ps_try_onlyX hs hf hc hpa tk hb hsu
theorem r_tryX {K : PySem.W.Frag} {D : Ends} {σ : L2.St} {H : Hp} (h : tb (wOnly K c ts Wout D) D σ H) : tTryX K c ts Wout tb D σ H := h
end
theorem r_mkO {C : Addr} {sp : Sp} {ta : TA} {σ : L2.St} {H : Hp} {M : XK} (h : ta σ H fun vs H1 => vs.length ≤ 1000 ∧ ∀ a, H1 a = none → sp (.ref a :: (vs ++ [])) (L2.upd H1 a (exo a C none))
    (fun v H2 => v = .non ∧ ∃ (d : Addr) (fs : List (Str × V)), H2 a = some (exo a C (some d)) ∧ H2 d = some (exd d fs) ∧ H1 d = none ∧ M (.ref C) (some d) (L2.upd (L2.del H2 a) d (.xd fs))) (fun _ _ _ => False)) : tMkO C sp [] ta σ H M := h
/-! o.f += e -/
def faR (K : PySem.W.Frag) (tv : TE) (rd : R2) (f : Str) (x : V) (σ : L2.St) (H1 : Hp) (N : Hp → Prop) : Prop := ∃ a C dx fs v, x = .ref a ∧ H1 a = some (.ins C dx fs) ∧ Cls K C ∧ NoAttr K C f ∧ fs.lookup f = some v ∧
  tv σ H1 fun y H2 => rd v y H2 fun z H3 => ∃ dx' fs', H3 a = some (.ins C dx' fs') ∧ fs'.length < 1000 ∧ N (L2.upd H3 a (.ins C dx' (putF f z fs')))
def fsR (a C : Addr) (f : Str) (N : Hp → Prop) : VK := fun z H3 => ∃ dx' fs', H3 a = some (.ins C dx' fs') ∧ fs'.length < 1000 ∧ N (L2.upd H3 a (.ins C dx' (putF f z fs')))
section
variable {K : PySem.W.Frag} {σ : L2.St} {H : Hp} {D : Ends} {ta tv : TE} {rd : R2} {f : Str} {a C dx : Addr} {fs : List (Str × V)} {v z : V} {N : Hp → Prop}
theorem r_faug (h : ta σ H fun x H1 => faR K tv rd f x σ H1 (D.nx σ)) : sFldAug K ta tv rd f D σ H := h
theorem r_faR (e : H a = some (.ins C dx fs)) (c : Cls K C) (n : NoAttr K C f) (l : fs.lookup f = some v) (h : tv σ H fun y H2 => rd v y H2 (fsR a C f N)) : faR K tv rd f (.ref a) σ H N := ⟨a, C, dx, fs, v, rfl, e, c, n, l, h⟩
theorem r_fsR (e : H a = some (.ins C dx fs)) (l : fs.length ≤ 900) (h : ∀ H1, But a H H1 → H1 a = some (.ins C dx (putF f z fs)) → N H1) : fsR a C f N z H := ⟨dx, fs, e, by omega, h _ But.upd upd_same⟩
theorem r_in_add {i j : Int} {Q : VK} (h : Q (.int (i + j)) H) : rAdd (.int i) (.int j) H Q := ⟨i, j, rfl, rfl, h⟩
theorem r_ipI {g : Int → Int → Int} {i j : Int} {Q : VK} (h : Q (.int (g i j)) H) : ipI g (.int i) (.int j) H Q := ⟨i, j, rfl, rfl, h⟩
/-- a turn of a while -/
theorem r_wN {tb : TS} {W : Nat → L2.St → Hp → Prop} {m : Nat} (h : tb { D with nx := fun σ' H' => ∃ m', m' < m ∧ W m' σ' H', ct := fun σ' H' => ∃ m', m' < m ∧ W m' σ' H', bk := D.nx } σ H) :
    ∃ N : L2.St → Hp → Prop, (∀ σ' H', N σ' H' → ∃ m', m' < m ∧ W m' σ' H') ∧ tb { D with nx := N, ct := N, bk := D.nx } σ H := ⟨_, fun _ _ h => h, h⟩
/-- o.m(..) -/
def mtRP (C : Addr) (m : Str) (sp : Sp) (E : XK) (t : TA) (σ : L2.St) (Q : VK) : VK := fun x H1 => ∃ a dx fs, x = .ref a ∧ H1 a = some (.ins C dx fs) ∧ fs.lookup m = none ∧ t σ H1 fun vs H2 => sp (x :: (vs ++ [])) H2 Q E
theorem r_methP {m : Str} {sp : Sp} {E : XK} {t : TA} {Q : VK} (h : ta σ H (mtRP C m sp E t σ Q)) : tMeth C m sp [] E ta t σ H Q := h
theorem r_mthV {m : Str} {sp : Sp} {E : XK} {t : TA} {Q : VK} (e : H a = some (.ins C dx fs)) (l : fs.lookup m = none) (h : t σ H fun vs H2 => sp (.ref a :: (vs ++ [])) H2 Q E) : mtRP C m sp E t σ Q (.ref a) H := ⟨a, dx, fs, rfl, e, l, h⟩
/-- dict(d) -/
def rDictOf : List V → Hp → VK → Prop := fun xs H Q => ∃ (a : Addr) (kvs : List (Key × V)), xs = [.ref a] ∧ Rd H a (.dK kvs) ∧ ∀ p, H p = none → Q (.ref p) (L2.upd H p (.dK kvs))
theorem c_dictOf {X : Cx} : CallR X (.type "dict") rDictOf := call_dictD
theorem r_dictOf {kvs : List (Key × V)} {Q : VK} (e : H a = some (.dK kvs)) (k : ∀ p H1, H p = none → Same H H1 → H1 p = some (.dK kvs) → Q (.ref p) H1) : rDictOf [.ref a] H Q := ⟨a, kvs, rfl, .inl e, fun p np => k p _ np (same_upd np) upd_same⟩
/-- d.get(k, x), d tracked -/
def dg2R (x y z : V) (H : Hp) (Q : VK) : Prop := ∃ a o, x = .ref a ∧ DGet H a y o ∧ Q (o.getD z) H
theorem r_dget2 {td ty tx : TE} {Q : VK} (h : td σ H fun x H1 => ∃ a, x = .ref a ∧ IsD H1 a ∧ ty σ H1 fun y H2 => tx σ H2 fun z H3 => ∃ o, DGet H3 a y o ∧ Q (o.getD z) H3) : tDGet2 td ty tx σ H Q := h
theorem r_isD {kvs : List (Key × V)} {G : Addr → Prop} (e : H a = some (.dK kvs)) (h : G a) : ∃ a', V.ref a = .ref a' ∧ IsD H a' ∧ G a' := ⟨a, rfl, .inl ⟨kvs, .inl e⟩, h⟩
theorem r_dg2 {kvs : List (Key × V)} {g : Str} {Q : VK} (e : H a = some (.dK kvs)) (k : Q ((valV kvs (.inr g)).getD z) H) : ∃ o, DGet H a (.str g) o ∧ Q (o.getD z) H := ⟨_, DGet.k (k := .inr g) e, k⟩
/-- a sign in a text -/
def rInSg : R2 := fun x y H Q => ∃ (c : Nat) (z : Str), x = .str ⟨#[c]⟩ ∧ y = .str z ∧ Q (.bl (decide (c ∈ z.cps.toList))) H
theorem op_inSg {X : Cx} : OpR X (compareOp .In) rInSg := op_in_sign
theorem r_inSg {c : Nat} {z : Str} {Q : VK} (h : Q (.bl (decide (c ∈ z.cps.toList))) H) : rInSg (.str ⟨#[c]⟩) (.str z) H Q := ⟨c, z, rfl, rfl, h⟩
def rSw3 (x : V) (xs : List V) (H : Hp) (Q : VK) : Prop := ∃ (a b : Str) (i : Int), x = .str a ∧ xs = [.str b, .int i] ∧ Q (.bl (Txt.startswith3 a b i)) H
theorem m_sw3 {X : Cx} : MtR X "str.startswith" rSw3 := mt_startswith3
theorem r_sw3 {x b : Str} {i : Int} {Q : VK} (h : Q (.bl (Txt.startswith3 x b i)) H) : rSw3 (.str x) [.str b, .int i] H Q := ⟨x, b, i, rfl, rfl, h⟩
/-- a text, or an item, in a row of texts -/
theorem r_inT {K : PySem.W.Frag} {zs : List Str} {z : Str} {Q : VK} (h : SqT K H a (zs.map V.str)) (q : Q (.bl (decide (z ∈ zs))) H) : rIn K false (.str z) (.ref a) H Q := by
  refine ⟨a, _, rfl, .inr h, rfl, by rw [List.all_map]; exact List.all_eq_true.mpr fun _ _ => rfl, ?_⟩
  have e : inV (.str z) (zs.map V.str) = decide (z ∈ zs) := by
    unfold inV
    rw [List.any_map]
    by_cases c : z ∈ zs
    · rw [decide_eq_true c, List.any_eq_true]
      exact ⟨z, c, by show (z == z) = true; simp⟩
    · rw [decide_eq_false c, List.any_eq_false]
      intro y hy hq
      have hq : (y == z) = true := hq
      have : y = z := by simpa using hq
      exact c (this ▸ hy)
  show Q (.bl (inV (.str z) (zs.map V.str))) H
  rw [e]; exact q
theorem r_inL {K : PySem.W.Frag} {zs : List Str} {z : Str} {Q : VK} (h : SqL K H a (zs.map V.str)) (q : Q (.bl (decide (z ∈ zs))) H) : rIn K false (.str z) (.ref a) H Q := by
  refine ⟨a, _, rfl, .inl h, rfl, by rw [List.all_map]; exact List.all_eq_true.mpr fun _ _ => rfl, ?_⟩
  have e : inV (.str z) (zs.map V.str) = decide (z ∈ zs) := by
    unfold inV
    rw [List.any_map]
    by_cases c : z ∈ zs
    · rw [decide_eq_true c, List.any_eq_true]
      exact ⟨z, c, by show (z == z) = true; simp⟩
    · rw [decide_eq_false c, List.any_eq_false]
      intro y hy hq
      have hq : (y == z) = true := hq
      have : y = z := by simpa using hq
      exact c (this ▸ hy)
  show Q (.bl (inV (.str z) (zs.map V.str))) H
  rw [e]; exact q
theorem r_ninT {K : PySem.W.Frag} {zs : List Str} {z : Str} {Q : VK} (h : SqT K H a (zs.map V.str)) (q : Q (.bl (!decide (z ∈ zs))) H) : rIn K true (.str z) (.ref a) H Q := by
  obtain ⟨p, xs, e1, e2, e3, e4, e5⟩ := r_inT (Q := fun v H' => v = .bl (decide (z ∈ zs)) ∧ H' = H) h ⟨rfl, rfl⟩
  refine ⟨p, xs, e1, e2, e3, e4, ?_⟩
  have e6 : inV (.str z) xs = decide (z ∈ zs) := by injection e5.1
  show Q (.bl (!inV (.str z) xs)) H
  rw [e6]; exact q
theorem r_ninL {K : PySem.W.Frag} {zs : List Str} {z : Str} {Q : VK} (h : SqL K H a (zs.map V.str)) (q : Q (.bl (!decide (z ∈ zs))) H) : rIn K true (.str z) (.ref a) H Q := by
  obtain ⟨p, xs, e1, e2, e3, e4, e5⟩ := r_inL (Q := fun v H' => v = .bl (decide (z ∈ zs)) ∧ H' = H) h ⟨rfl, rfl⟩
  refine ⟨p, xs, e1, e2, e3, e4, ?_⟩
  have e6 : inV (.str z) xs = decide (z ∈ zs) := by injection e5.1
  show Q (.bl (!inV (.str z) xs)) H
  rw [e6]; exact q
end
end Z

structure Top (K : PySem.W.Frag) (mg : Str → Option Value) (w : World) where
  C_Answer : Addr
  C_BadProgram : Addr
  C_Draft : Addr
  C_Program : Addr
  C_Reader : Addr
  C_Statement : Addr
  C_TooMany : Addr
  C_WrongLine : Addr
  f_is_word : Addr
  fd_is_word : FuncData
  F_is_word : Fun K "is_word" "is_word" s_is_word f_is_word fd_is_word
  B_is_word : Binds K fd_is_word ["text"] []
  f_token_at : Addr
  fd_token_at : FuncData
  F_token_at : Fun K "_token_at" "_token_at" s_token_at f_token_at fd_token_at
  B_token_at : Binds K fd_token_at ["line", "at", "letters"] []
  f_tokens_of : Addr
  fd_tokens_of : FuncData
  F_tokens_of : FunD K "tokens_of" "tokens_of" (defArgs s_tokens_of) (defBody s_tokens_of) (defScope s_tokens_of) [.str "abcdefghijklmnopqrstuvwxyz"] [] f_tokens_of fd_tokens_of
  BD_tokens_of : ∃ ds, Vals [.str "abcdefghijklmnopqrstuvwxyz"] ds ∧ Binds K fd_tokens_of ["line", "letters"] ds
  B_tokens_of : Binds K fd_tokens_of ["line", "letters"] []
  f_Reader___init : Addr
  fd_Reader___init : FuncData
  F_Reader___init : Fun K "__init__" "Reader.__init__" s_Reader___init f_Reader___init fd_Reader___init
  B_Reader___init : Binds K fd_Reader___init ["self", "tokens", "kinds", "is_in_run"] []
  f_Reader_peek : Addr
  fd_Reader_peek : FuncData
  F_Reader_peek : Fun K "peek" "Reader.peek" s_Reader_peek f_Reader_peek fd_Reader_peek
  B_Reader_peek : Binds K fd_Reader_peek ["self"] []
  f_Reader_take : Addr
  fd_Reader_take : FuncData
  F_Reader_take : Fun K "take" "Reader.take" s_Reader_take f_Reader_take fd_Reader_take
  B_Reader_take : Binds K fd_Reader_take ["self"] []
  f_Reader_skip_if : Addr
  fd_Reader_skip_if : FuncData
  F_Reader_skip_if : Fun K "skip_if" "Reader.skip_if" s_Reader_skip_if f_Reader_skip_if fd_Reader_skip_if
  B_Reader_skip_if : Binds K fd_Reader_skip_if ["self", "token"] []
  f_Reader_expect : Addr
  fd_Reader_expect : FuncData
  F_Reader_expect : Fun K "expect" "Reader.expect" s_Reader_expect f_Reader_expect fd_Reader_expect
  B_Reader_expect : Binds K fd_Reader_expect ["self", "token"] []
  f_Reader_expect_end : Addr
  fd_Reader_expect_end : FuncData
  F_Reader_expect_end : Fun K "expect_end" "Reader.expect_end" s_Reader_expect_end f_Reader_expect_end fd_Reader_expect_end
  B_Reader_expect_end : Binds K fd_Reader_expect_end ["self"] []
  f_Reader_kind_of : Addr
  fd_Reader_kind_of : FuncData
  F_Reader_kind_of : Fun K "kind_of" "Reader.kind_of" s_Reader_kind_of f_Reader_kind_of fd_Reader_kind_of
  B_Reader_kind_of : Binds K fd_Reader_kind_of ["self", "token"] []
  f_Reader_read_name : Addr
  fd_Reader_read_name : FuncData
  F_Reader_read_name : Fun K "read_name" "Reader.read_name" s_Reader_read_name f_Reader_read_name fd_Reader_read_name
  B_Reader_read_name : Binds K fd_Reader_read_name ["self", "kind"] []
  f_Reader_read_term : Addr
  fd_Reader_read_term : FuncData
  F_Reader_read_term : Fun K "read_term" "Reader.read_term" s_Reader_read_term f_Reader_read_term fd_Reader_read_term
  B_Reader_read_term : Binds K fd_Reader_read_term ["self"] []
  f_Reader__sum_atom : Addr
  fd_Reader__sum_atom : FuncData
  F_Reader__sum_atom : Fun K "_sum_atom" "Reader._sum_atom" s_Reader__sum_atom f_Reader__sum_atom fd_Reader__sum_atom
  B_Reader__sum_atom : Binds K fd_Reader__sum_atom ["self"] []
  f_Reader__terms_in_brackets : Addr
  fd_Reader__terms_in_brackets : FuncData
  F_Reader__terms_in_brackets : Fun K "_terms_in_brackets" "Reader._terms_in_brackets" s_Reader__terms_in_brackets f_Reader__terms_in_brackets fd_Reader__terms_in_brackets
  B_Reader__terms_in_brackets : Binds K fd_Reader__terms_in_brackets ["self"] []
  f_Reader__term_atom : Addr
  fd_Reader__term_atom : FuncData
  F_Reader__term_atom : Fun K "_term_atom" "Reader._term_atom" s_Reader__term_atom f_Reader__term_atom fd_Reader__term_atom
  B_Reader__term_atom : Binds K fd_Reader__term_atom ["self"] []
  f_Reader__part : Addr
  fd_Reader__part : FuncData
  F_Reader__part : Fun K "_part" "Reader._part" s_Reader__part f_Reader__part fd_Reader__part
  B_Reader__part : Binds K fd_Reader__part ["self"] []
  f_Reader__atom : Addr
  fd_Reader__atom : FuncData
  F_Reader__atom : Fun K "_atom" "Reader._atom" s_Reader__atom f_Reader__atom fd_Reader__atom
  B_Reader__atom : Binds K fd_Reader__atom ["self"] []
  f_Reader_read_test : Addr
  fd_Reader_read_test : FuncData
  F_Reader_read_test : Fun K "read_test" "Reader.read_test" s_Reader_read_test f_Reader_read_test fd_Reader_read_test
  B_Reader_read_test : Binds K fd_Reader_read_test ["self"] []
  f_Statement___init : Addr
  fd_Statement___init : FuncData
  F_Statement___init : Fun K "__init__" "Statement.__init__" s_Statement___init f_Statement___init fd_Statement___init
  B_Statement___init : Binds K fd_Statement___init ["self", "action", "test"] []
  f_Answer___init : Addr
  fd_Answer___init : FuncData
  F_Answer___init : Fun K "__init__" "Answer.__init__" s_Answer___init f_Answer___init fd_Answer___init
  B_Answer___init : Binds K fd_Answer___init ["self", "name", "flag", "place", "result"] []
  f_place_action : Addr
  fd_place_action : FuncData
  F_place_action : Fun K "_place_action" "_place_action" s_place_action f_place_action fd_place_action
  B_place_action : Binds K fd_place_action ["name", "reader"] []
  f_sum_action : Addr
  fd_sum_action : FuncData
  F_sum_action : Fun K "_sum_action" "_sum_action" s_sum_action f_sum_action fd_sum_action
  B_sum_action : Binds K fd_sum_action ["name", "reader"] []
  f_action : Addr
  fd_action : FuncData
  F_action : Fun K "_action" "_action" s_action f_action fd_action
  B_action : Binds K fd_action ["reader"] []
  f_statement : Addr
  fd_statement : FuncData
  F_statement : Fun K "_statement" "_statement" s_statement f_statement fd_statement
  B_statement : Binds K fd_statement ["reader"] []
  f_read_statement : Addr
  fd_read_statement : FuncData
  F_read_statement : Fun K "read_statement" "read_statement" s_read_statement f_read_statement fd_read_statement
  B_read_statement : Binds K fd_read_statement ["tokens", "kinds"] []
  f_result : Addr
  fd_result : FuncData
  F_result : Fun K "_result" "_result" s_result f_result fd_result
  B_result : Binds K fd_result ["reader"] []
  f_read_answer : Addr
  fd_read_answer : FuncData
  F_read_answer : Fun K "read_answer" "read_answer" s_read_answer f_read_answer fd_read_answer
  B_read_answer : Binds K fd_read_answer ["tokens", "kinds"] []
  f_are_apart : Addr
  fd_are_apart : FuncData
  F_are_apart : Fun K "_are_apart" "_are_apart" s_are_apart f_are_apart fd_are_apart
  B_are_apart : Binds K fd_are_apart ["one", "other"] []
  f_written : Addr
  fd_written : FuncData
  F_written : Fun K "written" "written" s_written f_written fd_written
  B_written : Binds K fd_written ["tokens"] []
  f_is_name : Addr
  fd_is_name : FuncData
  F_is_name : Fun K "_is_name" "_is_name" s_is_name f_is_name fd_is_name
  B_is_name : Binds K fd_is_name ["token"] []
  f_step : Addr
  fd_step : FuncData
  F_step : Fun K "_step" "_step" s_step f_step fd_step
  B_step : Binds K fd_step ["reader"] []
  f_Draft__enter_part : Addr
  fd_Draft__enter_part : FuncData
  F_Draft__enter_part : Fun K "_enter_part" "Draft._enter_part" s_Draft__enter_part f_Draft__enter_part fd_Draft__enter_part
  B_Draft__enter_part : Binds K fd_Draft__enter_part ["self", "first"] []
  f_Draft__read_register : Addr
  fd_Draft__read_register : FuncData
  F_Draft__read_register : Fun K "_read_register" "Draft._read_register" s_Draft__read_register f_Draft__read_register fd_Draft__read_register
  B_Draft__read_register : Binds K fd_Draft__read_register ["self", "tokens"] []
  f_Draft__read_steps : Addr
  fd_Draft__read_steps : FuncData
  F_Draft__read_steps : Fun K "_read_steps" "Draft._read_steps" s_Draft__read_steps f_Draft__read_steps fd_Draft__read_steps
  B_Draft__read_steps : Binds K fd_Draft__read_steps ["self", "tokens"] []
  f_Draft__read_answer : Addr
  fd_Draft__read_answer : FuncData
  F_Draft__read_answer : Fun K "_read_answer" "Draft._read_answer" s_Draft__read_answer f_Draft__read_answer fd_Draft__read_answer
  B_Draft__read_answer : Binds K fd_Draft__read_answer ["self", "tokens"] []
  f_Draft_read_line : Addr
  fd_Draft_read_line : FuncData
  F_Draft_read_line : Fun K "read_line" "Draft.read_line" s_Draft_read_line f_Draft_read_line fd_Draft_read_line
  B_Draft_read_line : Binds K fd_Draft_read_line ["self", "line"] []
  f_Draft___init : Addr
  fd_Draft___init : FuncData
  F_Draft___init : Fun K "__init__" "Draft.__init__" s_Draft___init f_Draft___init fd_Draft___init
  B_Draft___init : Binds K fd_Draft___init ["self"] []
  f_Draft_names_of : Addr
  fd_Draft_names_of : FuncData
  F_Draft_names_of : Fun K "names_of" "Draft.names_of" s_Draft_names_of f_Draft_names_of fd_Draft_names_of
  B_Draft_names_of : Binds K fd_Draft_names_of ["self", "kind"] []
  f_BadProgram___init : Addr
  fd_BadProgram___init : FuncData
  F_BadProgram___init : Fun K "__init__" "BadProgram.__init__" s_BadProgram___init f_BadProgram___init fd_BadProgram___init
  B_BadProgram___init : Binds K fd_BadProgram___init ["self", "line"] []
  f_draft_of : Addr
  fd_draft_of : FuncData
  F_draft_of : Fun K "_draft_of" "_draft_of" s_draft_of f_draft_of fd_draft_of
  B_draft_of : Binds K fd_draft_of ["text"] []
  f_TooMany___init : Addr
  fd_TooMany___init : FuncData
  F_TooMany___init : Fun K "__init__" "TooMany.__init__" s_TooMany___init f_TooMany___init fd_TooMany___init
  B_TooMany___init : Binds K fd_TooMany___init ["self", "what"] []
  f_Program__check_limits : Addr
  fd_Program__check_limits : FuncData
  F_Program__check_limits : Fun K "_check_limits" "Program._check_limits" s_Program__check_limits f_Program__check_limits fd_Program__check_limits
  B_Program__check_limits : Binds K fd_Program__check_limits ["self"] []
  f_Program___init : Addr
  fd_Program___init : FuncData
  F_Program___init : Fun K "__init__" "Program.__init__" s_Program___init f_Program___init fd_Program___init
  B_Program___init : Binds K fd_Program___init ["self", "text"] []
  f_law_source : Addr
  fd_law_source : FuncData
  F_law_source : Fun K "_law_source" "_law_source" s_law_source f_law_source fd_law_source
  B_law_source : Binds K fd_law_source ["_law_script", "_law_place"] []
  f_law_pick : Addr
  fd_law_pick : FuncData
  F_law_pick : Fun K "_law_pick" "_law_pick" s_law_pick f_law_pick fd_law_pick
  B_law_pick : Binds K fd_law_pick ["_law_source_here", "_law_many"] []
  f_law_of : Addr
  fd_law_of : FuncData
  F_law_of : Fun K "_law_of" "_law_of" s_law_of f_law_of fd_law_of
  B_law_of : Binds K fd_law_of ["_law_source_here", "_law_some"] []
  f_law_word : Addr
  fd_law_word : FuncData
  F_law_word : Fun K "_law_word" "_law_word" s_law_word f_law_word fd_law_word
  B_law_word : Binds K fd_law_word ["_law_source_here"] []
  f_law_reserved : Addr
  fd_law_reserved : FuncData
  F_law_reserved : Fun K "_law_reserved" "_law_reserved" s_law_reserved f_law_reserved fd_law_reserved
  B_law_reserved : Binds K fd_law_reserved [] []
  f_law_fate : Addr
  fd_law_fate : FuncData
  F_law_fate : Fun K "_law_fate" "_law_fate" s_law_fate f_law_fate fd_law_fate
  B_law_fate : Binds K fd_law_fate ["_law_lines"] []
  f_law_free : Addr
  fd_law_free : FuncData
  F_law_free : Fun K "_law_free" "_law_free" s_law_free f_law_free fd_law_free
  B_law_free : Binds K fd_law_free ["_law_source_here"] []
  f_law_wrong : Addr
  fd_law_wrong : FuncData
  F_law_wrong : Fun K "_law_wrong" "_law_wrong" s_law_wrong f_law_wrong fd_law_wrong
  B_law_wrong : Binds K fd_law_wrong ["_law_source_here", "_law_word_here"] []
  f_law : Addr
  fd_law : FuncData
  F_law : Fun K "law" "law" s_law f_law fd_law
  B_law : Binds K fd_law ["_law_script"] []
  mgC_Answer : mg "Answer" = some (.ref C_Answer)
  cl_Answer : Cls K C_Answer
  in_Answer : Z.Inst K C_Answer
  mk_Answer : Mk K C_Answer f_Answer___init
  mgC_BadProgram : mg "BadProgram" = some (.ref C_BadProgram)
  oex_BadProgram : OexC K C_BadProgram
  oty_BadProgram : PySem.W.typeIn K (.ref f_BadProgram___init) = some (.type "function")
  ex_BadProgram : Z.ExF K C_BadProgram f_BadProgram___init
  mgC_Draft : mg "Draft" = some (.ref C_Draft)
  cl_Draft : Cls K C_Draft
  in_Draft : Z.Inst K C_Draft
  mk_Draft : Mk K C_Draft f_Draft___init
  mgC_Program : mg "Program" = some (.ref C_Program)
  cl_Program : Cls K C_Program
  in_Program : Z.Inst K C_Program
  mk_Program : Mk K C_Program f_Program___init
  mgC_Reader : mg "Reader" = some (.ref C_Reader)
  cl_Reader : Cls K C_Reader
  in_Reader : Z.Inst K C_Reader
  mk_Reader : Mk K C_Reader f_Reader___init
  mgC_Statement : mg "Statement" = some (.ref C_Statement)
  cl_Statement : Cls K C_Statement
  in_Statement : Z.Inst K C_Statement
  mk_Statement : Mk K C_Statement f_Statement___init
  mgC_TooMany : mg "TooMany" = some (.ref C_TooMany)
  ex_TooMany : Z.ExF K C_TooMany f_TooMany___init
  mgC_WrongLine : mg "WrongLine" = some (.ref C_WrongLine)
  xp_WrongLine : Z.ExP K C_WrongLine
  me_Draft__enter_part : Meth K C_Draft "_enter_part" f_Draft__enter_part
  me_Draft__read_answer : Meth K C_Draft "_read_answer" f_Draft__read_answer
  me_Draft__read_register : Meth K C_Draft "_read_register" f_Draft__read_register
  me_Draft__read_steps : Meth K C_Draft "_read_steps" f_Draft__read_steps
  me_Draft_names_of : Meth K C_Draft "names_of" f_Draft_names_of
  me_Draft_read_line : Meth K C_Draft "read_line" f_Draft_read_line
  me_Program__check_limits : Meth K C_Program "_check_limits" f_Program__check_limits
  me_Reader__atom : Meth K C_Reader "_atom" f_Reader__atom
  me_Reader__part : Meth K C_Reader "_part" f_Reader__part
  me_Reader__sum_atom : Meth K C_Reader "_sum_atom" f_Reader__sum_atom
  me_Reader__term_atom : Meth K C_Reader "_term_atom" f_Reader__term_atom
  me_Reader__terms_in_brackets : Meth K C_Reader "_terms_in_brackets" f_Reader__terms_in_brackets
  me_Reader_expect : Meth K C_Reader "expect" f_Reader_expect
  me_Reader_expect_end : Meth K C_Reader "expect_end" f_Reader_expect_end
  me_Reader_kind_of : Meth K C_Reader "kind_of" f_Reader_kind_of
  me_Reader_peek : Meth K C_Reader "peek" f_Reader_peek
  me_Reader_read_name : Meth K C_Reader "read_name" f_Reader_read_name
  me_Reader_read_term : Meth K C_Reader "read_term" f_Reader_read_term
  me_Reader_read_test : Meth K C_Reader "read_test" f_Reader_read_test
  me_Reader_skip_if : Meth K C_Reader "skip_if" f_Reader_skip_if
  me_Reader_take : Meth K C_Reader "take" f_Reader_take
  no_Answer_flag : NoAttr K C_Answer "flag"
  no_Answer_name : NoAttr K C_Answer "name"
  no_Answer_place : NoAttr K C_Answer "place"
  no_Answer_result : NoAttr K C_Answer "result"
  no_BadProgram_line : NoAttr K C_BadProgram "line"
  no_Draft_answers : NoAttr K C_Draft "answers"
  no_Draft_kinds : NoAttr K C_Draft "kinds"
  no_Draft_lines : NoAttr K C_Draft "lines"
  no_Draft_part : NoAttr K C_Draft "part"
  no_Draft_starts : NoAttr K C_Draft "starts"
  no_Draft_statement_lines : NoAttr K C_Draft "statement_lines"
  no_Draft_statements : NoAttr K C_Draft "statements"
  no_Draft_steps : NoAttr K C_Draft "steps"
  no_Program_answers : NoAttr K C_Program "answers"
  no_Program_counts : NoAttr K C_Program "counts"
  no_Program_flags : NoAttr K C_Program "flags"
  no_Program_has_before : NoAttr K C_Program "has_before"
  no_Program_keeps : NoAttr K C_Program "keeps"
  no_Program_lines : NoAttr K C_Program "lines"
  no_Program_places : NoAttr K C_Program "places"
  no_Program_read_answers : NoAttr K C_Program "read_answers"
  no_Program_read_statements : NoAttr K C_Program "read_statements"
  no_Program_starts : NoAttr K C_Program "starts"
  no_Program_statements : NoAttr K C_Program "statements"
  no_Program_steps : NoAttr K C_Program "steps"
  no_Program_sums : NoAttr K C_Program "sums"
  no_Reader_at : NoAttr K C_Reader "at"
  no_Reader_is_in_run : NoAttr K C_Reader "is_in_run"
  no_Reader_kinds : NoAttr K C_Reader "kinds"
  no_Reader_tokens : NoAttr K C_Reader "tokens"
  no_Statement_action : NoAttr K C_Statement "action"
  no_Statement_test : NoAttr K C_Statement "test"
  no_TooMany_what : NoAttr K C_TooMany "what"
  mg_is_word : mg "is_word" = some (.ref f_is_word)
  mg_token_at : mg "_token_at" = some (.ref f_token_at)
  mg_tokens_of : mg "tokens_of" = some (.ref f_tokens_of)
  mg_place_action : mg "_place_action" = some (.ref f_place_action)
  mg_sum_action : mg "_sum_action" = some (.ref f_sum_action)
  mg_action : mg "_action" = some (.ref f_action)
  mg_statement : mg "_statement" = some (.ref f_statement)
  mg_read_statement : mg "read_statement" = some (.ref f_read_statement)
  mg_result : mg "_result" = some (.ref f_result)
  mg_read_answer : mg "read_answer" = some (.ref f_read_answer)
  mg_are_apart : mg "_are_apart" = some (.ref f_are_apart)
  mg_written : mg "written" = some (.ref f_written)
  mg_is_name : mg "_is_name" = some (.ref f_is_name)
  mg_step : mg "_step" = some (.ref f_step)
  mg_draft_of : mg "_draft_of" = some (.ref f_draft_of)
  mg_law_source : mg "_law_source" = some (.ref f_law_source)
  mg_law_pick : mg "_law_pick" = some (.ref f_law_pick)
  mg_law_of : mg "_law_of" = some (.ref f_law_of)
  mg_law_word : mg "_law_word" = some (.ref f_law_word)
  mg_law_reserved : mg "_law_reserved" = some (.ref f_law_reserved)
  mg_law_fate : mg "_law_fate" = some (.ref f_law_fate)
  mg_law_free : mg "_law_free" = some (.ref f_law_free)
  mg_law_wrong : mg "_law_wrong" = some (.ref f_law_wrong)
  mg_law : mg "law" = some (.ref f_law)
  z_abs : mg "abs" = none
  z_any : mg "any" = none
  z_dict : mg "dict" = none
  z_enumerate : mg "enumerate" = none
  z_int : mg "int" = none
  z_isinstance : mg "isinstance" = none
  z_len : mg "len" = none
  z_list : mg "list" = none
  z_max : mg "max" = none
  z_min : mg "min" = none
  z_range : mg "range" = none
  z_str : mg "str" = none
  z_sum : mg "sum" = none
  z_tuple : mg "tuple" = none
  A_COMPARISONS : Addr
  mgK_COMPARISONS : mg "COMPARISONS" = some (.ref A_COMPARISONS)
  wt_COMPARISONS : ∀ H : Hp, SqT K H A_COMPARISONS [.str "<", .str "<=", .str ">", .str ">=", .str "==", .str "!="]
  A_KINDS : Addr
  mgK_KINDS : mg "KINDS" = some (.ref A_KINDS)
  wt_KINDS : ∀ H : Hp, SqT K H A_KINDS [.str "keep", .str "flag", .str "sum", .str "count", .str "place"]
  A_LIMITS : Addr
  mgK_LIMITS : mg "LIMITS" = some (.ref A_LIMITS)
  kd_LIMITS : Z.KD K w A_LIMITS [("keeps", .int 3), ("flags", .int 2), ("sums", .int 2), ("counts", .int 2), ("places", .int 2), ("steps", .int 3), ("statements", .int 10), ("answers", .int 4)]
  A_OTHER_TOKENS : Addr
  mgK_OTHER_TOKENS : mg "OTHER_TOKENS" = some (.ref A_OTHER_TOKENS)
  wt_OTHER_TOKENS : ∀ H : Hp, SqT K H A_OTHER_TOKENS [.str "+=", .str "-=", .str "<=", .str ">=", .str "==", .str "!=", .str "<", .str ">", .str "=", .str "(", .str ")", .str ",", .str "0", .str "1"]
  A_PARTS : Addr
  mgK_PARTS : mg "PARTS" = some (.ref A_PARTS)
  kd_PARTS : Z.KD K w A_PARTS [("keep", .int 0), ("flag", .int 0), ("sum", .int 0), ("count", .int 0), ("place", .int 0), ("steps", .int 1), ("answer", .int 3)]
  A_RESERVED : Addr
  mgK_RESERVED : mg "RESERVED" = some (.ref A_RESERVED)
  wt_RESERVED : ∀ H : Hp, SqT K H A_RESERVED [.str "x", .str "before", .str "nothing", .str "here", .str "min", .str "max", .str "if", .str "else", .str "and", .str "or", .str "not", .str "in", .str "is", .str "told", .str "by", .str "skip", .str "leave", .str "set", .str "keep", .str "flag", .str "sum", .str "count", .str "place", .str "steps", .str "drop", .str "fill", .str "hold", .str "shift", .str "answer"]
  A_RESULT_KINDS : Addr
  mgK_RESULT_KINDS : mg "RESULT_KINDS" = some (.ref A_RESULT_KINDS)
  kd_RESULT_KINDS : Z.KD K w A_RESULT_KINDS [("flag", .str "truth"), ("sum", .str "sum"), ("count", .str "count"), ("place", .str "place")]
  tk_STATEMENT_PART : Tok
  mgK_STATEMENT_PART : mg "STATEMENT_PART" = some (.int 2 tk_STATEMENT_PART)
  A_STEPS : Addr
  mgK_STEPS : mg "STEPS" = some (.ref A_STEPS)
  wt_STEPS : ∀ H : Hp, SqT K H A_STEPS [.str "drop", .str "fill", .str "hold", .str "shift"]
  ki_Answer_str : PySem.W.kitOne K (.ref C_Answer) (.type "str") = some false
  ki_Draft_str : PySem.W.kitOne K (.ref C_Draft) (.type "str") = some false
  ki_Program_str : PySem.W.kitOne K (.ref C_Program) (.type "str") = some false
  ki_Reader_str : PySem.W.kitOne K (.ref C_Reader) (.type "str") = some false
  ki_Statement_str : PySem.W.kitOne K (.ref C_Statement) (.type "str") = some false
theorem kb_NoneType_str : kitB "NoneType" "str" = some false := by decide +kernel
theorem kb_bool_str : kitB "bool" "str" = some false := by decide +kernel
theorem kb_int_str : kitB "int" "str" = some false := by decide +kernel
theorem kb_str_str : kitB "str" "str" = some true := by decide +kernel
theorem kb_list_str : kitB "list" "str" = some false := by decide +kernel
theorem kb_tuple_str : kitB "tuple" "str" = some false := by decide +kernel
local macro_rules | `(tactic| walk_at "ki") => `(tactic| first
  | assumption
  | exact kit_ty kb_NoneType_str
  | exact kit_ty kb_bool_str
  | exact kit_ty kb_int_str
  | exact kit_ty kb_str_str
  | exact kit_ty kb_list_str
  | exact kit_ty kb_tuple_str
  | exact Top.ki_Answer_str (by assumption)
  | exact Top.ki_Draft_str (by assumption)
  | exact Top.ki_Program_str (by assumption)
  | exact Top.ki_Reader_str (by assumption)
  | exact Top.ki_Statement_str (by assumption))
local macro_rules | `(tactic| walk_at "no") => `(tactic| first
  | exact Top.no_Answer_flag (by assumption)
  | exact Top.no_Answer_name (by assumption)
  | exact Top.no_Answer_place (by assumption)
  | exact Top.no_Answer_result (by assumption)
  | exact Top.no_BadProgram_line (by assumption)
  | exact Top.no_Draft_answers (by assumption)
  | exact Top.no_Draft_kinds (by assumption)
  | exact Top.no_Draft_lines (by assumption)
  | exact Top.no_Draft_part (by assumption)
  | exact Top.no_Draft_starts (by assumption)
  | exact Top.no_Draft_statement_lines (by assumption)
  | exact Top.no_Draft_statements (by assumption)
  | exact Top.no_Draft_steps (by assumption)
  | exact Top.no_Program_answers (by assumption)
  | exact Top.no_Program_counts (by assumption)
  | exact Top.no_Program_flags (by assumption)
  | exact Top.no_Program_has_before (by assumption)
  | exact Top.no_Program_keeps (by assumption)
  | exact Top.no_Program_lines (by assumption)
  | exact Top.no_Program_places (by assumption)
  | exact Top.no_Program_read_answers (by assumption)
  | exact Top.no_Program_read_statements (by assumption)
  | exact Top.no_Program_starts (by assumption)
  | exact Top.no_Program_statements (by assumption)
  | exact Top.no_Program_steps (by assumption)
  | exact Top.no_Program_sums (by assumption)
  | exact Top.no_Reader_at (by assumption)
  | exact Top.no_Reader_is_in_run (by assumption)
  | exact Top.no_Reader_kinds (by assumption)
  | exact Top.no_Reader_tokens (by assumption)
  | exact Top.no_Statement_action (by assumption)
  | exact Top.no_Statement_test (by assumption)
  | exact Top.no_TooMany_what (by assumption)
  | assumption)
local macro_rules | `(tactic| walk_at "cl") => `(tactic| first
  | exact Top.cl_Answer (by assumption)
  | exact Top.cl_Draft (by assumption)
  | exact Top.cl_Program (by assumption)
  | exact Top.cl_Reader (by assumption)
  | exact Top.cl_Statement (by assumption)
  | assumption)
local macro_rules | `(tactic| walk_at "ty") => `(tactic| first
  | assumption
  | exact .base (.int _)
  | exact .base .non
  | exact .base (.bl _)
  | exact .base (.str _)
  | exact .base (.lst (by walk_at "hp"))
  | exact .base (.tup (by walk_at "hp"))
  | exact Z.ty_ins (Top.cl_Answer (by assumption)) (Top.in_Answer (by assumption)) (by walk_at "hp")
  | exact Z.ty_ins (Top.cl_Draft (by assumption)) (Top.in_Draft (by assumption)) (by walk_at "hp")
  | exact Z.ty_ins (Top.cl_Program (by assumption)) (Top.in_Program (by assumption)) (by walk_at "hp")
  | exact Z.ty_ins (Top.cl_Reader (by assumption)) (Top.in_Reader (by assumption)) (by walk_at "hp")
  | exact Z.ty_ins (Top.cl_Statement (by assumption)) (Top.in_Statement (by assumption)) (by walk_at "hp"))

/-! what stands at an address; which way a test goes; one step; as many as go -/
local macro_rules | `(tactic| walk_at "hp") => `(tactic| first
  | assumption
  | exact upd_same
  | (refine (‹Same _ _› : Same _ _) _ _ ?_; walk_at "hp")
  | (refine (‹Z.But _ _ _› : Z.But _ _ _) _ _ ?_ ?_; (first | assumption | (apply Ne.symm; assumption) | exact ne_of_none (by assumption) (by assumption)); walk_at "hp"))
local macro_rules | `(tactic| walk_at "sq") => `(tactic| first
  | assumption
  | exact SqL.of (by walk_at "hp")
  | (refine Same.seq (by assumption) ?_; walk_at "sq")
  | (refine Z.But.seq (by assumption) (by assumption) ?_; walk_at "sq"))
local macro_rules | `(tactic| walk_at "look") => `(tactic| first | assumption | exact Z.look1 | (simp [List.lookup]; done))
local macro_rules | `(tactic| walk_at "side") => `(tactic| first
  | (show (0 : Int) < _; omega)
  | (show CDiv _ _; exact ⟨by omega, by omega⟩)
  | (show CMul _ _; first | exact .inl ⟨by omega, by omega⟩ | exact .inr ⟨by omega, by omega⟩)
  | (show CPow _ _; exact ⟨by omega, by omega, by omega⟩))
local macro_rules | `(tactic| walk_at "st") => `(tactic| first
  | ((with_reducible refine' Z.r_var ?e ?_); (case e => exact rfl))
  | with_reducible refine Z.r_op ?_
  | with_reducible refine Z.r_c ?_
  | with_reducible refine Z.r_cons ?_
  | with_reducible refine Z.r_nil ?_
  | with_reducible refine Z.r_seq ?_
  | with_reducible refine Z.r_asg ?_
  | with_reducible refine Z.r_call ?_
  | with_reducible refine Z.r_cb ?_
  | with_reducible refine Z.r_asgG ?_
  | with_reducible refine Z.r_gName ?_
  | with_reducible refine Z.r_gSub ?_
  | with_reducible refine Z.r_ret ?_
  | with_reducible refine Z.r_retN ?_
  | with_reducible refine Z.r_next ?_
  | with_reducible refine Z.r_drop ?_
  | with_reducible refine Z.r_if ?_
  | with_reducible refine Z.r_par ?_
  | with_reducible refine Z.r_par3 ?_
  | with_reducible refine Z.r_vs3 ?_
  | with_reducible refine Z.r_gCons ?_
  | with_reducible refine Z.r_gNil ?_
  | ((with_reducible refine' Z.r_gTup ?e ?hn ?_); (case e => walk_at "hp"); (case hn => exact rfl))
  | with_reducible refine Z.r_vs2 ?_
  | ((with_reducible refine' Z.r_aug ?e ?_); (case e => exact rfl))
  | with_reducible refine Z.r_un ?_
  | with_reducible refine Z.r_test ?_
  | with_reducible refine Z.r_tB ?_
  | with_reducible refine Z.r_bl ?_
  | with_reducible refine Z.r_and ?_
  | with_reducible refine Z.r_or ?_
  | with_reducible refine Z.r_not ?_
  | with_reducible refine Z.r_andV ?_
  | with_reducible refine Z.r_orV ?_
  | with_reducible refine Z.r_notV ?_
  | with_reducible refine Z.r_ifE ?_
  | with_reducible refine Z.r_tup ?_
  | with_reducible refine Z.r_lst ?_
  | with_reducible refine Z.r_fld ?_
  | ((with_reducible refine' Z.r_fldV ?e ?c ?n ?l ?_); (case e => walk_at "hp"); (case c => walk_at "cl"); (case n => walk_at "no"); (case l => walk_at "look"))
  | ((with_reducible refine' Z.r_isiT ?ty ?k ?_); (case ty => walk_at "ty"); (case k => walk_at "ki"))
  | ((with_reducible refine' Z.r_isiC ?ty ?k ?_); (case ty => walk_at "ty"); (case k => walk_at "ki"))
  | with_reducible refine Z.r_make ?_
  | with_reducible refine Z.r_dget ?_
  | with_reducible refine Z.r_dput ?_
  | with_reducible refine Z.r_disp ?_
  | with_reducible refine Z.r_pnil ?_
  | with_reducible refine Z.r_pcons ?_
  | with_reducible refine Z.r_sfld ?_
  | ((with_reducible refine' Z.r_stF ?e ?c ?n ?l ?_); (case e => walk_at "hp"); (case c => walk_at "cl"); (case n => walk_at "no"); (case l => exact Nat.le_of_ble_eq_true rfl))
  | ((with_reducible refine' Z.r_nwL ?z ?_); (case z => exact Nat.le_of_ble_eq_true rfl))
  | ((with_reducible refine' Z.r_nwT ?z ?_); (case z => exact Nat.le_of_ble_eq_true rfl))
  | with_reducible refine Z.r_I0 ?_
  | with_reducible refine Z.r_U ?_
  | with_reducible refine Z.r_forRng ?_
  | with_reducible refine Z.r_forL0 ?_
  | with_reducible refine Z.r_lcRng ?_
  | with_reducible refine Z.r_lcLst ?_
  | with_reducible refine Z.r_sl ?_
  | with_reducible refine Z.r_part ?_
  | with_reducible refine Z.r_prt ?_
  | with_reducible refine Z.r_nopart ?_
  | with_reducible refine Z.r_bmA ?_
  | ((with_reducible refine' Z.r_tyL ?e ?_); (case e => walk_at "hp"))
  | with_reducible refine Z.r_lcFLst ?_
  | ((with_reducible refine' Z.r_I ?c ?_); (case c => walk_at "side"))
  | with_reducible refine Z.r_int1 ?_
  | with_reducible refine Z.r_abs ?_
  | with_reducible refine Z.r_max2 ?_
  | with_reducible refine Z.r_min2 ?_
  | ((with_reducible refine' Z.r_lenL ?e ?_); (case e => walk_at "sq"))
  | with_reducible refine Z.r_isN ?_
  | with_reducible refine Z.r_notN ?_
  | with_reducible refine Z.r_eqI ?_
  | with_reducible refine Z.r_eqB ?_
  | with_reducible refine Z.r_eqS ?_
  | with_reducible refine Z.r_neI ?_
  | with_reducible refine Z.r_neB ?_
  | with_reducible refine Z.r_neS ?_
  | ((with_reducible refine' Z.r_ixL ?h ?e ?_); (case h => walk_at "sq"); (case e => first | assumption | exact rfl))
  | ((with_reducible refine' Z.r_ixT ?h ?e ?_); (case h => exact SqT.of (by walk_at "hp")); (case e => first | assumption | exact rfl))
  | ((with_reducible refine' Z.r_setL ?h ?e ?_); (case h => walk_at "hp"); (case e => exact rfl))
  | ((with_reducible refine Z.yes ?_ ?_); (first | exact rfl | decide +kernel))
  | ((with_reducible refine Z.no ?_ ?_); (first | exact rfl | decide +kernel))
  | walk_at "call")
local macro_rules | `(tactic| walk_at "go") => `(tactic| repeat (first
  | ((with_reducible refine' Z.r_var ?e ?_); (case e => exact rfl))
  | with_reducible refine Z.r_op ?_
  | with_reducible refine Z.r_c ?_
  | with_reducible refine Z.r_cons ?_
  | with_reducible refine Z.r_nil ?_
  | with_reducible refine Z.r_seq ?_
  | with_reducible refine Z.r_asg ?_
  | with_reducible refine Z.r_call ?_
  | with_reducible refine Z.r_cb ?_
  | with_reducible refine Z.r_asgG ?_
  | with_reducible refine Z.r_gName ?_
  | with_reducible refine Z.r_gSub ?_
  | with_reducible refine Z.r_ret ?_
  | with_reducible refine Z.r_retN ?_
  | with_reducible refine Z.r_next ?_
  | with_reducible refine Z.r_drop ?_
  | with_reducible refine Z.r_if ?_
  | with_reducible refine Z.r_par ?_
  | with_reducible refine Z.r_par3 ?_
  | with_reducible refine Z.r_vs3 ?_
  | with_reducible refine Z.r_gCons ?_
  | with_reducible refine Z.r_gNil ?_
  | ((with_reducible refine' Z.r_gTup ?e ?hn ?_); (case e => walk_at "hp"); (case hn => exact rfl))
  | with_reducible refine Z.r_vs2 ?_
  | ((with_reducible refine' Z.r_aug ?e ?_); (case e => exact rfl))
  | with_reducible refine Z.r_un ?_
  | with_reducible refine Z.r_test ?_
  | with_reducible refine Z.r_tB ?_
  | with_reducible refine Z.r_bl ?_
  | with_reducible refine Z.r_and ?_
  | with_reducible refine Z.r_or ?_
  | with_reducible refine Z.r_not ?_
  | with_reducible refine Z.r_andV ?_
  | with_reducible refine Z.r_orV ?_
  | with_reducible refine Z.r_notV ?_
  | with_reducible refine Z.r_ifE ?_
  | with_reducible refine Z.r_tup ?_
  | with_reducible refine Z.r_lst ?_
  | with_reducible refine Z.r_fld ?_
  | ((with_reducible refine' Z.r_fldV ?e ?c ?n ?l ?_); (case e => walk_at "hp"); (case c => walk_at "cl"); (case n => walk_at "no"); (case l => walk_at "look"))
  | ((with_reducible refine' Z.r_isiT ?ty ?k ?_); (case ty => walk_at "ty"); (case k => walk_at "ki"))
  | ((with_reducible refine' Z.r_isiC ?ty ?k ?_); (case ty => walk_at "ty"); (case k => walk_at "ki"))
  | with_reducible refine Z.r_make ?_
  | with_reducible refine Z.r_dget ?_
  | with_reducible refine Z.r_dput ?_
  | with_reducible refine Z.r_disp ?_
  | with_reducible refine Z.r_pnil ?_
  | with_reducible refine Z.r_pcons ?_
  | with_reducible refine Z.r_sfld ?_
  | ((with_reducible refine' Z.r_stF ?e ?c ?n ?l ?_); (case e => walk_at "hp"); (case c => walk_at "cl"); (case n => walk_at "no"); (case l => exact Nat.le_of_ble_eq_true rfl))
  | ((with_reducible refine' Z.r_nwL ?z ?_); (case z => exact Nat.le_of_ble_eq_true rfl))
  | ((with_reducible refine' Z.r_nwT ?z ?_); (case z => exact Nat.le_of_ble_eq_true rfl))
  | with_reducible refine Z.r_I0 ?_
  | with_reducible refine Z.r_U ?_
  | with_reducible refine Z.r_forRng ?_
  | with_reducible refine Z.r_forL0 ?_
  | with_reducible refine Z.r_lcRng ?_
  | with_reducible refine Z.r_lcLst ?_
  | with_reducible refine Z.r_sl ?_
  | with_reducible refine Z.r_part ?_
  | with_reducible refine Z.r_prt ?_
  | with_reducible refine Z.r_nopart ?_
  | with_reducible refine Z.r_bmA ?_
  | ((with_reducible refine' Z.r_tyL ?e ?_); (case e => walk_at "hp"))
  | with_reducible refine Z.r_lcFLst ?_
  | ((with_reducible refine' Z.r_I ?c ?_); (case c => walk_at "side"))
  | with_reducible refine Z.r_int1 ?_
  | with_reducible refine Z.r_abs ?_
  | with_reducible refine Z.r_max2 ?_
  | with_reducible refine Z.r_min2 ?_
  | ((with_reducible refine' Z.r_lenL ?e ?_); (case e => walk_at "sq"))
  | with_reducible refine Z.r_isN ?_
  | with_reducible refine Z.r_notN ?_
  | with_reducible refine Z.r_eqI ?_
  | with_reducible refine Z.r_eqB ?_
  | with_reducible refine Z.r_eqS ?_
  | with_reducible refine Z.r_neI ?_
  | with_reducible refine Z.r_neB ?_
  | with_reducible refine Z.r_neS ?_
  | ((with_reducible refine' Z.r_ixL ?h ?e ?_); (case h => walk_at "sq"); (case e => first | assumption | exact rfl))
  | ((with_reducible refine' Z.r_ixT ?h ?e ?_); (case h => exact SqT.of (by walk_at "hp")); (case e => first | assumption | exact rfl))
  | ((with_reducible refine' Z.r_setL ?h ?e ?_); (case h => walk_at "hp"); (case e => exact rfl))
  | ((with_reducible refine Z.yes ?_ ?_); (first | exact rfl | decide +kernel))
  | ((with_reducible refine Z.no ?_ ?_); (first | exact rfl | decide +kernel))
  | walk_at "call"))
local macro_rules | `(tactic| walk_at "bag") => `(tactic| first
  | assumption
  | (refine Bag.mono (by omega) ?_; assumption)
  | (refine Bag.same (by assumption) ?_; walk_at "bag")
  | (refine Bag.but (by assumption) (by first | assumption | (apply Ne.symm; assumption)) ?_; walk_at "bag"))
local macro_rules | `(tactic| walk_at "len") => `(tactic| exact Z.szle (Nat.le_of_ble_eq_true rfl))
local macro_rules | `(tactic| walk_at "draw") => `(tactic| (refine' ⟨_, _, _, rfl, ?bg, ?m0, ?m1, ?n1, ?_⟩; (case bg => walk_at "bag"); (case m0 => omega); (case m1 => omega); (case n1 => omega)))
/-! the bag of a script's cell, its draws -/
/-- a bag: what is left of the digits, the seed, the number of draws (at most n) -/
def Bag (H : Hp) (b : Addr) (n : Nat) : Prop := ∃ g s k : Int, H b = some (.lst [.int g, .int s, .int k]) ∧ 0 ≤ g ∧ 0 ≤ s ∧ s < 1099511627776 ∧ 0 ≤ k ∧ k ≤ n
theorem Bag.mono {H : Hp} {b : Addr} {n m : Nat} (h : n ≤ m) (x : Bag H b n) : Bag H b m := by
  obtain ⟨g, s, k, h1, h2, h3, h4, h5, h6⟩ := x
  exact ⟨g, s, k, h1, h2, h3, h4, h5, by omega⟩
theorem Bag.same {H H' : Hp} {b : Addr} {n : Nat} (e : Same H H') (x : Bag H b n) : Bag H' b n := by
  obtain ⟨g, s, k, h1, h2⟩ := x
  exact ⟨g, s, k, e _ _ h1, h2⟩
theorem Bag.ne {H : Hp} {b p : Addr} {n : Nat} (x : Bag H b n) (h : H p = none) : p ≠ b := fun e => by
  obtain ⟨g, s, k, h1, _⟩ := x
  rw [e, h1] at h; cases h
theorem Bag.ne' {H : Hp} {b p : Addr} {n : Nat} {o : HO} (x : Bag H b n) (h : H p = some o) (d : ∀ xs, o ≠ .lst xs) : p ≠ b := fun e => by
  obtain ⟨g, s, k, h1, _⟩ := x
  rw [e, h1] at h; cases h; exact d _ rfl
theorem Bag.but {H H' : Hp} {b c : Addr} {n : Nat} (e : Z.But c H H') (ne : b ≠ c) (x : Bag H b n) : Bag H' b n := by
  obtain ⟨g, s, k, h1, h2⟩ := x
  exact ⟨g, s, k, e _ _ ne h1, h2⟩
local macro_rules | `(tactic| walk_at "bag") => `(tactic| first
  | assumption
  | (refine Bag.same (by assumption) ?_; walk_at "bag")
  | (refine Bag.but (by assumption) (by first | assumption | (apply Ne.symm; assumption)) ?_; walk_at "bag")
  | (refine Bag.mono (by omega) ?_; assumption))
/-- a word of one to eight small letters -/
def Word (x : Str) : Prop := 1 ≤ x.length ∧ x.length ≤ 8 ∧ ∀ c ∈ x.cps.toList, 97 ≤ c ∧ c ≤ 122
theorem Word.ok {x : Str} (h : Word x) : PyData.strOk x = true := by
  unfold PyData.strOk
  rw [Array.all_eq_true']
  intro c hc
  have := (h.2.2 c (Array.mem_toList_iff.mpr hc)).2
  exact decide_eq_true (by omega)
/-- a beginning of a word, of at most n letters -/
def Wd (n : Nat) (x : Str) : Prop := x.length = n ∧ ∀ c ∈ x.cps.toList, 97 ≤ c ∧ c ≤ 122
theorem Wd.add {n c : Nat} {x : Str} (h : Wd n x) (h1 : 97 ≤ c) (h2 : c ≤ 122) : Wd (n + 1) (x ++ (⟨#[c]⟩ : Str)) := by
  obtain ⟨h3, h4⟩ := h
  have e : (x ++ (⟨#[c]⟩ : Str)).cps = x.cps ++ #[c] := rfl
  constructor
  · show (x ++ (⟨#[c]⟩ : Str)).cps.size = n + 1
    rw [e, Array.size_append]
    have : x.cps.size = n := h3
    rw [this]; rfl
  · intro d hd
    rw [e, Array.toList_append, List.mem_append] at hd
    rcases hd with hd | hd
    · exact h4 d hd
    · have : d = c := by simpa using hd
      omega

/-- a value of the law's: nothing, an unnumbered value (an instance of the class at C) of this name, a number -/
inductive Tag where
  | non | mark (n : Str) | num (i : Int)
  deriving DecidableEq
def Rep (C : Addr) (H : Hp) (x : V) : Tag → Prop
  | .non => x = .non
  | .num i => x = .int i
  | .mark n => ∃ a dx, x = .ref a ∧ H a = some (.ins C dx [("name", .str n)])
theorem Rep.same {C : Addr} {H H' : Hp} {x : V} {t : Tag} (e : Same H H') (h : Rep C H x t) : Rep C H' x t := by
  cases t with
  | non => exact h
  | num i => exact h
  | mark n =>
    obtain ⟨a, dx, h1, h2⟩ := h
    exact ⟨a, dx, h1, e _ _ h2⟩
theorem Rep.but {C b : Addr} {H H' : Hp} {x : V} {t : Tag} {xs : List V} (e : Z.But b H H') (hb : H b = some (.lst xs)) (h : Rep C H x t) : Rep C H' x t := by
  cases t with
  | non => exact h
  | num i => exact h
  | mark n =>
    obtain ⟨a, dx, h1, h2⟩ := h
    exact ⟨a, dx, h1, e _ _ (ne_of h2 hb (by intro z; cases z)) h2⟩
/-! operators and comparisons of instances of an own class -/
namespace Z
open PySem PySem.Spec PyProof.Rows L2
section
variable {prog : Program} {w : World} {A : Around} {E : Value → Shared → Prop} {s : Shared} {x : Addr} {o : Obj} {a : Int} {t : Tok}
/-- what a built-in's operation on ints says of an instance -/
def Declines (B : Builtin) : Prop := ∀ (prog : Program) (w : World) (A : Around) (E : Value → Shared → Prop) (s : Shared) (x : Addr) (o : Obj) (a : Int) (t : Tok) (Q : Fin → Shared → Prop),
  s.heap.get? x = some o → o.data = .plain → Q (.done (.ret .notImplemented)) s → wpAny (model prog w) A (B ⟨[.int a t, .ref x], []⟩) Q E s
theorem dec_lt : Declines Builtin.«int.__lt__» := fun prog w A E s x o a t Q hx hd h => by
  obtain ⟨oc, od, data, sl⟩ := o
  simp only at hd
  subst hd
  obtain ⟨hp, g, d, tk, os⟩ := s
  wp_walk using AutoSeq1.wpAny_loadPart' hx
  exact h
theorem dec_le : Declines Builtin.«int.__le__» := fun prog w A E s x o a t Q hx hd h => by
  obtain ⟨oc, od, data, sl⟩ := o
  simp only at hd
  subst hd
  obtain ⟨hp, g, d, tk, os⟩ := s
  wp_walk using AutoSeq1.wpAny_loadPart' hx
  exact h
theorem dec_gt : Declines Builtin.«int.__gt__» := fun prog w A E s x o a t Q hx hd h => by
  obtain ⟨oc, od, data, sl⟩ := o
  simp only at hd
  subst hd
  obtain ⟨hp, g, d, tk, os⟩ := s
  wp_walk using AutoSeq1.wpAny_loadPart' hx
  exact h
theorem dec_ge : Declines Builtin.«int.__ge__» := fun prog w A E s x o a t Q hx hd h => by
  obtain ⟨oc, od, data, sl⟩ := o
  simp only at hd
  subst hd
  obtain ⟨hp, g, d, tk, os⟩ := s
  wp_walk using AutoSeq1.wpAny_loadPart' hx
  exact h
theorem dec_eq : Declines Builtin.«int.__eq__» := fun prog w A E s x o a t Q hx hd h => by
  obtain ⟨oc, od, data, sl⟩ := o
  simp only at hd
  subst hd
  obtain ⟨hp, g, d, tk, os⟩ := s
  wp_walk using AutoSeq1.wpAny_loadPart' hx
  exact h
theorem dec_ne : Declines Builtin.«int.__ne__» := fun prog w A E s x o a t Q hx hd h => by
  obtain ⟨oc, od, data, sl⟩ := o
  simp only at hd
  subst hd
  obtain ⟨hp, g, d, tk, os⟩ := s
  wp_walk using AutoSeq1.wpAny_loadPart' hx
  exact h
theorem dec_call {T : String} {name : Str} {id : String} {B : Builtin} (slot : Slot "int" name id) (entry : entryFor table id = some B) (args : ∀ a b, argsOk id ⟨[a, b], []⟩) (D : Declines B) {Q : Value → Shared → Prop}
    (hx : s.heap.get? x = some o) (hd : o.data = .plain) (h : Q .notImplemented s) : wpAny (model prog w) A (call (.builtin id) [.int a t, .ref x]) Q E s :=
  GQ.call_here slot (typeIs_int s a t) entry (args _ _) (D _ _ _ _ _ _ _ _ _ _ hx hd h)
/-- an int, a comparison, an instance: the instance's reflected def is asked -/
theorem cmp_int {K : PySem.W.Frag} {C f : Addr} {od : Option Obj} {op : CmpOp} {id : String} {B : Builtin} {Q : Value → Shared → Prop} (hu : A.units < cLine) (X : K.In s.heap) (I : PySem.W.InstAt s.heap x o C od) (hd : o.data = .plain)
    (slot : Slot "int" (cmpInfo op).2.1 id) (entry : entryFor table id = some B) (args : ∀ a b, argsOk id ⟨[a, b], []⟩) (D : Declines B)
    (sub : PySem.W.subIn K (.ref C) (.type "int") = some false) (hs : PySem.W.findIn K (.ref C) (cmpInfo op).2.2 = some (some (.ref f))) (hf : PySem.W.isFn K (.ref f) = true)
    (h : wpAny (model prog w) A (call (.ref f) [.ref x, .int a t]) (PySem.W.CmpBack Q) E s) : wpAny (model prog w) A (richCompare op (.int a t) (.ref x)) Q E s := by
  rcases hi : cmpInfo op with ⟨sym, nf, nr⟩
  rw [hi] at slot hs
  dsimp only at slot hs
  have one : wpAny (model prog w) A (tryCompare (.ref x) nr (.int a t)) (fun r s' => ∃ v, r = some v ∧ Q v s') E s := by
    unfold tryCompare
    refine wpAny_bind (PySem.W.ifBound_K X I hs hf (wpAny_mono h (fun v s' hv => ?_) fun _ _ e => e))
    cases v <;> first | exact hv.elim | exact wpAny_pure ⟨_, rfl, hv⟩
  simp only [richCompare, hi, (typeIs_int s a t).oneThing_none]
  refine wpAny_holding (wpAny_bind (wpAny_cRoomFor hu ?_))
  refine wpAny_bind (wpAny_typeOf (typeIs_int s a t) (wpAny_bind (I.type.here ?_)))
  have hne : (Value.type "int" != Value.ref C) = true := by simp
  simp only [hne, if_true]
  refine wpAny_bind ((PySem.W.looks_subIn X sub).here ?_)
  simp only [Bool.false_eq_true, if_false, Bool.not_false, if_true]
  refine wpAny_bind (m := tryCompare (.int a t) _ (.ref x)) (wpAny_tryCompare_declines (typeIs_int s a t) slot (dec_call (T := "int") slot entry args D I.at_ hd ⟨rfl, ?_⟩))
  refine wpAny_bind (m := tryCompare (.ref x) _ (.int a t)) (wpAny_mono one (fun r s' z => ?_) fun _ _ e => e)
  obtain ⟨v, rfl, hq⟩ := z
  exact wpAny_pure hq
end
section
variable {X : Cx} {C f : Addr} {fd : FuncData} {k : Nat} {ps : List Str} {sp : Sp} {op : CmpOp}
/-- x op y, x an instance of the class at C whose def for op keeps sp -/
def rCmpL (K : PySem.W.Frag) (C : Addr) (sp : Sp) : R2 := fun x y H Q => ∃ a dx fs t, x = .ref a ∧ H a = some (.ins C dx fs) ∧ TyX K H y t ∧ PySem.W.notFirst K C t = true ∧ sp ([x, y] ++ []) H Q E0
theorem o_cmpL (hop : ∀ a b, compareOp op a b = richCompare op a b) (M : Meth X.K C (cmpInfo op).2.1 f) (F : FnOk X.prog X.w X.K X.mg X.base CX0 k f fd ps sp) (hr : Room k X.A) (hb : Binds X.K fd ps []) : OpR X (compareOp op) (rCmpL X.K C sp) := by
  intro pins s σ H x y v u Q I rx ry h
  obtain ⟨a, dx, fs, t, rfl, ha, ty, hn, q⟩ := h
  cases (show v = Value.ref a from rx)
  obtain ⟨mA, O, _⟩ := ins_get I.hok ha
  obtain ⟨od, J, _⟩ := O.look
  obtain ⟨P, Z, p, _⟩ := kit_of I ry ty
  obtain ⟨m, hF⟩ := I.fr
  rw [hop]
  refine PySem.W.cmp_K (op := op) (tb := t) hr.units0 hF I.ok.mod.kin J (Z.ty _ _ I.kIn p) hn M.at_ M.fn ?_
  refine wpAny_mono (run_fn (us := [.ref a, u]) (vs := [.ref a, y]) F hr hb .nil pass0 I (.cons rfl (.cons ry .nil)) q) (fun w s' z => ?_) fun _ _ x => x
  obtain ⟨z', H', I', rz, qz⟩ := z
  exact SlX.cmpback rz ⟨z', H', I', rz, qz⟩
def rCmpR (K : PySem.W.Frag) (C : Addr) (sp : Sp) : R2 := fun x y H Q => ∃ i b dx fs, x = .int i ∧ y = .ref b ∧ H b = some (.ins C dx fs) ∧ PySem.W.subIn K (.ref C) (.type "int") = some false ∧ sp ([y, x] ++ []) H Q E0
theorem o_cmpR {id : String} {B : Builtin} (hop : ∀ a b, compareOp op a b = richCompare op a b) (slot : Slot "int" (cmpInfo op).2.1 id) (entry : entryFor table id = some B) (args : ∀ a b, argsOk id ⟨[a, b], []⟩) (D : Declines B)
    (M : Meth X.K C (cmpInfo op).2.2 f) (F : FnOk X.prog X.w X.K X.mg X.base CX0 k f fd ps sp) (hr : Room k X.A) (hb : Binds X.K fd ps []) : OpR X (compareOp op) (rCmpR X.K C sp) := by
  intro pins s σ H x y v u Q I rx ry h
  obtain ⟨i, b, dx, fs, rfl, rfl, hB, sub, q⟩ := h
  obtain ⟨t, rfl⟩ := (show ∃ t, v = Value.int i t from rx)
  cases (show u = Value.ref b from ry)
  obtain ⟨mA, O, _⟩ := ins_get I.hok hB
  obtain ⟨od, J, _⟩ := O.look
  rw [hop]
  refine cmp_int hr.units0 I.kIn J rfl slot entry args D sub M.at_ M.fn ?_
  refine wpAny_mono (run_fn (us := [.ref b, .int i t]) (vs := [.ref b, .int i]) F hr hb .nil pass0 I (.cons rfl (.cons ⟨t, rfl⟩ .nil)) q) (fun w s' z => ?_) fun _ _ x => x
  obtain ⟨z', H', I', rz, qz⟩ := z
  exact SlX.cmpback rz ⟨z', H', I', rz, qz⟩
/-- x in [x], the very object -/
def rInSelf : R2 := fun x y H Q => ∃ a p, x = .ref a ∧ y = .ref p ∧ H p = some (.lst [.ref a]) ∧ Q (.bl true) H
theorem o_inSelf : OpR X (compareOp .In) rInSelf := by
  intro pins s σ H x y v u Q I rx ry h
  obtain ⟨a, p, rfl, rfl, hp, q⟩ := h
  cases (show v = Value.ref a from rx)
  cases (show u = Value.ref p from ry)
  obtain ⟨its, r, pl, hz⟩ := I.list (SqL.of hp)
  have e : its = [Value.ref a] := by
    cases r with
    | cons r1 r2 =>
      cases r2
      cases r1
      rfl
  subst e
  refine SeqAt.in_listAt (fun _ => true) pl.isList (fun w hw => ?_) ⟨.bl true, H, I, (show Value.bool (#[Value.ref a].any fun _ => true) = Value.bool true by simp), q⟩
  have : w = Value.ref a := by simpa using hw
  subst this
  exact SeqAt.EqAt.same (.ref a)
/-- three kinds of one operator -/
def rAny3 (r1 r2 r3 : R2) : R2 := fun x y H Q => r1 x y H Q ∨ r2 x y H Q ∨ r3 x y H Q
theorem o_any3 {f : Value → Value → Sem Value} {r1 r2 r3 : R2} (h1 : OpR X f r1) (h2 : OpR X f r2) (h3 : OpR X f r3) : OpR X f (rAny3 r1 r2 r3) := OpR.or h1 (OpR.or h2 h3)
end
section
variable {K : PySem.W.Frag} {H : Hp} {Q : VK} {r1 r2 r3 : R2} {x y : V} {a b C dx : Addr} {fs : List (Str × V)} {t : Value} {sp : Sp} {i j : Int}
theorem r_anyII (h : r1 (.int i) (.int j) H Q) : rAny3 r1 r2 r3 (.int i) (.int j) H Q := .inl h
theorem r_anyR (h : r2 (.ref a) y H Q) : rAny3 r1 r2 r3 (.ref a) y H Q := .inr (.inl h)
theorem r_anyIR (h : r3 (.int i) (.ref b) H Q) : rAny3 r1 r2 r3 (.int i) (.ref b) H Q := .inr (.inr h)
theorem nf_self : PySem.W.notFirst K C (.ref C) = true := by
  unfold PySem.W.notFirst
  rw [beq_self_eq_true]; rfl
theorem nf_kit (h : PySem.W.kitOne K t (.ref C) = some false) : PySem.W.notFirst K C t = true := by
  unfold PySem.W.kitOne PySem.W.kitCls at h
  unfold PySem.W.notFirst
  split at h
  · cases h
  · split at h
    · rename_i C' he
      cases he
      split at h
      · rw [h]; simp
      · cases h
    · rename_i he; cases he
    · rename_i h1 h2; exact absurd rfl (h1 _)
theorem sub_kit {n : String} (h : PySem.W.kitOne K (.ref C) (.type n) = some false) : PySem.W.subIn K (.ref C) (.type n) = some false := by
  unfold PySem.W.kitOne PySem.W.kitCls at h
  split at h
  · cases h
  · split at h
    · rename_i he; cases he
    · rename_i T he
      cases he
      split at h
      · exact h
      · cases h
    · rename_i h1 h2; exact absurd rfl (h2 _)
theorem r_inSelf (e : H b = some (.lst [.ref a])) (h : Q (.bl true) H) : rInSelf (.ref a) (.ref b) H Q := ⟨a, b, rfl, rfl, e, h⟩
theorem r_cmpL (e : H a = some (.ins C dx fs)) (ty : TyX K H y t) (nf : PySem.W.notFirst K C t = true) (h : sp ([.ref a, y] ++ []) H Q E0) : rCmpL K C sp (.ref a) y H Q := ⟨a, dx, fs, t, rfl, e, ty, nf, h⟩
theorem r_cmpR (e : H b = some (.ins C dx fs)) (k : PySem.W.kitOne K (.ref C) (.type "int") = some false) (h : sp ([.ref b, .int i] ++ []) H Q E0) : rCmpR K C sp (.int i) (.ref b) H Q := ⟨i, b, dx, fs, rfl, rfl, e, sub_kit k, h⟩
end
end Z
local macro_rules | `(tactic| walk_at "nf") => `(tactic| first | exact Z.nf_self | exact Z.nf_kit (by walk_at "ki"))
local macro_rules | `(tactic| walk_at "call") => `(tactic| first
  | with_reducible refine Z.r_anyII ?_
  | ((with_reducible refine' Z.r_inSelf ?e ?_); (case e => walk_at "hp"))
  | with_reducible refine Z.r_anyR ?_
  | with_reducible refine Z.r_anyIR ?_
  | ((with_reducible refine' Z.r_cmpL ?e ?ty ?nf ?_); (case e => walk_at "hp"); (case ty => walk_at "ty"); (case nf => walk_at "nf"))
  | ((with_reducible refine' Z.r_cmpR ?e ?k ?_); (case e => walk_at "hp"); (case k => walk_at "ki")))
namespace Z
open PySem PySem.Spec PyProof.Rows L2 PySem.SeqAt
open MeetsSeq MeetsSeq2 MeetsSeq3 SeqRoads2
section
variable {prog : Program} {w : World} {A : Around} {R : Result → Shared → Prop}
def anyFrom (e : Nat → Bool) : Nat → Nat → Bool
  | _, 0 => false
  | i, k + 1 => e i || anyFrom e (i + 1) k
/-- at each turn the list is read anew; its i-th item's == with x tells e i -/
def Reads1 (prog : Program) (w : World) (A : Around) (R : Result → Shared → Prop) (l : Addr) (x : Value) (N : Nat) (e : Nat → Bool) (I : Shared → Prop) : Prop :=
  ∀ s, I s → ∃ (items : Array Value) (n : Nat), s.heap.get? l = some { cls := .type "list", data := .seq items n } ∧ items.size = N ∧
    ∀ (i : Nat) (h : i < items.size), wpAny (model prog w) A.in1 (eqBool items[i] x) (fun r s' => r = e i ∧ I s') (fun e s' => R (.error e) s') s
theorem contains_loopG (l : Addr) (x : Value) (N : Nat) (e : Nat → Bool) (I : Shared → Prop) (rd : Reads1 prog w A R l x N e I) (k : Nat) :
    ∀ i : Nat, N = i + k → (∀ s, I s → R (.ok (.ret (.bool (anyFrom e i k)))) s) → ∀ s, I s →
      wpAny (model prog w) A.in1 (Builtin.«list.__contains__.loop» ⟨[.ref l, x, rawInt i], []⟩) (GQ.FinOf prog w A R) (fun e s' => R (.error e) s') s := by
  induction k with
  | zero =>
    intro i hk fin s h
    obtain ⟨items, n, hl1, hs1, _⟩ := rd s h
    have hR := fin s h
    obtain ⟨hp, g, d, tk, os⟩ := s
    wp_walk using AutoSeq1.wpAny_loadPart' hl1
    have hi : items[((i : Nat) : Int).toNat]? = none := by simp; omega
    rw [hi]
    wp_walk
    exact hR
  | succ k ih =>
    intro i hk fin s h
    obtain ⟨items, n, hl1, hs1, turn⟩ := rd s h
    have hlt : i < items.size := by omega
    have ht := turn i hlt
    obtain ⟨hp, g, d, tk, os⟩ := s
    wp_walk using AutoSeq1.wpAny_loadPart' hl1
    have hi : items[((i : Nat) : Int).toNat]? = some items[i] := by simp [hlt]
    rw [hi]
    refine wpAny_bind (wpAny_mono ht (fun r s2 h2 => ?_) fun _ _ x => x)
    obtain ⟨hr, h2⟩ := h2
    subst hr
    cases hb : e i with
    | true =>
      have z := fin s2 h2
      rw [show anyFrom e i (k + 1) = (e i || anyFrom e (i + 1) k) from rfl, hb] at z
      obtain ⟨hp2, g2, d2, tk2, os2⟩ := s2
      wp_walk
      exact z
    | false =>
      have hrec := ih (i + 1) (by omega) (fun s q => by
        have z := fin s q
        rw [show anyFrom e i (k + 1) = (e i || anyFrom e (i + 1) k) from rfl, hb] at z
        exact z) s2 h2
      have hc : ((i : Int) + 1) = ((i + 1 : Nat) : Int) := by push_cast; rfl
      obtain ⟨hp2, g2, d2, tk2, os2⟩ := s2
      wp_walk
      rw [hc]
      exact ⟨plainId_quiet plain_contains_loop _, codeAny_builtin entry_contains_loop (by
        rw [Around.under_plainId plain_contains_loop _]
        exact hrec)⟩
theorem list_containsG (l : Addr) (x : Value) (N : Nat) (e : Nat → Bool) (I : Shared → Prop) (rd : Reads1 prog w A R l x N e I) (fin : ∀ s, I s → R (.ok (.ret (.bool (anyFrom e 0 N)))) s) {s : Shared} (h : I s) :
    wpAny (model prog w) A.in1 (Builtin.«list.__contains__» ⟨[.ref l, x], []⟩) (GQ.FinOf prog w A R) (fun e s' => R (.error e) s') s := by
  obtain ⟨items, n, hl1, _, _⟩ := rd s h
  have hrec := contains_loopG (A := A) (R := R) l x N e I rd N 0 (by omega) fin s h
  obtain ⟨hp, g, d, tk, os⟩ := s
  wp_walk using AutoSeq1.wpAny_loadPart' hl1
  exact ⟨plainId_quiet plain_contains_loop _, codeAny_builtin entry_contains_loop (by
    rw [Around.under_plainId plain_contains_loop _]
    exact hrec)⟩
end
end Z
namespace Z
open PySem PySem.Spec PyProof.Rows L2
section
variable {X : Cx} {k : Nat} {f : Addr} {fd : FuncData} {ps : List Str} {sp : Sp} {pins : List (Addr × Obj)} {σ : L2.St} {H : Hp} {s : Shared} {Q : VK} {us : List Value} {vs : List V}
/-- a def that is called somewhere below the running body -/
theorem run_below {A : Around} (sb : Sub X k A) (F : FnOk X.prog X.w X.K X.mg X.base CX0 k f fd ps sp) (hb : Binds X.K fd ps []) (I : Inv X pins σ H s) (r : Vals vs us) (h : sp vs H Q E0) :
    wpAny (model X.prog X.w) A (call (.ref f) us) (EP X pins σ Q) X.xe s := by
  have e0 : Env0 X.prog X.w X.K X.mg X.base A X.stack s H := by
    have e := I.env0
    exact ⟨by rw [sb.fr]; exact e.frames, e.mod, e.bs, e.bsz, e.funs, e.frf, e.hok, e.bare⟩
  have hl := F.len _ _ _ _ h
  have hl2 : us.length = ps.length := by rw [← r.length]; exact hl
  refine wpAny_call (codeAny_mono (F.run A X.stack s H ⟨us, []⟩ us vs Q E0 sb.room e0 (by simpa using hb s us I.kIn (by simpa using hl2)) r h) fun r s' hq => ?_)
  cases r with
  | error e => exact hq.elim
  | ok fl =>
    cases fl with
    | ret u => exact I.after hq
    | next => exact False.elim hq
    | brk => exact False.elim hq
    | cont => exact False.elim hq
/-- == within a built-in, of two values, tells b and leaves all as it was -/
def EqB (X : Cx) (k : Nat) (y x : V) (H : Hp) (b : Bool) : Prop :=
  ∀ (A : Around) (pins : List (Addr × Obj)) (σ : L2.St) (s : Shared) (u v : Value), Sub X k A → Inv X pins σ H s → RelV y u → RelV x v → wpAny (model X.prog X.w) A (eqBool u v) (fun r s' => r = b ∧ Inv X pins σ H s') X.xe s
theorem EqB.same {a : Addr} : EqB X k (.ref a) (.ref a) H true := by
  intro A pins σ s u v sb I ru rv
  cases (show u = Value.ref a from ru)
  cases (show v = Value.ref a from rv)
  exact SeqAt.EqAt.same (A := A) (s := s) (.ref a) X.prog X.w X.xe _ ⟨rfl, I⟩
theorem EqB.flat {x y : V} (fx : flatV x = true) (fy : flatV y = true) : EqB X k x y H (eqV x y) := by
  intro A pins σ s u v sb I ru rv
  exact eqAt_V (A := A) (s := s) ru rv fx fy X.prog X.w X.xe _ ⟨rfl, I⟩
/-- an instance whose own == says b of x, the very object excepted -/
theorem EqB.own {C a dx : Addr} {fs : List (Str × V)} {x : V} {t : Value} {b : Bool} (M : Meth X.K C "__eq__" f) (F : FnOk X.prog X.w X.K X.mg X.base CX0 k f fd ps sp) (hb : Binds X.K fd ps [])
    (ha : H a = some (.ins C dx fs)) (ty : TyX X.K H x t) (nf : PySem.W.notFirst X.K C t = true) (ne : x ≠ .ref a) (h : sp [.ref a, x] H (fun v H' => v = .bl b ∧ H' = H) E0) : EqB X k (.ref a) x H b := by
  intro A pins σ s u v sb I ru rv
  cases (show u = Value.ref a from ru)
  have hne : ¬ (Value.ref a == v) = true := by
    intro q
    have e : Value.ref a = v := eq_of_beq q
    subst e
    cases x with
    | ref c => exact ne (by cases (show Value.ref a = Value.ref c from rv); rfl)
    | int i => obtain ⟨_, e⟩ := (show ∃ t, Value.ref a = Value.int i t from rv); cases e
    | str i => obtain ⟨_, e⟩ := (show ∃ t, Value.ref a = Value.str i t from rv); cases e
    | byt i => obtain ⟨_, e⟩ := (show ∃ t, Value.ref a = Value.bytes i t from rv); cases e
    | flt i => obtain ⟨_, e⟩ := (show ∃ t, Value.ref a = Value.float i t from rv); cases e
    | non => cases (show Value.ref a = Value.none from rv)
    | bl i => cases (show Value.ref a = Value.bool i from rv)
    | ty n => cases (show Value.ref a = Value.type n from rv)
  obtain ⟨mA, O, _⟩ := ins_get I.hok ha
  obtain ⟨od, J, _⟩ := O.look
  obtain ⟨P, Z, p, _⟩ := kit_of I rv ty
  obtain ⟨m, hF⟩ := I.fr
  have rc : wpAny (model X.prog X.w) A (richCompare .Eq (.ref a) v) (fun r s' => ∃ z, r = .bool z ∧ z = b ∧ Inv X pins σ H s') X.xe s := by
    refine PySem.W.cmp_K (op := .Eq) (tb := t) sb.room.units0 hF I.ok.mod.kin J (Z.ty _ _ I.kIn p) nf M.at_ M.fn ?_
    refine wpAny_mono (run_below (us := [.ref a, v]) (vs := [.ref a, x]) sb F hb I (.cons rfl (.cons rv .nil)) h) (fun w s' z => ?_) fun _ _ x => x
    obtain ⟨z', H', I', rz, e1, e2⟩ := z
    subst e1 e2
    cases (show w = Value.bool b from rz)
    exact ⟨b, rfl, rfl, I'⟩
  unfold eqBool
  refine wpAny_holding ?_
  refine wpAny_ite_split (fun hab => absurd hab hne) (fun _ => ?_)
  refine wpAny_bind (wpAny_mono rc (fun r s' hv => ?_) fun _ _ x => x)
  obtain ⟨z, rfl, hz, hI⟩ := hv
  exact wpAny_truthy_bool ⟨hz, hI⟩
/-- an int beside an instance whose own == says b of it -/
theorem EqB.int {C a dx : Addr} {fs : List (Str × V)} {i : Int} {b : Bool} (M : Meth X.K C "__eq__" f) (F : FnOk X.prog X.w X.K X.mg X.base CX0 k f fd ps sp) (hb : Binds X.K fd ps [])
    (ha : H a = some (.ins C dx fs)) (sub : PySem.W.subIn X.K (.ref C) (.type "int") = some false) (h : sp [.ref a, .int i] H (fun v H' => v = .bl b ∧ H' = H) E0) : EqB X k (.int i) (.ref a) H b := by
  intro A pins σ s u v sb I ru rv
  obtain ⟨t, rfl⟩ := (show ∃ t, u = Value.int i t from ru)
  cases (show v = Value.ref a from rv)
  obtain ⟨mA, O, _⟩ := ins_get I.hok ha
  obtain ⟨od, J, _⟩ := O.look
  have rc : wpAny (model X.prog X.w) A (richCompare .Eq (.int i t) (.ref a)) (fun r s' => ∃ z, r = .bool z ∧ z = b ∧ Inv X pins σ H s') X.xe s := by
    refine cmp_int (op := .Eq) sb.room.units0 I.kIn J rfl PySem.F.slot_int_eq PySem.F.entry_int_eq PySem.F.args_int_eq_2 dec_eq sub M.at_ M.fn ?_
    refine wpAny_mono (run_below (us := [.ref a, .int i t]) (vs := [.ref a, .int i]) sb F hb I (.cons rfl (.cons ⟨t, rfl⟩ .nil)) h) (fun w s' z => ?_) fun _ _ x => x
    obtain ⟨z', H', I', rz, e1, e2⟩ := z
    subst e1 e2
    cases (show w = Value.bool b from rz)
    exact ⟨b, rfl, rfl, I'⟩
  unfold eqBool
  refine wpAny_holding ?_
  refine wpAny_ite_split (fun hab => absurd (eq_of_beq hab) nofun) (fun _ => ?_)
  refine wpAny_bind (wpAny_mono rc (fun r s' hv => ?_) fun _ _ x => x)
  obtain ⟨z, rfl, hz, hI⟩ := hv
  exact wpAny_truthy_bool ⟨hz, hI⟩
theorem any_from (f : V → Bool) : ∀ (xs ys : List V), anyFrom (fun i => f ((ys ++ xs).getD i .non)) ys.length xs.length = xs.any f
  | [], _ => rfl
  | x :: xs, ys => by
    have ih := any_from f xs (ys ++ [x])
    rw [List.append_assoc] at ih
    have h0 : (ys ++ x :: xs).getD ys.length .non = x := by simp [List.getD_eq_getElem?_getD]
    show (f ((ys ++ x :: xs).getD ys.length .non) || anyFrom _ (ys.length + 1) xs.length) = (x :: xs).any f
    rw [h0, List.any_cons, ← ih]
    simp
/-- x in a list, by what == says of each item -/
theorem in_ok {p : Addr} {xs : List V} {x : V} {v : Value} (e : V → Bool) (hr : Room (k + 1) X.A) (I : Inv X pins σ H s) (hp : H p = some (.lst xs)) (rx : RelV x v) (he : ∀ z ∈ xs, EqB X k z x H (e z)) {Q : Value → Shared → Prop}
    (q : ∀ s', Inv X pins σ H s' → Q (.bool (xs.any e)) s') : wpAny (model X.prog X.w) X.A (call (.builtin "list.__contains__") [.ref p, v]) Q X.xe s := by
  obtain ⟨hz, its, n, r, hl⟩ := (show ObjOk X.prog X.w H s.heap p (.lst xs) from I.hok p _ hp)
  refine GQ.call_here PySem.F.slot_list_contains ⟨_, hl, rfl⟩ PySem.F.entry_list_contains (PySem.F.args_list_contains_2 _ _) ?_
  refine list_containsG p v xs.length (fun i => e (xs.getD i .non)) (fun s' => Inv X pins σ H s') (fun s' I' => ?_) (fun s' I' => ?_) I
  · obtain ⟨hz', its', n', r', hl'⟩ := (show ObjOk X.prog X.w H s'.heap p (.lst xs) from I'.hok p _ hp)
    refine ⟨its'.toArray, n', hl', by rw [List.size_toArray, ← r'.length], fun i hi => ?_⟩
    have h1 : i < its'.length := by simpa using hi
    have h2 : i < xs.length := by rw [r'.length]; exact h1
    obtain ⟨u, hu, ru⟩ := r'.get (List.getElem?_eq_getElem h2)
    rw [List.getElem?_eq_getElem h1] at hu
    have e1 : its'.toArray[i] = u := by simpa using Option.some.inj hu
    have e2 : xs.getD i .non = xs[i] := by simp [List.getD_eq_getElem?_getD, h2]
    rw [e1]
    show wpAny _ _ _ (fun r s'' => r = e (xs.getD i .non) ∧ Inv X pins σ H s'') _ _
    rw [e2]
    exact he _ (List.getElem_mem h2) X.A.in1 pins σ s' u v ⟨hr.in1, rfl⟩ I' ru rx
  · have z := any_from e xs []
    rw [List.nil_append, List.length_nil] at z
    show Q (.bool (anyFrom _ 0 xs.length)) s'
    rw [z]
    exact q s' I'
/-- the same of every place of the program -/
def EqG (P : Program) (w : World) (K : PySem.W.Frag) (mg : Str → Option Value) (base : Heap) (k : Nat) (y x : V) (H : Hp) (b : Bool) : Prop := ∀ X : Cx, X.prog = P → X.w = w → X.K = K → X.mg = mg → X.base = base → EqB X k y x H b
section
variable {P : Program} {w : World} {K : PySem.W.Frag} {mg : Str → Option Value} {base : Heap}
theorem EqG.same {a : Addr} : EqG P w K mg base k (.ref a) (.ref a) H true := fun _ _ _ _ _ _ => EqB.same
theorem EqG.flat {x y : V} (fx : flatV x = true) (fy : flatV y = true) : EqG P w K mg base k x y H (eqV x y) := fun _ _ _ _ _ _ => EqB.flat fx fy
theorem EqG.own {C a dx : Addr} {fs : List (Str × V)} {x : V} {t : Value} {b : Bool} (M : Meth K C "__eq__" f) (F : FnOk P w K mg base CX0 k f fd ps sp) (hb : Binds K fd ps [])
    (ha : H a = some (.ins C dx fs)) (ty : TyX K H x t) (nf : PySem.W.notFirst K C t = true) (ne : x ≠ .ref a) (h : sp [.ref a, x] H (fun v H' => v = .bl b ∧ H' = H) E0) : EqG P w K mg base k (.ref a) x H b := by
  intro X e1 e2 e3 e4 e5
  subst e1 e2 e3 e4 e5
  exact EqB.own M F hb ha ty nf ne h
theorem EqG.int {C a dx : Addr} {fs : List (Str × V)} {i : Int} {b : Bool} (M : Meth K C "__eq__" f) (F : FnOk P w K mg base CX0 k f fd ps sp) (hb : Binds K fd ps [])
    (ha : H a = some (.ins C dx fs)) (sub : PySem.W.subIn K (.ref C) (.type "int") = some false) (h : sp [.ref a, .int i] H (fun v H' => v = .bl b ∧ H' = H) E0) : EqG P w K mg base k (.int i) (.ref a) H b := by
  intro X e1 e2 e3 e4 e5
  subst e1 e2 e3 e4 e5
  exact EqB.int M F hb ha sub h
end
/-- x in p, x not in p: all that == says of the items is told -/
def rInO (P : Program) (w : World) (K : PySem.W.Frag) (mg : Str → Option Value) (base : Heap) (k : Nat) (neg : Bool) : R2 := fun x y H Q => ∃ (p : Addr) (xs : List V) (e : V → Bool), y = .ref p ∧ H p = some (.lst xs) ∧ (∀ z ∈ xs, EqG P w K mg base k z x H (e z)) ∧ Q (.bl (if neg = true then !xs.any e else xs.any e)) H
section
variable {P : Program} {w : World} {K : PySem.W.Frag} {mg : Str → Option Value} {base : Heap}
theorem o_inO (e1 : X.prog = P) (e2 : X.w = w) (e3 : X.K = K) (e4 : X.mg = mg) (e5 : X.base = base) (hr : Room (k + 1) X.A) : OpR X (compareOp .In) (rInO P w K mg base k false) := by
  intro pins s σ H x y v u Q I rx ry h
  obtain ⟨p, xs, e, rfl, hp, he, q⟩ := h
  cases (show u = Value.ref p from ry)
  obtain ⟨hz, its, n, r, hl⟩ := (show ObjOk X.prog X.w H s.heap p (.lst xs) from I.hok p _ hp)
  show wpAny _ X.A (do return Value.bool (← contains (.ref p) v)) _ _ s
  refine wpAny_bind (wpAny_contains_slot ⟨_, hl, rfl⟩ PySem.F.slot_list_contains (in_ok e hr I hp rx (fun z hz => he z hz X e1 e2 e3 e4 e5) fun s' I' => ?_))
  exact wpAny_truthy_bool (wpAny_pure ⟨.bl _, H, I', rfl, q⟩)
theorem o_notInO (e1 : X.prog = P) (e2 : X.w = w) (e3 : X.K = K) (e4 : X.mg = mg) (e5 : X.base = base) (hr : Room (k + 1) X.A) : OpR X (compareOp .NotIn) (rInO P w K mg base k true) := by
  intro pins s σ H x y v u Q I rx ry h
  obtain ⟨p, xs, e, rfl, hp, he, q⟩ := h
  cases (show u = Value.ref p from ry)
  obtain ⟨hz, its, n, r, hl⟩ := (show ObjOk X.prog X.w H s.heap p (.lst xs) from I.hok p _ hp)
  show wpAny _ X.A (do return Value.bool (!(← contains (.ref p) v))) _ _ s
  refine wpAny_bind (wpAny_contains_slot ⟨_, hl, rfl⟩ PySem.F.slot_list_contains (in_ok e hr I hp rx (fun z hz => he z hz X e1 e2 e3 e4 e5) fun s' I' => ?_))
  exact wpAny_truthy_bool (wpAny_pure ⟨.bl _, H, I', rfl, q⟩)
end
end
end Z
namespace Z
open PySem PySem.Spec PyProof.Rows L2
section
variable {prog : Program} {w : World} {A : Around} {E : Value → Shared → Prop} {s : Shared} {K : PySem.W.Frag} {x y C f : Addr} {ox oy : Obj} {od od' : Option Obj} {nm : String}
theorem bin1_same {Q : Value → Shared → Prop} (X : K.In s.heap) (I : PySem.W.InstAt s.heap x ox C od) (J : PySem.W.InstAt s.heap y oy C od') (hc : PySem.W.selfFirst K C = true)
    (hs : PySem.W.findIn K (.ref C) (PySem.dunder nm) = some (some (.ref f))) (hf : PySem.W.isFn K (.ref f) = true)
    (h : wpAny (model prog w) A (call (.ref f) [.ref x, .ref y]) (PySem.W.CmpBack Q) E s) : wpAny (model prog w) A (binaryOp1 nm (.ref x) (.ref y)) (fun r s' => ∃ v, r = some v ∧ Q v s') E s := by
  obtain ⟨cd, rest, hcd, hm⟩ := PySem.W.ksp_first hc
  have one := PySem.W.ksp_try X I hs hf h
  obtain ⟨hh, g, d, tt, os⟩ := s
  have L1 : PySem.W.Looks (model prog w) hh (typeOf (.ref x)) (.ref C) := I.type
  have L2 : PySem.W.Looks (model prog w) hh (typeOf (.ref y)) (.ref C) := J.type
  have L3 : PySem.W.Looks (model prog w) hh (fillsNumberSlot (.ref C) nm) true := PySem.W.fills_K X hcd hm hs
  have heq : (Value.ref C == Value.ref C) = true := beq_self_eq_true _
  unfold binaryOp1
  refine wpAny_bind (L1.at (wpAny_bind (L2.at (wpAny_bind (L3.at ?_)))))
  simp only [heq, if_true]
  ksp_lk
  refine wpAny_mono one (fun r s' hr' => ?_) fun _ _ e => e
  obtain ⟨v, rfl, hq⟩ := hr'
  ksp_lk
  exact ⟨v, rfl, hq⟩
theorem bin1_own {b : Value} {T : String} {fo ro rc : Option Value} {Q : Value → Shared → Prop} (X : K.In s.heap) (I : PySem.W.InstAt s.heap x ox C od) (hb : typeOf b = pure (.type T)) (hc : PySem.W.selfFirst K C = true)
    (hs : PySem.W.findIn K (.ref C) (PySem.dunder nm) = some (some (.ref f))) (hf : PySem.W.isFn K (.ref f) = true) (hr : PySem.W.findIn K (.ref C) (PySem.dunderR nm) = some rc) (hp : rc = none ∨ ∃ g : Addr, rc = some (.ref g))
    (h1 : PySem.W.findIn K (.type T) (PySem.dunder nm) = some fo) (h2 : PySem.W.findIn K (.type T) (PySem.dunderR nm) = some ro) (hsub : PySem.W.subIn K (.type T) (.ref C) = some false)
    (h : wpAny (model prog w) A (call (.ref f) [.ref x, b]) (PySem.W.CmpBack Q) E s) : wpAny (model prog w) A (binaryOp1 nm (.ref x) b) (fun r s' => ∃ v, r = some v ∧ Q v s') E s := by
  obtain ⟨cd, rest, hcd, hm⟩ := PySem.W.ksp_first hc
  have one := PySem.W.ksp_try X I hs hf h
  obtain ⟨hh, g, d, tt, os⟩ := s
  have L1 : PySem.W.Looks (model prog w) hh (typeOf (.ref x)) (.ref C) := I.type
  have L2 : PySem.W.Looks (model prog w) hh (typeOf b) (.type T) := PySem.W.Looks.of_pure hb
  have L3 : PySem.W.Looks (model prog w) hh (fillsNumberSlot (.ref C) nm) true := PySem.W.fills_K X hcd hm hs
  have L4 : PySem.W.Looks (model prog w) hh (fillsNumberSlot (.type T) nm) ((fo.isSome && !isSeqSlot fo) || (ro.isSome && !isSeqSlot ro)) := PySem.W.ksp_fillsT X h1 h2
  have L5 : PySem.W.Looks (model prog w) hh (isSubtype (.type T) (.ref C)) false := PySem.W.looks_subIn X hsub
  have L6 : PySem.W.Looks (model prog w) hh (numberSlotInPython (.ref C) nm) true := PySem.W.ksp_inPy X hs hr hp
  have L7 : PySem.W.Looks (model prog w) hh (numberSlotInPython (.type T) nm) false := PySem.W.Looks.of_pure rfl
  have L8 : PySem.W.Looks (model prog w) hh (typeLookup (.type T) (PySem.dunderR nm)) ro := PySem.W.looks_findIn X h2
  generalize ((fo.isSome && !isSeqSlot fo) || (ro.isSome && !isSeqSlot ro)) = right at L4
  have hne : (Value.ref C == Value.type T) = false := Bool.eq_false_iff.mpr fun q => by cases beq_iff_eq.mp q
  unfold binaryOp1
  refine wpAny_bind (L1.at (wpAny_bind (L2.at (wpAny_bind (L3.at ?_)))))
  simp only [hne, Bool.false_eq_true, if_false]
  cases right with
  | false =>
    ksp_lk
    refine wpAny_mono one (fun r s' hr' => ?_) fun _ _ e => e
    obtain ⟨v, rfl, hq⟩ := hr'
    ksp_lk
    exact ⟨v, rfl, hq⟩
  | true =>
    ksp_lk
    refine wpAny_mono one (fun r s' hr' => ?_) fun _ _ e => e
    obtain ⟨v, rfl, hq⟩ := hr'
    ksp_lk
    exact ⟨v, rfl, hq⟩
theorem bin1_int {i : Int} {t : Tok} {id : String} {B : Builtin} {Q : Value → Shared → Prop} (X : K.In s.heap) (I : PySem.W.InstAt s.heap x ox C od) (hd : ox.data = .plain) (hc : PySem.W.selfFirst K C = true)
    (slot : Slot "int" (PySem.dunder nm) id) (entry : entryFor table id = some B) (args : ∀ a b, argsOk id ⟨[a, b], []⟩) (D : Declines B) (fills : fillsNumberSlot (.type "int") nm = pure true)
    (hl : PySem.W.findIn K (.ref C) (PySem.dunder nm) = some (some (.ref y))) (hs : PySem.W.findIn K (.ref C) (PySem.dunderR nm) = some (some (.ref f))) (hf : PySem.W.isFn K (.ref f) = true) (sub : PySem.W.subIn K (.ref C) (.type "int") = some false)
    (h : wpAny (model prog w) A (call (.ref f) [.ref x, .int i t]) (PySem.W.CmpBack Q) E s) : wpAny (model prog w) A (binaryOp1 nm (.int i t) (.ref x)) (fun r s' => ∃ v, r = some v ∧ Q v s') E s := by
  obtain ⟨cd, rest, hcd, hm⟩ := PySem.W.ksp_first hc
  have one := PySem.W.ksp_try X I hs hf h
  have dec : ∀ {Q : Option Value → Shared → Prop}, Q none s → wpAny (model prog w) A (tryMethod (.int i t) (PySem.dunder nm) (.ref x)) Q E s := fun q =>
    wpAny_tryMethod_declines (typeIs_int s i t) slot (dec_call (T := "int") slot entry args D I.at_ hd ⟨rfl, q⟩)
  obtain ⟨hh, g, d, tt, os⟩ := s
  have L1 : PySem.W.Looks (model prog w) hh (typeOf (.int i t)) (.type "int") := PySem.W.Looks.of_pure rfl
  have L2 : PySem.W.Looks (model prog w) hh (typeOf (.ref x)) (.ref C) := I.type
  have L3 : PySem.W.Looks (model prog w) hh (fillsNumberSlot (.type "int") nm) true := PySem.W.Looks.of_pure fills
  have L4 : PySem.W.Looks (model prog w) hh (fillsNumberSlot (.ref C) nm) true := PySem.W.fills_K X hcd hm hl
  have L5 : PySem.W.Looks (model prog w) hh (isSubtype (.ref C) (.type "int")) false := PySem.W.looks_subIn X sub
  have L7 : PySem.W.Looks (model prog w) hh (numberSlotInPython (.type "int") nm) false := PySem.W.Looks.of_pure rfl
  have hne : (Value.type "int" == Value.ref C) = false := Bool.eq_false_iff.mpr fun q => by cases beq_iff_eq.mp q
  unfold binaryOp1
  refine wpAny_bind (L1.at (wpAny_bind (L2.at (wpAny_bind (L3.at ?_)))))
  simp only [hne, Bool.false_eq_true, if_false]
  ksp_lk
  refine dec ?_
  ksp_lk
  refine wpAny_mono one (fun r s' hr' => ?_) fun _ _ e => e
  obtain ⟨v, rfl, hq⟩ := hr'
  ksp_lk
  exact ⟨v, rfl, hq⟩
theorem bin_of1 {op : Operator} {a b : Value} {Q : Value → Shared → Prop} (h : wpAny (model prog w) A (binaryOp1 op.info.2 a b) (fun r s' => ∃ v, r = some v ∧ Q v s') E s) : wpAny (model prog w) A (binaryOp op a b) Q E s := by
  rcases hi : op.info with ⟨sym, nm'⟩
  rw [hi] at h
  simp only [binaryOp, hi]
  refine wpAny_holding (wpAny_bind (wpAny_mono h (fun r s' hr => ?_) fun _ _ e => e))
  obtain ⟨v, rfl, hq⟩ := hr
  exact wpAny_pure hq
/-- op= where the left type has no in-place def -/
theorem inp_of1 {op : Operator} {a b ta : Value} {Q : Value → Shared → Prop} (L1 : PySem.W.Looks (model prog w) s.heap (typeOf a) ta) (L2 : PySem.W.Looks (model prog w) s.heap (fillsInplaceSlot ta op.info.2 (op == .Add)) false)
    (h : wpAny (model prog w) A (binaryOp1 op.info.2 a b) (fun r s' => ∃ v, r = some v ∧ Q v s') E s) : wpAny (model prog w) A (inplaceOp op a b) Q E s := by
  obtain ⟨hh, g, d, tt, os⟩ := s
  unfold inplaceOp
  refine wpAny_holding (wpAny_bind (L1.at (wpAny_bind (L2.at ?_))))
  simp only [Bool.false_eq_true, if_false]
  refine wpAny_bind (wpAny_mono h (fun r s' hr => ?_) fun _ _ e => e)
  obtain ⟨v, rfl, hq⟩ := hr
  exact wpAny_pure hq
theorem dec_add : Declines Builtin.«int.__add__» := fun prog w A E s x o a t Q hx hd h => by
  obtain ⟨oc, od, data, sl⟩ := o
  simp only at hd
  subst hd
  obtain ⟨hp, g, d, tk, os⟩ := s
  wp_walk using AutoSeq1.wpAny_loadPart' hx
  exact h
theorem dec_sub : Declines Builtin.«int.__sub__» := fun prog w A E s x o a t Q hx hd h => by
  obtain ⟨oc, od, data, sl⟩ := o
  simp only at hd
  subst hd
  obtain ⟨hp, g, d, tk, os⟩ := s
  wp_walk using AutoSeq1.wpAny_loadPart' hx
  exact h
theorem dec_mul : Declines Builtin.«int.__mul__» := fun prog w A E s x o a t Q hx hd h => by
  obtain ⟨oc, od, data, sl⟩ := o
  simp only at hd
  subst hd
  obtain ⟨hp, g, d, tk, os⟩ := s
  wp_walk using AutoSeq1.wpAny_loadPart' hx
  exact h
theorem dec_floordiv : Declines Builtin.«int.__floordiv__» := fun prog w A E s x o a t Q hx hd h => by
  obtain ⟨oc, od, data, sl⟩ := o
  simp only at hd
  subst hd
  obtain ⟨hp, g, d, tk, os⟩ := s
  wp_walk using AutoSeq1.wpAny_loadPart' hx
  exact h
theorem dec_mod : Declines Builtin.«int.__mod__» := fun prog w A E s x o a t Q hx hd h => by
  obtain ⟨oc, od, data, sl⟩ := o
  simp only at hd
  subst hd
  obtain ⟨hp, g, d, tk, os⟩ := s
  wp_walk using AutoSeq1.wpAny_loadPart' hx
  exact h
end
end Z
namespace Z
open PySem PySem.Spec PyProof.Rows L2
section
variable {K : PySem.W.Frag} {C f : Addr} {nm : String}
theorem inpl_own {M : Model} {h : Heap} {add : Bool} {cd : ClassData} (X : K.In h) (hc : PySem.W.clsIn K C = some cd) (hm : cd.mro = [.ref C, .type "object"]) (h1 : PySem.W.findIn K (.ref C) (PySem.dunderI nm) = some none) (h2 : PySem.W.findIn K (.type "object") (PySem.dunderI nm) = some none) :
    PySem.W.Looks M h (fillsInplaceSlot (.ref C) nm add) false := by
  intro A Q E s k q
  have Lm : PySem.W.Looks M h (mroOf (.ref C)) cd.mro := (PySem.W.looks_clsIn X hc).andThen (f := fun cd => pure cd.mro) .now
  have Lm' := Lm.keeps k
  obtain ⟨hh, g, d, tt, os⟩ := s
  have X' : K.In hh := X.keeps k
  have L1 : PySem.W.Looks M hh (typeLookup (.ref C) (PySem.dunderI nm)) none := PySem.W.looks_findIn X' h1
  have L2 : PySem.W.Looks M hh (typeLookup (.type "object") (PySem.dunderI nm)) none := PySem.W.looks_findIn X' h2
  unfold fillsInplaceSlot
  refine wpAny_bind (Lm'.at ?_)
  rw [hm, List.anyM_cons]
  refine wpAny_bind ?_
  refine wpAny_bind (L1.at ?_)
  refine wpAny_pure ?_
  simp only [Bool.false_eq_true, if_false]
  rw [List.anyM_cons]
  refine wpAny_bind ?_
  refine wpAny_bind (L2.at ?_)
  refine wpAny_pure ?_
  simp only [Bool.false_eq_true, if_false]
  exact wpAny_pure q
end
section
variable {X : Cx} {C f g : Addr} {fd : FuncData} {k : Nat} {ps : List Str} {sp : Sp} {op : Operator}
/-- an int, or another instance of the class -/
def NumOr (C : Addr) (H : Hp) (y : V) : Prop := (∃ i, y = .int i) ∨ ∃ b dy gs, y = .ref b ∧ H b = some (.ins C dy gs)
def rBinL (C : Addr) (sp : Sp) : R2 := fun x y H Q => ∃ a dx fs, x = .ref a ∧ H a = some (.ins C dx fs) ∧ NumOr C H y ∧ sp ([x, y] ++ []) H Q E0
def rBinR (C : Addr) (sp : Sp) : R2 := fun x y H Q => ∃ i b dx fs, x = .int i ∧ y = .ref b ∧ H b = some (.ins C dx fs) ∧ sp ([y, x] ++ []) H Q E0
theorem bin1_L {pins : List (Addr × Obj)} {s : Shared} {σ : L2.St} {H : Hp} {x y : V} {v u : Value} {Q : VK} (B : BinF X.K C op.info.2 f g) (F : FnOk X.prog X.w X.K X.mg X.base CX0 k f fd ps sp) (hr : Room k X.A) (hb : Binds X.K fd ps [])
    (I : Inv X pins σ H s) (rx : RelV x v) (ry : RelV y u) (h : rBinL C sp x y H Q) : wpAny (model X.prog X.w) X.A (binaryOp1 op.info.2 v u) (fun r s' => ∃ v, r = some v ∧ EP X pins σ Q v s') X.xe s := by
  obtain ⟨a, dx, fs, rfl, ha, hy, q⟩ := h
  cases (show v = Value.ref a from rx)
  obtain ⟨mA, O, _⟩ := ins_get I.hok ha
  obtain ⟨od, J, _⟩ := O.look
  have call : wpAny (model X.prog X.w) X.A (PySem.call (.ref f) [.ref a, u]) (PySem.W.CmpBack (EP X pins σ Q)) X.xe s := by
    refine wpAny_mono (run_fn (us := [.ref a, u]) (vs := [.ref a, y]) F hr hb .nil pass0 I (.cons rfl (.cons ry .nil)) q) (fun w s' z => ?_) fun _ _ x => x
    obtain ⟨z', H', I', rz, qz⟩ := z
    exact SlX.cmpback rz ⟨z', H', I', rz, qz⟩
  rcases hy with ⟨i, rfl⟩ | ⟨b, dy, gs, rfl, hB⟩
  · obtain ⟨t, rfl⟩ := (show ∃ t, u = Value.int i t from ry)
    obtain ⟨fo, hfo⟩ := B.fo
    obtain ⟨ro, hro⟩ := B.ro
    exact bin1_own I.kIn J rfl B.sf B.at_ B.fn B.rat (.inr ⟨g, rfl⟩) hfo hro B.isub call
  · cases (show u = Value.ref b from ry)
    obtain ⟨mB, O', _⟩ := ins_get I.hok hB
    obtain ⟨od', J', _⟩ := O'.look
    exact bin1_same I.kIn J J' B.sf B.at_ B.fn call
theorem o_binL (B : BinF X.K C op.info.2 f g) (F : FnOk X.prog X.w X.K X.mg X.base CX0 k f fd ps sp) (hr : Room k X.A) (hb : Binds X.K fd ps []) : OpR X (binaryOp op) (rBinL C sp) := by
  intro pins s σ H x y v u Q I rx ry h
  exact bin_of1 (bin1_L B F hr hb I rx ry h)
theorem o_inpL (B : BinF X.K C op.info.2 f g) (F : FnOk X.prog X.w X.K X.mg X.base CX0 k f fd ps sp) (hr : Room k X.A) (hb : Binds X.K fd ps []) : OpR X (inplaceOp op) (rBinL C sp) := by
  intro pins s σ H x y v u Q I rx ry h
  obtain ⟨a, dx, fs, ex, ha, _⟩ := id h
  subst ex
  cases (show v = Value.ref a from rx)
  obtain ⟨mA, O, _⟩ := ins_get I.hok ha
  obtain ⟨od, J, _⟩ := O.look
  obtain ⟨cd, hc, hm⟩ := B.cls
  exact inp_of1 J.type (inpl_own I.kIn hc hm B.ni B.noi) (bin1_L B F hr hb I rx ry h)
theorem bin1_R {id : String} {Bi : Builtin} {pins : List (Addr × Obj)} {s : Shared} {σ : L2.St} {H : Hp} {x y : V} {v u : Value} {Q : VK} (B : BinF X.K C op.info.2 g f) (slot : Slot "int" (PySem.dunder op.info.2) id) (entry : entryFor table id = some Bi) (args : ∀ a b, argsOk id ⟨[a, b], []⟩) (D : Declines Bi)
    (fills : fillsNumberSlot (.type "int") op.info.2 = pure true) (F : FnOk X.prog X.w X.K X.mg X.base CX0 k f fd ps sp) (hr : Room k X.A) (hb : Binds X.K fd ps [])
    (I : Inv X pins σ H s) (rx : RelV x v) (ry : RelV y u) (h : rBinR C sp x y H Q) : wpAny (model X.prog X.w) X.A (binaryOp1 op.info.2 v u) (fun r s' => ∃ v, r = some v ∧ EP X pins σ Q v s') X.xe s := by
  obtain ⟨i, b, dx, fs, rfl, rfl, hB, q⟩ := h
  obtain ⟨t, rfl⟩ := (show ∃ t, v = Value.int i t from rx)
  cases (show u = Value.ref b from ry)
  obtain ⟨mA, O, _⟩ := ins_get I.hok hB
  obtain ⟨od, J, _⟩ := O.look
  refine bin1_int I.kIn J rfl B.sf slot entry args D fills B.at_ B.rat B.rfn B.sub ?_
  refine wpAny_mono (run_fn (us := [.ref b, .int i t]) (vs := [.ref b, .int i]) F hr hb .nil pass0 I (.cons rfl (.cons ⟨t, rfl⟩ .nil)) q) (fun w s' z => ?_) fun _ _ x => x
  obtain ⟨z', H', I', rz, qz⟩ := z
  exact SlX.cmpback rz ⟨z', H', I', rz, qz⟩
theorem o_binR {id : String} {Bi : Builtin} (B : BinF X.K C op.info.2 g f) (slot : Slot "int" (PySem.dunder op.info.2) id) (entry : entryFor table id = some Bi) (args : ∀ a b, argsOk id ⟨[a, b], []⟩) (D : Declines Bi)
    (fills : fillsNumberSlot (.type "int") op.info.2 = pure true) (F : FnOk X.prog X.w X.K X.mg X.base CX0 k f fd ps sp) (hr : Room k X.A) (hb : Binds X.K fd ps []) : OpR X (binaryOp op) (rBinR C sp) := by
  intro pins s σ H x y v u Q I rx ry h
  exact bin_of1 (bin1_R B slot entry args D fills F hr hb I rx ry h)
theorem o_inpR {id : String} {Bi : Builtin} (B : BinF X.K C op.info.2 g f) (slot : Slot "int" (PySem.dunder op.info.2) id) (entry : entryFor table id = some Bi) (args : ∀ a b, argsOk id ⟨[a, b], []⟩) (D : Declines Bi)
    (fills : fillsNumberSlot (.type "int") op.info.2 = pure true) (hno : typeLookup (.type "int") (dunderI op.info.2) = pure none) (F : FnOk X.prog X.w X.K X.mg X.base CX0 k f fd ps sp) (hr : Room k X.A) (hb : Binds X.K fd ps []) : OpR X (inplaceOp op) (rBinR C sp) := by
  intro pins s σ H x y v u Q I rx ry h
  obtain ⟨i, b, dx, fs, ex, _⟩ := _root_.id h
  subst ex
  obtain ⟨t, e⟩ := (show ∃ t, v = Value.int i t from rx)
  subst e
  have noi : fillsInplaceSlot (.type "int") op.info.2 (op == .Add) = pure false := by
    unfold fillsInplaceSlot
    show (typeLookup (.type "int") (dunderI op.info.2) >>= fun fi => pure (fi.isSome && !isSeqSlot fi)) = pure false
    rw [hno]; rfl
  exact inp_of1 (ta := .type "int") (PySem.W.Looks.of_pure rfl) (PySem.W.Looks.of_pure noi) (bin1_R B slot entry args D fills F hr hb I rx ry h)
end
section
variable {X : Cx} {k : Nat} {C f : Addr} {fd : FuncData} {ps : List Str} {sp : Sp}
def rUO (C : Addr) (sp : Sp) : V → Hp → VK → Prop := fun x H Q => ∃ a dx fs, x = .ref a ∧ H a = some (.ins C dx fs) ∧ sp ([.ref a] ++ []) H Q E0
def rAbsO (C : Addr) (sp : Sp) : List V → Hp → VK → Prop := fun xs H Q => ∃ a dx fs, xs = [.ref a] ∧ H a = some (.ins C dx fs) ∧ sp ([.ref a] ++ []) H Q E0
theorem un_negO (M : Meth X.K C "__neg__" f) (F : FnOk X.prog X.w X.K X.mg X.base CX0 k f fd ps sp) (hr : Room k X.A) (hb : Binds X.K fd ps []) : UnR X (unaryOp .USub) (rUO C sp) := by
  intro pins s σ H x v Q I rx h
  obtain ⟨a, dx, fs, rfl, ha, q⟩ := h
  cases (show v = Value.ref a from rx)
  obtain ⟨mA, O, _⟩ := ins_get I.hok ha
  obtain ⟨od, J, _⟩ := O.look
  unfold unaryOp
  refine wpAny_holding ?_
  exact wpAny_bind (PySem.W.special_fn I.kIn J M.at_ (beq_iff_eq.mp M.fn) (wpAny_mono (run_fn (us := [.ref a]) (vs := [.ref a]) F hr hb .nil pass0 I (.cons rfl .nil) q) (fun w s' z => wpAny_pure z) fun _ _ x => x))
theorem un_posO (M : Meth X.K C "__pos__" f) (F : FnOk X.prog X.w X.K X.mg X.base CX0 k f fd ps sp) (hr : Room k X.A) (hb : Binds X.K fd ps []) : UnR X (unaryOp .UAdd) (rUO C sp) := by
  intro pins s σ H x v Q I rx h
  obtain ⟨a, dx, fs, rfl, ha, q⟩ := h
  cases (show v = Value.ref a from rx)
  obtain ⟨mA, O, _⟩ := ins_get I.hok ha
  obtain ⟨od, J, _⟩ := O.look
  unfold unaryOp
  refine wpAny_holding ?_
  exact wpAny_bind (PySem.W.special_fn I.kIn J M.at_ (beq_iff_eq.mp M.fn) (wpAny_mono (run_fn (us := [.ref a]) (vs := [.ref a]) F hr hb .nil pass0 I (.cons rfl .nil) q) (fun w s' z => wpAny_pure z) fun _ _ x => x))
theorem c_absO (M : Meth X.K C "__abs__" f) (F : FnOk X.prog X.w X.K X.mg X.base CX0 k f fd ps sp) (hr : Room (k + 1) X.A) (hb : Binds X.K fd ps []) : CallR X (.builtin "abs") (rAbsO C sp) := by
  intro pins s σ H xs us Q I r h
  obtain ⟨a, dx, fs, rfl, ha, q⟩ := h
  obtain ⟨u, rfl, ru⟩ := vals1 r
  cases (show u = Value.ref a from ru)
  obtain ⟨mA, O, _⟩ := ins_get I.hok ha
  obtain ⟨od, J, _⟩ := O.look
  refine PySem.Calls.call_function_entry kind_abs plain_abs entry_abs (args_abs _) ?_
  unfold Builtin.«abs»
  refine wpAny_bind (m := oneArg "abs" _) (wpAny_pure ?_)
  refine wpAny_bind (m := callSpecial? (.ref a) (Str.ofString "__abs__")) (PySem.W.special_fn I.kIn J M.at_ (beq_iff_eq.mp M.fn) (wpAny_mono (run_below (us := [.ref a]) (vs := [.ref a]) (A := X.A.in1) ⟨hr.in1, rfl⟩ F hb I (.cons rfl .nil) q) (fun w s' z => ?_) fun _ _ x => x))
  exact wpAny_pure ⟨_, rfl, z⟩
end
section
variable {H : Hp} {Q : VK} {a C dx : Addr} {fs : List (Str × V)} {sp : Sp}
theorem r_UO (e : H a = some (.ins C dx fs)) (h : sp ([.ref a] ++ []) H Q E0) : rUO C sp (.ref a) H Q := ⟨a, dx, fs, rfl, e, h⟩
theorem r_absO (e : H a = some (.ins C dx fs)) (h : sp ([.ref a] ++ []) H Q E0) : rAbsO C sp [.ref a] H Q := ⟨a, dx, fs, rfl, e, h⟩
end
section
variable {H : Hp} {Q : VK} {x y : V} {a b C dx : Addr} {fs : List (Str × V)} {sp : Sp} {i : Int}
theorem r_binL (e : H a = some (.ins C dx fs)) (n : NumOr C H y) (h : sp ([.ref a, y] ++ []) H Q E0) : rBinL C sp (.ref a) y H Q := ⟨a, dx, fs, rfl, e, n, h⟩
theorem r_binR (e : H b = some (.ins C dx fs)) (h : sp ([.ref b, .int i] ++ []) H Q E0) : rBinR C sp (.int i) (.ref b) H Q := ⟨i, b, dx, fs, rfl, rfl, e, h⟩
theorem nm_int : NumOr C H (.int i) := .inl ⟨i, rfl⟩
theorem nm_ref (e : H b = some (.ins C dx fs)) : NumOr C H (.ref b) := .inr ⟨b, dx, fs, rfl, e⟩
end
section
variable {X : Cx} {k : Nat} {H : Hp} {Q : VK} {x : V} {p : Addr} {xs : List V} {neg : Bool}
theorem r_inO {P : Program} {w : World} {K : PySem.W.Frag} {mg : Str → Option Value} {base : Heap} (e : V → Bool) (hp : H p = some (.lst xs)) (he : ∀ z ∈ xs, EqG P w K mg base k z x H (e z)) (q : Q (.bl (if neg = true then !xs.any e else xs.any e)) H) : rInO P w K mg base k neg x (.ref p) H Q := ⟨p, xs, e, rfl, hp, he, q⟩
end
end Z
local macro_rules | `(tactic| walk_at "num") => `(tactic| first | exact Z.nm_int | exact Z.nm_ref (by walk_at "hp") | assumption)
local macro_rules | `(tactic| walk_at "call") => `(tactic| first
  | ((with_reducible refine' Z.r_binL ?e ?n ?_); (case e => walk_at "hp"); (case n => walk_at "num"))
  | ((with_reducible refine' Z.r_binR ?e ?_); (case e => walk_at "hp"))
  | ((with_reducible refine' Z.r_UO ?e ?_); (case e => walk_at "hp"))
  | ((with_reducible refine' Z.r_absO ?e ?_); (case e => walk_at "hp")))

theorem rep_non {C : Addr} {H : Hp} : Rep C H .non .non := rfl
theorem rep_num {C : Addr} {H : Hp} {i : Int} : Rep C H (.int i) (.num i) := rfl
theorem rep_mark {C a dx : Addr} {H : Hp} {n : Str} (h : H a = some (.ins C dx [("name", .str n)])) : Rep C H (.ref a) (.mark n) := ⟨a, dx, rfl, h⟩
local macro_rules | `(tactic| walk_at "rep") => `(tactic| first | exact rep_non | exact rep_num | exact rep_mark (by walk_at "hp") | assumption)
/-- what a comparison of two values is due to tell -/
def hold (g : Str) : Tag → Tag → Bool
  | .num i, .num j => if g = "<" then decide (i < j) else if g = "<=" then decide (i ≤ j) else if g = ">" then decide (i > j) else if g = ">=" then decide (i ≥ j) else if g = "==" then decide (i = j) else !decide (i = j)
  | _, _ => decide (g = "!=")
theorem hold_num (g : Str) (i j : Int) : hold g (.num i) (.num j) = if g = "<" then decide (i < j) else if g = "<=" then decide (i ≤ j) else if g = ">" then decide (i > j) else if g = ">=" then decide (i ≥ j) else if g = "==" then decide (i = j) else !decide (i = j) := rfl
theorem hold_nm (g : Str) (i : Int) (m : Str) : hold g (.num i) (.mark m) = decide (g = "!=") := rfl
theorem hold_m (g : Str) (n : Str) (t : Tag) : hold g (.mark n) t = decide (g = "!=") := rfl
theorem hold_lt_num (i j : Int) : hold "<" (.num i) (.num j) = decide (i < j) := by rw [hold_num, if_pos rfl]
theorem hold_gt_num (i j : Int) : hold ">" (.num i) (.num j) = decide (i > j) := by rw [hold_num, if_neg (by decide +kernel), if_neg (by decide +kernel), if_pos rfl]
theorem hold_off (g : Str) {s t : Tag} (h : ¬ ((∃ i, s = .num i) ∧ ∃ j, t = .num j)) : hold g s t = decide (g = "!=") := by
  cases s with
  | num i =>
    cases t with
    | num j => exact absurd ⟨⟨i, rfl⟩, ⟨j, rfl⟩⟩ h
    | _ => rfl
  | _ => rfl
def Sign (g : Str) : Prop := g = "<" ∨ g = "<=" ∨ g = ">" ∨ g = ">=" ∨ g = "==" ∨ g = "!="
namespace Z
open PySem PySem.Spec PyProof.Rows L2 PySem.Builtin PySem.Builtin.Str
section
variable {X : Cx} {k : Nat} {C f : Addr} {fd : FuncData} {ps : List Str} {sp : Sp}
def txB (Q : VK) : VK := fun v H => ∃ y, v = .str y ∧ Q (.str y) H
def rTxO (C : Addr) (sp : Sp) : List V → Hp → VK → Prop := fun xs H Q => ∃ a dx fs, xs = [.ref a] ∧ H a = some (.ins C dx fs) ∧ sp ([.ref a] ++ []) H (txB Q) E0
theorem tx_back {pins : List (Addr × Obj)} {σ : L2.St} {Q : VK} {w : Value} {s' : Shared} (z : EP X pins σ (txB Q) w s') : PySem.W.StrBack (EP X pins σ Q) w s' := by
  obtain ⟨z', H', I', rz, y, e, qz⟩ := z
  subst e
  obtain ⟨t, rfl⟩ := rz
  exact ⟨.str y, H', I', ⟨t, rfl⟩, qz⟩
theorem c_strO (M : Meth X.K C "__str__" f) (F : FnOk X.prog X.w X.K X.mg X.base CX0 k f fd ps sp) (hr : Room (k + 2) X.A) (hb : Binds X.K fd ps []) : CallR X (.type "str") (rTxO C sp) := by
  intro pins s σ H xs us Q I r h
  obtain ⟨a, dx, fs, rfl, ha, q⟩ := h
  obtain ⟨u, rfl, ru⟩ := vals1 r
  cases (show u = Value.ref a from ru)
  obtain ⟨mA, O, _⟩ := ins_get I.hok ha
  obtain ⟨od, J, _⟩ := O.look
  exact PySem.W.kso_call (hr.in1.in1).units0 I.kIn J M.at_ M.fn (wpAny_mono (run_below (us := [.ref a]) (vs := [.ref a]) (A := X.A.in1.in1) ⟨hr.in1.in1, rfl⟩ F hb I (.cons rfl .nil) q) (fun w s' z => tx_back z) fun _ _ x => x)
theorem c_reprO (M : Meth X.K C "__repr__" f) (F : FnOk X.prog X.w X.K X.mg X.base CX0 k f fd ps sp) (hr : Room (k + 2) X.A) (hb : Binds X.K fd ps []) : CallR X (.builtin "repr") (rTxO C sp) := by
  intro pins s σ H xs us Q I r h
  obtain ⟨a, dx, fs, rfl, ha, q⟩ := h
  obtain ⟨u, rfl, ru⟩ := vals1 r
  cases (show u = Value.ref a from ru)
  obtain ⟨mA, O, _⟩ := ins_get I.hok ha
  obtain ⟨od, J, _⟩ := O.look
  obtain ⟨m, hF⟩ := I.fr
  exact PySem.W.repr_K (hr.in1).units0 hF I.ok.mod.kin J M.at_ M.fn (wpAny_mono (run_below (us := [.ref a]) (vs := [.ref a]) (A := X.A.in1) ⟨hr.in1.mono (by omega), rfl⟩ F hb I (.cons rfl .nil) q) (fun w s' z => tx_back z) fun _ _ x => x)
def tFmtO (C : Addr) (sp : Sp) (te : TE) : TE := fun σ H Q => te σ H fun x H1 => rTxO C sp [x] H1 Q
theorem pe_fmtO {e : Expr} {te : TE} {pos : Pos} (TX : TxF X.K C) (M : Meth X.K C "__str__" f) (F : FnOk X.prog X.w X.K X.mg X.base CX0 k f fd ps sp) (hr : Room (k + 2) X.A) (hb : Binds X.K fd ps []) (he : PE X e te) : PE X (.FormattedValue e (-1) none pos) (tFmtO C sp te) := by
  refine ⟨fun pins s σ H Q I h => ?_⟩
  refine wpAny_FormattedValue_plain (thn (he.run pins s σ H _ I h) fun v s1 hv => ?_)
  obtain ⟨x, H1, I1, r1, a, dx, fs, ex, ha, q⟩ := hv
  cases ex
  cases (show v = Value.ref a from r1)
  have I2 := I1.tok (s1.toks + 1)
  obtain ⟨mA, O, _⟩ := ins_get I1.hok ha
  obtain ⟨od, J, _⟩ := O.look
  exact PySem.W.kfo_fieldS (hr.in1).units0 I1.kIn J TX.fm TX.mo M.at_ M.fn (wpAny_mono (run_below (us := [.ref a]) (vs := [.ref a]) (A := X.A.in1) ⟨hr.in1.mono (by omega), rfl⟩ F hb I2 (.cons rfl .nil) q) (fun w s' z => tx_back z) fun _ _ x => x)
end
section
variable {H : Hp} {Q : VK} {σ : L2.St} {te : TE} {ts : List TE} {a C dx : Addr} {fs : List (Str × V)} {sp : Sp} {acc y : Str} {v : V}
theorem r_txO (e : H a = some (.ins C dx fs)) (h : sp ([.ref a] ++ []) H (txB Q) E0) : rTxO C sp [.ref a] H Q := ⟨a, dx, fs, rfl, e, h⟩
theorem r_txB (h : Q (.str y) H) : txB Q (.str y) H := ⟨y, rfl, h⟩
theorem r_fmtO (h : te σ H fun x H1 => rTxO C sp [x] H1 Q) : tFmtO C sp te σ H Q := h
def fmP (Q : VK) : VK := fun x H1 => (∃ y : Str, x = .str y ∧ y.length ≤ sizeLine ∧ Q (.str y) H1) ∨ ∃ i : Int, x = .int i ∧ i.natAbs.log2 < 1920 ∧ Q (.str (toString i)) H1
theorem r_fmt (h : te σ H (fmP Q)) : tFmt te σ H Q := h
theorem r_fmP (l : y.length ≤ sizeLine) (h : Q (.str y) H) : fmP Q (.str y) H := .inl ⟨y, rfl, l, h⟩
def fmR (Q : VK) : VK := fun x H1 => (∃ y : Str, x = .str y ∧ (reprText y).length ≤ sizeLine ∧ Q (.str (reprText y)) H1) ∨ ∃ i : Int, x = .int i ∧ i.natAbs.log2 < 1920 ∧ Q (.str (toString i)) H1
theorem r_fmtR (h : te σ H (fmR Q)) : tFmtR te σ H Q := h
theorem r_fmR (l : (reprText y).length ≤ sizeLine) (h : Q (.str (reprText y)) H) : fmR Q (.str y) H := .inl ⟨y, rfl, l, h⟩
def jsP (acc : Str) (N : Str → Hp → Prop) : VK := fun x H1 => ∃ y : Str, x = .str y ∧ (acc ++ y).length ≤ sizeLine ∧ N (acc ++ y) H1
theorem r_jsC {N : Str → Hp → Prop} (h : te σ H (jsP acc fun z H1 => tJs ts z σ H1 N)) : tJs (te :: ts) acc σ H N := h
theorem r_jsN {N : Str → Hp → Prop} (h : N acc H) : tJs [] acc σ H N := h
theorem r_jsP {N : Str → Hp → Prop} (l : (acc ++ y).length ≤ sizeLine) (h : N (acc ++ y) H) : jsP acc N (.str y) H := ⟨y, rfl, l, h⟩
end
theorem repr_letter : ∀ k : Fin 26, reprChar 39 (97 + k.val) = [97 + k.val] := by decide +kernel
theorem repr_fold : ∀ (l : List Nat) (acc : Array Nat), (∀ c ∈ l, 97 ≤ c ∧ c ≤ 122) → l.foldl (fun out c => out ++ (reprChar 39 c).toArray) acc = acc ++ l.toArray
  | [], acc, _ => by simp
  | c :: l, acc, h => by
    have hc := h c List.mem_cons_self
    have e : reprChar 39 c = [c] := by
      have z := repr_letter ⟨c - 97, by omega⟩
      rwa [show 97 + (c - 97) = c by omega] at z
    rw [List.foldl_cons, repr_fold l _ (fun x hx => h x (List.mem_cons_of_mem _ hx)), e]
    simp
end Z
open PySem.Builtin PySem.Builtin.Str in
theorem word_repr {n : Str} (h : Word n) : reprText n = ("'" : Str) ++ n ++ ("'" : Str) := by
  have hq : reprQuote n = 39 := by
    unfold reprQuote
    rw [if_neg]
    intro e
    rw [Bool.and_eq_true] at e
    have m := e.1
    rw [Array.contains_iff_mem] at m
    have := h.2.2 39 (by simpa using m)
    omega
  have e1 : reprText n = ⟨(#[39] ++ n.cps).push 39⟩ := by
    unfold reprText
    rw [hq, ← Array.foldl_toList, Z.repr_fold _ _ h.2.2]
  have e2 : (("'" : Str) ++ n ++ ("'" : Str)) = ⟨(#[39] ++ n.cps) ++ #[39]⟩ := rfl
  rw [e1, e2, Array.push_eq_append]
local macro_rules | `(tactic| walk_at "call") => `(tactic| first
  | ((with_reducible refine' Z.r_txO ?e ?_); (case e => walk_at "hp"))
  | with_reducible refine Z.r_txB ?_
  | with_reducible refine Z.r_fmtO ?_
  | with_reducible refine Z.r_fmt ?_
  | with_reducible refine Z.r_fmtR ?_
  | with_reducible refine Z.r_jsC ?_
  | with_reducible refine Z.r_jsN ?_
  | ((with_reducible refine' Z.r_fmP ?l ?_); (case l => walk_at "tlen"))
  | ((with_reducible refine' Z.r_fmR ?l ?_); (case l => walk_at "tlen"))
  | ((with_reducible refine' Z.r_jsP ?l ?_); (case l => walk_at "tlen")))
local macro_rules | `(tactic| walk_at "tlen") => `(tactic| first | assumption | exact Z.szle (Nat.le_of_ble_eq_true rfl))
/-! != of instances whose class has an own == alone -/
namespace Z
open PySem PySem.Spec PyProof.Rows L2
section
variable {prog : Program} {w : World} {A : Around} {E : Value → Shared → Prop} {s : Shared} {K : PySem.W.Frag} {x C L f : Addr} {h₀ : Heap} {m : Str → Option Value} {ox : Obj} {od : Option Obj} {b tb : Value}
theorem ifBound_B {M : Model} {name : Str} {id B : String} {args : List Value} {Q : Option Value → Shared → Prop} (X : K.In s.heap) (I : PySem.W.InstAt s.heap x ox C od) (hs : PySem.W.findIn K (.ref C) name = some (some (.builtin id))) (S : Slot B name id)
    (h : wpAny M A (call (.builtin id) (.ref x :: args)) (fun v => Q (some v)) E s) : wpAny M A (callSpecialIfBound? (.ref x) name args) Q E s := by
  simp only [callSpecialIfBound?, bindSpecialIfBound?]
  refine wpAny_holding (wpAny_bind (wpAny_bind (wpAny_bind (I.type.here ((PySem.W.looks_findIn X hs).here ?_)))))
  simp only [S.bind]
  refine wpAny_bind (wpAny_askSetting (wpAny_ite ?_))
  have fin : wpAny M A (call (.builtin id) ([.ref x] ++ args) >>= fun v => pure (some v)) Q E s := wpAny_bind (wpAny_mono h (fun v s' h' => wpAny_pure h') fun _ _ h' => h')
  split
  · exact wpAny_bind (wpAny_pure (wpAny_pure fin))
  · exact wpAny_tryCatch (wpAny_bind (wpAny_pure (wpAny_pure fin)))
theorem ne_entry {Q : Fin → Shared → Prop} (hu : A.units < cLine) (X : K.In s.heap) (I : PySem.W.InstAt s.heap x ox C od) (hs : PySem.W.findIn K (.ref C) "__eq__" = some (some (.ref f))) (hf : PySem.W.isFn K (.ref f) = true)
    (h : wpAny (model prog w) A (call (.ref f) [.ref x, b]) (fun v s' => ∃ c, v = .bool c ∧ Q (.done (.ret (.bool (!c)))) s') E s) :
    wpAny (model prog w) A (Builtin.«object.__ne__» ⟨[.ref x, b], []⟩) Q E s := by
  unfold Builtin.«object.__ne__»
  repeat (first
    | with_reducible refine wpAny_cRoomFor hu ?_
    | (refine wpAny_bind (m := callSpecialIfBound? (.ref x) (Str.ofString "__eq__") [b])
        (PySem.W.ifBound_K X I hs hf (wpAny_mono h (fun r s' hr => by
          obtain ⟨b, rfl, hq⟩ := hr
          repeat (first | exact hq | exact wpAny_pure hq | exact wpAny_truthy_bool hq | (refine wpAny_bind (m := truthy (.bool _)) (wpAny_truthy_bool ?_)) | wp_step)) fun _ _ e => e)))
    | wp_step)
theorem cmp_neD {Q : Value → Shared → Prop} (hu : A.units < cLine) (hu1 : A.in1.units < cLine) (X : K.In s.heap) (I : PySem.W.InstAt s.heap x ox C od) (hb : PySem.W.Looks (model prog w) s.heap (typeOf b) tb) (hn : PySem.W.notFirst K C tb = true)
    (D : NeD K C) (hs : PySem.W.findIn K (.ref C) "__eq__" = some (some (.ref f))) (hf : PySem.W.isFn K (.ref f) = true)
    (h : wpAny (model prog w) A.in1 (call (.ref f) [.ref x, b]) (fun v s' => ∃ c, v = .bool c ∧ Q (.bool (!c)) s') E s) : wpAny (model prog w) A (richCompare .NotEq (.ref x) b) Q E s := by
  have S := PySem.F.cmp_object.ne
  have sub : PySem.W.Looks (model prog w) s.heap (isInstance (.ref x) (.type "object")) true := I.type.andThen (PySem.W.looks_mroIn X D.mo)
  have one : wpAny (model prog w) A (tryCompare (.ref x) "__ne__" b) (fun r s' => ∃ v, r = some v ∧ Q v s') E s := by
    unfold tryCompare
    refine wpAny_bind (ifBound_B X I D.ne S (wpAny_call (codeAny_call_builtin S.plain PySem.F.cmpEntry_ne (@PySem.W.check_slot (model prog w) _ _ s "object.__ne__" "object" "__ne__" (.ref x) [b] [] _ PySem.F.cmpKind_ne PySem.F.cmpSplit_ne sub (PySem.F.cmpArgs_ne _ _)
      (ne_entry (A := A.in1) hu1 X I hs hf (wpAny_mono h (fun v s' hv => ?_) fun _ _ e => e))))))
    obtain ⟨c, rfl, hq⟩ := hv
    first | exact ⟨c, rfl, wpAny_pure ⟨_, rfl, hq⟩⟩ | exact ⟨c, rfl, wpAny_pure (wpAny_pure ⟨_, rfl, hq⟩)⟩ | exact ⟨c, rfl, _, rfl, hq⟩
  unfold richCompare
  simp only [oneThing_ref]
  refine wpAny_holding (wpAny_bind (wpAny_cRoomFor hu ?_))
  refine wpAny_bind (I.type.here (wpAny_bind (hb.here ?_)))
  split
  · rename_i q
    have e : PySem.W.subIn K tb (.ref C) = some false := by
      rcases Bool.or_eq_true_iff.mp hn with e | e
      · rw [beq_iff_eq.mp e] at q; simp at q
      · exact beq_iff_eq.mp e
    refine wpAny_bind ((PySem.W.looks_subIn X e).here ?_)
    simp only [Bool.false_eq_true, if_false]
    refine wpAny_bind (wpAny_mono one (fun r s' z => ?_) fun _ _ e => e)
    obtain ⟨v, rfl, hq⟩ := z
    exact wpAny_pure hq
  · refine wpAny_bind (wpAny_pure ?_)
    simp only [Bool.false_eq_true, if_false]
    refine wpAny_bind (wpAny_mono one (fun r s' z => ?_) fun _ _ e => e)
    obtain ⟨v, rfl, hq⟩ := z
    exact wpAny_pure hq
end
section
variable {X : Cx} {C f : Addr} {fd : FuncData} {k : Nat} {ps : List Str} {sp : Sp}
/-- x != y, x an instance of a class with an own == and no own != -/
def neB (Q : VK) : VK := fun v H' => ∃ c, v = .bl c ∧ Q (.bl (!c)) H'
def rNeX (K : PySem.W.Frag) (C : Addr) (sp : Sp) : R2 := fun x y H Q => ∃ a dx fs t, x = .ref a ∧ H a = some (.ins C dx fs) ∧ TyX K H y t ∧ PySem.W.notFirst K C t = true ∧ sp ([x, y] ++ []) H (neB Q) E0
theorem o_neX (D : NeD X.K C) (M : Meth X.K C "__eq__" f) (F : FnOk X.prog X.w X.K X.mg X.base CX0 k f fd ps sp) (hr : Room (k + 1) X.A) (hb : Binds X.K fd ps []) : OpR X (compareOp .NotEq) (rNeX X.K C sp) := by
  intro pins s σ H x y v u Q I rx ry h
  obtain ⟨a, dx, fs, t, rfl, ha, ty, hn, q⟩ := h
  cases (show v = Value.ref a from rx)
  obtain ⟨mA, O, _⟩ := ins_get I.hok ha
  obtain ⟨od, J, _⟩ := O.look
  obtain ⟨P, Z, p, _⟩ := kit_of I ry ty
  show wpAny _ X.A (richCompare .NotEq (.ref a) u) _ _ s
  refine cmp_neD (tb := t) (hr.mono (by omega) : Room k X.A).units0 hr.in1.units0 I.kIn J (Z.ty _ _ I.kIn p) hn D M.at_ M.fn ?_
  refine wpAny_mono (run_below (us := [.ref a, u]) (vs := [.ref a, y]) (A := X.A.in1) ⟨hr.in1, rfl⟩ F hb I (.cons rfl (.cons ry .nil)) q) (fun w s' z => ?_) fun _ _ x => x
  obtain ⟨z', H', I', rz, c, e, qz⟩ := z
  subst e
  cases (show w = Value.bool c from rz)
  exact ⟨c, rfl, .bl (!c), H', I', rfl, qz⟩
end
section
variable {K : PySem.W.Frag} {H : Hp} {Q : VK} {y : V} {a C dx : Addr} {fs : List (Str × V)} {t : Value} {sp : Sp} {c : Bool}
theorem r_neX (e : H a = some (.ins C dx fs)) (ty : TyX K H y t) (nf : PySem.W.notFirst K C t = true) (h : sp ([.ref a, y] ++ []) H (neB Q) E0) : rNeX K C sp (.ref a) y H Q := ⟨a, dx, fs, t, rfl, e, ty, nf, h⟩
theorem r_neXB (h : Q (.bl (!c)) H) : neB Q (.bl c) H := ⟨c, rfl, h⟩
end
def optV : Option Int → V
  | none => .non
  | some i => .int i
theorem r_eqO {o p : Option Int} {H : Hp} {Q : VK} (h : Q (.bl (decide (o = p))) H) : rEq (optV o) (optV p) H Q := by
  have e : decide (optV o = optV p) = decide (o = p) := by
    cases o <;> cases p <;> simp [optV]
  refine ⟨by cases o <;> cases p <;> rfl, ?_⟩
  rw [e]
  exact h
theorem r_neO {o p : Option Int} {H : Hp} {Q : VK} (h : Q (.bl (!decide (o = p))) H) : rNe (optV o) (optV p) H Q := by
  have e : decide (optV o = optV p) = decide (o = p) := by
    cases o <;> cases p <;> simp [optV]
  refine ⟨by cases o <;> cases p <;> rfl, ?_⟩
  rw [e]
  exact h
def optS : Option Int → Str
  | none => "None"
  | some i => toString i
def optOk (o : Option Int) : Prop := ∀ i, o = some i → 0 ≤ i ∧ i ≤ 100000
theorem log_small {n : Nat} (h : n ≤ 100000) : n.log2 < 1920 := by
  by_cases e : n = 0
  · subst e; decide
  · rw [Nat.log2_lt e]
    exact Nat.lt_of_le_of_lt h (Nat.lt_of_lt_of_le (by decide : 100000 < 2 ^ 17) (Nat.pow_le_pow_right (by decide) (by decide)))
theorem optOk.log {i : Int} (h : optOk (some i)) : i.natAbs.log2 < 1920 := log_small (by have := h i rfl; omega)
theorem optOk.len {o : Option Int} (h : optOk o) : (optS o).length ≤ 100 := by
  cases o with
  | none => decide +kernel
  | some i =>
    have h1 := h i rfl
    have e := int_text_length_le10 (a := i) (k := 6) (by decide) (by omega)
    show (Str.ofString (toString i)).length ≤ 100
    rw [PySem.ofString_length]
    omega
theorem r_neP {K : PySem.W.Frag} {x y : V} {H : Hp} {Q : VK} {d e : PyData} (hd : Dp K H x d) (he : Dp K H y e) (sd : SeqAt.shaped d = true) (se : SeqAt.shaped e = true) (h : Q (.bl (!PyData.eqv d e)) H) : L2.rNeD K x y H Q := ⟨d, e, hd, he, sd, se, h⟩
/-- str of nothing or an int -/
def rStrO : List V → Hp → VK → Prop := fun xs H Q => ∃ o : Option Int, xs = [optV o] ∧ (∀ i, o = some i → i.natAbs.log2 < 1920) ∧ Q (.str (optS o)) H
theorem c_strOpt {X : Cx} : CallR X (.type "str") rStrO := by
  intro pins s σ H xs us Q I r h
  obtain ⟨o, rfl, hz, q⟩ := h
  cases o with
  | none =>
    obtain ⟨u, rfl, ru⟩ := vals1 r
    cases (show u = Value.none from ru)
    exact PySem.P.str_of_none ⟨.str _, H, I.tok _, ⟨_, rfl⟩, q⟩
  | some i =>
    obtain ⟨u, rfl, t, rfl⟩ := vals1 r
    exact PySem.P.str_of_int (hz i rfl) ⟨.str _, H, I.tok _, ⟨_, rfl⟩, q⟩
theorem r_strOpt {o : Option Int} {H : Hp} {Q : VK} (h : ∀ i, o = some i → i.natAbs.log2 < 1920) (q : Q (.str (optS o)) H) : rStrO [optV o] H Q := ⟨o, rfl, h, q⟩
/-- {x!r}: nothing or an int -/
def foP (Q : VK) : VK := fun x H1 => ∃ o : Option Int, x = optV o ∧ (∀ i, o = some i → i.natAbs.log2 < 1920) ∧ Q (.str (optS o)) H1
def tFmtRO (te : TE) : TE := fun σ H Q => te σ H (foP Q)
theorem pe_fmtRO {X : Cx} {e : Expr} {te : TE} {pos : Pos} (he : PE X e te) : PE X (.FormattedValue e 114 none pos) (tFmtRO te) := by
  refine ⟨fun pins s σ H Q I h => ?_⟩
  refine wpAny_FormattedValue_repr (thn (he.run pins s σ H _ I h) fun v s1 hv => ?_)
  obtain ⟨x, H1, I1, r1, o, rfl, hz, q⟩ := hv
  cases o with
  | none =>
    cases (show v = Value.none from r1)
    exact pyReprObj_none (wpAny_formatField_str ⟨.str "None", H1, I1.tok _, ⟨_, rfl⟩, q⟩ ⟨.str "None", H1, I1.tok _, ⟨_, rfl⟩, q⟩ (by decide))
  | some i =>
    obtain ⟨t, rfl⟩ := r1
    exact pyReprObj_int (hz i rfl) (wpAny_formatField_str ⟨.str (toString i), H1, I1.tok _, ⟨_, rfl⟩, q⟩ ⟨.str (toString i), H1, I1.tok _, ⟨_, rfl⟩, q⟩ (int_text_fits (hz i rfl)))
theorem r_fmtRO {σ : L2.St} {H : Hp} {Q : VK} {te : TE} (h : te σ H (foP Q)) : tFmtRO te σ H Q := h
theorem r_foP {o : Option Int} {H : Hp} {Q : VK} (h : ∀ i, o = some i → i.natAbs.log2 < 1920) (q : Q (.str (optS o)) H) : foP Q (optV o) H := ⟨o, rfl, h, q⟩
end Z
local macro_rules | `(tactic| walk_at "call") => `(tactic| first
  | ((with_reducible refine' Z.r_neX ?e ?ty ?nf ?_); (case e => walk_at "hp"); (case ty => walk_at "ty"); (case nf => walk_at "nf"))
  | with_reducible refine Z.r_neXB ?_
  | ((with_reducible refine' Z.r_lenT ?e ?_); (case e => exact SqT.of (by walk_at "hp")))
  | with_reducible refine Z.r_fmtRO ?_)

namespace Z
open PySem PySem.Spec PyProof.Rows L2
section
variable {K : PySem.W.Frag} {σ : L2.St} {H : Hp} {Q : VK} {D : Ends} {ta tb : TE} {A : TA} {v x y : V}
theorem r_dnewK (h : ∀ p H1, H p = none → Same H H1 → H1 p = some (.dK []) → Q (.ref p) H1) : tDNewK σ H Q := fun p np => h p _ np (same_upd np) upd_same
/-- a text that is, or is not, a key -/
def dnR (y x : V) (H : Hp) (Q : VK) : Prop := ∃ a o, x = .ref a ∧ DGet H a y o ∧ Q (.bl (!o.isSome)) H
theorem r_dnotin (h : ta σ H fun y H1 => tb σ H1 fun x H2 => dnR y x H2 Q) : tDNotIn ta tb σ H Q := h
theorem r_dnS {a : Addr} {g : Str} {kvs : List (Key × V)} (e : H a = some (.dK kvs)) (k : Q (.bl (!(valV kvs (.inr g)).isSome)) H) : dnR (.str g) (.ref a) H Q := ⟨a, _, rfl, DGet.k (k := .inr g) e, k⟩
def rTupOf (K : PySem.W.Frag) : List V → Hp → VK → Prop := fun xs H Q => ∃ p ys, xs = [.ref p] ∧ ((SqL K H p ys ∧ ∀ l, H l = none → Q (.ref l) (L2.upd H l (.tup ys))) ∨ (SqT K H p ys ∧ Q (.ref p) H))
theorem c_tupOf {X : Cx} : CallR X (.type "tuple") (rTupOf X.K) := call_tuple_of
theorem r_tupL {p : Addr} {ys : List V} (e : H p = some (.lst ys)) (k : ∀ q H1, H q = none → Same H H1 → H1 q = some (.tup ys) → Q (.ref q) H1) : rTupOf K [.ref p] H Q :=
  ⟨p, ys, rfl, .inl ⟨SqL.of e, fun l nl => k l _ nl (same_upd nl) upd_same⟩⟩
theorem c_isiT {X : Cx} {K : PySem.W.Frag} (e : X.K = K) : CallR X (.builtin "isinstance") (rIsiT K) := e ▸ call_isiT
theorem r_isiLT {tp : Addr} {t : Value} {b : Bool} (e : H tp = some (.tup [.ty "list", .ty "tuple"])) (ty : TyX K H x t) (k : PySem.W.kitAny K t [.type "list", .type "tuple"] = some b) (h : Q (.bl b) H) : rIsiT K [x, .ref tp] H Q :=
  ⟨x, tp, _, t, _, b, rfl, e, .cons (.ty _) (.cons (.ty _) .nil), ty, k, h⟩
/-- for i, x in enumerate(a list) -/
theorem r_forE {g : TG} {tb : TS} (h : A σ H fun vs H1 => ∃ a xs, vs = [.ref a] ∧ SqL K H1 a xs ∧ ∃ W : Nat → Nat → L2.St → Hp → Prop, (∃ m, W 0 m σ H1) ∧ ∀ i m σ H, W i m σ H →
      (((Ite K a).stop i H ∧ D.nx σ H) ∨ ((Ite K a).go i H ∧ ∃ N : L2.St → Hp → Prop, (∀ σ' H', N σ' H' → ∃ m', m' < m ∧ W (i + 1) m' σ' H') ∧ ∀ x H', (Ite K a).yld i H x H' → g x σ H' fun σ2 H2 => tb { D with nx := N, ct := N, bk := D.nx } σ2 H2))) :
    tFor (iEnum K A) g tb D σ H := h
theorem r_enum_by {g : TG} {tb : TS} {a : Addr} {xs : List V} (hs : SqL K H a xs) (Pv : Nat → L2.St → Hp → Prop) (h0 : Pv 0 σ H) (hl : ∀ i σ' H', Pv i σ' H' → SqL K H' a xs)
    (ht : ∀ (i : Nat) x σ' H', xs[i]? = some x → Pv i σ' H' → ∀ T H2, H' T = none → Same H' H2 → H2 T = some (.tup [.int (i : Nat), x]) → g (.ref T) σ' H2 fun σ2 H3 => tb { D with nx := Pv (i + 1), ct := Pv (i + 1), bk := D.nx } σ2 H3) (hd : ∀ σ' H', Pv xs.length σ' H' → D.nx σ' H') :
    ∃ a' xs', [V.ref a] = [.ref a'] ∧ SqL K H a' xs' ∧ ∃ W : Nat → Nat → L2.St → Hp → Prop, (∃ m, W 0 m σ H) ∧ ∀ i m σ H, W i m σ H →
      (((Ite K a').stop i H ∧ D.nx σ H) ∨ ((Ite K a').go i H ∧ ∃ N : L2.St → Hp → Prop, (∀ σ' H', N σ' H' → ∃ m', m' < m ∧ W (i + 1) m' σ' H') ∧ ∀ x H', (Ite K a').yld i H x H' → g x σ H' fun σ2 H2 => tb { D with nx := N, ct := N, bk := D.nx } σ2 H2)) := by
  refine ⟨a, xs, rfl, hs, fun i m σ H => m = xs.length - i ∧ i ≤ xs.length ∧ Pv i σ H, ⟨xs.length, by simp, Nat.zero_le _, h0⟩, ?_⟩
  rintro i m σ H ⟨rfl, hi, p⟩
  have q := hl i σ H p
  by_cases hlt : i < xs.length
  · refine .inr ⟨⟨xs, xs[i], q, by simp [hlt]⟩, Pv (i + 1), fun σ' H' p' => ⟨xs.length - (i + 1), by omega, rfl, hlt, p'⟩, fun x H' y => ?_⟩
    obtain ⟨T, z, e1, nT, e2, hz⟩ := y
    subst e1 e2
    exact ht i z σ H (hz xs q) p T _ nT (same_upd nT) upd_same
  · have e : i = xs.length := by omega
    subst e
    exact .inl ⟨⟨xs, q, Nat.le_refl _⟩, hd σ H p⟩
end
theorem kit_list {K : PySem.W.Frag} (h1 : PySem.W.kitOne K (.type "list") (.type "list") = some true) : PySem.W.kitAny K (.type "list") [.type "list", .type "tuple"] = some true := by
  simp only [PySem.W.kitAny, h1]
theorem kit_tuple {K : PySem.W.Frag} (h1 : PySem.W.kitOne K (.type "tuple") (.type "list") = some false) (h2 : PySem.W.kitOne K (.type "tuple") (.type "tuple") = some true) : PySem.W.kitAny K (.type "tuple") [.type "list", .type "tuple"] = some true := by
  simp only [PySem.W.kitAny, h1, h2]
end Z
local macro_rules | `(tactic| walk_at "call") => `(tactic| first
  | with_reducible refine Z.r_dnewK ?_
  | with_reducible refine Z.r_dnotin ?_
  | with_reducible refine Z.r_forE ?_
  | ((with_reducible refine' Z.r_dnS ?e ?_); (case e => walk_at "hp"))
  | ((with_reducible refine' Z.r_tupL ?e ?_); (case e => walk_at "hp"))
  | ((with_reducible refine' Z.r_isiLT ?e ?ty ?k ?_); (case e => walk_at "hp"); (case ty => walk_at "ty"); (case k => first | exact Z.kit_list (by walk_at "ki") | exact Z.kit_tuple (by walk_at "ki") (by walk_at "ki"))))
/-- entries with what they are -/
abbrev Ens := List (V × Tag)
def EnsOk (C : Addr) (H : Hp) (es : Ens) : Prop := ∀ e ∈ es, Rep C H e.1 e.2 ∧ e.2 ≠ .non
theorem EnsOk.same {C : Addr} {H H' : Hp} {es : Ens} (s : Same H H') (h : EnsOk C H es) : EnsOk C H' es := fun e m => ⟨(h e m).1.same s, (h e m).2⟩
theorem EnsOk.but {C b : Addr} {H H' : Hp} {es : Ens} {xs : List V} (s : Z.But b H H') (hb : H b = some (.lst xs)) (h : EnsOk C H es) : EnsOk C H' es := fun e m => ⟨(h e m).1.but s hb, (h e m).2⟩
/-- the first of them that is this -/
def fst? (es : Ens) (t : Tag) : Option V := (es.find? fun e => decide (e.2 = t)).map (·.1)
def fstV (es : Ens) (t : Tag) : V := (fst? es t).getD .non
theorem fst_num {C : Addr} {H : Hp} {es : Ens} {i : Int} (h : EnsOk C H es) (m : ∃ x, (x, Tag.num i) ∈ es) : fstV es (.num i) = .int i := by
  unfold fstV fst?
  cases q : es.find? fun e => decide (e.2 = .num i) with
  | none =>
    obtain ⟨x, m⟩ := m
    have := List.find?_eq_none.mp q _ m
    simp at this
  | some e =>
    have h1 : e.2 = .num i := by simpa using List.find?_some q
    have h2 := (h e (List.mem_of_find?_eq_some q)).1
    rw [h1] at h2
    exact h2
theorem fst_take {es : Ens} {k : Nat} {t : Tag} {x : V} (h : fst? (es.take k) t = some x) : fst? es t = some x := by
  unfold fst? at h ⊢
  rw [← List.take_append_drop k es, List.find?_append]
  obtain ⟨e, he, hx⟩ := Option.map_eq_some_iff.mp h
  rw [he]
  simp [hx]
theorem fst_snoc {es : Ens} {e : V × Tag} {t : Tag} : fst? (es ++ [e]) t = (fst? es t).or (if e.2 = t then some e.1 else none) := by
  unfold fst?
  rw [List.find?_append]
  cases es.find? fun e => decide (e.2 = t) with
  | some z => simp
  | none =>
    by_cases h : e.2 = t
    · simp [List.find?_cons, h]
    · simp [List.find?_cons, h]
/-- what the dict of first ones tells -/
def Firsts (kvs : List (Key × V)) (es : Ens) : Prop := ∀ n : Str, valV kvs (.inr n) = fst? es (.mark n)
/-! enumerate of a tuple, walked -/
namespace Z
open PySem PySem.Spec PyProof.Rows L2
/-- the iterator and the enumerate object, one behind the other -/
def enIt (l : Addr) : Obj := { cls := .type "tuple_iterator", data := .fields #[.ref l, .int 0 0] }
def enOb (n : Nat) : Obj := { cls := .type "enumerate", data := .fields #[.none, .bool false, .ref n, rawInt 0, .none, .none] }
theorem enumT_meets (l : Addr) (ot : Obj) (its : Array Value) (n : Nat) (hc : ot.cls = .type "tuple") (hd : ot.data = .seq its n) :
    Meets (Builtin.«enumerate.__new__» ⟨[.type "enumerate", .ref l], []⟩) (fun _ R s => s.heap.get? l = some ot ∧ R (.ok (.ret (.ref (s.heap.push (enIt l)).objs.size))) { s with heap := (s.heap.push (enIt l)).push (enOb s.heap.objs.size) }) :=
  .of_wp fun prog w A R s h => by
    obtain ⟨otc, otd, otx, ots⟩ := ot
    simp only at hc hd
    subst hc hd
    obtain ⟨hp, g, d, tk, os⟩ := s
    obtain ⟨hl, h⟩ := h
    have sb := sub_enumerate
    have tp : Heap.IsTuple (Shared.heap ⟨hp, g, d, tk, os⟩) l its := ⟨_, hl, rfl, n, rfl⟩
    wp_walk using AutoSeq1.wpAny_loadPart' hl
    refine wpAny_stack_any fun _ => wpAny_pure ?_
    split
    · rename_i c _ _ _ _ _
      cases (c == Value.type "enumerate") <;> (wp_walk using AutoSeq1.wpAny_loadPart' hl, wpAny_pyIter_tuple tp; exact ⟨_, rfl, h⟩)
    · wp_walk using AutoSeq1.wpAny_loadPart' hl, wpAny_pyIter_tuple tp
      exact ⟨_, rfl, h⟩
section
variable {prog : Program} {w : World} {A : Around} {E : Value → Shared → Prop} {s : Shared}
theorem enumT_call {l : Addr} {its : Array Value} {Q : Value → Shared → Prop} (tp : IsTup s.heap l its)
    (h : ∀ h', IsEnum h' (s.heap.objs.size + 1) s.heap.objs.size 0 .none → h'.IsTupleIter s.heap.objs.size l 0 → (∀ b o, s.heap.get? b = some o → h'.get? b = some o) → Q (.ref (s.heap.objs.size + 1)) { s with heap := h' }) :
    wpAny (model prog w) A (call (.type "enumerate") [.ref l]) Q E s := by
  obtain ⟨ot, hl, hc, n, hd⟩ := tp
  refine callType_new PySem.F.called_enumerate (by decide) (PySem.F.typeCall_enumerate_1 _) (PySem.F.newCall_enumerate_1 _) (fun obj => PySem.F.args_object_init_2 obj _) PySem.F.entry_enumerate_new (enumT_meets l ot its n hc hd) ⟨hl, ?_⟩
  have sz : (s.heap.push (enIt l)).objs.size = s.heap.objs.size + 1 := Heap.size_push ..
  have he : IsEnum ((s.heap.push (enIt l)).push (enOb s.heap.objs.size)) (s.heap.objs.size + 1) s.heap.objs.size 0 .none := by
    have z := Heap.get?_push_size (s.heap.push (enIt l)) (o := enOb s.heap.objs.size) rfl
    rw [sz] at z
    exact z
  show _ ∧ _
  rw [sz]
  exact ⟨⟨_, he, rfl⟩, h _ he ⟨_, Heap.get?_push_of_some _ (Heap.get?_push_size _ rfl), rfl, rfl⟩ fun b o x => Heap.get?_push_of_some _ (Heap.get?_push_of_some _ x)⟩
end
/-- the tuple at a, its items in new pairs with their places -/
def ItT (K : PySem.W.Frag) (a : Addr) : It :=
  ⟨fun i H => ∃ (xs : List V) (x : V), SqT K H a xs ∧ xs[i]? = some x,
   fun i H v H' => ∃ T x, v = .ref T ∧ H T = none ∧ H' = L2.upd H T (.tup [.int (i : Nat), x]) ∧ ∀ xs, SqT K H a xs → xs[i]? = some x,
   fun i H => ∃ xs : List V, SqT K H a xs ∧ xs.length = i⟩
theorem turnT {P : Program} {w : World} {K : PySem.W.Frag} {elts : List Expr} {kk : Nat} {tpos : Pos} (a e it : Addr) :
    Turn P w K (.Tuple elts kk tpos) (ItT K a) [e, it] e (fun i h => (∃ old, IsEnum h e it ((i : Nat) : Int) old) ∧ h.IsTupleIter it a i ∧ e ≠ it) where
  mem := by simp
  obj := fun i h st b hb => by
    obtain ⟨⟨old, he⟩, ⟨o, ho, _, hd⟩, _⟩ := st
    rcases (by simpa using hb : b = e ∨ b = it) with rfl | rfl
    · exact ⟨_, he, fun v q => nomatch q⟩
    · exact ⟨o, ho, fun v q => by rw [hd] at q; cases q⟩
  keep := fun i h h' st k => by
    obtain ⟨⟨old, he⟩, hi, hne⟩ := st
    exact ⟨⟨old, k e (by simp) _ he⟩, hi.at fun o q => k it (by simp) o q, hne⟩
  item := by
    intro X hP hw hK hc i pins s σ H E I hf st hg
    subst hP hw hK
    obtain ⟨⟨old, he⟩, hit, hne⟩ := st
    obtain ⟨xs, x, hq, hx⟩ := hg
    obtain ⟨ts, rv, p, hz⟩ := I.tuple hq
    obtain ⟨u, hu, ru⟩ := rv.get hx
    have hel : e < s.heap.objs.size := Heap.lt_size he
    have hil : it < s.heap.objs.size := by obtain ⟨_, q, _⟩ := hit; exact Heap.lt_size q
    have nit : a ≠ it := by
      rintro rfl
      obtain ⟨o1, q1, c1, _⟩ := hit
      obtain ⟨o2, q2, c2, _⟩ := p
      rw [q1] at q2
      cases q2
      rw [c1] at c2
      simp at c2
    have hi : i < ts.toArray.size := by
      have := (List.getElem?_eq_some_iff.mp hu).1
      simpa using this
    have ex : e ∉ [it, a] := by
      intro m
      rcases (by simpa using m : e = it ∨ e = a) with z | rfl
      · exact hne z
      · obtain ⟨o2, q2, c2, _⟩ := p
        rw [he] at q2
        cases q2
        simp at c2
    refine wpAny_pyNext_enum_itemD (Draws.tuple (A := X.A.in1) (show X.A.in1.handled = none from I.ok.hd hc) it a nit ts.toArray) he ⟨hit, p⟩ hi hne ex fun y h' tk hy ho st' hT hsz hk => ?_
    have eu : y = u := by
      have z : ts.toArray[i]? = some u := by simpa using hu
      exact Option.some.inj (hy.symm.trans z)
    subst eu
    refine ⟨_, rfl, wpAny_letOwnedTupleGo_enum (s := { s with heap := h', toks := tk + 1 }) ho fun h'' he' sb => ?_⟩
    have ke : ∀ b o, b ≠ e → b ≠ it → s.heap.get? b = some o → h''.get? b = some o := fun b o n1 n2 q => (sb.2 b n1).trans (hk b o n1 n2 q)
    have hT2 : h''.get? s.heap.objs.size = some { cls := .type "tuple", data := .seq #[.int i tk, y] } := (sb.2 _ (Nat.ne_of_gt hel)).trans hT
    have new : ObjOk X.prog X.w (L2.upd H s.heap.objs.size (.tup [.int (i : Nat), x])) h'' s.heap.objs.size (.tup [.int (i : Nat), x]) :=
      ⟨by show 2 ≤ sizeLine; decide, [.int i tk, y], .cons ⟨_, rfl⟩ (.cons ru .nil), ⟨_, hT2, rfl, _, rfl⟩⟩
    have I1 : Inv X pins σ (L2.upd H s.heap.objs.size (.tup [.int (i : Nat), x])) { s with heap := h'', toks := tk + 1 } :=
      I.turnedNew (ch := [e, it]) (fun b ob hb q => ke b ob (fun z => hb (by simp [z])) (fun z => hb (by simp [z])) q) hf (Nat.le_refl _) new
    have fin : ((i + 1 : Nat) : Int) = (i : Int) + 1 := by omega
    refine ⟨.ref s.heap.objs.size, _, I1, rfl, ⟨_, x, rfl, I.hok.fresh (Nat.le_refl _), rfl, fun ys hy2 => ?_⟩, ⟨⟨y, by rw [fin]; exact he'⟩, st'.1.at fun o q => (sb.2 it (Ne.symm hne)).trans q, hne⟩, fun b hb => ?_⟩
    · rw [I.tuple_inj hy2 hq]
      exact hx
    · have lt : b < s.heap.objs.size := by
        rcases (by simpa using hb : b = e ∨ b = it) with rfl | rfl
        · exact hel
        · exact hil
      rw [upd_ne (Nat.ne_of_lt lt)]
      exact (hf b hb).1
  done := by
    intro X hP hw hK hc i pins s σ H E I hf st hg
    subst hP hw hK
    obtain ⟨⟨old, he⟩, hit, hne⟩ := st
    obtain ⟨xs, hq, hx⟩ := hg
    obtain ⟨ts, rv, p, hz⟩ := I.tuple hq
    obtain ⟨f0, f1, f2, f3, f4, f5⟩ := hf it (by simp)
    have nit : a ≠ it := by
      rintro rfl
      obtain ⟨o1, q1, c1, _⟩ := hit
      obtain ⟨o2, q2, c2, _⟩ := p
      rw [q1] at q2
      cases q2
      rw [c1] at c2
      simp at c2
    have sz : i = ts.toArray.size := by
      have := rv.length
      simp
      omega
    subst sz
    exact wpAny_pyNext_enum_endD (Draws.tuple (A := X.A.in1) (show X.A.in1.handled = none from I.ok.hd hc) it a nit ts.toArray) he ⟨hit, p⟩ fun h' eb => ⟨rfl, I.turned (t' := s.toks) (fun b o hb q => eb b o hb q) f0 f1 f3 f4 f5⟩
  self := fun A i s Q E st h => let ⟨⟨_, he⟩, _⟩ := st; wpAny_pyIter_enum he h
theorem new_pair {b n : Nat} (h : b = n + 1 ∨ b = n) : n ≤ b := by omega
def iEnT (K : PySem.W.Frag) (ta : TA) : TI := fun σ H R => ta σ H fun vs H1 => ∃ a xs, vs = [.ref a] ∧ SqT K H1 a xs ∧ R (ItT K a) H1
theorem pi_enT {X : Cx} {e : Expr} {ta : TA} {p pos tpos : Pos} {elts : List Expr} {kk : Nat} (hg : Gl X "enumerate") (hm : X.mg "enumerate" = none) (ha : PA X [e] ta) (hs : starEach [e] X.env = [(false, eval e X.env)] := by rfl) :
    PI X (.Tuple elts kk tpos) (.Call (.Name "enumerate" p) [e] [] pos) (iEnT X.K ta) := by
  refine ⟨fun pins s σ H R I h => ?_⟩
  refine Call_ (ld_blt I hg hm boot_enumerate (PyProof.Rows.callWith_type1 (thn (ha.run pos pins s σ H _ I h) fun us s1 ⟨vs, H1, I1, r1, a, xs, ex, hq, q⟩ => ?_) hs rfl))
  subst ex
  obtain rfl := Vals.ref1 r1
  obtain ⟨ts, rv, tp, hz⟩ := I1.tuple hq
  refine enumT_call tp fun h' he hit hk => wpAny_pyIter_enum he ?_
  refine ⟨s1.heap.objs.size + 1, [s1.heap.objs.size + 1, s1.heap.objs.size], _, _, H1, rfl, I1.kept (t' := s1.toks) hk, turnT a (s1.heap.objs.size + 1) s1.heap.objs.size, ⟨⟨.none, he⟩, hit, Nat.succ_ne_self _⟩, fun b hb => ?_, q⟩
  have le := new_pair (by simpa using hb)
  exact I1.fpOk le (I1.hok.fresh le)
section
variable {K : PySem.W.Frag} {σ : L2.St} {H : Hp} {Q : VK} {D : Ends} {A : TA} {te : TE} {tt : TT}
/-- for i, x in enumerate(a tuple) -/
theorem r_forET {g : TG} {tb : TS} (h : A σ H fun vs H1 => ∃ a xs, vs = [.ref a] ∧ SqT K H1 a xs ∧ ∃ W : Nat → Nat → L2.St → Hp → Prop, (∃ m, W 0 m σ H1) ∧ ∀ i m σ H, W i m σ H →
      (((ItT K a).stop i H ∧ D.nx σ H) ∨ ((ItT K a).go i H ∧ ∃ N : L2.St → Hp → Prop, (∀ σ' H', N σ' H' → ∃ m', m' < m ∧ W (i + 1) m' σ' H') ∧ ∀ x H', (ItT K a).yld i H x H' → g x σ H' fun σ2 H2 => tb { D with nx := N, ct := N, bk := D.nx } σ2 H2))) :
    tFor (iEnT K A) g tb D σ H := h
theorem r_enumT_by {g : TG} {tb : TS} {a : Addr} {xs : List V} (hs : SqT K H a xs) (Pv : Nat → L2.St → Hp → Prop) (h0 : Pv 0 σ H) (hl : ∀ i σ' H', Pv i σ' H' → SqT K H' a xs)
    (ht : ∀ (i : Nat) x σ' H', xs[i]? = some x → Pv i σ' H' → ∀ T H2, H' T = none → Same H' H2 → H2 T = some (.tup [.int (i : Nat), x]) → g (.ref T) σ' H2 fun σ2 H3 => tb { D with nx := Pv (i + 1), ct := Pv (i + 1), bk := D.nx } σ2 H3) (hd : ∀ σ' H', Pv xs.length σ' H' → D.nx σ' H') :
    ∃ a' xs', [V.ref a] = [.ref a'] ∧ SqT K H a' xs' ∧ ∃ W : Nat → Nat → L2.St → Hp → Prop, (∃ m, W 0 m σ H) ∧ ∀ i m σ H, W i m σ H →
      (((ItT K a').stop i H ∧ D.nx σ H) ∨ ((ItT K a').go i H ∧ ∃ N : L2.St → Hp → Prop, (∀ σ' H', N σ' H' → ∃ m', m' < m ∧ W (i + 1) m' σ' H') ∧ ∀ x H', (ItT K a').yld i H x H' → g x σ H' fun σ2 H2 => tb { D with nx := N, ct := N, bk := D.nx } σ2 H2)) := by
  refine ⟨a, xs, rfl, hs, fun i m σ H => m = xs.length - i ∧ i ≤ xs.length ∧ Pv i σ H, ⟨xs.length, by simp, Nat.zero_le _, h0⟩, ?_⟩
  rintro i m σ H ⟨rfl, hi, p⟩
  have q := hl i σ H p
  by_cases hlt : i < xs.length
  · refine .inr ⟨⟨xs, xs[i], q, by simp [hlt]⟩, Pv (i + 1), fun σ' H' p' => ⟨xs.length - (i + 1), by omega, rfl, hlt, p'⟩, fun x H' y => ?_⟩
    obtain ⟨T, z, e1, nT, e2, hz⟩ := y
    subst e1 e2
    exact ht i z σ H (hz xs q) p T _ nT (same_upd nT) upd_same
  · have e : i = xs.length := by omega
    subst e
    exact .inl ⟨⟨xs, q, rfl⟩, hd σ H p⟩
/-- [e for i, x in enumerate(a tuple) if t] -/
def lcET (K : PySem.W.Frag) (a : Addr) (g : TG) (tt : TT) (te : TE) (vs : List Nat) (σ : L2.St) (H : Hp) (Q : VK) : Prop := ∀ D, H D = none → ∃ W : Nat → Nat → Hp → Prop, (∃ m, W 0 m (L2.upd H D (.lst []))) ∧ ∀ i m H, W i m H →
  ((ItT K a).stop i H ∧ Q (.ref D) H) ∨ ((ItT K a).go i H ∧ ∃ Nx : Hp → Prop, (∀ H', Nx H' → ∃ m', m' < m ∧ W (i + 1) m' H') ∧ ∀ x H', (ItT K a).yld i H x H' → g x (wipe σ vs) H' fun σ2 H2 => wipe σ2 vs = wipe σ vs ∧ tt σ2 H2 fun b H3 =>
    if b = true then te σ2 H3 fun y H4 => ∃ acc, H4 D = some (.lst acc) ∧ acc.length < sizeLine ∧ Nx (L2.upd H4 D (.lst (acc ++ [y]))) else Nx H3)
theorem r_lcETup {vs : List Nat} {g : TG} (h : A σ H fun ws H1 => ∃ a xs, ws = [.ref a] ∧ SqT K H1 a xs ∧ lcET K a g tt te vs σ H1 Q) : tLc (iEnT K A) g tt te vs σ H Q := h
theorem r_lcET {vs : List Nat} {g : TG} {a : Addr} {xs : List V} (hx : SqT K H a xs) (Pv : Addr → Nat → Hp → Prop)
    (hs : ∀ Dl H1, H Dl = none → Same H H1 → H1 Dl = some (.lst []) → Pv Dl 0 H1) (hl : ∀ Dl i H', H Dl = none → Pv Dl i H' → SqT K H' a xs)
    (ht : ∀ Dl (i : Nat) x H', H Dl = none → xs[i]? = some x → Pv Dl i H' → ∀ T H2, H' T = none → Same H' H2 → H2 T = some (.tup [.int (i : Nat), x]) → g (.ref T) (wipe σ vs) H2 fun σ2 H3 => wipe σ2 vs = wipe σ vs ∧
      tt σ2 H3 fun b H4 => if b = true then te σ2 H4 (apR Dl (Pv Dl (i + 1))) else Pv Dl (i + 1) H4)
    (hd : ∀ Dl H', H Dl = none → Pv Dl xs.length H' → Q (.ref Dl) H') : ∃ a' xs', [V.ref a] = [.ref a'] ∧ SqT K H a' xs' ∧ lcET K a' g tt te vs σ H Q := by
  refine ⟨a, xs, rfl, hx, fun Dl nD => ⟨fun i m H' => m = xs.length - i ∧ i ≤ xs.length ∧ Pv Dl i H', ⟨xs.length, by simp, Nat.zero_le _, hs Dl _ nD (same_upd nD) upd_same⟩, ?_⟩⟩
  rintro i m H' ⟨rfl, hi, p⟩
  have q := hl Dl i H' nD p
  by_cases hlt : i < xs.length
  · refine .inr ⟨⟨xs, xs[i], q, by simp [hlt]⟩, Pv Dl (i + 1), fun H2 p' => ⟨xs.length - (i + 1), by omega, rfl, hlt, p'⟩, fun x H2 y => ?_⟩
    obtain ⟨T, z, e1, nT, e2, hz⟩ := y
    subst e1 e2
    exact ht Dl i z H' nD (hz xs q) p T _ nT (same_upd nT) upd_same
  · have e : i = xs.length := by omega
    subst e
    exact .inl ⟨⟨xs, q, rfl⟩, hd Dl H' nD p⟩
/-- [e for x in a tuple if t] -/
def lcT (K : PySem.W.Frag) (a : Addr) (k : Nat) (tt : TT) (te : TE) (vs : List Nat) (σ : L2.St) (H : Hp) (Q : VK) : Prop := (∃ xs, SqT K H a xs) ∧ ∀ D, H D = none → ∃ W : Nat → Nat → Hp → Prop, (∃ m, W 0 m (L2.upd H D (.lst []))) ∧ ∀ i m H, W i m H →
  ((Itt K a).stop i H ∧ Q (.ref D) H) ∨ ((Itt K a).go i H ∧ ∃ Nx : Hp → Prop, (∀ H', Nx H' → ∃ m', m' < m ∧ W (i + 1) m' H') ∧ ∀ x H', (Itt K a).yld i H x H' → gName k x (wipe σ vs) H' fun σ2 H2 => wipe σ2 vs = wipe σ vs ∧ tt σ2 H2 fun b H3 =>
    if b = true then te σ2 H3 fun y H4 => ∃ acc, H4 D = some (.lst acc) ∧ acc.length < sizeLine ∧ Nx (L2.upd H4 D (.lst (acc ++ [y]))) else Nx H3)
theorem r_lcTup {k : Nat} {vs : List Nat} {tl : TE} (h : tl σ H fun x H1 => ∃ a, x = .ref a ∧ lcT K a k tt te vs σ H1 Q) : tLc (iTup K tl) (gName k) tt te vs σ H Q := h
theorem r_lcT {a : Addr} {xs : List V} {k : Nat} {vs : List Nat} (hx : SqT K H a xs) (hw : ∀ x, wipe ((wipe σ vs).set k (some x)) vs = wipe σ vs) (Pv : Addr → Nat → Hp → Prop)
    (hs : ∀ Dl H1, H Dl = none → Same H H1 → H1 Dl = some (.lst []) → Pv Dl 0 H1) (hl : ∀ Dl i H', H Dl = none → Pv Dl i H' → SqT K H' a xs)
    (ht : ∀ Dl (i : Nat) x H', H Dl = none → xs[i]? = some x → Pv Dl i H' → tt ((wipe σ vs).set k (some x)) H' fun b H3 => if b = true then te ((wipe σ vs).set k (some x)) H3 (apR Dl (Pv Dl (i + 1))) else Pv Dl (i + 1) H3)
    (hd : ∀ Dl H', H Dl = none → Pv Dl xs.length H' → Q (.ref Dl) H') : ∃ a', V.ref a = .ref a' ∧ lcT K a' k tt te vs σ H Q := by
  refine ⟨a, rfl, ⟨xs, hx⟩, fun Dl hD => ?_⟩
  exact lc_tup (xs := xs) (tt := tt) (Pv Dl) (hs Dl _ hD (same_upd hD) upd_same) (fun i H' _ p => hl Dl i H' hD p) (fun i x H' hi p => ⟨hw _, ht Dl i x H' hD hi p⟩) (fun H' p => hd Dl H' hD p)
/-- for x in a tuple -/
theorem r_forT0 {tl : TE} {g : TG} {tb : TS} (h : tl σ H fun x H1 => ∃ a, x = .ref a ∧ (∃ xs, SqT K H1 a xs) ∧ ∃ W : Nat → Nat → L2.St → Hp → Prop, (∃ m, W 0 m σ H1) ∧ ∀ i m σ H, W i m σ H →
      (((Itt K a).stop i H ∧ D.nx σ H) ∨ ((Itt K a).go i H ∧ ∃ N : L2.St → Hp → Prop, (∀ σ' H', N σ' H' → ∃ m', m' < m ∧ W (i + 1) m' σ' H') ∧ ∀ x H', (Itt K a).yld i H x H' → g x σ H' fun σ2 H2 => tb { D with nx := N, ct := N, bk := D.nx } σ2 H2))) :
    tFor (iTup K tl) g tb D σ H := h
theorem r_tup_by {g : TG} {tb : TS} {a : Addr} {xs : List V} (hs : SqT K H a xs) (Pv : Nat → L2.St → Hp → Prop) (h0 : Pv 0 σ H) (hl : ∀ i σ' H', Pv i σ' H' → SqT K H' a xs)
    (ht : ∀ i x σ' H', xs[i]? = some x → Pv i σ' H' → g x σ' H' fun σ2 H2 => tb { D with nx := Pv (i + 1), ct := Pv (i + 1), bk := D.nx } σ2 H2) (hd : ∀ σ' H', Pv xs.length σ' H' → D.nx σ' H') :
    ∃ a', V.ref a = .ref a' ∧ (∃ xs, SqT K H a' xs) ∧ ∃ W : Nat → Nat → L2.St → Hp → Prop, (∃ m, W 0 m σ H) ∧ ∀ i m σ H, W i m σ H →
      (((Itt K a').stop i H ∧ D.nx σ H) ∨ ((Itt K a').go i H ∧ ∃ N : L2.St → Hp → Prop, (∀ σ' H', N σ' H' → ∃ m', m' < m ∧ W (i + 1) m' σ' H') ∧ ∀ x H', (Itt K a').yld i H x H' → g x σ H' fun σ2 H2 => tb { D with nx := N, ct := N, bk := D.nx } σ2 H2)) :=
  ⟨a, rfl, ⟨xs, hs⟩, for_tup (xs := xs) Pv h0 (fun i σ' H' _ p => hl i σ' H' p) ht hd⟩
end
end Z
local macro_rules | `(tactic| walk_at "call") => `(tactic| first
  | with_reducible refine Z.r_forET ?_
  | with_reducible refine Z.r_lcETup ?_
  | with_reducible refine Z.r_lcTup ?_
  | with_reducible refine Z.r_forT0 ?_)

/-! instances of an own class: len, [..], for .. in where __iter__ gives a tuple's iterator -/
namespace Z
open PySem PySem.Spec PyProof.Rows L2
open ItX (dropH dropH_upd inv_drop inv_fp)
/-- the iterator at it of the tuple at t -/
def ItTup (t it : Addr) (i : Nat) : HO := .ext fun h => h.IsTupleIter it t i
theorem itTup_ok {P : Program} {w : World} {H : Hp} {h : Heap} {t it : Addr} {i : Nat} (e : h.IsTupleIter it t i) : ObjOk P w H h it (ItTup t it i) :=
  ⟨e, let ⟨o, ho, _⟩ := e; ⟨o, ho⟩, fun h1 h2 e1 k => e1.at fun o q => k o q⟩
theorem itTup_get {P : Program} {w : World} {H : Hp} {h : Heap} {t it : Addr} {i : Nat} (ok : HOk P w H h) (e : H it = some (ItTup t it i)) : h.IsTupleIter it t i := (show ObjOk P w H h it (ItTup t it i) from ok it _ e).1
/-- iter(a tuple): young, as the caller's start was of n objects -/
def rIterT (K : PySem.W.Frag) (n : Nat) : List V → Hp → VK → Prop := fun xs H Q => ∃ (t : Addr) (zs : List V), xs = [.ref t] ∧ SqT K H t zs ∧ ∀ it, H it = none → n ≤ it → Q (.ref it) (L2.upd H it (ItTup t it 0))
section
variable {X : Cx} {k : Nat} {C f : Addr} {fd : FuncData} {ps : List Str} {sp : Sp}
theorem c_iterT : CallR X (.builtin "iter") (rIterT X.K X.s_0.heap.objs.size) := by
  intro pins s σ H xs us Q I r h
  obtain ⟨t, zs, rfl, hq, q⟩ := h
  obtain rfl := Vals.ref1 r
  obtain ⟨its, rv, tp, hz⟩ := I.tuple hq
  refine Calls.call_function_entry (by decide +kernel) (by decide +kernel) PySem.W.kdk_entry_iter (PySem.W.kdk_args_iter _) ?_
  unfold Builtin.«iter»
  refine wpAny_bind (m := someArgs "iter" 1 2 _) (wpAny_of_eq (a := [Value.ref t]) (by kernel_rfl!) (?_ : wpAny _ _ (pyIter (.ref t) >>= _) _ _ s))
  refine wpAny_bind (wpAny_pyIter_tuple (show s.heap.IsTuple t its.toArray from tp) (wpAny_pure ⟨_, rfl, ?_⟩))
  have fr := I.hok.fresh (Nat.le_refl s.heap.objs.size)
  exact ⟨.ref s.heap.objs.size, _, I.laid (t' := s.toks) (fun b u e => Heap.get?_push_of_some _ e) (Nat.le_refl _) (itTup_ok ⟨_, Heap.get?_push_size _ rfl, rfl, rfl⟩), rfl, q _ fr I.sz⟩
/-- len of an instance -/
def inB (Q : VK) : VK := fun v H' => ∃ n : Nat, v = .int n ∧ n ≤ 1000000 ∧ Q (.int n) H'
def rLenO (C : Addr) (sp : Sp) : List V → Hp → VK → Prop := fun xs H Q => ∃ a dx fs, xs = [.ref a] ∧ H a = some (.ins C dx fs) ∧ sp ([.ref a] ++ []) H (inB Q) E0
theorem c_lenO (M : Meth X.K C "__len__" f) (F : FnOk X.prog X.w X.K X.mg X.base CX0 k f fd ps sp) (hr : Room (k + 1) X.A) (hb : Binds X.K fd ps []) : CallR X (.builtin "len") (rLenO C sp) := by
  intro pins s σ H xs us Q I r h
  obtain ⟨a, dx, fs, rfl, ha, q⟩ := h
  obtain ⟨u, rfl, ru⟩ := vals1 r
  cases (show u = Value.ref a from ru)
  obtain ⟨mA, O, _⟩ := ins_get I.hok ha
  obtain ⟨od, J, _⟩ := O.look
  obtain ⟨m, hF⟩ := I.fr
  refine PySem.W.len_K hF I.ok.mod.kin J M.at_ M.fn (wpAny_mono (run_below (us := [.ref a]) (vs := [.ref a]) (A := X.A.in1) ⟨hr.in1, rfl⟩ F hb I (.cons rfl .nil) q) (fun w s' z => ?_) fun _ _ x => x)
  obtain ⟨z', H', I', rz, n, e, hn, qz⟩ := z
  subst e
  obtain ⟨t, rfl⟩ := (show ∃ t, w = Value.int (n : Int) t from rz)
  have p63 : (1000000 : Int) < 2 ^ 63 := by decide
  exact ⟨⟨by omega, by omega⟩, .int n, H', I'.tok _, ⟨_, rfl⟩, qz⟩
end
section
variable {P : Program} {w : World} {K : PySem.W.Frag} {mg : Str → Option Value} {base : Heap}
/-- a def called in one state, its body's reading told of that state alone -/
theorem fn_at {x qual : Str} {st : Stmt} {f : Addr} {fd : FuncData} {N ps : List Str} {k : Nat} {A : Around} {outer : List Env} {s : Shared} {H : Hp} {args : Args} {us : List Value} {vs : List V} {Q : VK} {E : XK}
    (F : Fun K x qual st f fd) (S : FnScope N ps (defScope st)) (hr : Room (k + 1) A) (e0 : Env0 P w K mg base A outer s H) (hb : BindsTo s fd args (ps.zip us)) (r : Vals vs us) (hl : vs.length = ps.length)
    (hbody : ∀ cdv, Room k (A.deeper (envOfC qual (defScope st) s.heap.objs.size f cdv)) → ∃ t, PSs (cxOf CX0 P w K mg base N qual (defScope st) f cdv A outer s H E) (defBody st) t ∧ t { nx := fun _ H' => Q .non H', rt := Q } (start N vs) H) :
    codeAny (model P w) A (.call (.ref f) args) (CR CX0 outer P w H s Q E) s := by
  obtain ⟨oc, od, kV, doc, pm, an, cdv, ct, osl, rfl, lk, hcd⟩ := F.ex
  have bk : ∀ b o, base.get? b = some o → s.heap.get? b = some o := fun b o e => (e0.bs b o e).1
  have KX : K.In s.heap := e0.mod.kin.keeps bk
  have kinds : ∀ y ∈ ps.zip us, (defScope st).names.lookup y.1 = some .local ∨ ((defScope st).names.lookup y.1 = some .cell ∧ ((cellsFrom (s.heap.objs.size + 1) (defScope st).names []).lookup y.1).isSome = true) := by
    rintro ⟨n, v⟩ hy
    exact (S.par n (List.of_mem_zip hy).1).imp id fun q => ⟨q, PySem.W.cellsFrom_some _ _ _ (.inl q)⟩
  refine codeAny_call_function hr.depth (KX _ _ lk) rfl S.co S.gen rfl (PySem.W.codeRec_of KX hcd) (hb _ _ _ _ (wpAny_newFunctionEnv_cells S.kind kinds fun env he s1 y => ?_))
  subst he
  refine ⟨(e0.mod.nolimit.keeps bk).keeps y.toInCall.keep, codeAny_func ?_⟩
  obtain ⟨t, ht, hq⟩ := hbody cdv (hr.deeper _)
  have I := inv_start (CX := CX0) (P := P) (w := w) (K := K) (mg := mg) (base := base) (E := E) S hr.hd e0 hl r y
  refine wpAny_mono (ht.run [] s1 (start N vs) H _ I hq) (fun fl s' hs => ?_) fun _ _ z => z
  cases fl with
  | ret u =>
    obtain ⟨v, _, H', J, rv, q⟩ := hs
    exact ⟨v, H', J.os, J.bare, J.base, J.hok, rv, q⟩
  | next =>
    obtain ⟨_, H', J, q⟩ := hs
    exact ⟨V.non, H', J.os, J.bare, J.base, J.hok, rfl, q⟩
  | brk => exact False.elim hs.choose_spec.choose_spec.2
  | cont => exact False.elim hs.choose_spec.choose_spec.2
end
end Z
namespace Z
open PySem PySem.Spec PyProof.Rows L2
open ItX (dropH dropH_upd inv_drop inv_fp)
/-- the def at f gives, of an instance of C whose field fl holds a tuple, a young iterator of it -/
def IterOk (P : Program) (w : World) (K : PySem.W.Frag) (mg : Str → Option Value) (base : Heap) (k : Nat) (f C : Addr) (fl : Str) : Prop :=
  ∀ (A : Around) (outer : List Env) (s : Shared) (H : Hp) (a : Addr) (Q : VK), Room k A → Env0 P w K mg base A outer s H →
    (∃ dx fs t zs, H a = some (.ins C dx fs) ∧ fs.lookup fl = some (.ref t) ∧ SqT K H t zs ∧ ∀ it, H it = none → s.heap.objs.size ≤ it → Q (.ref it) (L2.upd H it (ItTup t it 0))) →
    codeAny (model P w) A (.call (.ref f) ⟨[.ref a], []⟩) (CR CX0 outer P w H s Q E0) s
def iOwn (K : PySem.W.Frag) (C : Addr) (fl : Str) (te : TE) : TI := fun σ H R => te σ H fun x H1 => ∃ a dx fs t zs, x = .ref a ∧ H1 a = some (.ins C dx fs) ∧ fs.lookup fl = some (.ref t) ∧ SqT K H1 t zs ∧ R (Itt K t) H1
section
variable {prog : Program} {w : World} {A : Around} {E : Value → Shared → Prop} {s : Shared} {K : PySem.W.Frag} {x C f : Addr} {ox : Obj} {od : Option Obj}
theorem iter_own {Q : Value → Shared → Prop} (X : K.In s.heap) (I : PySem.W.InstAt s.heap x ox C od) (hs : PySem.W.findIn K (.ref C) "__iter__" = some (some (.ref f))) (hf : PySem.W.isFn K (.ref f) = true)
    (h : wpAny (model prog w) A (call (.ref f) [.ref x]) (fun v s' => (∃ t it i, v = .ref it ∧ s'.heap.IsTupleIter it t i) ∧ Q v s') E s) : wpAny (model prog w) A (pyIter (.ref x)) Q E s := by
  have look : ∀ {R : Option Value → Shared → Prop}, R (some (.ref f)) s → wpAny (model prog w) A (specialOf (.ref x) (Str.ofString "__iter__")) R E s := fun q => wpAny_bind (I.type.here ((PySem.W.looks_findIn X hs).here q))
  have go : wpAny (model prog w) A (call (.ref f) [.ref x] >>= fun v => pure (some v)) (fun r s' => ∃ v, r = some v ∧ (∃ t it i, v = .ref it ∧ s'.heap.IsTupleIter it t i) ∧ Q v s') E s :=
    wpAny_bind (wpAny_mono h (fun v s' z => wpAny_pure ⟨v, rfl, z⟩) fun _ _ z => z)
  unfold pyIter
  refine wpAny_bind (look ?_)
  dsimp only
  refine wpAny_bind (wpAny_mono (Q := fun r s' => ∃ v, r = some v ∧ (∃ t it i, v = .ref it ∧ s'.heap.IsTupleIter it t i) ∧ Q v s') ?_ (fun r s' z => ?_) fun _ _ z => z)
  · simp only [callSpecialIfBoundUnlessNone?, bindSpecialIfBound?]
    refine wpAny_holding (wpAny_bind (wpAny_bind (look ?_)))
    refine wpAny_bind (wpAny_askSetting (wpAny_ite ?_))
    split
    · exact wpAny_bind ((PySem.W.bind_fn X _ (beq_iff_eq.mp hf)).here (wpAny_pure (by exact go)))
    · exact wpAny_tryCatch (wpAny_bind ((PySem.W.bind_fn X _ (beq_iff_eq.mp hf)).here (wpAny_pure (by exact go))))
  · obtain ⟨v, rfl, ⟨t, it, i, rfl, hi⟩, q⟩ := z
    exact wpAny_bind (wpAny_specialOf hi.typeIs PySem.F.slot_tuple_iterator_next.lookup (wpAny_pure q))
end
section
variable {X : Cx} {k : Nat} {C f : Addr} {fl : Str} {te : TE} {tg e : Expr}
theorem pi_own (M : Meth X.K C "__iter__" f) (F : IterOk X.prog X.w X.K X.mg X.base k f C fl) (hr : Room k X.A) (he : PE X e te) : PI X tg e (iOwn X.K C fl te) := by
  refine ⟨fun pins s σ H R I h => ?_⟩
  refine thn (he.run pins s σ H _ I h) fun v s1 hv => ?_
  obtain ⟨y, H1, I1, r1, a, dx, fs, t, zs, rfl, ha, hl, ht, q⟩ := hv
  cases (show v = Value.ref a from r1)
  obtain ⟨mA, O, _⟩ := ins_get I1.hok ha
  obtain ⟨od, J, _⟩ := O.look
  refine iter_own I1.kIn J M.at_ M.fn (wpAny_call (codeAny_mono (F X.A X.stack s1 H1 a (fun v H' => ∃ it, v = .ref it ∧ H1 it = none ∧ s1.heap.objs.size ≤ it ∧ H' = L2.upd H1 it (ItTup t it 0)) hr I1.env0
    ⟨dx, fs, t, zs, ha, hl, ht, fun it n1 n2 => ⟨it, rfl, n1, n2, rfl⟩⟩) fun r s' hq => ?_))
  cases r with
  | error e => exact hq.elim
  | ok fl =>
    cases fl with
    | next => exact False.elim hq
    | brk => exact False.elim hq
    | cont => exact False.elim hq
    | ret u =>
      obtain ⟨v, H', I2, rv, it, rfl, n1, n2, rfl⟩ := I1.after hq
      cases (show u = Value.ref it from rv)
      have hi : L2.upd H1 it (ItTup t it 0) it = some (ItTup t it 0) := upd_same
      have st := itTup_get I2.hok hi
      refine ⟨⟨t, it, 0, rfl, st⟩, it, [it], _, _, dropH (L2.upd H1 it (ItTup t it 0)) it, rfl, inv_drop I2 hi, turn_tuple t it, st, fun b hb => ?_, ?_⟩
      · have e : b = it := by simpa using hb
        rw [e]
        exact inv_fp I2 hi (Nat.le_trans I1.sz n2)
      · rw [dropH_upd n1]
        exact q
end
section
variable {K : PySem.W.Frag} {σ : L2.St} {H : Hp} {Q : VK} {D : Ends} {te : TE} {tt : TT} {a C dx t : Addr} {fs : List (Str × V)} {fl : Str} {zs : List V}
def owR (K : PySem.W.Frag) (C : Addr) (fl : Str) (R : It → Hp → Prop) : VK := fun x H1 => ∃ a dx fs t zs, x = .ref a ∧ H1 a = some (.ins C dx fs) ∧ fs.lookup fl = some (.ref t) ∧ SqT K H1 t zs ∧ R (Itt K t) H1
def forOR (g : TG) (tb : TS) (D : Ends) (σ : L2.St) : It → Hp → Prop := fun J H1 => ∃ W : Nat → Nat → L2.St → Hp → Prop, (∃ m, W 0 m σ H1) ∧ ∀ i m σ H, W i m σ H →
  ((J.stop i H ∧ D.nx σ H) ∨ (J.go i H ∧ ∃ N : L2.St → Hp → Prop, (∀ σ' H', N σ' H' → ∃ m', m' < m ∧ W (i + 1) m' σ' H') ∧ ∀ x H', J.yld i H x H' → g x σ H' fun σ2 H2 => tb { D with nx := N, ct := N, bk := D.nx } σ2 H2))
theorem r_forO {g : TG} {tb : TS} (h : te σ H (owR K C fl (forOR g tb D σ))) : tFor (iOwn K C fl te) g tb D σ H := h
theorem r_forO_by {g : TG} {tb : TS} (ha : H a = some (.ins C dx fs)) (hf : fs.lookup fl = some (.ref t)) (hs : SqT K H t zs) (Pv : Nat → L2.St → Hp → Prop) (h0 : Pv 0 σ H) (hl : ∀ i σ' H', Pv i σ' H' → SqT K H' t zs)
    (ht : ∀ i x σ' H', zs[i]? = some x → Pv i σ' H' → g x σ' H' fun σ2 H2 => tb { D with nx := Pv (i + 1), ct := Pv (i + 1), bk := D.nx } σ2 H2) (hd : ∀ σ' H', Pv zs.length σ' H' → D.nx σ' H') : owR K C fl (forOR g tb D σ) (.ref a) H :=
  ⟨a, dx, fs, t, zs, rfl, ha, hf, hs, for_tup (xs := zs) Pv h0 (fun i σ' H' _ p => hl i σ' H' p) ht hd⟩
def lcOR (k : Nat) (tt : TT) (te' : TE) (vs : List Nat) (σ : L2.St) (Q : VK) : It → Hp → Prop := fun J H1 => ∀ D, H1 D = none → ∃ W : Nat → Nat → Hp → Prop, (∃ m, W 0 m (L2.upd H1 D (.lst []))) ∧ ∀ i m H, W i m H →
  (J.stop i H ∧ Q (.ref D) H) ∨ (J.go i H ∧ ∃ Nx : Hp → Prop, (∀ H', Nx H' → ∃ m', m' < m ∧ W (i + 1) m' H') ∧ ∀ x H', J.yld i H x H' → gName k x (wipe σ vs) H' fun σ2 H2 => wipe σ2 vs = wipe σ vs ∧ tt σ2 H2 fun b H3 =>
    if b = true then te' σ2 H3 fun y H4 => ∃ acc, H4 D = some (.lst acc) ∧ acc.length < sizeLine ∧ Nx (L2.upd H4 D (.lst (acc ++ [y]))) else Nx H3)
theorem r_lcO0 {k : Nat} {vs : List Nat} {te' : TE} (h : te σ H (owR K C fl (lcOR k tt te' vs σ Q))) : tLc (iOwn K C fl te) (gName k) tt te' vs σ H Q := h
theorem r_lcO {k : Nat} {vs : List Nat} {te' : TE} (ha : H a = some (.ins C dx fs)) (hf : fs.lookup fl = some (.ref t)) (hx : SqT K H t zs) (hw : ∀ x, wipe ((wipe σ vs).set k (some x)) vs = wipe σ vs) (Pv : Addr → Nat → Hp → Prop)
    (hs : ∀ Dl H1, H Dl = none → Same H H1 → H1 Dl = some (.lst []) → Pv Dl 0 H1) (hl : ∀ Dl i H', H Dl = none → Pv Dl i H' → SqT K H' t zs)
    (ht : ∀ Dl (i : Nat) x H', H Dl = none → zs[i]? = some x → Pv Dl i H' → tt ((wipe σ vs).set k (some x)) H' fun b H3 => if b = true then te' ((wipe σ vs).set k (some x)) H3 (apR Dl (Pv Dl (i + 1))) else Pv Dl (i + 1) H3)
    (hd : ∀ Dl H', H Dl = none → Pv Dl zs.length H' → Q (.ref Dl) H') : owR K C fl (lcOR k tt te' vs σ Q) (.ref a) H :=
  ⟨a, dx, fs, t, zs, rfl, ha, hf, hx, fun Dl hD => lc_tup (xs := zs) (tt := tt) (Pv Dl) (hs Dl _ hD (same_upd hD) upd_same) (fun i H' _ p => hl Dl i H' hD p) (fun i x H' hi p => ⟨hw _, ht Dl i x H' hD hi p⟩) fun H' p => hd Dl H' hD p⟩
theorem r_iterT {n : Nat} (hs : SqT K H t zs) (h : ∀ it, H it = none → n ≤ it → Q (.ref it) (L2.upd H it (ItTup t it 0))) : rIterT K n [.ref t] H Q := ⟨t, zs, rfl, hs, h⟩
theorem r_lenO {sp : Sp} (e : H a = some (.ins C dx fs)) (h : sp ([.ref a] ++ []) H (inB Q) E0) : rLenO C sp [.ref a] H Q := ⟨a, dx, fs, rfl, e, h⟩
theorem r_inB {n : Nat} (l : n ≤ 1000000) (h : Q (.int n) H) : inB Q (.int n) H := ⟨n, rfl, l, h⟩
end
end Z
local macro_rules | `(tactic| walk_at "call") => `(tactic| first
  | with_reducible refine Z.r_forO ?_
  | with_reducible refine Z.r_lcO0 ?_
  | ((with_reducible refine' Z.r_lenO ?e ?_); (case e => walk_at "hp")))
namespace Z
open PySem PySem.Spec PyProof.Rows L2
theorem fn_in {K : PySem.W.Frag} {x qual : Str} {st : Stmt} {f : Addr} {fd : FuncData} (F : Fun K x qual st f fd) : PySem.W.fnIn K f = true := by
  obtain ⟨oc, od, kV, doc, pm, an, cdv, ct, osl, rfl, lk, hcd⟩ := F.ex
  unfold PySem.W.fnIn
  rw [lk]
section
variable {X : Cx} {k : Nat} {C f : Addr} {fd : FuncData} {ps : List Str} {sp : Sp} {a b : Expr} {ta tb : TE} {pos : Pos}
/-- o[i], o an instance whose __getitem__ keeps sp -/
def rIxO (C : Addr) (sp : Sp) : R2 := fun x y H Q => ∃ a dx fs, x = .ref a ∧ H a = some (.ins C dx fs) ∧ sp ([x, y] ++ []) H Q E0
theorem pe_ixO (M : Meth X.K C "__getitem__" f) (hfn : PySem.W.fnIn X.K f = true) (F : FnOk X.prog X.w X.K X.mg X.base CX0 k f fd ps sp) (hr : Room (k + 1) X.A) (hb : Binds X.K fd ps []) (ha : PE X a ta) (hb' : PE X b tb)
    (hs : ∀ x i, subscripted b true (.ref x) i = runValue (.builtin "lifetime.subscript" ⟨[.ref x, i], []⟩) := by intro _ _; with_unfolding_all rfl) : PE X (.Subscript a b pos) (tOp (rIxO C sp) ta tb) := by
  refine ⟨fun pins s σ H Q I h => ?_⟩
  refine Subscript_ (binT ha hb' I h fun v u s2 x y H2 I2 rx ry q => ?_)
  obtain ⟨c, dx, fs, rfl, hc, q⟩ := q
  cases (show v = Value.ref c from rx)
  obtain ⟨mA, O, _⟩ := ins_get I2.hok hc
  obtain ⟨od, J, _⟩ := O.look
  obtain ⟨m, hF⟩ := I2.fr
  refine PySem.W.sub_K hF I2.ok.mod.kin J M.at_ hfn M.fn ?_ (hs c u)
  exact run_below (us := [.ref c, u]) (vs := [.ref c, y]) (A := X.A.in1) ⟨hr.in1, rfl⟩ F hb I2 (.cons rfl (.cons ry .nil)) q
end
section
variable {H : Hp} {Q : VK} {y : V} {a C dx : Addr} {fs : List (Str × V)} {sp : Sp}
theorem r_ixO (e : H a = some (.ins C dx fs)) (h : sp ([.ref a, y] ++ []) H Q E0) : rIxO C sp (.ref a) y H Q := ⟨a, dx, fs, rfl, e, h⟩
end
end Z
namespace Z
open PySem PySem.Spec PyProof.Rows L2
section
variable {X : Cx} {CX : CXT} {k i : Nat} {C f p g : Addr} {fd : FuncData} {ps : List Str} {ds : List Value} {dvs : List V} {sp : Sp} {E : XK} {x m : Str} {e o : Expr} {es : List Expr} {t : TA} {ta : TE} {q pos apos : Pos} {mc : Value} {pl : Sem Bool}
/-- v(e, ..), v a local that holds the class at C -/
def tMakeV (i : Nat) (C : Addr) (sp : Sp) (dvs : List V) (E : XK) (t : TA) : TE := fun σ H Q => σ[i]? = some (some (.ref C)) ∧ tMake C sp dvs E t σ H Q
theorem pe_makeV (M : Mk X.K C f) (F : FnOk X.prog X.w X.K X.mg X.base CX k f fd ps sp) (hr : Room (k + 1) X.A) (hb : Binds X.K fd ps ds) (hd : Vals dvs ds) (hx : Passes CX X E) (hN : X.N[i]? = some x) (hv : Vis X.env.scope x) (ha : PA X (e :: es) t)
    (hdb : (x == ("__debug__" : Str)) = false := by decide) (hcd : (x == ("__classdict__" : Str)) = false := by decide) (he : starEach (e :: es) X.env = (false, eval e X.env) :: starEach es X.env := by rfl) (hpl : (backTo pos (starEach es X.env)).any (·.1) = false := by rfl) :
    PE X (.Call (.Name x q) (e :: es) [] pos) (tMakeV i C sp dvs E t) := by
  refine ⟨fun pins s σ H Q I ⟨hs, h⟩ => ?_⟩
  refine wpAny_Call_Name_kw (thn ((pe_var (pos := q) (i := i) hN hv hdb hcd).run pins s σ H (fun v H1 => v = .ref C ∧ H1 = H) I ⟨.ref C, hs, rfl, rfl⟩) fun u s1 ⟨v, H1, I1, r1, ev, eH⟩ => ?_)
  subst ev eH
  cases r1
  exact PySem.W.callWith_K (h₀ := X.base) I1.ok.mod.kin M.kp (thn (ha.run pos pins s1 σ _ _ I1 h) fun us s2 ⟨vs, H2, I2, r, q⟩ => ⟨I2.kIn, run_make M F hr hb hd hx I2 r q⟩) he hpl
/-- C.m(), m a classmethod -/
def tCMeth0 (C : Addr) (sp : Sp) (E : XK) (ta : TE) : TE := fun σ H Q => ta σ H fun x H1 => x = .ref C ∧ sp [.ref C] H1 Q E
theorem pe_cmeth0 (he : PE X o ta) (r : ClX.CRead X.K C mc) (c : ClX.CMet X.K C mc m p g) (F : FnR X.prog X.w X.K X.mg X.base CX k g sp) (hr : Room k X.A) (hx : Passes CX X E)
    (ht : eval (.Call (.Attribute o m apos) [] [] pos) X.env = (do
      let ov ← eval o X.env
      standAt apos.atName
      let (f, first) ← holding [ov] (getMethod ov m pl)
      callWith pos f first (backTo pos (starEach [] X.env)) (backToKw pos (keywordEach [] X.env))) := by rfl) :
    PE X (.Call (.Attribute o m apos) [] [] pos) (tCMeth0 C sp E ta) := by
  refine ⟨fun pins s σ H Q I h => ?_⟩
  refine PySem.W.methodCall_KW (pl := pl) (thn (he.run pins s σ H _ I h) fun u s1 ⟨x, H1, I1, rx, ex, q⟩ => ?_) ht
  subst ex
  obtain rfl : u = Value.ref C := rx
  refine ClX.getmethcm_ok I1 r c fun s2 I2 => ?_
  exact PySem.W.callWith_M0 ⟨ClX.pin_at I2, I2.kIn⟩ c.fi (ClX.run_cm (us := []) (vs := []) F hr hx I2 .nil q)
end
section
variable {K : PySem.W.Frag} {σ : L2.St} {H : Hp} {Q : VK} {i : Nat} {C : Addr} {sp : Sp} {dvs : List V} {E : XK} {t : TA} {ta : TE}
theorem r_makeV (e : σ[i]? = some (some (.ref C))) (h : tMake C sp dvs E t σ H Q) : tMakeV i C sp dvs E t σ H Q := ⟨e, h⟩
theorem r_cmeth (h : ta σ H fun x H1 => x = .ref C ∧ t σ H1 fun vs H2 => sp (.ref C :: vs) H2 Q E) : ClX.tCMeth C sp E ta t σ H Q := h
theorem r_cmeth0 (h : ta σ H fun x H1 => x = .ref C ∧ sp [.ref C] H1 Q E) : tCMeth0 C sp E ta σ H Q := h
theorem r_eqAnd {P : Prop} {x : V} (h : P) : x = x ∧ P := ⟨rfl, h⟩
/-- sep.join(a list of texts) -/
def jnR (K : PySem.W.Frag) (x : V) (xs : List V) (H : Hp) (Q : VK) : Prop := ∃ a p, ∃ ys : List Str, x = .str a ∧ xs = [.ref p] ∧ (SqL K H p (ys.map V.str) ∨ SqT K H p (ys.map V.str)) ∧ (ys.map (·.length)).sum + ys.length * a.length ≤ 16777216 ∧ Q (.str (Txt.join a ys)) H
end
end Z
local macro_rules | `(tactic| walk_at "call") => `(tactic| first
  | ((with_reducible refine' Z.r_makeV ?e ?_); (case e => exact rfl))
  | with_reducible refine Z.r_cmeth ?_
  | with_reducible refine Z.r_cmeth0 ?_
  | with_reducible refine Z.r_eqAnd ?_)

local macro_rules | `(tactic| walk_at "call") => `(tactic| first
  | with_reducible refine Z.r_xst ?_
  | with_reducible refine Z.r_xv ?_
  | with_reducible refine Z.r_exv ?_)
/-- the promise of an __init__ that stores its one argument -/
def sp_ex (C : Addr) (fl : Str) : Sp := fun vs H Q _ => ∃ a y, vs = [.ref a, y] ∧ H a = some (exo a C none) ∧ ∀ dx H1, H dx = none → Z.But a H H1 → H1 a = some (exo a C (some dx)) → H1 dx = some (exd dx [(fl, y)]) → Q .non H1
theorem k_ex {C : Addr} {fl : Str} {y : V} {H : Hp} {Q : VK} (h : ∀ a d H1, H a = none → H d = none → Same H H1 → H1 a = some (exo a C (some d)) → H1 d = some (exd d [(fl, y)]) → Q (.ref a) H1) : Z.exI C (sp_ex C fl) [y] H Q := by
  refine ⟨Nat.le_of_ble_eq_true rfl, fun a na => ⟨a, y, rfl, upd_same, fun dx H1 n b h1 h2 => ⟨rfl, ?_⟩⟩⟩
  have ne : dx ≠ a := fun e => by
    rw [e, upd_same] at n; cases n
  rw [upd_ne ne] at n
  exact h a dx H1 na n (Z.But.back (Z.same_upd na) na b) h1 h2
theorem k_exR {C : Addr} {fl : Str} {y : V} {H : Hp} {M : XK} (h : ∀ d H', H d = none → Same H H' → H' d = some (.xd [(fl, y)]) → M (.ref C) (some d) H') : ([y] : List V).length ≤ 1000 ∧ ∀ a, H a = none → sp_ex C fl (.ref a :: [y]) (L2.upd H a (exo a C none))
    (fun v H2 => v = .non ∧ ∃ (d : Addr) (fs : List (Str × V)), H2 a = some (exo a C (some d)) ∧ H2 d = some (exd d fs) ∧ H d = none ∧ M (.ref C) (some d) (L2.upd (L2.del H2 a) d (.xd fs))) E0 := by
  refine ⟨Nat.le_of_ble_eq_true rfl, fun a na => ⟨a, y, rfl, upd_same, fun dx H1 n b h1 h2 => ⟨rfl, dx, _, h1, h2, ?_⟩⟩⟩
  have ne : dx ≠ a := fun e => by
    rw [e, upd_same] at n; cases n
  rw [upd_ne ne] at n
  refine ⟨n, h dx _ n (fun c o q => ?_) upd_same⟩
  rw [upd_ne (ne_of_none q n), L2.del_ne (ne_of_none q na)]
  exact b c o (ne_of_none q na) (by rw [upd_ne (ne_of_none q na)]; exact q)

namespace Z
open PySem PySem.Spec PyProof.Rows L2
/-! such exceptions raised, caught, looked at -/
theorem passAt0 {X : Cx} {E : L2.St → XK} (σ : L2.St) : PassesAt CX0 X σ (E σ) := fun _ _ _ _ _ _ h => h.elim
/-- C(e, ..) behind raise -/
def tMkX (C : Addr) (sp : Sp) (t : TA) : L2.St → Hp → XK → Prop := fun σ H Q => t σ H fun vs H1 => vs.length ≤ 1000 ∧ ∀ a, H1 a = none → sp (.ref a :: vs) (L2.upd H1 a (exo a C none))
  (fun v H2 => v = .non ∧ ∃ (d : Addr) (fs : List (Str × V)), H2 a = some (exo a C (some d)) ∧ H2 d = some (exd d fs) ∧ H1 d = none ∧ Q (.ref C) (some d) (L2.upd (L2.del H2 a) d (.xd fs))) E0
section
variable {X : Cx} {e : Expr} {es : List Expr} {ta : TA} {x : Str} {p pos : Pos} {k : Nat} {C f : Addr} {fd : FuncData} {ps : List Str} {sp : Sp}
theorem pmk_exf (T : ExF X.K C f) (F : FnOk X.prog X.w X.K X.mg X.base CX0 k f fd ps sp) (hr : Room (k + 1) X.A) (hg : Gl X x) (hm : X.mg x = some (.ref C)) (hb : Binds X.K fd ps []) (ha : PA X (e :: es) ta)
    (hdb : (x == ("__debug__" : Str)) = false := by decide) (he : starEach (e :: es) X.env = (false, eval e X.env) :: starEach es X.env := by rfl) (hpl : (backTo pos (starEach es X.env)).any (·.1) = false := by rfl) :
    PMk X (.Call (.Name x p) (e :: es) [] pos) (tMkX C sp ta) := by
  intro pins s σ H Q I h
  refine wpAny_Call_Name_kw (ld_glob I hg hm ?_ hdb)
  refine PySem.W.callWith_K (h₀ := X.base) I.ok.mod.kin T.kp (thn (ha.run pos pins s σ H _ I h) fun us s1 z => ?_) he hpl
  obtain ⟨vs, H1, I1, r1, hz, q1⟩ := z
  refine ⟨I1.kIn, ?_⟩
  obtain ⟨B, newId, initId, bmB, FB, hin⟩ := T.mk_
  obtain ⟨nm, N, qn, bs, bm, hdct, sn, sub, ab, col, dd, k0, k1, k2, k3, k5, hC, hT⟩ := PySem.W.excInit_of I1.kIn hin
  show wpAny _ _ (call (.ref C) us) _ _ _
  obtain ⟨hp, g, dr, tk, os⟩ := s1
  have up : hp.objs.size ≤ hp.objs.size + 1 := Nat.le_succ _
  have hq := q1 (hp.objs.size + 1) (I1.hok.fresh up)
  have keep : ∀ b o, hp.get? b = some o → ((hp.push (PySem.W.kdv_tup us)).push (PySem.HandSPX.excO C hp.objs.size)).get? b = some o := fun b o z => Heap.get?_push_of_some _ (Heap.get?_push_of_some _ z)
  have there : ((hp.push (PySem.W.kdv_tup us)).push (PySem.HandSPX.excO C hp.objs.size)).get? (hp.objs.size + 1) = some (PySem.HandSPX.excO C hp.objs.size) := by heap_get
  have I2 : Inv X pins σ (L2.upd H1 (hp.objs.size + 1) (exo (hp.objs.size + 1) C none)) ⟨(hp.push (PySem.W.kdv_tup us)).push (PySem.HandSPX.excO C hp.objs.size), g, dr, tk, os⟩ := I1.laid (t' := tk) keep up (exo_ok there)
  have r2 : Vals (V.ref (hp.objs.size + 1) :: vs) (Value.ref (hp.objs.size + 1) :: us) := .cons rfl r1
  have lus : us.length ≤ sizeLine := by
    rw [← Paired.length r1, sizeLine_eq]; omega
  have lps : (Value.ref (hp.objs.size + 1) :: us ++ []).length = ps.length := by
    have z := r2.length
    rw [F.len _ _ _ _ hq] at z
    rw [List.append_nil]; exact z.symm
  refine wpAny_call (PySem.HandSPX.call_own FB hT hC (PySem.W.looks_findIn I1.kIn T.ini) (fun self => PySem.W.bind_fn I1.kIn self (beq_iff_eq.mp T.fn)) lus
    (codeAny_mono (F.run _ X.stack _ _ ⟨Value.ref (hp.objs.size + 1) :: us, []⟩ (Value.ref (hp.objs.size + 1) :: us) _ _ E0 (hr.make C us []) (I2.env0.make C us []) (by
      have z := hb _ (Value.ref (hp.objs.size + 1) :: us) I2.kIn lps
      rw [List.append_nil] at z
      exact z) r2 hq) fun r s' z => ?_))
  cases r with
  | error x => exact z.elim
  | ok fl =>
    cases fl with
    | next => exact False.elim z
    | brk => exact False.elim z
    | cont => exact False.elim z
    | ret u =>
      obtain ⟨v, H2, os2, bare2, un2, hok2, rv, ev, d, fs, ea, ed, hd1, q2⟩ := z
      subst ev
      obtain ⟨h2, g2, d2, t2, os'⟩ := s'
      exact ⟨rv, L2.mk_end (raises_own T.sb T.ty) I1 up keep un2 hok2 os2 bare2 ea ed hd1 q2⟩
end
section
variable {X : Cx} {CX' : CXT} {pins : List (Addr × Obj)} {σ : L2.St} {H : Hp} {s : Shared} {k : Nat} {f : Addr} {fd : FuncData} {ps : List Str} {sp : Sp} {Q : VK} {us : List Value} {vs : List V} {E : XK}
/-- a def asked from within a built-in, which may let exceptions out -/
theorem run_belowX {A : Around} (sb : Sub X k A) (F : FnOk X.prog X.w X.K X.mg X.base CX' k f fd ps sp) (hb : Binds X.K fd ps []) (hx : PassesAt CX' X σ E) (I : Inv X pins σ H s) (r : Vals vs us) (h : sp vs H Q E) :
    wpAny (model X.prog X.w) A (call (.ref f) us) (EP X pins σ Q) X.xe s := by
  have e0 : Env0 X.prog X.w X.K X.mg X.base A X.stack s H := by
    have e := I.env0
    exact ⟨by rw [sb.fr]; exact e.frames, e.mod, e.bs, e.bsz, e.funs, e.frf, e.hok, e.bare⟩
  have hl : us.length = ps.length := by rw [← r.length]; exact F.len _ _ _ _ h
  refine wpAny_call (codeAny_mono (F.run A X.stack s H ⟨us, []⟩ us vs Q E sb.room e0 (by simpa using hb s us I.kIn (by simpa using hl)) r h) fun r s' z => ?_)
  cases r with
  | error e => exact hx pins H s e s' I z
  | ok fl =>
    cases fl with
    | ret u => exact I.after z
    | next => exact False.elim z
    | brk => exact False.elim z
    | cont => exact False.elim z
end
section
variable {X : Cx} {CX' : CXT} {k : Nat} {C f : Addr} {fd : FuncData} {ps : List Str} {sp : Sp} {a b : Expr} {ta tb : TE} {pos : Pos} {E : L2.St → XK}
/-- o[i] by an own __getitem__ that may raise -/
def tIxX (C : Addr) (sp : Sp) (E : L2.St → XK) (ta tb : TE) : TE := fun σ H Q => ta σ H fun x H1 => tb σ H1 fun y H2 => ∃ a dx fs, x = .ref a ∧ H2 a = some (.ins C dx fs) ∧ sp ([x, y] ++ []) H2 Q (E σ)
theorem pe_ixX (M : Meth X.K C "__getitem__" f) (hfn : PySem.W.fnIn X.K f = true) (F : FnOk X.prog X.w X.K X.mg X.base CX' k f fd ps sp) (hr : Room (k + 1) X.A) (hb : Binds X.K fd ps []) (hx : ∀ σ, PassesAt CX' X σ (E σ)) (ha : PE X a ta) (hb' : PE X b tb)
    (hs : ∀ x i, subscripted b true (.ref x) i = runValue (.builtin "lifetime.subscript" ⟨[.ref x, i], []⟩) := by intro _ _; with_unfolding_all rfl) : PE X (.Subscript a b pos) (tIxX C sp E ta tb) := by
  refine ⟨fun pins s σ H Q I h => ?_⟩
  refine Subscript_ (binT ha hb' I h fun v u s2 x y H2 I2 rx ry q => ?_)
  obtain ⟨c, dx, fs, rfl, hc, q⟩ := q
  cases (show v = Value.ref c from rx)
  obtain ⟨mA, O, _⟩ := ins_get I2.hok hc
  obtain ⟨od, J, _⟩ := O.look
  obtain ⟨m, hF⟩ := I2.fr
  refine PySem.W.sub_K hF I2.ok.mod.kin J M.at_ hfn M.fn ?_ (hs c u)
  exact run_belowX (us := [.ref c, u]) (vs := [.ref c, y]) (A := X.A.in1) ⟨hr.in1, rfl⟩ F hb (hx σ) I2 (.cons rfl (.cons ry .nil)) q
def tAddX (C : Addr) (sp : Sp) (E : L2.St → XK) (ta tb : TE) : TE := fun σ H Q => ta σ H fun x H1 => tb σ H1 fun y H2 => ∃ a dx fs b dy gs, x = .ref a ∧ H2 a = some (.ins C dx fs) ∧ y = .ref b ∧ H2 b = some (.ins C dy gs) ∧
  sp ([x, y] ++ []) H2 (fun v H' => (∃ p, v = .ref p) ∧ Q v H') (E σ)
theorem pe_addX (B : AddF X.K C f) (F : FnOk X.prog X.w X.K X.mg X.base CX' k f fd ps sp) (hr : Room k X.A) (hb : Binds X.K fd ps []) (hx : ∀ σ, PassesAt CX' X σ (E σ)) (ha : PE X a ta) (hb' : PE X b tb) : PE X (.BinOp a .Add b pos) (tAddX C sp E ta tb) := by
  refine ⟨fun pins s σ H Q I h => ?_⟩
  refine wpAny_BinOp (binT ha hb' I h fun v u s2 x y H2 I2 rx ry q => ?_)
  obtain ⟨c, dx, fs, d, dy, gs, rfl, hc, rfl, hd, q⟩ := q
  cases (show v = Value.ref c from rx)
  cases (show u = Value.ref d from ry)
  obtain ⟨mA, O, _⟩ := ins_get I2.hok hc
  obtain ⟨od, J, _⟩ := O.look
  obtain ⟨mB, O', _⟩ := ins_get I2.hok hd
  obtain ⟨od', J', _⟩ := O'.look
  refine bin_of1 (op := .Add) (bin1_same I2.kIn J J' B.sf B.at_ B.fn (wpAny_mono (run_belowX (us := [.ref c, .ref d]) (vs := [.ref c, .ref d]) (A := X.A) ⟨hr, rfl⟩ F hb (hx σ) I2 (.cons rfl (.cons rfl .nil)) q) (fun w s' z => ?_) fun _ _ x => x))
  obtain ⟨z', H', I', rz, ⟨p, rfl⟩, qz⟩ := z
  exact SlX.cmpback rz ⟨_, H', I', rz, qz⟩
end
/-- isinstance(e, c), e caught, an exception with its dict -/
def rIsC (K : PySem.W.Frag) (a : Addr) (cls : Value) (d : Option Addr) : List V → Hp → VK → Prop := fun xs H Q => ∃ (C f dd : Addr) (fs : List (Str × V)) (c : V) (u : Value) (b : Bool), xs = [.ref a, c] ∧ cls = .ref C ∧ d = some dd ∧ ExF K C f ∧ H dd = some (.xd fs) ∧ ClsV c u ∧ PySem.W.kitOne K cls u = some b ∧ Q (.bl b) H
def rIsCT (K : PySem.W.Frag) (a : Addr) (cls : Value) (d : Option Addr) : List V → Hp → VK → Prop := fun xs H Q => ∃ (C f dd tp : Addr) (fs : List (Str × V)) (cs : List V) (us : List Value) (b : Bool), xs = [.ref a, .ref tp] ∧ cls = .ref C ∧ d = some dd ∧ ExF K C f ∧ H dd = some (.xd fs) ∧ H tp = some (.tup cs) ∧ Paired ClsV cs us ∧
  PySem.W.kitAny K cls us = some b ∧ Q (.bl b) H
section
variable {X : Cx} {K : PySem.W.Frag} {a : Addr} {oe : Obj} {cls : Value} {d : Option Addr} {pn : List (Addr × Obj)}
theorem caught_at {C : Addr} {dd : Addr} {fs : List (Str × V)} {pins : List (Addr × Obj)} {σ : L2.St} {H : Hp} {s : Shared} (hz : Zc cls d oe) (hf : ∃ vs, oe.data = .fields vs) (I : Inv (X.suite a ((a, oe) :: pn)) pins σ H s) (ec : cls = .ref C) (ed : d = some dd) (hd : H dd = some (.xd fs)) :
    ∃ od, PySem.W.InstAt s.heap a oe C (some od) := by
  subst ec ed
  obtain ⟨ha, _⟩ := I.pin (a, oe) (List.mem_append_left _ List.mem_cons_self)
  obtain ⟨vs, hv⟩ := hf
  have hx : ObjOk X.prog X.w H s.heap dd (.xd fs) := I.hok dd _ hd
  obtain ⟨mA, hns, hr⟩ := hx
  obtain ⟨od, ho, hl⟩ := lookIn_ns hns
  exact ⟨od, ha, hz.1, by unfold PySem.W.notCls; rw [hv] <;> rfl, by rw [hz.2]; exact ho⟩
theorem kitx {C f : Addr} (T : ExF K C f) {x : Addr} {ox : Obj} {od : Option Obj} : PySem.W.KitX K (.ref x) (.ref C) (fun h => PySem.W.InstAt h x ox C od) :=
  PySem.W.kitx_exc (by obtain ⟨cd, z, _⟩ := PySem.W.any_some T.hd; rw [z]; rfl) T.ga T.gt T.sb T.ca T.cn T.ct T.cm
theorem c_isC (eK : X.K = K) (hz : Zc cls d oe) (hf : ∃ vs, oe.data = .fields vs) : CallR (X.suite a ((a, oe) :: pn)) (.builtin "isinstance") (rIsC K a cls d) := by
  subst eK
  intro pins s σ H xs us Q I r h
  obtain ⟨C, f, dd, fs, c, u, b, rfl, rfl, ed, T, hd, k, ek, q⟩ := h
  obtain ⟨u1, u2, rfl, r1, r2⟩ := vals2 r
  cases (show u1 = Value.ref a from r1)
  have e2 := k.eq r2
  subst e2
  obtain ⟨od, J⟩ := caught_at hz hf I rfl ed hd
  exact PySem.W.kia_one (kitx T) I.kIn J ek (fun z => nomatch z) fun tk => ⟨.bl b, H, I.kept (t' := tk) fun _ _ z => z, rfl, q⟩
end
section
variable {K : PySem.W.Frag} {σ : L2.St} {H : Hp} {Q : VK} {ta tb te : TE} {t : TA} {sp : Sp} {C : Addr} {E : L2.St → XK} {x y : V} {a d : Addr} {dx : Addr} {fs : List (Str × V)}
theorem exm_self {f : Addr} (T : ExF K C f) : PySem.W.exmOne K (.ref C) (.ref C) = some true := PySem.W.exm_ref T.sb T.hd T.ty T.ss
theorem r_mkX {M : XK} (h : t σ H fun vs H1 => vs.length ≤ 1000 ∧ ∀ a, H1 a = none → sp (.ref a :: vs) (L2.upd H1 a (exo a C none))
  (fun v H2 => v = .non ∧ ∃ (d : Addr) (fs : List (Str × V)), H2 a = some (exo a C (some d)) ∧ H2 d = some (exd d fs) ∧ H1 d = none ∧ M (.ref C) (some d) (L2.upd (L2.del H2 a) d (.xd fs))) E0) : tMkX C sp t σ H M := h
theorem r_ixX (h : ta σ H fun x H1 => tb σ H1 fun y H2 => ∃ a dx fs, x = .ref a ∧ H2 a = some (.ins C dx fs) ∧ sp ([x, y] ++ []) H2 Q (E σ)) : tIxX C sp E ta tb σ H Q := h
theorem r_addX (h : ta σ H fun x H1 => tb σ H1 fun y H2 => ∃ a dx fs b dy gs, x = .ref a ∧ H2 a = some (.ins C dx fs) ∧ y = .ref b ∧ H2 b = some (.ins C dy gs) ∧ sp ([x, y] ++ []) H2 (fun v H' => (∃ p, v = .ref p) ∧ Q v H') (E σ)) : tAddX C sp E ta tb σ H Q := h
end
end Z

namespace Z
open PySem PySem.Spec PyProof.Rows L2
section
variable {X : Cx} {K : PySem.W.Frag} {a : Addr} {oe : Obj} {cls : Value} {d : Option Addr} {pn : List (Addr × Obj)}
theorem c_isCT (eK : X.K = K) (hz : Zc cls d oe) (hf : ∃ vs, oe.data = .fields vs) : CallR (X.suite a ((a, oe) :: pn)) (.builtin "isinstance") (rIsCT K a cls d) := by
  subst eK
  intro pins s σ H xs us Q I r h
  obtain ⟨C, f, dd, tp, fs, cs, ws, b, rfl, rfl, ed, T, hd, hT, k, ek, q⟩ := h
  obtain ⟨u1, u2, rfl, r1, r2⟩ := vals2 r
  cases (show u1 = Value.ref a from r1)
  cases (show u2 = Value.ref tp from r2)
  obtain ⟨_, its, rv, o, h1, h2, n, h3⟩ := (show ObjOk X.prog X.w H s.heap tp (.tup cs) from I.hok tp _ hT)
  have e3 := ClsV.all k rv
  subst e3
  obtain ⟨oc, od', dt, sl⟩ := o
  simp only at h2 h3
  subst h2 h3
  obtain ⟨od, J⟩ := caught_at hz hf I rfl ed hd
  exact PySem.W.kia_tup (kitx T) I.kIn J h1 ek (fun z => nomatch z) fun tk => ⟨.bl b, H, I.tok tk, rfl, q⟩
/-- xs != [] -/
def rNeNil (K : PySem.W.Frag) : R2 := fun x y H Q => rNeD K x y H Q ∨ ∃ p q xs, x = .ref p ∧ H p = some (.lst xs) ∧ xs ≠ [] ∧ y = .ref q ∧ H q = some (.lst []) ∧ Q (.bl true) H
theorem o_neNil (hu : X.A.units < cLine) (h0 : OpR X (compareOp .NotEq) (rNeD X.K)) : OpR X (compareOp .NotEq) (rNeNil X.K) := by
  intro pins s σ H x y v u Q I rx ry h
  rcases h with h | ⟨p, q, xs, rfl, hp, hx, rfl, hq, qq⟩
  · exact h0 pins s σ H x y v u Q I rx ry h
  · cases (show v = Value.ref p from rx)
    cases (show u = Value.ref q from ry)
    obtain ⟨its, r, pl, _⟩ := I.list (SqL.of hp)
    obtain ⟨its2, r2, pl2, _⟩ := I.list (SqL.of hq)
    have l1 := r.length
    have l2 := r2.length
    refine (PySem.SeqAt.RcNeAt.lists_lengths pl.isList pl2.isList ?_ hu) X.prog X.w X.xe _ ⟨.bl true, H, I, rfl, qq⟩
    have : xs.length ≠ 0 := fun e => hx (List.eq_nil_of_length_eq_zero e)
    simp only [List.length_nil] at l2
    rw [List.size_toArray, List.size_toArray, ← l1, ← l2]
    simpa using this
end
def xfcR (a : Addr) (cls : Value) (d : Option Addr) (C : Addr) (f : Str) (Q : VK) : VK := fun x H1 => x = .ref a ∧ cls = .ref C ∧ ∃ (dd : Addr) (fs : List (Str × V)) (v : V), d = some dd ∧ H1 dd = some (.xd fs) ∧ fs.lookup f = some v ∧ Q v H1
section
variable {K : PySem.W.Frag} {σ : L2.St} {H : Hp} {Q : VK} {te : TE} {a C dd f : Addr} {cls : Value} {d : Option Addr} {n : Str} {v : V} {fs : List (Str × V)}
theorem r_xfc (h : te σ H (xfcR a cls d C n Q)) : tXf a cls d C n te σ H Q := h
theorem r_xfV (e : H dd = some (.xd [(n, v)])) (q : Q v H) : xfcR a (.ref C) (some dd) C n Q (.ref a) H := ⟨rfl, rfl, dd, _, v, rfl, e, look1, q⟩
theorem r_isC {c : V} {u : Value} {b : Bool} (k : ClsV c u) (T : ExF K C f) (e : H dd = some (.xd fs)) (ek : PySem.W.kitOne K (.ref C) u = some b) (q : Q (.bl b) H) : rIsC K a (.ref C) (some dd) [.ref a, c] H Q := ⟨C, f, dd, fs, c, u, b, rfl, rfl, rfl, T, e, k, ek, q⟩
theorem r_isCT {tp : Addr} {cs : List V} {us : List Value} {b : Bool} (T : ExF K C f) (e : H dd = some (.xd fs)) (et : H tp = some (.tup cs)) (k : Paired ClsV cs us) (ek : PySem.W.kitAny K (.ref C) us = some b) (q : Q (.bl b) H) : rIsCT K a (.ref C) (some dd) [.ref a, .ref tp] H Q := ⟨C, f, dd, tp, fs, cs, us, b, rfl, rfl, rfl, T, e, et, k, ek, q⟩
theorem kit_none2 {t c1 c2 : Value} (h1 : PySem.W.kitOne K t c1 = some false) (h2 : PySem.W.kitOne K t c2 = some false) : PySem.W.kitAny K t [c1, c2] = some false := by
  simp only [PySem.W.kitAny, h1, h2]
end
end Z
local macro_rules | `(tactic| walk_at "call") => `(tactic| first
  | with_reducible refine Z.r_xfc ?_
  | ((with_reducible refine' Z.r_xfV ?e ?_); (case e => walk_at "hp")))

namespace Z
open PySem PySem.Spec PyProof.Rows L2
section
variable {X : Cx} {C f : Addr} {fd : FuncData} {k : Nat} {ps : List Str} {sp : Sp}
/-- x in o, o an instance -/
def rInI (C : Addr) (sp : Sp) : R2 := fun x y H Q => ∃ a dx fs, y = .ref a ∧ H a = some (.ins C dx fs) ∧ sp ([y, x] ++ []) H (fun v H' => ∃ c, v = .bl c ∧ Q (.bl c) H') E0
theorem o_inI (M : Meth X.K C "__contains__" f) (F : FnOk X.prog X.w X.K X.mg X.base CX0 k f fd ps sp) (hr : Room k X.A) (hb : Binds X.K fd ps []) : OpR X (compareOp .In) (rInI C sp) := by
  intro pins s σ H x y v u Q I rx ry h
  obtain ⟨a, dx, fs, rfl, ha, q⟩ := h
  cases (show u = Value.ref a from ry)
  obtain ⟨mA, O, _⟩ := ins_get I.hok ha
  obtain ⟨od, J, _⟩ := O.look
  obtain ⟨m, hF⟩ := I.fr
  refine PySem.W.in_K hF I.ok.mod.kin J M.at_ M.fn (wpAny_mono (run_fn (us := [.ref a, v]) (vs := [.ref a, x]) F hr hb .nil pass0 I (.cons rfl (.cons rx .nil)) q) (fun w s' z => ?_) fun _ _ x => x)
  obtain ⟨z', H', I', rz, c, rfl, qz⟩ := z
  cases (show w = Value.bool c from rz)
  exact wpAny_truthy_bool ⟨.bl c, H', I', rfl, qz⟩
theorem r_inI {a dx : Addr} {fs : List (Str × V)} {x : V} {H : Hp} {Q : VK} (e : H a = some (.ins C dx fs)) (h : sp ([.ref a, x] ++ []) H (fun v H' => ∃ c, v = .bl c ∧ Q (.bl c) H') E0) : rInI C sp x (.ref a) H Q := ⟨a, dx, fs, rfl, e, h⟩
end
end Z
local macro_rules | `(tactic| walk_at "call") => `(tactic| first
  | with_reducible refine Z.r_mkX ?_
  | with_reducible refine Z.r_ixX ?_
  | with_reducible refine Z.r_addX ?_)
namespace Z
open PySem PySem.Spec PyProof.Rows L2
/-! calls within a try suite that may let exceptions out: C(..) of an own class, C.m(..) of a classmethod -/
section
variable {X : Cx} {CX' : CXT} {k : Nat} {C f g p : Addr} {mc : Value} {fd : FuncData} {ps : List Str} {sp : Sp} {x m : Str} {pp pos apos : Pos} {e o : Expr} {es : List Expr} {t : TA} {ta : TE} {E : L2.St → XK} {pl : Sem Bool}
theorem run_makeAt {pins : List (Addr × Obj)} {σ : L2.St} {H : Hp} {s : Shared} {Q : VK} {us : List Value} {vs : List V} (M : Mk X.K C f) (F : FnOk X.prog X.w X.K X.mg X.base CX' k f fd ps sp) (hr : Room (k + 1) X.A) (hb : Binds X.K fd ps [])
    (hx : PassesAt CX' X σ (E σ)) (I : Inv X pins σ H s) (r : Vals vs us)
    (h : ∀ x dx, H x = none → H dx = none → dx ≠ x → sp (.ref x :: vs) (L2.upd (L2.upd H dx (.own x)) x (.ins C dx [])) (fun v H2 => v = .non ∧ Q (.ref x) H2) (E σ)) :
    wpAny (model X.prog X.w) X.A (call (.ref C) us) (EP X pins σ Q) X.xe s := by
  have hq := h (s.heap.objs.size + 1) s.heap.objs.size (I.hok.fresh (Nat.le_succ _)) (I.hok.fresh (Nat.le_refl _)) (Nat.ne_of_lt (Nat.lt_succ_self _))
  have I2 := Inv.made (C := C) I
  have r2 : Vals (V.ref (s.heap.objs.size + 1) :: vs) (Value.ref (s.heap.objs.size + 1) :: us) := .cons rfl r
  have hl : (Value.ref (s.heap.objs.size + 1) :: us).length = ps.length := by
    have e := r2.length
    rw [F.len _ _ _ _ hq] at e
    exact e.symm
  refine wpAny_call (make_map (f := f) I.kIn M.makes M.init (beq_iff_eq.mp M.fn) (codeAny_mono (F.run _ X.stack _ _ ⟨Value.ref (s.heap.objs.size + 1) :: us, []⟩ (Value.ref (s.heap.objs.size + 1) :: us) _ _ (E σ) (hr.make C us [])
    (I2.env0.make C us []) (by
      have z := hb _ (Value.ref (s.heap.objs.size + 1) :: us) I2.kIn (by rw [List.append_nil]; exact hl)
      rw [List.append_nil] at z
      exact z) r2 hq) fun r s' hq' => ?_))
  cases r with
  | error e => exact hx pins _ _ e s' I2 hq'
  | ok fl =>
    cases fl with
    | ret u =>
      obtain ⟨v, H', I3, rv, ev, q3⟩ := I2.after hq'
      subst ev
      exact ⟨rv, ⟨V.ref (s.heap.objs.size + 1), H', I3, rfl, q3⟩⟩
    | next => exact False.elim hq'
    | brk => exact False.elim hq'
    | cont => exact False.elim hq'
def tMakeAt (C : Addr) (sp : Sp) (E : L2.St → XK) (t : TA) : TE := fun σ H Q => t σ H fun vs H1 => ∀ x dx, H1 x = none → H1 dx = none → dx ≠ x →
  sp (.ref x :: vs) (L2.upd (L2.upd H1 dx (.own x)) x (.ins C dx [])) (fun v H2 => v = .non ∧ Q (.ref x) H2) (E σ)
theorem pe_makeAt (M : Mk X.K C f) (F : FnOk X.prog X.w X.K X.mg X.base CX' k f fd ps sp) (hr : Room (k + 1) X.A) (hg : Gl X x) (hm : X.mg x = some (.ref C)) (hb : Binds X.K fd ps []) (hx : ∀ σ, PassesAt CX' X σ (E σ))
    (ha : PA X (e :: es) t) (hdb : (x == ("__debug__" : Str)) = false := by decide) (he : starEach (e :: es) X.env = (false, eval e X.env) :: starEach es X.env := by rfl) (hpl : (backTo pos (starEach es X.env)).any (·.1) = false := by rfl) :
    PE X (.Call (.Name x pp) (e :: es) [] pos) (tMakeAt C sp E t) := by
  refine ⟨fun pins s σ H Q I h => ?_⟩
  refine wpAny_Call_Name_kw (ld_glob I hg hm ?_ hdb)
  refine PySem.W.callWith_K (h₀ := X.base) I.ok.mod.kin M.kp (thn (ha.run pos pins s σ H _ I h) fun us s1 ⟨vs, H1, I1, r, q⟩ => ⟨I1.kIn, ?_⟩) he hpl
  exact run_makeAt M F hr hb (hx σ) I1 r q
theorem run_fnRAt {pins : List (Addr × Obj)} {σ : L2.St} {H : Hp} {s : Shared} {Q : VK} {us : List Value} {vs : List V} (F : FnR X.prog X.w X.K X.mg X.base CX' k f sp) (hr : Room k X.A) (hx : PassesAt CX' X σ (E σ)) (I : Inv X pins σ H s) (r : Vals vs us) (h : sp vs H Q (E σ)) :
    codeAny (model X.prog X.w) X.A (.call (.ref f) ⟨us, []⟩) (fun r s' => match r with | .ok (.ret v) => EP X pins σ Q v s' | .ok _ => False | .error e => X.xe e s') s := by
  refine codeAny_mono (F X.A X.stack s H us vs Q (E σ) hr I.env0 r h) fun r s' hq => ?_
  cases r with
  | error e => exact hx pins H s e s' I hq
  | ok fl =>
    cases fl with
    | ret u => exact I.after hq
    | next => exact False.elim hq
    | brk => exact False.elim hq
    | cont => exact False.elim hq
def tCMethAt (C : Addr) (sp : Sp) (E : L2.St → XK) (ta : TE) (t : TA) : TE := fun σ H Q => ta σ H fun x H1 => x = .ref C ∧ t σ H1 fun vs H2 => sp (.ref C :: vs) H2 Q (E σ)
theorem pe_cmethAt (he : PE X o ta) (r : ClX.CRead X.K C mc) (c : ClX.CMet X.K C mc m p g) (F : FnR X.prog X.w X.K X.mg X.base CX' k g sp) (hr : Room k X.A) (hx : ∀ σ, PassesAt CX' X σ (E σ)) (ha : PA X (e :: es) t)
    (hst : starEach (e :: es) X.env = (false, eval e X.env) :: starEach es X.env := by rfl) (hpl : (backTo pos (starEach es X.env)).any (·.1) = false := by rfl)
    (ht : eval (.Call (.Attribute o m apos) (e :: es) [] pos) X.env = (do
      let ov ← eval o X.env
      standAt apos.atName
      let (f, first) ← holding [ov] (getMethod ov m pl)
      callWith pos f first (backTo pos (starEach (e :: es) X.env)) (backToKw pos (keywordEach [] X.env))) := by rfl) :
    PE X (.Call (.Attribute o m apos) (e :: es) [] pos) (tCMethAt C sp E ta t) := by
  refine ⟨fun pins s σ H Q I h => ?_⟩
  refine PySem.W.methodCall_KW (pl := pl) (thn (he.run pins s σ H _ I h) fun u s1 ⟨x, H1, I1, rx, ex, q⟩ => ?_) ht
  subst ex
  obtain rfl : u = Value.ref C := rx
  refine ClX.getmethcm_ok I1 r c fun s2 I2 => ?_
  refine ClX.callwith_cm I2 (ClX.base_none I1 (Nat.le_refl _)) c.fi (thn (ha.run pos _ s2 σ H1 _ I2 q) fun us s3 ⟨vs, H2, I3, rv, q2⟩ => ⟨⟨ClX.pin_at I3, I3.kIn⟩, ?_⟩) hst hpl
  refine thn (wpAny_call (PySem.W.method_call (ClX.pin_at I3) (run_fnRAt (us := .ref C :: us) (vs := .ref C :: vs) F hr (hx σ) I3 (.cons rfl rv) q2))) fun _ _ y => ClX.unpinE y
end
section
variable {σ : L2.St} {H : Hp} {Q : VK} {C : Addr} {sp : Sp} {E : L2.St → XK} {t : TA} {ta : TE}
/-- what is asked of sp where C(vs) may raise -/
def mkIX (C : Addr) (sp : Sp) (E : XK) (vs : List V) (H1 : Hp) (Q : VK) : Prop := ∀ x dx, H1 x = none → H1 dx = none → dx ≠ x → sp (.ref x :: vs) (L2.upd (L2.upd H1 dx (.own x)) x (.ins C dx [])) (fun v H2 => v = .non ∧ Q (.ref x) H2) E
/-- caught by a base class -/
theorem exm_up {K : PySem.W.Frag} {C D f : Addr} (T : ExF K C f) (sb : PySem.W.subIn K (.ref D) (.type "BaseException") = some true) (k : PySem.W.kitOne K (.ref C) (.ref D) = some true) : PySem.W.exmOne K (.ref C) (.ref D) = some true := by
  unfold PySem.W.kitOne at k
  by_cases e : ((Value.ref C) == (Value.ref D)) = true
  · have e2 : Value.ref C = Value.ref D := by simpa using e
    rw [← e2]; exact exm_self T
  · rw [if_neg e] at k
    unfold PySem.W.exmOne
    rw [if_pos (by rw [sb]; rfl)]
    exact k
theorem kit_none3 {K : PySem.W.Frag} {t c1 c2 c3 : Value} (h1 : PySem.W.kitOne K t c1 = some false) (h2 : PySem.W.kitOne K t c2 = some false) (h3 : PySem.W.kitOne K t c3 = some false) : PySem.W.kitAny K t [c1, c2, c3] = some false := by
  simp only [PySem.W.kitAny, h1, h2, h3]
theorem mkIX_of {vs : List V} {E' : XK} (h : mkI C sp [] vs H Q E') : mkIX C sp E' vs H Q := fun x dx a b c => by
  have z := h x dx a b c
  rw [List.append_nil] at z
  exact z
theorem r_makeAt (h : t σ H fun vs H1 => mkIX C sp (E σ) vs H1 Q) : tMakeAt C sp E t σ H Q := h
theorem r_cmethAt (h : ta σ H fun x H1 => x = .ref C ∧ t σ H1 fun vs H2 => sp (.ref C :: vs) H2 Q (E σ)) : tCMethAt C sp E ta t σ H Q := h
end
end Z
local macro_rules | `(tactic| walk_at "call") => `(tactic| first
  | with_reducible refine Z.r_makeAt ?_
  | with_reducible refine Z.r_cmethAt ?_)

/-! exceptions whose context is known to be none; defs called within an except suite -/
namespace Z
open PySem PySem.Spec PyProof.Rows L2
theorem takesN0 {X : Cx} : L2N.Takes X (fun _ _ _ _ => False) := fun _ _ ⟨_, _, _, _, _, _, _, _, _, _, _, _, _, _, _, _, w⟩ => w.elim
section
variable {P : Program} {w : World} {K : PySem.W.Frag} {mg : Str → Option Value} {base : Heap}
/-- as Fun.ok, for a def that may raise; the exception's context is none -/
theorem okXN {x qual : Str} {st : Stmt} {f : Addr} {fd : FuncData} {N ps : List Str} {k : Nat} {sp : Sp} (F : Fun K x qual st f fd) (S : FnScope N ps (defScope st)) (len : ∀ vs H Q E, sp vs H Q E → vs.length = ps.length)
    (hbody : ∀ (cdv : Value) (A : Around) (outer : List Env) (s : Shared) (H : Hp) (vs : List V) (Q : VK) (E : XK), Room k (A.deeper (envOfC qual (defScope st) s.heap.objs.size f cdv)) → sp vs H Q E →
      ∃ t, PSs (cxOf (L2N.CX P w) P w K mg base N qual (defScope st) f cdv A outer s H E) (defBody st) t ∧ t { nx := fun _ H' => Q .non H', rt := Q } (start N vs) H) : FnOk P w K mg base (L2N.CX P w) (k + 1) f fd ps sp := by
  obtain ⟨oc, od, kV, doc, pm, an, cdv, ct, osl, rfl, lk, hcd⟩ := F.ex
  exact fn_of lk hcd S len fun A outer s H vs Q E hr hsp => hbody cdv A outer s H vs Q E hr hsp
/-- the same, for a def with defaults -/
theorem okXND {x qual : Str} {params : Arguments} {body : List Stmt} {scope : Scope} {dvs : List V} {kws : List (Str × V)} {f : Addr} {fd : FuncData} {N ps : List Str} {k : Nat} {sp : Sp} (F : FunD K x qual params body scope dvs kws f fd) (S : FnScope N ps scope) (len : ∀ vs H Q E, sp vs H Q E → vs.length = ps.length)
    (hbody : ∀ (cdv : Value) (A : Around) (outer : List Env) (s : Shared) (H : Hp) (vs : List V) (Q : VK) (E : XK), Room k (A.deeper (envOfC qual scope s.heap.objs.size f cdv)) → sp vs H Q E →
      ∃ t, PSs (cxOf (L2N.CX P w) P w K mg base N qual scope f cdv A outer s H E) body t ∧ t { nx := fun _ H' => Q .non H', rt := Q } (start N vs) H) : FnOk P w K mg base (L2N.CX P w) (k + 1) f fd ps sp :=
  F.ok S len hbody
/-- as FunD.ok, of a def that raises nothing -/
theorem okD {x qual : Str} {params : Arguments} {body : List Stmt} {scope : Scope} {dvs : List V} {kws : List (Str × V)} {f : Addr} {fd : FuncData} {N ps : List Str} {k : Nat} {sp : Sp} (F : FunD K x qual params body scope dvs kws f fd) (S : FnScope N ps scope) (len : ∀ vs H Q E, sp vs H Q E → vs.length = ps.length)
    (hbody : ∀ (cdv : Value) (A : Around) (outer : List Env) (s : Shared) (H : Hp) (vs : List V) (Q : VK) (E : XK), Room k (A.deeper (envOfC qual scope s.heap.objs.size f cdv)) → sp vs H Q E →
      ∃ t, PSs (cxOf CX0 P w K mg base N qual scope f cdv A outer s H E).nox body t ∧ t { nx := fun _ H' => Q .non H', rt := Q } (start N vs) H) : FnOk P w K mg base CX0 (k + 1) f fd ps sp :=
  F.ok S len fun cdv A outer s H vs Q E hr hsp => let ⟨t, h, q⟩ := hbody cdv A outer s H vs Q E hr hsp; ⟨t, h.nox, q⟩
/-- as Fun.ok, for a def that is called within an except suite -/
theorem okH {x qual : Str} {st : Stmt} {f : Addr} {fd : FuncData} {N ps : List Str} {k : Nat} {sp : Sp} (F : Fun K x qual st f fd) (S : FnScope N ps (defScope st)) (len : ∀ vs H Q E, sp vs H Q E → vs.length = ps.length)
    (hbody : ∀ (cdv : Value) (A : Around) (outer : List Env) (s : Shared) (H : Hp) (vs : List V) (Q : VK) (E : XK) (p : Addr × Obj), L2H.Hot1 A p → L2H.RoomH k (A.deeper (envOfC qual (defScope st) s.heap.objs.size f cdv)) → sp vs H Q E →
      ∃ t, PSs (L2H.cxH CX0 P w K mg base N qual (defScope st) f cdv A outer s H E p) (defBody st) t ∧ t { nx := fun _ H' => Q .non H', rt := Q } (L2.start N vs) H) : L2H.FnH P w K mg base CX0 (k + 1) f fd ps sp := by
  obtain ⟨oc, od, kV, doc, pm, an, cdv, ct, osl, rfl, lk, hcd⟩ := F.ex
  exact L2H.fn_ofH lk hcd S len fun A outer s H vs Q E p hot hr hsp => hbody cdv A outer s H vs Q E p hot hr hsp
theorem hotH {N : List Str} {qual : Str} {scope : Scope} {f : Addr} {cd : Value} {A : Around} {outer : List Env} {s : Shared} {H : Hp} {E : XK} {p : Addr × Obj} {CX : CXT} (hot : L2H.Hot1 A p) : L2H.HotC (L2H.cxH CX P w K mg base N qual scope f cd A outer s H E p) :=
  ⟨p, hot, List.mem_singleton.mpr rfl⟩
end
/-- the suite of a caught exception with no context -/
theorem hotS {X : Cx} {a : Addr} {oe : Obj} {cls : Value} {d : Option Addr} {pn : List (Addr × Obj)} (hz : L2N.Zn cls d oe) (hf : ∃ vs, oe.data = .fields vs) : L2H.HotC (X.suite a ((a, oe) :: pn)) := by
  obtain ⟨vs, e⟩ := hf
  exact ⟨(a, oe), ⟨rfl, vs, e, hz.2.2 vs e⟩, List.mem_cons_self⟩
theorem roomS {X : Cx} {k : Nat} {a : Addr} {pn : List (Addr × Obj)} (hr : Room k X.A) : L2H.RoomH k (X.suite a pn).A := ⟨hr.dp, hr.un⟩
section
variable {X : Cx} {e : Expr} {es : List Expr} {ta : TA} {x : Str} {p pos : Pos} {k : Nat} {C f : Addr} {fd : FuncData} {ps : List Str} {sp : Sp}
theorem pmk_exfN (T : ExF X.K C f) (F : FnOk X.prog X.w X.K X.mg X.base CX0 k f fd ps sp) (hr : Room (k + 1) X.A) (hg : Gl X x) (hm : X.mg x = some (.ref C)) (hb : Binds X.K fd ps []) (ha : PA X (e :: es) ta)
    (hdb : (x == ("__debug__" : Str)) = false := by decide) (he : starEach (e :: es) X.env = (false, eval e X.env) :: starEach es X.env := by rfl) (hpl : (backTo pos (starEach es X.env)).any (·.1) = false := by rfl) :
    L2N.PMk X (.Call (.Name x p) (e :: es) [] pos) (tMkX C sp ta) := by
  intro pins s σ H Q I h
  refine wpAny_Call_Name_kw (ld_glob I hg hm ?_ hdb)
  refine PySem.W.callWith_K (h₀ := X.base) I.ok.mod.kin T.kp (thn (ha.run pos pins s σ H _ I h) fun us s1 z => ?_) he hpl
  obtain ⟨vs, H1, I1, r1, hz, q1⟩ := z
  refine ⟨I1.kIn, ?_⟩
  obtain ⟨B, newId, initId, bmB, FB, hin⟩ := T.mk_
  obtain ⟨nm, N, qn, bs, bm, hdct, sn, sub, ab, col, dd, k0, k1, k2, k3, k5, hC, hT⟩ := PySem.W.excInit_of I1.kIn hin
  show wpAny _ _ (call (.ref C) us) _ _ _
  obtain ⟨hp, g, dr, tk, os⟩ := s1
  have up : hp.objs.size ≤ hp.objs.size + 1 := Nat.le_succ _
  have hq := q1 (hp.objs.size + 1) (I1.hok.fresh up)
  have keep : ∀ b o, hp.get? b = some o → ((hp.push (PySem.W.kdv_tup us)).push (PySem.HandSPX.excO C hp.objs.size)).get? b = some o := fun b o z => Heap.get?_push_of_some _ (Heap.get?_push_of_some _ z)
  have there : ((hp.push (PySem.W.kdv_tup us)).push (PySem.HandSPX.excO C hp.objs.size)).get? (hp.objs.size + 1) = some (PySem.HandSPX.excO C hp.objs.size) := by heap_get
  have I2 : Inv X pins σ (L2.upd H1 (hp.objs.size + 1) (exo (hp.objs.size + 1) C none)) ⟨(hp.push (PySem.W.kdv_tup us)).push (PySem.HandSPX.excO C hp.objs.size), g, dr, tk, os⟩ := I1.laid (t' := tk) keep up (exo_ok there)
  have r2 : Vals (V.ref (hp.objs.size + 1) :: vs) (Value.ref (hp.objs.size + 1) :: us) := .cons rfl r1
  have lus : us.length ≤ sizeLine := by
    rw [← Paired.length r1, sizeLine_eq]; omega
  have lps : (Value.ref (hp.objs.size + 1) :: us ++ []).length = ps.length := by
    have z := r2.length
    rw [F.len _ _ _ _ hq] at z
    rw [List.append_nil]; exact z.symm
  refine wpAny_call (PySem.HandSPX.call_own FB hT hC (PySem.W.looks_findIn I1.kIn T.ini) (fun self => PySem.W.bind_fn I1.kIn self (beq_iff_eq.mp T.fn)) lus
    (codeAny_mono (F.run _ X.stack _ _ ⟨Value.ref (hp.objs.size + 1) :: us, []⟩ (Value.ref (hp.objs.size + 1) :: us) _ _ E0 (hr.make C us []) (I2.env0.make C us []) (by
      have z := hb _ (Value.ref (hp.objs.size + 1) :: us) I2.kIn lps
      rw [List.append_nil] at z
      exact z) r2 hq) fun r s' z => ?_))
  cases r with
  | error x => exact z.elim
  | ok fl =>
    cases fl with
    | next => exact False.elim z
    | brk => exact False.elim z
    | cont => exact False.elim z
    | ret u =>
      obtain ⟨v, H2, os2, bare2, un2, hok2, rv, ev, d, fs, ea, ed, hd1, q2⟩ := z
      subst ev
      obtain ⟨h2, g2, d2, t2, os'⟩ := s'
      obtain ⟨t0, G, J, kG, ge, hoe, na⟩ := L2.mk_end0 (d2 := d2) (t2 := t2) I1 up keep un2 hok2 os2 bare2 ea ed hd1
      exact ⟨rv, _, _, _, ⟨G, g2, d2, t2, os'⟩, _, .ref C, some d, rfl, J, kG, ge, hoe, ⟨rfl, rfl, fun vs e => by cases e; rfl⟩, rfl, rfl, na, rfl, bare2, raises_own T.sb T.ty, q2⟩
end
section
variable {K : PySem.W.Frag} {σ : L2.St} {H : Hp} {Q : VK} {t : TA} {sp : Sp} {E : L2.St → XK}
theorem r_callS (h : t σ H fun vs H1 => sp vs H1 Q (E σ)) : tCallS sp E t σ H Q := h
end
end Z
local macro_rules | `(tactic| walk_at "call") => `(tactic| with_reducible refine Z.r_callS ?_)

/-! the text of a series; of(..) -/
def textT : Tag → Str
  | .num i => toString i
  | .mark n => ("?" : Str) ++ n
  | .non => "None"
def tagB : Tag → Prop
  | .num i => i.natAbs < 10 ^ 300
  | .mark n => Word n
  | .non => False
theorem big_log {m : Int} (h : m.natAbs < 10 ^ 300) : m.natAbs.log2 < 1920 := by
  by_cases e : m.natAbs = 0
  · rw [e]; decide
  · rw [Nat.log2_lt e]
    exact Nat.lt_of_lt_of_le h (by decide +kernel)
theorem textT_len {t : Tag} (h : tagB t) : (textT t).length ≤ 310 := by
  cases t with
  | num i =>
    have e := int_text_length_le10 (a := i) (k := 300) (by decide) h
    show (Str.ofString (toString i)).length ≤ 310
    rw [PySem.ofString_length]
    omega
  | mark n =>
    show (("?" : Str) ++ n).length ≤ 310
    rw [Str.length_append]
    have h1 : ("?" : Str).length = 1 := rfl
    have h2 := h.2.1
    omega
  | non => exact h.elim
namespace Z
open PySem PySem.Spec PyProof.Rows L2
theorem sum_le {m : Nat} : ∀ (ys : List Str), (∀ y ∈ ys, y.length ≤ m) → (ys.map (·.length)).sum ≤ ys.length * m
  | [], _ => Nat.zero_le _
  | y :: ys, h => by
    have h1 := sum_le ys fun z hz => h z (List.mem_cons_of_mem _ hz)
    have h2 := h y List.mem_cons_self
    show y.length + (ys.map (·.length)).sum ≤ (ys.length + 1) * m
    rw [Nat.succ_mul]
    omega
section
variable {X : Cx} {C : Addr} {sp : Sp} {σ : L2.St} {H : Hp} {Q : VK} {to te : TE} {K : PySem.W.Frag}
/-- str of an int, or of an instance -/
def rStrM (C : Addr) (sp : Sp) : List V → Hp → VK → Prop := fun xs H Q => rStrI xs H Q ∨ rTxO C sp xs H Q
theorem c_strM (h : CallR X (.type "str") (rTxO C sp)) : CallR X (.type "str") (rStrM C sp) := fun pins s σ H xs us Q I r q => q.elim (fun q => c_strI pins s σ H xs us Q I r q) fun q => h pins s σ H xs us Q I r q
/-- list(a list or a tuple), a new one -/
def rListOf (K : PySem.W.Frag) : List V → Hp → VK → Prop := fun xs H Q => ∃ p ys, xs = [.ref p] ∧ (SqL K H p ys ∨ SqT K H p ys) ∧ ∀ l, H l = none → Q (.ref l) (L2.upd H l (.lst ys))
theorem c_listOf : CallR X (.type "list") (rListOf X.K) := call_list_of
theorem r_listL {p : Addr} {ys : List V} (e : H p = some (.lst ys)) (k : ∀ q H1, H q = none → Same H H1 → H1 q = some (.lst ys) → Q (.ref q) H1) : rListOf K [.ref p] H Q := ⟨p, ys, rfl, .inl (SqL.of e), fun l nl => k l _ nl (same_upd nl) upd_same⟩
theorem r_revL {l : Addr} {xs : List V} (e : H l = some (.lst xs)) (k : ∀ H1, But l H H1 → H1 l = some (.lst xs.reverse) → Q .non H1) : rReverse (.ref l) [] H Q := ⟨l, xs, rfl, rfl, e, k _ But.upd upd_same⟩
theorem r_m1 {r : V → List V → Hp → VK → Prop} (h : to σ H fun x H1 => (∃ a, x = .str a) ∧ te σ H1 fun y H2 => r x [y] H2 Q) : tM1 r to te σ H Q := h
theorem r_tYes {N : Bool → Hp → Prop} (h : N true H) : tYes σ H N := h
theorem r_strAnd {z : Str} {P : Prop} (h : P) : (∃ a, V.str z = .str a) ∧ P := ⟨⟨z, rfl⟩, h⟩
theorem r_join {a : Str} {p : Addr} {ys : List Str} (e : H p = some (.lst (ys.map V.str))) (l : (ys.map (·.length)).sum + ys.length * a.length ≤ 16777216) (h : Q (.str (Txt.join a ys)) H) : jnR K (.str a) [.ref p] H Q := ⟨a, p, ys, rfl, rfl, .inl (SqL.of e), l, h⟩
end
end Z
local macro_rules | `(tactic| walk_at "call") => `(tactic| first
  | with_reducible refine Z.r_m1 ?_
  | with_reducible refine Z.r_tYes ?_
  | with_reducible refine Z.r_strAnd ?_)
/-- the texts of entries, put together -/
def textOf (gs : Ens) : Str := Txt.join (" " : Str) (gs.map fun e => textT e.2)
def TagsB (gs : Ens) : Prop := ∀ e ∈ gs, tagB e.2
theorem texts_sum {gs : Ens} (h : TagsB gs) (n : gs.length ≤ 250) : ((gs.map fun e => textT e.2).map (·.length)).sum + (gs.map fun e => textT e.2).length * (" " : Str).length ≤ 80000 := by
  have e := Z.sum_le (m := 310) (gs.map fun e => textT e.2) (fun y hy => by
    obtain ⟨x, hx, rfl⟩ := List.mem_map.mp hy
    exact textT_len (h x hx))
  rw [List.length_map] at e ⊢
  have l1 : (" " : Str).length = 1 := rfl
  rw [l1]
  have := Nat.mul_le_mul_right 310 n
  omega
theorem textOf_len {gs : Ens} (h : TagsB gs) (n : gs.length ≤ 250) : (textOf gs).length ≤ 80000 := by
  unfold textOf
  rw [show Txt.join (" " : Str) (gs.map fun e => textT e.2) = Str.join (" " : Str) (gs.map fun e => textT e.2) from StrLaws.glued_eq_join _ _]
  exact Nat.le_trans (StrLaws.join_length_le _ _) (texts_sum h n)
/-! data that can be compared: not too deep, equal to itself -/
structure Fine (n : Nat) (d : PyData) : Prop where
  lay : d.canLay0 = true
  dep : d.depth ≤ n
  same : PyData.eqv d d = true
theorem Fine.mono {n m : Nat} {d : PyData} (l : n ≤ m) (h : Fine n d) : Fine m d := ⟨h.lay, Nat.le_trans h.dep l, h.same⟩
theorem Fine.int (i : Int) : Fine 0 (.int i) := ⟨rfl, Nat.le_refl _, beq_self_eq_true i⟩
theorem Fine.bool (b : Bool) : Fine 0 (.bool b) := ⟨rfl, Nat.le_refl _, by simp [PyData.eqv]⟩
theorem Fine.none : Fine 0 .none := ⟨rfl, Nat.le_refl _, rfl⟩
theorem Fine.str {x : Str} (h : PyData.strOk x = true) : Fine 0 (.str x) := ⟨h, Nat.le_refl _, beq_self_eq_true x⟩
theorem fine_all {n : Nat} : ∀ {ds : List PyData}, (∀ d ∈ ds, Fine n d) → PyData.canLayAll0 ds = true ∧ PyData.depthAll ds ≤ n ∧ PyData.eqvAll ds ds = true
  | [], _ => ⟨rfl, Nat.zero_le _, rfl⟩
  | d :: r, h => by
    obtain ⟨h1, h2, h3⟩ := fine_all fun z hz => h z (List.mem_cons_of_mem _ hz)
    have hd := h d List.mem_cons_self
    refine ⟨?_, ?_, ?_⟩
    · show (PyData.canLay0 d && PyData.canLayAll0 r) = true
      rw [hd.lay, h1]; rfl
    · show max (PyData.depth d) (PyData.depthAll r) ≤ n
      have := hd.dep
      omega
    · show (PyData.eqv d d && PyData.eqvAll r r) = true
      rw [hd.same, h3]; rfl
theorem Fine.list {n : Nat} {ds : List PyData} (h : ∀ d ∈ ds, Fine n d) : Fine (n + 1) (.list ds) := by
  obtain ⟨h1, h2, h3⟩ := fine_all h
  exact ⟨h1, Nat.succ_le_succ h2, h3⟩
theorem Fine.tuple {n : Nat} {ds : List PyData} (h : ∀ d ∈ ds, Fine n d) : Fine (n + 1) (.tuple ds) := by
  obtain ⟨h1, h2, h3⟩ := fine_all h
  exact ⟨h1, Nat.succ_le_succ h2, h3⟩
theorem Fine.shaped {n : Nat} {d : PyData} (h : Fine n d) (l : n ≤ 64) : SeqAt.shaped d = true := by
  show (d.canLay0 && decide (d.depth ≤ 64)) = true
  rw [h.lay, decide_eq_true (Nat.le_trans h.dep l)]; rfl
theorem Fine.map {α : Type} {n : Nat} {f : α → PyData} {l : List α} (h : ∀ x ∈ l, Fine n (f x)) : ∀ d ∈ l.map f, Fine n d := by
  intro d hd
  obtain ⟨x, hx, rfl⟩ := List.mem_map.mp hd
  exact h x hx
theorem fine_cons {n : Nat} {d : PyData} {r : List PyData} (h : Fine n d) (hr : ∀ x ∈ r, Fine n x) : ∀ x ∈ d :: r, Fine n x := fun x hx => by
  rcases List.mem_cons.mp hx with rfl | hx
  · exact h
  · exact hr x hx
theorem fine_nil {n : Nat} : ∀ x ∈ ([] : List PyData), Fine n x := fun x hx => by cases hx
theorem dp_map {α : Type} {K : PySem.W.Frag} {H : Hp} {f : α → V} {g : α → PyData} : ∀ {l : List α}, (∀ x ∈ l, Dp K H (f x) (g x)) → DpAll K H (l.map f) (l.map g)
  | [], _ => .nil
  | x :: r, h => .cons (h x List.mem_cons_self) (dp_map fun z hz => h z (List.mem_cons_of_mem _ hz))
theorem first_of {α : Type} (p : α → Prop) : ∀ l : List α, (∃ x ∈ l, p x) → ∃ A s B, l = A ++ s :: B ∧ (∀ r ∈ A, ¬ p r) ∧ p s
  | [], h => by obtain ⟨x, hx, _⟩ := h; cases hx
  | x :: r, h => by
    by_cases q : p x
    · exact ⟨[], x, r, rfl, (fun z hz => by cases hz), q⟩
    · obtain ⟨y, hy, py⟩ := h
      rcases List.mem_cons.mp hy with rfl | hy
      · exact absurd py q
      obtain ⟨A, s, B, e, h1, h2⟩ := first_of p r ⟨y, hy, py⟩
      refine ⟨x :: A, s, B, by rw [e]; rfl, fun z hz => ?_, h2⟩
      rcases List.mem_cons.mp hz with rfl | hz
      · exact q
      · exact h1 z hz
theorem all_trues (n : Nat) : (List.replicate n true).all id = true := by
  induction n with
  | zero => rfl
  | succ n ih => rw [List.replicate_succ]; exact ih
theorem any_falses (n : Nat) : (List.replicate n false).any id = false := by
  induction n with
  | zero => rfl
  | succ n ih => rw [List.replicate_succ]; exact ih
namespace Z
open PySem PySem.Spec PyProof.Rows L2
theorem hu65 {k : Nat} {A : Around} (r : Room k A) : A.units + 65 < cLine := by have := r.un; omega
section
variable {K : PySem.W.Frag} {σ : L2.St} {H : Hp} {Q : VK} {to : TE} {t tk : TA} {sp : Sp} {E : XK} {g : List V → List V → List V}
theorem r_bmG {ty : String} {r : V → List V → Hp → VK → Prop} (h : to σ H fun x H1 => tyV K ty x H1 ∧ t σ H1 fun xs H2 => r x xs H2 Q) : tBM K ty r to t σ H Q := h
theorem r_bm0G {ty : String} {r : V → List V → Hp → VK → Prop} (h : to σ H fun x H1 => tyV K ty x H1 ∧ r x [] H1 Q) : tBM0 K ty r to σ H Q := h
theorem r_callKG (h : t σ H fun us H1 => tk σ H1 fun ws H2 => sp (g us ws) H2 Q E) : tCallK sp g E t tk σ H Q := h
theorem r_tNilG {N : List V → Hp → Prop} (h : N [] H) : tNil σ H N := h
theorem r_inD {x y : V} {d : PyData} {ds : List PyData} (hd : Dp K H x d) (hs : Dp K H y (.list ds)) (sd : SeqAt.shaped d = true) (ss : SeqAt.shaped (.list ds) = true) (q : Q (.bl (ds.any fun z => PyData.eqv z d)) H) : rInD K x y H Q := ⟨d, ds, hd, hs, sd, ss, q⟩
theorem r_notInD {x y : V} {d : PyData} {ds : List PyData} (hd : Dp K H x d) (hs : Dp K H y (.list ds)) (sd : SeqAt.shaped d = true) (ss : SeqAt.shaped (.list ds) = true) (q : Q (.bl (!ds.any fun z => PyData.eqv z d)) H) : rNotInD K x y H Q := ⟨d, ds, hd, hs, sd, ss, q⟩
theorem r_indexD {a : Addr} {y : V} {d : PyData} {ds : List PyData} (j : Nat) {z : PyData} (hs : Dp K H (.ref a) (.list ds)) (hd : Dp K H y d) (ss : SeqAt.shaped (.list ds) = true) (sd : SeqAt.shaped d = true) (hj : ds[j]? = some z) (e : PyData.eqv z d = true)
    (no : ∀ (m : Nat) (z' : PyData), m < j → ds[m]? = some z' → PyData.eqv z' d = false) (q : Q (.int (j : Nat)) H) : rIndexD K (.ref a) [y] H Q := ⟨a, y, d, ds, j, z, rfl, rfl, hs, hd, ss, sd, hj, e, no, q⟩
theorem r_allG {a : Addr} {bs : List Bool} (hs : SqL K H a (bs.map V.bl)) (h : Q (.bl (bs.all id)) H) : rAll K [.ref a] H Q := ⟨a, bs, rfl, hs, h⟩
theorem r_slTA {a : Addr} {xs : List V} {lo hi : Option Int} (e : H a = some (.tup xs)) (q1 : HT.sIx xs.length 0 lo = 0 ∧ HT.sIx xs.length xs.length hi = xs.length → Q (.ref a) H)
    (q2 : ¬ (HT.sIx xs.length 0 lo = 0 ∧ HT.sIx xs.length xs.length hi = xs.length) → ∀ p H1, H p = none → Same H H1 → H1 p = some (.tup (cutV xs lo hi)) → Q (.ref p) H1) : rSlA K (.ref a) lo hi H Q :=
  ⟨a, xs, rfl, SqT.of e, q1, fun n p np => q2 n p _ np (same_upd np) upd_same⟩
end
section
variable {X : Cx} {CX : CXT} {k : Nat} {f : Addr} {fd : FuncData} {ps ks : List Str} {sp : Sp} {E : XK} {x : Str} {kws : List Keyword} {tk : TA} {p pos : Pos}
theorem pe_callK0 {g : List Value → List Value → List Value} {gV : List V → List V → List V} (F : FnOk X.prog X.w X.K X.mg X.base CX k f fd ps sp) (hr : Room k X.A) (hg : Gl X x) (hm : X.mg x = some (.ref f)) (hk : PySem.W.keepIn X.K (.ref f) = true) (hb : KBinds X.K fd ps ks g gV) (hx : Passes CX X E)
    (hkw : PK X kws tk) (hall : (backToKw pos (keywordEach kws X.env)).all (·.1.isSome) = true := by rfl) (hks : (backToKw pos (keywordEach kws X.env)).filterMap (·.1) = ks := by rfl)
    (hdb : (x == ("__debug__" : Str)) = false := by decide)
    (hpl : ((backTo pos (starEach [] X.env)).any (·.1) || (backToKw pos (keywordEach kws X.env)).any (·.1.isNone)) = false := by rfl) :
    PE X (.Call (.Name x p) [] kws pos) (tCallK sp gV E tNil tk) := by
  refine ⟨fun pins s σ H Q I h => ?_⟩
  refine wpAny_Call_Name_kw (ld_glob I hg hm ?_ hdb)
  refine PySem.W.callWith_KW0 (h₀ := X.base) I.ok.mod.kin hk hall (thn (hkw.run pos pins s σ H _ I h) fun ws s2 ⟨zs, H2, I2, rz, q2⟩ => ⟨I2.kIn, ?_⟩) hpl
  rw [hks]
  exact run_fnk (us := []) (vs := []) F hr hb hx I2 .nil rz q2
end
end Z
namespace Z
open PySem PySem.Spec PyProof.Rows L2
section
variable {σ : L2.St} {H : Hp} {D : Ends} {t : TS} {tt : TT} {N : Bool → Hp → Prop}
/-- a statement whose ways all go on, and meet -/
theorem viaS (R : L2.St → Hp → Prop) (h : ∀ D' : Ends, (∀ σ' H', R σ' H' → D'.nx σ' H') → t D' σ H) (k : ∀ σ' H', R σ' H' → D.nx σ' H') : t D σ H := h D k
/-- a statement that may return, whose other ways meet -/
theorem viaR (R : L2.St → Hp → Prop) (h : ∀ M : L2.St → Hp → Prop, (∀ σ' H', R σ' H' → M σ' H') → t { D with nx := M } σ H) (k : ∀ σ' H', R σ' H' → D.nx σ' H') : t D σ H := h D.nx k
/-- a test whose ways meet -/
theorem viaT (R : Bool → Hp → Prop) (h : ∀ M : Bool → Hp → Prop, (∀ b H', R b H' → M b H') → tt σ H M) (k : ∀ b H', R b H' → N b H') : tt σ H N := h N k
end
end Z
local macro_rules | `(tactic| walk_at "toseq") => `(tactic| ((repeat (first
  | with_reducible refine Z.r_next ?_
  | ((fail_if_success (with_reducible refine Z.r_seq ?_)); walk_at "st"))); with_reducible refine Z.r_seq ?_))

namespace Z
open PySem PySem.Spec PyProof.Rows L2
/-- a sign, so many times -/
def repS (z : Str) (n : Nat) : Str := ⟨(List.replicate n z.cps).foldl (· ++ ·) #[]⟩
def rRepS : R2 := fun x y H Q => ∃ (z : Str) (n : Nat), x = .str z ∧ y = .int (n : Int) ∧ 2 ≤ n ∧ n ≤ 1000 ∧ z.length = 1 ∧ (repS z n).length ≤ 1000 ∧ Q (.str (repS z n)) H
theorem op_repS {X : Cx} : OpR X (binaryOp .Mult) rRepS := by
  intro pins s σ H x y v u Q I rx ry h
  obtain ⟨z, n, rfl, rfl, n2, n3, lz, lr, q⟩ := h
  obtain ⟨t, rfl⟩ := (show ∃ t, v = Value.str z t from rx)
  obtain ⟨t2, rfl⟩ := (show ∃ t, u = Value.int (n : Int) t from ry)
  refine PySem.P.mul_str ?_ (fun _ _ => ?_) (fun _ _ => ?_) ?_
  · rw [decide_eq_false (by omega), decide_eq_false (by omega)]; rfl
  · rw [lz]
    have : (1 : Int) ≤ (2 ^ 63 - 1) / (n : Int) := Int.le_ediv_of_mul_le (by omega) (by omega)
    omega
  · rw [lz]
    have z : sizeLine = 16777216 := sizeLine_eq
    exact decide_eq_false (by rw [z]; simp; omega)
  · rw [if_neg (by omega), if_neg (by rw [lz]; simp; omega)]
    exact ⟨Nat.le_trans lr (by decide), .str (repS z n), H, I.tok _, ⟨_, rfl⟩, q⟩
theorem r_repS {z : Str} {n : Int} {m : Nat} {H : Hp} {Q : VK} (e : n = (m : Int)) (n2 : 2 ≤ m) (n3 : m ≤ 1000) (lz : z.length = 1) (lr : (repS z m).length ≤ 1000) (q : Q (.str (repS z m)) H) : rRepS (.str z) (.int n) H Q := ⟨z, m, rfl, by rw [e], n2, n3, lz, lr, q⟩
end Z

/-! words and numbers in texts -/
namespace Tx
open PySem PySem.Spec PyProof.Rows L2 TL
abbrev tl (x : Str) : List Nat := x.cps.toList
def digs (l : List Nat) : Prop := ∀ c ∈ l, 48 ≤ c ∧ c ≤ 57
theorem sw1 (x : Str) (c : Nat) : Txt.startswith x ⟨#[c]⟩ = decide ((tl x).head? = some c) := by
  have h := StrLaws.subAt_one x c 0
  have e : (tl x).head? = (tl x)[0]? := by cases tl x <;> rfl
  rw [e]
  by_cases q : (tl x)[0]? = some c
  · rw [decide_eq_true q]
    obtain ⟨h1, h2⟩ := h.mpr q
    show (decide (0 + (⟨#[c]⟩ : Str).length ≤ x.length) && Builtin.Str.subAt x ⟨#[c]⟩ 0) = true
    rw [decide_eq_true h1, h2]; rfl
  · rw [decide_eq_false q]
    cases z : Txt.startswith x ⟨#[c]⟩ with
    | false => rfl
    | true =>
      have z : (decide (0 + (⟨#[c]⟩ : Str).length ≤ x.length) && Builtin.Str.subAt x ⟨#[c]⟩ 0) = true := z
      obtain ⟨z1, z2⟩ := Bool.and_eq_true_iff.mp z
      exact absurd (h.mp ⟨of_decide_eq_true z1, z2⟩) q
theorem rp1 (x : Str) (c : Nat) : tl (Txt.removeprefix x ⟨#[c]⟩) = if (tl x).head? = some c then (tl x).tail else tl x := by
  have h := sw1 x c
  have e := StrLaws.removeprefix_eq x ⟨#[c]⟩
  have e2 : Txt.startswith x ⟨#[c]⟩ = (decide (0 + (⟨#[c]⟩ : Str).length ≤ x.length) && Builtin.Str.subAt x ⟨#[c]⟩ 0) := rfl
  rw [← e2, h] at e
  rw [e]
  by_cases q : (tl x).head? = some c
  · rw [decide_eq_true q, if_pos rfl, if_pos q]
    show ((tl x).drop 1).take (x.length - 1) = _
    have l : x.length = (tl x).length := by simp [tl, Str.length]
    rw [l, List.drop_one, List.take_of_length_le (by rw [List.length_tail]; exact Nat.le_refl _)]
  · rw [decide_eq_false q, if_neg (by decide), if_neg q]
theorem tl_len (x : Str) : x.length = (tl x).length := by simp [tl, Str.length]
theorem asc_all (x : Str) : Txt.isascii x = (tl x).all (· < 128) := by
  unfold Txt.isascii
  rw [← Array.all_toList]
theorem dig_tab : ∀ c, c < 128 → Unicode.isDigit c = (decide (48 ≤ c) && decide (c ≤ 57)) := by decide +kernel
theorem alpha_tab : ∀ c, c < 128 → (Unicode.isAlpha c = ((decide (65 ≤ c) && decide (c ≤ 90)) || (decide (97 ≤ c) && decide (c ≤ 122))) ∧ Unicode.isLower c = (decide (97 ≤ c) && decide (c ≤ 122)) ∧ (Unicode.isUpper c || Unicode.isTitle c) = (decide (65 ≤ c) && decide (c ≤ 90))) := by decide +kernel
theorem isdigit_l (x : Str) : Txt.isdigit x = (decide (tl x ≠ []) && (tl x).all Unicode.isDigit) := by
  have e : Txt.isdigit x = (decide (x.length > 0) && x.cps.all Unicode.isDigit) := rfl
  have h2 : x.cps.all Unicode.isDigit = (tl x).all Unicode.isDigit := Array.all_toList.symm
  rw [e, h2, tl_len]
  cases tl x <;> simp
theorem isalpha_l (x : Str) : Txt.isalpha x = (decide (tl x ≠ []) && (tl x).all Unicode.isAlpha) := by
  have e : Txt.isalpha x = (decide (x.length > 0) && x.cps.all Unicode.isAlpha) := rfl
  have h2 : x.cps.all Unicode.isAlpha = (tl x).all Unicode.isAlpha := Array.all_toList.symm
  rw [e, h2, tl_len]
  cases tl x <;> simp
theorem islower_l (x : Str) : Txt.islower x = ((tl x).any Unicode.isLower && !(tl x).any fun c => Unicode.isUpper c || Unicode.isTitle c) := by
  have e : Txt.islower x = (x.cps.any Unicode.isLower && !x.cps.any fun c => Unicode.isUpper c || Unicode.isTitle c) := rfl
  rw [e, ← Array.any_toList, ← Array.any_toList]
/-- what is_word tells -/
def isWordB (x : Str) : Bool := (decide (1 ≤ x.length) && decide (x.length ≤ 8)) && (Txt.isascii x && (Txt.isalpha x && Txt.islower x))
def letters (l : List Nat) : Prop := ∀ c ∈ l, 97 ≤ c ∧ c ≤ 122
theorem isWord_iff (x : Str) : isWordB x = true ↔ 1 ≤ x.length ∧ x.length ≤ 8 ∧ letters (tl x) := by
  unfold isWordB
  rw [asc_all, isalpha_l, islower_l]
  simp only [Bool.and_eq_true, decide_eq_true_eq, List.all_eq_true, List.any_eq_true, Bool.not_eq_true']
  constructor
  · rintro ⟨⟨h1, h2⟩, h3, ⟨h4, h5⟩, ⟨c0, m0, l0⟩, h6⟩
    refine ⟨h1, h2, fun c m => ?_⟩
    have lt := of_decide_eq_true (by simpa using h3 c m : decide (c < 128) = true)
    obtain ⟨a1, a2, a3⟩ := alpha_tab c lt
    have b1 := h5 c m
    have b2 := List.any_eq_false.mp h6 c m
    rw [a3] at b2
    rw [a1] at b1
    simp at b1 b2
    omega
  · rintro ⟨h1, h2, h3⟩
    have ne : tl x ≠ [] := fun e => by rw [tl_len, e] at h1; exact absurd h1 (by decide)
    have tb : ∀ c ∈ tl x, c < 128 := fun c m => by have := h3 c m; omega
    refine ⟨⟨h1, h2⟩, fun c m => by simpa using tb c m, ⟨ne, fun c m => ?_⟩, ?_, ?_⟩
    · rw [(alpha_tab c (tb c m)).1]
      have := h3 c m
      simp; omega
    · obtain ⟨c, r, e⟩ : ∃ c r, tl x = c :: r := by
        cases q : tl x with
        | nil => exact absurd q ne
        | cons c r => exact ⟨c, r, rfl⟩
      have m : c ∈ tl x := by rw [e]; exact List.mem_cons_self
      refine ⟨c, m, ?_⟩
      rw [(alpha_tab c (tb c m)).2.1]
      have := h3 c m
      simp; omega
    · rw [List.any_eq_false]
      intro c m
      rw [(alpha_tab c (tb c m)).2.2]
      have := h3 c m
      simp; omega
theorem rp_len (x : Str) (c : Nat) : (Txt.removeprefix x ⟨#[c]⟩).length ≤ x.length := by
  rw [tl_len, rp1, tl_len x]
  split
  · rw [List.length_tail]; omega
  · exact Nat.le_refl _
/-- what _is_number_but_0 tells -/
def numB (x : Str) : Bool := (Txt.isascii (Txt.removeprefix x ⟨#[45]⟩) && Txt.isdigit (Txt.removeprefix x ⟨#[45]⟩)) && (!Txt.startswith (Txt.removeprefix x ⟨#[45]⟩) ⟨#[48]⟩ && decide ((Txt.removeprefix x ⟨#[45]⟩).length ≤ 300))
theorem digits_iff (x : Str) : (Txt.isascii x && Txt.isdigit x) = true ↔ tl x ≠ [] ∧ digs (tl x) := by
  rw [asc_all, isdigit_l]
  simp only [Bool.and_eq_true, decide_eq_true_eq, List.all_eq_true]
  constructor
  · rintro ⟨h1, h2, h3⟩
    refine ⟨h2, fun c m => ?_⟩
    have lt := of_decide_eq_true (by simpa using h1 c m : decide (c < 128) = true)
    have := h3 c m
    rw [dig_tab c lt] at this
    simpa using this
  · rintro ⟨h1, h2⟩
    refine ⟨fun c m => by have := h2 c m; simp; omega, h1, fun c m => ?_⟩
    have := h2 c m
    rw [dig_tab c (by omega)]
    simp; omega
/-- the digits of a number's text, its sign left out -/
theorem numB_iff (x : Str) : numB x = true ↔ ∃ ds, (tl x = ds ∨ tl x = 45 :: ds) ∧ ds ≠ [] ∧ digs ds ∧ ds.head? ≠ some 48 ∧ ds.length ≤ 300 := by
  have r := rp1 x 45
  unfold numB
  rw [Bool.and_eq_true, digits_iff, sw1, tl_len, r]
  constructor
  · rintro ⟨⟨h1, h2⟩, h3⟩
    simp only [Bool.and_eq_true, Bool.not_eq_true', decide_eq_false_iff_not, decide_eq_true_eq] at h3
    by_cases q : (tl x).head? = some 45
    · rw [if_pos q] at h1 h2 h3
      refine ⟨(tl x).tail, .inr ?_, h1, h2, h3.1, h3.2⟩
      cases e : tl x with
      | nil => rw [e] at q; cases q
      | cons c t => rw [e] at q; cases q; rfl
    · rw [if_neg q] at h1 h2 h3
      exact ⟨tl x, .inl rfl, h1, h2, h3.1, h3.2⟩
  · rintro ⟨ds, h | h, h1, h2, h3, h4⟩
    · have q : ¬ (tl x).head? = some 45 := fun e => by
        rw [h] at e
        cases ds with
        | nil => cases e
        | cons c t => cases e; exact absurd (h2 45 List.mem_cons_self).1 (by decide)
      rw [if_neg q, h]
      refine ⟨⟨h1, h2⟩, ?_⟩
      simp only [Bool.and_eq_true, Bool.not_eq_true', decide_eq_false_iff_not, decide_eq_true_eq]
      exact ⟨h3, h4⟩
    · rw [if_pos (by rw [h]; rfl), h]
      refine ⟨⟨h1, h2⟩, ?_⟩
      simp only [Bool.and_eq_true, Bool.not_eq_true', decide_eq_false_iff_not, decide_eq_true_eq]
      exact ⟨h3, h4⟩
theorem sign_text (c : Nat) (x : String) (h : (Str.ofString x).cps.toList = [c]) : Str.ofString x = ⟨#[c]⟩ := Str.ext' (Array.toList_inj.mp h)
theorem q_text : ("?" : Str) = ⟨#[63]⟩ := sign_text 63 "?" (by decide +kernel)
theorem m_text : ("-" : Str) = ⟨#[45]⟩ := sign_text 45 "-" (by decide +kernel)
theorem z_text : ("0" : Str) = ⟨#[48]⟩ := sign_text 48 "0" (by decide +kernel)
/-- an int's text by its signs -/
theorem tl_int (i : Int) : tl (Str.ofString (toString i)) = if i < 0 then 45 :: numL i.natAbs else numL i.natAbs := by
  by_cases h : i < 0
  · rw [if_pos h]
    obtain ⟨n, rfl⟩ := Int.eq_negSucc_of_lt_zero h
    have e2 := (TL.tl_ofString _).symm.trans (tl_num (n + 1))
    show TL.tl _ = _
    rw [TL.tl_ofString]
    have e3 : (toString (Int.negSucc n)).toList = '-' :: (toString (((n + 1 : Nat)) : Int)).toList := by
      show ("-" ++ Nat.repr (n + 1)).toList = '-' :: (Nat.repr (n + 1)).toList
      rw [String.toList_append]
      rfl
    rw [e3, List.map_cons, e2]
    rfl
  · rw [if_neg h]
    obtain ⟨n, rfl⟩ := Int.eq_ofNat_of_zero_le (Int.not_lt.mp h)
    exact tl_num n
theorem numB_int {x : Str} (h : numB x = true) : ∃ n, intText? x = some n ∧ x.length ≤ 640 := by
  obtain ⟨ds, h1 | h1, h2, h3, h4, h5⟩ := (numB_iff x).mp h
  · have l : x.length = ds.length := by rw [tl_len, h1]
    have e : x.cps.toList = ds := h1
    exact ⟨_, PySem.intText_digits (by rw [e]; exact h3) (by rw [e]; exact h2) (by omega), by omega⟩
  · have l : x.length = ds.length + 1 := by rw [tl_len, h1]; rfl
    exact ⟨_, PySem.intText_neg h1 h3 h2 (by omega), by omega⟩
theorem zero_int : intText? ("0" : Str) = some 0 := by
  have e : ("0" : Str).cps.toList = [48] := by decide +kernel
  have h := PySem.intText_digits (x := ("0" : Str)) (by rw [e]; intro c hc; rw [List.mem_singleton.mp hc]; decide) (by rw [e]; exact nofun) (by decide +kernel)
  rw [h, e]
  rfl
theorem numL_head {n : Nat} (h : 0 < n) : (numL n).head? ≠ some 48 := by
  induction n using Nat.strongRecOn with
  | _ n ih =>
    by_cases q : n < 10
    · rw [numL_lt q]
      intro e
      have := Option.some.inj e
      omega
    · rw [numL_step (by omega)]
      have h1 := ih (n / 10) (by omega) (by omega)
      have h2 := numL_ne (n / 10)
      cases e : numL (n / 10) with
      | nil => exact absurd e h2
      | cons c r => rw [e] at h1; exact h1
theorem tl_int0 {i : Int} (h : i ≠ 0) (hb : i.natAbs < 10 ^ 300) : numB (Str.ofString (toString i)) = true := by
  have hp : 0 < i.natAbs := by omega
  rw [numB_iff, tl_int]
  refine ⟨numL i.natAbs, ?_, numL_ne _, fun c hc => numL_digits _ c hc, numL_head hp, numL_len (by decide) hb⟩
  by_cases q : i < 0
  · rw [if_pos q]; exact .inr rfl
  · rw [if_neg q]; exact .inl rfl
theorem int_back {i : Int} (hb : i.natAbs < 10 ^ 300) : intText? (Str.ofString (toString i)) = some i := by
  have ht := tl_int i
  have hl := numL_len (k := 300) (by decide) hb
  have e : (Str.ofString (toString i)).cps.toList = _ := ht
  by_cases q : i < 0
  · rw [if_pos q] at e
    rw [PySem.intText_neg e (numL_digits _) (numL_ne _) (by rw [tl_len, ht, if_pos q, List.length_cons]; omega), numL_val]
    congr 1; omega
  · rw [if_neg q] at e
    rw [PySem.intText_digits (by rw [e]; exact numL_digits _) (by rw [e]; exact numL_ne _) (by rw [tl_len, ht, if_neg q]; omega), e, numL_val]
    congr 1; omega
theorem zero_iff (i : Int) : Str.ofString (toString i) = ("0" : Str) ↔ i = 0 := by
  constructor
  · intro h
    have h2 := congrArg tl h
    rw [tl_int, show tl ("0" : Str) = [48] from by decide +kernel] at h2
    by_cases q : i < 0
    · rw [if_pos q] at h2
      have := (List.cons.inj h2).1
      exact absurd this (by decide)
    · rw [if_neg q] at h2
      have h3 : numL i.natAbs = numL 0 := by rw [h2, numL_lt (by decide)]
      have := numL_inj h3
      omega
  · rintro rfl; rfl
/-- what a word is read as -/
def tail1 (x : Str) : Str := cutS x (some 1) none
theorem tl_tail (x : Str) : tl (tail1 x) = (tl x).drop 1 := by
  unfold tail1 cutS
  rw [show HT.sIx x.length 0 (some (1 : Int)) = min 1 x.length from HT.sIx_nat .., show HT.sIx x.length x.length none = x.length from HT.sIx_none ..]
  show ((tl x).drop (min 1 x.length)).take (x.length - min 1 x.length) = _
  rw [tl_len]
  cases e : tl x with
  | nil => rfl
  | cons c r =>
    have : min 1 (c :: r).length = 1 := by show min 1 (r.length + 1) = 1; omega
    rw [this, List.drop_one, List.tail_cons, List.take_of_length_le (by show r.length ≤ r.length + 1 - 1; omega)]
/-- a text's word or number, or neither -/
def readT (x : Str) : Tag := if (Txt.startswith x ⟨#[63]⟩ && isWordB (tail1 x)) = true then .mark (tail1 x) else if (decide (x = "0") || numB x) = true then .num ((intText? x).getD 0) else .non
theorem readT_int {i : Int} (hb : i.natAbs < 10 ^ 300) : readT (Str.ofString (toString i)) = .num i := by
  have h63 : Txt.startswith (Str.ofString (toString i)) ⟨#[63]⟩ = false := by
    rw [sw1, tl_int]
    refine decide_eq_false fun e => ?_
    by_cases q : i < 0
    · rw [if_pos q] at e; cases e
    · rw [if_neg q] at e
      cases z : numL i.natAbs with
      | nil => exact numL_ne _ z
      | cons c r =>
        rw [z] at e
        cases e
        have := (numL_digits i.natAbs 63 (by rw [z]; exact List.mem_cons_self)).2
        exact absurd this (by decide)
  unfold readT
  rw [h63, Bool.false_and, if_neg Bool.false_ne_true, int_back hb]
  by_cases q : i = 0
  · rw [decide_eq_true ((zero_iff i).mpr q), Bool.true_or, if_pos rfl]; rfl
  · rw [tl_int0 q hb, Bool.or_true, if_pos rfl]; rfl
theorem readT_mark {n : Str} (h : isWordB n = true) : readT (("?" : Str) ++ n) = .mark n := by
  have e : tl (("?" : Str) ++ n) = 63 :: tl n := by
    show (("?" : Str) ++ n).cps.toList = _
    rw [Str.cps_append, Array.toList_append, show ("?" : Str).cps.toList = [63] by decide +kernel]
    rfl
  have et : tail1 (("?" : Str) ++ n) = n := Str.ext' (Array.toList_inj.mp (by
    show tl _ = tl n
    rw [tl_tail, e]; rfl))
  unfold readT
  rw [et, sw1, e, h]
  rfl
end Tx

namespace Z
open PySem PySem.Spec PyProof.Rows L2
section
variable {K : PySem.W.Frag} {σ : L2.St} {H : Hp} {Q : VK} {ta tb tc : TE} {r r' : R2} {z a b : Str}
theorem r_chain (h : ta σ H fun x H1 => tb σ H1 fun y H2 => r x y H2 fun z H3 => ∃ k, z = .bl k ∧ (if k = true then tc σ H3 fun w' H4 => r' y w' H4 Q else Q (.bl false) H3)) : tChain r r' ta tb tc σ H Q := h
theorem r_lenSS (l : z.length ≤ 100000) (h : Q (.int z.length) H) : rLenS [.str z] H Q := ⟨z, rfl, Nat.le_trans l (by decide), h⟩
theorem r_tyStr {G : Prop} (h : G) : tyV K "str" (.str a) H ∧ G := ⟨rfl, h⟩
theorem r_slSt {lo hi : Option Int} (l : z.length ≤ 100000) (h : Q (.str (cutS z lo hi)) H) : rSlS (.str z) lo hi H Q := ⟨z, rfl, Nat.le_trans l (by decide), h⟩
end
end Z
local macro_rules | `(tactic| walk_at "call") => `(tactic| first
  | with_reducible refine Z.r_chain ?_
  | with_reducible refine Z.r_bmG ?_
  | with_reducible refine Z.r_bm0G ?_
  | with_reducible refine Z.r_tyStr ?_)

/-! the tokens of a line, as a plain function of its signs -/
namespace Tk
open PySem PySem.Spec PyProof.Rows L2 Tx
def mk (l : List Nat) : Str := ⟨l.toArray⟩
theorem tl_mk (l : List Nat) : tl (mk l) = l := rfl
theorem mk_tl (x : Str) : mk (tl x) = x := Str.ext' (Array.toList_inj.mp rfl)
def others : List Str := ["+=", "-=", "<=", ">=", "==", "!=", "<", ">", "=", "(", ")", ",", "0", "1"]
/-- the token with which rest begins; ls: the letters -/
def tokAt (ls rest : List Nat) : Option (List Nat) :=
  if rest.takeWhile (fun c => decide (c ∈ ls)) ≠ [] then some (rest.takeWhile fun c => decide (c ∈ ls)) else (others.find? fun t => (tl t).isPrefixOf rest).map tl
def toksF (ls : List Nat) : Nat → List Nat → Option (List (List Nat))
  | _, [] => some []
  | 0, _ :: _ => none
  | n + 1, c :: r => if c = 32 then toksF ls n r else match tokAt ls (c :: r) with
    | none => none
    | some t => (toksF ls n ((c :: r).drop t.length)).map (t :: ·)
/-- the tokens of a line, or nothing -/
def toks (ls l : List Nat) : Option (List (List Nat)) := toksF ls l.length l
theorem others_ne : ∀ t ∈ others, tl t ≠ [] := by decide +kernel
theorem tokAt_ne {ls l t : List Nat} (h : tokAt ls l = some t) : t ≠ [] := by
  unfold tokAt at h
  split at h
  · rename_i c; rw [← Option.some.inj h]; exact c
  · obtain ⟨x, h1, h2⟩ := Option.map_eq_some_iff.mp h
    rw [← h2]
    exact others_ne x (List.mem_of_find?_eq_some h1)
theorem tokAt_pre {ls l t : List Nat} (h : tokAt ls l = some t) : t <+: l := by
  unfold tokAt at h
  split at h
  · rw [← Option.some.inj h]; exact List.takeWhile_prefix _
  · obtain ⟨x, h1, h2⟩ := Option.map_eq_some_iff.mp h
    rw [← h2]
    have := List.find?_some h1
    exact List.isPrefixOf_iff_prefix.mp this
theorem toksF_nil (ls : List Nat) (n : Nat) : toksF ls n [] = some [] := by cases n <;> rfl
theorem toksF_eq {ls : List Nat} : ∀ {n m : Nat} {l : List Nat}, l.length ≤ n → l.length ≤ m → toksF ls n l = toksF ls m l
  | n, m, [], _, _ => by rw [toksF_nil, toksF_nil]
  | 0, _, _ :: _, h, _ => by cases h
  | _ + 1, 0, _ :: _, _, h => by cases h
  | n + 1, m + 1, c :: r, h1, h2 => by
    unfold toksF
    by_cases e : c = 32
    · rw [if_pos e, if_pos e]
      exact toksF_eq (Nat.le_of_succ_le_succ h1) (Nat.le_of_succ_le_succ h2)
    · rw [if_neg e, if_neg e]
      cases h : tokAt ls (c :: r) with
      | none => rfl
      | some t =>
        have ne := tokAt_ne h
        have l1 : 1 ≤ t.length := by cases t with
          | nil => exact absurd rfl ne
          | cons _ _ => exact Nat.succ_le_succ (Nat.zero_le _)
        have ld : ((c :: r).drop t.length).length ≤ r.length := by rw [List.length_drop, List.length_cons]; omega
        have h1 : r.length + 1 ≤ n + 1 := h1
        have h2 : r.length + 1 ≤ m + 1 := h2
        dsimp only
        rw [toksF_eq (n := n) (m := m) (Nat.le_trans ld (by omega)) (Nat.le_trans ld (by omega))]
theorem toks_space (ls r : List Nat) : toks ls (32 :: r) = toks ls r := by
  show toksF ls (r.length + 1) (32 :: r) = _
  unfold toksF
  rw [if_pos rfl]; rfl
theorem toks_none {ls r : List Nat} {c : Nat} (e : c ≠ 32) (h : tokAt ls (c :: r) = none) : toks ls (c :: r) = none := by
  show toksF ls (r.length + 1) (c :: r) = _
  unfold toksF
  rw [if_neg e, h]
theorem toks_some {ls r t : List Nat} {c : Nat} (e : c ≠ 32) (h : tokAt ls (c :: r) = some t) : toks ls (c :: r) = (toks ls ((c :: r).drop t.length)).map (t :: ·) := by
  show toksF ls (r.length + 1) (c :: r) = _
  unfold toksF
  rw [if_neg e, h]
  dsimp only
  have ne := tokAt_ne h
  have l1 : 1 ≤ t.length := by cases t with
    | nil => exact absurd rfl ne
    | cons _ _ => exact Nat.succ_le_succ (Nat.zero_le _)
  unfold toks
  rw [toksF_eq (n := r.length) (m := ((c :: r).drop t.length).length) (by rw [List.length_drop, List.length_cons]; omega) (Nat.le_refl _)]
theorem sw3 (x t : Str) {i : Nat} (h : i ≤ x.length) : Txt.startswith3 x t (i : Int) = (tl t).isPrefixOf ((tl x).drop i) := by
  have e : Txt.startswith3 x t (i : Int) = (decide (fromIndex x.length (i : Int) + t.length ≤ x.length) && Builtin.Str.subAt x t (fromIndex x.length (i : Int))) := rfl
  have f : fromIndex x.length (i : Int) = i := by
    unfold fromIndex
    rw [if_neg (by omega)]
    omega
  rw [e, f, StrLaws.subAt_eq]
  have lt : t.length = (tl t).length := tl_len t
  have lx : x.length = (tl x).length := tl_len x
  show (decide (i + t.length ≤ x.length) && (((tl x).drop i).take t.length == tl t)) = _
  have hl : ((tl x).drop i).length = x.length - i := by rw [List.length_drop, lx]
  generalize (tl x).drop i = l at hl
  have key : ∀ (p l : List Nat), p.isPrefixOf l = (decide (p.length ≤ l.length) && (l.take p.length == p)) := by
    intro p
    induction p with
    | nil => intro l; simp
    | cons a p ih =>
      intro l
      cases l with
      | nil => simp
      | cons b l =>
        rw [List.isPrefixOf_cons₂, ih l]
        simp only [List.length_cons, Nat.add_le_add_iff_right, List.take_succ_cons]
        by_cases c : a = b
        · subst c
          rw [beq_self_eq_true, Bool.true_and]
          congr 1
          show _ = (a :: l.take p.length == a :: p)
          rw [List.cons_beq_cons, beq_self_eq_true, Bool.true_and]
        · have b1 : (a == b) = false := beq_eq_false_iff_ne.mpr c
          have b2 : (b == a) = false := beq_eq_false_iff_ne.mpr fun h => c h.symm
          simp [b1, b2]
  rw [key, ← lt]
  have : decide (i + t.length ≤ x.length) = decide (t.length ≤ l.length) := by
    rw [hl]
    by_cases q : i + t.length ≤ x.length
    · rw [decide_eq_true q, decide_eq_true (by omega)]
    · rw [decide_eq_false q, decide_eq_false (by omega)]
  rw [this]
theorem tw {p : Nat → Bool} : ∀ (l : List Nat) (n : Nat), (∀ c ∈ l.take n, p c = true) → (l.length ≤ n ∨ ∃ c, l[n]? = some c ∧ p c = false) → l.takeWhile p = l.take n
  | [], n, _, _ => by simp
  | a :: l, 0, _, h => by
    rcases h with h | ⟨c, e, h⟩
    · cases h
    · cases e
      rw [List.takeWhile_cons_of_neg (by rw [h]; exact Bool.false_ne_true)]; rfl
  | a :: l, n + 1, ha, h => by
    rw [List.takeWhile_cons_of_pos (ha a (by rw [List.take_succ_cons]; exact List.mem_cons_self)), List.take_succ_cons]
    rw [tw l n (fun c hc => ha c (by rw [List.take_succ_cons]; exact List.mem_cons_of_mem _ hc)) (h.imp (fun h => Nat.le_of_succ_le_succ h) fun h => h)]
theorem find_at {p : Str → Bool} {l : List Str} {i : Nat} {t : Str} (h : l[i]? = some t) (hp : p t = true) (n : ∀ u ∈ l.take i, p u = false) : l.find? p = some t := by
  obtain ⟨hl, e⟩ := List.getElem?_eq_some_iff.mp h
  have e2 : l = l.take i ++ t :: l.drop (i + 1) := by
    rw [← e, ← List.drop_eq_getElem_cons hl, List.take_append_drop]
  rw [e2, List.find?_append, List.find?_eq_none.mpr (fun u hu => by rw [n u hu]; exact Bool.false_ne_true), List.find?_cons_of_pos hp]; rfl
end Tk
local macro_rules | `(tactic| walk_at "call") => `(tactic| first
  | with_reducible refine Z.r_mkP ?_
  | with_reducible refine Z.r_methP ?_
  | ((with_reducible refine' Z.r_mthV ?e ?l ?_); (case e => walk_at "hp"); (case l => exact rfl))
  | with_reducible refine Z.r_kget2 ?_
  | with_reducible refine Z.r_faug ?_
  | ((with_reducible refine' Z.r_faR ?e ?c ?n ?l ?_); (case e => walk_at "hp"); (case c => walk_at "cl"); (case n => walk_at "no"); (case l => walk_at "look"))
  | ((with_reducible refine' Z.r_fsR ?e ?l ?_); (case e => walk_at "hp"); (case l => exact Nat.le_of_ble_eq_true rfl))
  | with_reducible refine Z.r_in_add ?_
  | with_reducible refine Z.r_dget2 ?_
  | with_reducible refine Z.r_inSg ?_
  | with_reducible refine Z.r_sw3 ?_
  | with_reducible refine Z.r_ipI ?_)
/-! a Reader, and what its methods do with the tokens that are left -/
abbrev rdF (tl kd : Addr) (run : Bool) (k : Nat) : List (Str × V) := [("tokens", .ref tl), ("kinds", .ref kd), ("is_in_run", .bl run), ("at", .int (k : Int))]
def kvsOf (ks : List (Str × Str)) : List (Key × V) := ks.map fun q => (Sum.inr q.1, V.str q.2)
local macro_rules | `(tactic| walk_at "look") => `(tactic| first | assumption | exact Z.look1 | exact rfl | (simp [List.lookup]; done))
structure Rd (C : Addr) (H : Hp) (r tl kd : Addr) (run : Bool) (ks : List (Str × Str)) (rem : List Str) : Prop where
  ex : ∃ (dx : Addr) (ts : List Str) (k : Nat), H r = some (.ins C dx (rdF tl kd run k)) ∧ k ≤ ts.length ∧ ts.drop k = rem ∧ H tl = some (.lst (ts.map V.str))
  kd_ : H kd = some (.dK (kvsOf ks))
section
variable {C : Addr} {H H' : Hp} {r tl kd : Addr} {run : Bool} {ks : List (Str × Str)} {rem : List Str}
theorem Rd.same (h : Rd C H r tl kd run ks rem) (s : Same H H') : Rd C H' r tl kd run ks rem := by
  obtain ⟨⟨dx, ts, k, h1, h2, h3, h4⟩, h5⟩ := h
  exact ⟨⟨dx, ts, k, s _ _ h1, h2, h3, s _ _ h4⟩, s _ _ h5⟩
theorem Rd.but {b : Addr} (h : Rd C H r tl kd run ks rem) (e : Z.But b H H') (n1 : r ≠ b) (n2 : tl ≠ b) (n3 : kd ≠ b) : Rd C H' r tl kd run ks rem := by
  obtain ⟨⟨dx, ts, k, h1, h2, h3, h4⟩, h5⟩ := h
  exact ⟨⟨dx, ts, k, e _ _ n1 h1, h2, h3, e _ _ n2 h4⟩, e _ _ n3 h5⟩
/-- of a list of names and kinds: the kind, or nothing -/
def kindOf (ks : List (Str × Str)) (z : Str) : Str := (ks.lookup z).getD ""
theorem valV_kvs (ks : List (Str × Str)) (z : Str) : (valV (kvsOf ks) (.inr z)).getD (.str "") = V.str (kindOf ks z) := by
  unfold kindOf
  induction ks with
  | nil => rfl
  | cons q r ih =>
    obtain ⟨a, b⟩ := q
    unfold kvsOf valV at ih ⊢
    rw [List.map_cons, List.find?_cons, List.lookup_cons]
    by_cases c : z = a
    · subst c
      rw [beq_self_eq_true, show decide ((Sum.inr z : Key) = Sum.inr z) = true from decide_eq_true rfl]
      rfl
    · rw [beq_eq_false_iff_ne.mpr c, show decide ((Sum.inr a : Key) = Sum.inr z) = false from decide_eq_false fun h => c (Sum.inr.inj h).symm]
      exact ih
end
theorem r_fs {a g : Str} {N : Str → Hp → Prop} {H : Hp} (la : a.length ≤ 100) (lg : g.length ≤ 100000) (h : N (a ++ g) H) : Z.fmP (Z.jsP a N) (.str g) H :=
  Z.r_fmP (Nat.le_trans lg (by decide)) (Z.r_jsP (by rw [Str.length_append]; exact Nat.le_trans (Nat.add_le_add la lg) (by decide)) h)
/-! what is read: an answer, nothing, or no word of it (deeper than n) -/
inductive Res (α : Type)
  | out
  | bad
  | ok (a : α) (rest : List Str)
def Res.bind {α β : Type} (x : Res α) (f : α → List Str → Res β) : Res β := match x with
  | .out => .out
  | .bad => .bad
  | .ok a r => f a r
/-- the next token is g -/
def expT (g : Str) (r : List Str) : Res Unit := match r with
  | [] => .bad
  | t :: r => if t = g then .ok () r else .bad
theorem expT_ok (g : Str) (r : List Str) : expT g (g :: r) = .ok () r := if_pos rfl
theorem expT_bad {g : Str} {r : List Str} (h : r.head? ≠ some g) : expT g r = .bad := by
  cases r with
  | nil => rfl
  | cons t r => exact if_neg fun z => h (by rw [z]; rfl)
/-- a term -/
inductive Tm
  | leaf (w : Str)
  | keep (n : Str)
  | two (w : Str) (a b : Tm)
def rdLeaf (run : Bool) (ks : List (Str × Str)) (t : Str) (r : List Str) : Res Tm :=
  if t ∈ (["0", "nothing"] : List Str) ∨ (run = true ∧ t ∈ (["x", "before"] : List Str)) then .ok (.leaf t) r else if kindOf ks t = "keep" then .ok (.keep t) r else .bad
def rdTerm (run : Bool) (ks : List (Str × Str)) : Nat → List Str → Res Tm
  | _, [] => .bad
  | 0, t :: r => if t ∈ (["min", "max"] : List Str) then .out else rdLeaf run ks t r
  | n + 1, t :: r => if t ∈ (["min", "max"] : List Str) then (expT "(" r).bind fun _ r => (rdTerm run ks n r).bind fun a r => (expT "," r).bind fun _ r => (rdTerm run ks n r).bind fun b r => (expT ")" r).bind fun _ r => .ok (.two t a b) r
    else rdLeaf run ks t r
def TmAt (H : Hp) : Tm → V → Prop
  | .leaf w, v => ∃ p, v = .ref p ∧ H p = some (.tup [.str w])
  | .keep n, v => ∃ p, v = .ref p ∧ H p = some (.tup [.str "keep", .str n])
  | .two w a b, v => ∃ p x y, v = .ref p ∧ H p = some (.tup [.str w, x, y]) ∧ TmAt H a x ∧ TmAt H b y
theorem TmAt.mono {H H' : Hp} (h : ∀ p xs, H p = some (.tup xs) → H' p = some (.tup xs)) : ∀ {t : Tm} {v : V}, TmAt H t v → TmAt H' t v
  | .leaf _, _, ⟨p, e, h1⟩ => ⟨p, e, h _ _ h1⟩
  | .keep _, _, ⟨p, e, h1⟩ => ⟨p, e, h _ _ h1⟩
  | .two _ _ _, _, ⟨p, x, y, e, h1, h2, h3⟩ => ⟨p, x, y, e, h _ _ h1, h2.mono h, h3.mono h⟩
theorem TmAt.same {H H' : Hp} {t : Tm} {v : V} (s : Same H H') (h : TmAt H t v) : TmAt H' t v := h.mono fun _ _ e => s _ _ e
theorem TmAt.but {H H' : Hp} {t : Tm} {v : V} {b : Addr} {o : HO} (e : Z.But b H H') (hb : H b = some o) (n : ∀ xs, o ≠ .tup xs) (h : TmAt H t v) : TmAt H' t v := h.mono fun p xs q => e _ _ (ne_of q hb fun z => n xs z.symm) q
/-- what a reading method promises -/
def PR {α : Type} (C W r tl kd : Addr) (run : Bool) (ks : List (Str × Str)) (H : Hp) (At : Hp → α → V → Prop) (Q : VK) (E : XK) : Res α → Prop
  | .out => False
  | .bad => ∀ H', Z.But r H H' → E (.ref W) none H'
  | .ok a rest => ∀ v H', Z.But r H H' → Rd C H' r tl kd run ks rest → At H' a v → Q v H'
section
variable {α : Type} {C W r tl kd : Addr} {run : Bool} {ks : List (Str × Str)} {H H1 : Hp} {At : Hp → α → V → Prop} {Q : VK} {E : XK} {x : Res α}
theorem PR.back (e : Z.But r H H1) (h : PR C W r tl kd run ks H At Q E x) : PR C W r tl kd run ks H1 At Q E x := by
  cases x with
  | out => exact h
  | bad => exact fun H' b => h H' (e.trans b)
  | ok a rest => exact fun v H' b => h v H' (e.trans b)
end
/-! tests -/
inductive Ts
  | or_ (l : List Ts)
  | and_ (l : List Ts)
  | not_ (t : Ts)
  | br (t : Ts)
  | cmp (g : Str) (a b : Tm)
  | isn (a : Tm)
  | inn (a : Tm) (l : List Tm)
  | flag (n : Str)
  | sum (g n : Str)
def TmsAt (H : Hp) : List Tm → List V → Prop
  | [], vs => vs = []
  | t :: l, vs => ∃ v us, vs = v :: us ∧ TmAt H t v ∧ TmsAt H l us
mutual
def TsAt (H : Hp) : Ts → V → Prop
  | .or_ l, v => ∃ p q vs, v = .ref p ∧ H p = some (.tup [.str "or", .ref q]) ∧ H q = some (.tup vs) ∧ TssAt H l vs
  | .and_ l, v => ∃ p q vs, v = .ref p ∧ H p = some (.tup [.str "and", .ref q]) ∧ H q = some (.tup vs) ∧ TssAt H l vs
  | .not_ t, v => ∃ p x, v = .ref p ∧ H p = some (.tup [.str "not", x]) ∧ TsAt H t x
  | .br t, v => ∃ p x, v = .ref p ∧ H p = some (.tup [.str "brackets", x]) ∧ TsAt H t x
  | .cmp g a b, v => ∃ p x y, v = .ref p ∧ H p = some (.tup [.str "compare", .str g, x, y]) ∧ TmAt H a x ∧ TmAt H b y
  | .isn a, v => ∃ p x, v = .ref p ∧ H p = some (.tup [.str "is nothing", x]) ∧ TmAt H a x
  | .inn a l, v => ∃ p x q vs, v = .ref p ∧ H p = some (.tup [.str "in", x, .ref q]) ∧ TmAt H a x ∧ H q = some (.tup vs) ∧ TmsAt H l vs
  | .flag n, v => ∃ p, v = .ref p ∧ H p = some (.tup [.str "flag", .str n])
  | .sum g n, v => ∃ p, v = .ref p ∧ H p = some (.tup [.str "sum", .str g, .str n])
def TssAt (H : Hp) : List Ts → List V → Prop
  | [], vs => vs = []
  | t :: l, vs => ∃ v us, vs = v :: us ∧ TsAt H t v ∧ TssAt H l us
end
section
variable {H H' : Hp}
theorem TmsAt.mono (h : ∀ p xs, H p = some (.tup xs) → H' p = some (.tup xs)) : ∀ {l : List Tm} {vs : List V}, TmsAt H l vs → TmsAt H' l vs
  | [], _, e => e
  | _ :: _, _, ⟨v, us, e, h1, h2⟩ => ⟨v, us, e, h1.mono h, TmsAt.mono h h2⟩
theorem TmsAt.snoc : ∀ {l : List Tm} {vs : List V} {t : Tm} {v : V}, TmsAt H l vs → TmAt H t v → TmsAt H (l ++ [t]) (vs ++ [v])
  | [], _, t, v, e, h => by
    have e : _ = [] := e
    subst e
    exact ⟨v, [], rfl, h, rfl⟩
  | _ :: l, _, t, v, ⟨u, us, e, h1, h2⟩, h => ⟨u, us ++ [v], by rw [e]; rfl, h1, TmsAt.snoc h2 h⟩
mutual
theorem TsAt.mono (h : ∀ p xs, H p = some (.tup xs) → H' p = some (.tup xs)) : ∀ {t : Ts} {v : V}, TsAt H t v → TsAt H' t v
  | .or_ l, _, hh => by
    unfold TsAt at hh ⊢
    obtain ⟨p, q, vs, e, h1, h2, h3⟩ := hh
    exact ⟨p, q, vs, e, h _ _ h1, h _ _ h2, TssAt.mono h h3⟩
  | .and_ l, _, hh => by
    unfold TsAt at hh ⊢
    obtain ⟨p, q, vs, e, h1, h2, h3⟩ := hh
    exact ⟨p, q, vs, e, h _ _ h1, h _ _ h2, TssAt.mono h h3⟩
  | .not_ t, _, hh => by
    unfold TsAt at hh ⊢
    obtain ⟨p, x, e, h1, h2⟩ := hh
    exact ⟨p, x, e, h _ _ h1, TsAt.mono h h2⟩
  | .br t, _, hh => by
    unfold TsAt at hh ⊢
    obtain ⟨p, x, e, h1, h2⟩ := hh
    exact ⟨p, x, e, h _ _ h1, TsAt.mono h h2⟩
  | .cmp g a b, _, hh => by
    unfold TsAt at hh ⊢
    obtain ⟨p, x, y, e, h1, h2, h3⟩ := hh
    exact ⟨p, x, y, e, h _ _ h1, h2.mono h, h3.mono h⟩
  | .isn a, _, hh => by
    unfold TsAt at hh ⊢
    obtain ⟨p, x, e, h1, h2⟩ := hh
    exact ⟨p, x, e, h _ _ h1, h2.mono h⟩
  | .inn a l, _, hh => by
    unfold TsAt at hh ⊢
    obtain ⟨p, x, q, vs, e, h1, h2, h3, h4⟩ := hh
    exact ⟨p, x, q, vs, e, h _ _ h1, h2.mono h, h _ _ h3, h4.mono h⟩
  | .flag n, _, hh => by
    unfold TsAt at hh ⊢
    obtain ⟨p, e, h1⟩ := hh
    exact ⟨p, e, h _ _ h1⟩
  | .sum g n, _, hh => by
    unfold TsAt at hh ⊢
    obtain ⟨p, e, h1⟩ := hh
    exact ⟨p, e, h _ _ h1⟩
theorem TssAt.mono (h : ∀ p xs, H p = some (.tup xs) → H' p = some (.tup xs)) : ∀ {l : List Ts} {vs : List V}, TssAt H l vs → TssAt H' l vs
  | [], _, hh => by
    unfold TssAt at hh ⊢
    exact hh
  | t :: l, _, hh => by
    unfold TssAt at hh ⊢
    obtain ⟨v, us, e, h1, h2⟩ := hh
    exact ⟨v, us, e, TsAt.mono h h1, TssAt.mono h h2⟩
end
theorem TssAt.one {t : Ts} {v : V} (h : TsAt H t v) : TssAt H [t] [v] := by
  unfold TssAt
  exact ⟨v, [], rfl, h, by unfold TssAt; rfl⟩
theorem TssAt.snoc {t : Ts} {v : V} (h : TsAt H t v) : ∀ {l : List Ts} {vs : List V}, TssAt H l vs → TssAt H (l ++ [t]) (vs ++ [v])
  | [], _, e => by
    unfold TssAt at e
    subst e
    exact TssAt.one h
  | u :: l, _, e => by
    unfold TssAt at e
    obtain ⟨x, us, e, h1, h2⟩ := e
    rw [List.cons_append]
    unfold TssAt
    exact ⟨x, us ++ [v], by rw [e]; rfl, h1, TssAt.snoc h h2⟩
theorem TssAt.len : ∀ {l : List Ts} {vs : List V}, TssAt H l vs → vs.length = l.length
  | [], _, e => by
    unfold TssAt at e
    rw [e]; rfl
  | u :: l, _, e => by
    unfold TssAt at e
    obtain ⟨x, us, e, h1, h2⟩ := e
    rw [e, List.length_cons, List.length_cons, TssAt.len h2]
theorem TmsAt.len : ∀ {l : List Tm} {vs : List V}, TmsAt H l vs → vs.length = l.length
  | [], _, e => by
    have e : _ = [] := e
    rw [e]; rfl
  | u :: l, _, ⟨x, us, e, h1, h2⟩ => by rw [e, List.length_cons, List.length_cons, TmsAt.len h2]
end
/-- further ones, each behind g -/
def sepBy {α : Type} (p : List Str → Res α) (g : Str) : Nat → List Str → Res (List α)
  | 0, r => if r.head? = some g then .out else .ok [] r
  | k + 1, r => if r.head? = some g then (p r.tail).bind fun a r => (sepBy p g k r).bind fun l r => .ok (a :: l) r else .ok [] r
def rdTests (mk : List Ts → Ts) (g : Str) (p : List Str → Res Ts) (r : List Str) : Res Ts :=
  (p r).bind fun a r => (sepBy p g 1000 r).bind fun l r => .ok (if l = [] then a else mk (a :: l)) r
/-- terms in brackets -/
def rdTerms (run : Bool) (ks : List (Str × Str)) (r : List Str) : Res (List Tm) :=
  (expT "(" r).bind fun _ r => (rdTerm run ks 20 r).bind fun a r => (sepBy (rdTerm run ks 20) "," 1000 r).bind fun l r => (expT ")" r).bind fun _ r => .ok (a :: l) r
def comps : List Str := ["<", "<=", ">", ">=", "==", "!="]
def rdSum (r : List Str) : Res Ts := match r with
  | n :: g :: m :: r => if g ∈ (["==", "!="] : List Str) ∧ m = n then .ok (.sum g n) r else .bad
  | _ => .bad
def rdTA (run : Bool) (ks : List (Str × Str)) (r : List Str) : Res Ts := (rdTerm run ks 20 r).bind fun a r => match r with
  | [] => .bad
  | g :: r => if g ∈ comps then (rdTerm run ks 20 r).bind fun b r => .ok (.cmp g a b) r
    else if g = "is" then (expT "nothing" r).bind fun _ r => .ok (.isn a) r
    else if g = "in" then (rdTerms run ks r).bind fun l r => .ok (.inn a l) r else .bad
def rdAtomOf (run : Bool) (ks : List (Str × Str)) (pa pt : List Str → Res Ts) (r : List Str) : Res Ts :=
  if r.head? = some ("not" : Str) then (pa r.tail).bind fun a r => .ok (.not_ a) r
  else if r.head? = some ("(" : Str) then (pt r.tail).bind fun t r => (expT ")" r).bind fun _ r => .ok (.br t) r
  else if kindOf ks (r.headD "") = "flag" then (match r with | [] => .bad | n :: r => .ok (.flag n) r)
  else if kindOf ks (r.headD "") = "sum" then rdSum r
  else rdTA run ks r
def rdAtom (run : Bool) (ks : List (Str × Str)) : Nat → List Str → Res Ts
  | 0 => fun _ => .out
  | n + 1 => rdAtomOf run ks (rdAtom run ks n) (rdTests .or_ "or" (rdTests .and_ "and" (rdAtom run ks n)))
def rdPart (run : Bool) (ks : List (Str × Str)) (n : Nat) : List Str → Res Ts := rdTests .and_ "and" (rdAtom run ks n)
def rdTest (run : Bool) (ks : List (Str × Str)) (n : Nat) : List Str → Res Ts := rdTests .or_ "or" (rdPart run ks n)
def sp_rd {α : Type} (C W : Addr) (At : Hp → α → V → Prop) (p : Bool → List (Str × Str) → List Str → Res α) : Sp := fun vs H Q E => ∃ (r tl kd : Addr) (run : Bool) (ks : List (Str × Str)) (rem : List Str), vs = [.ref r] ∧ Rd C H r tl kd run ks rem ∧ PR C W r tl kd run ks H At Q E (p run ks rem)
theorem k_rd {α : Type} {C W r tl kd : Addr} {run : Bool} {ks : List (Str × Str)} {rem : List Str} {At : Hp → α → V → Prop} {p : Bool → List (Str × Str) → List Str → Res α} {H : Hp} {Q : VK} {E : XK} (h : Rd C H r tl kd run ks rem) (q : PR C W r tl kd run ks H At Q E (p run ks rem)) :
    sp_rd C W At p ([.ref r] ++ []) H Q E := ⟨r, tl, kd, run, ks, rem, rfl, h, q⟩
section
variable {α β : Type} {C W r tl kd : Addr} {run : Bool} {ks : List (Str × Str)} {H : Hp} {At : Hp → α → V → Prop} {At2 : Hp → β → V → Prop} {Q Q2 : VK} {E : XK}
/-- what is read first, and then more -/
theorem PR.first {x : Res α} {f : α → List Str → Res β} (h : PR C W r tl kd run ks H At2 Q2 E (x.bind f)) (k : ∀ a rest v H', x = .ok a rest → Z.But r H H' → Rd C H' r tl kd run ks rest → At H' a v → PR C W r tl kd run ks H' At2 Q2 E (f a rest) → Q v H') : PR C W r tl kd run ks H At Q E x := by
  cases x with
  | out => exact h
  | bad => exact h
  | ok a rest => exact fun v H' b1 h1 h2 => k a rest v H' rfl b1 h1 h2 (PR.back b1 h)
theorem PR.exp {g : Str} {rem : List Str} {f : Unit → List Str → Res β} (h : PR C W r tl kd run ks H At2 Q2 E ((expT g rem).bind f)) : (rem.head? ≠ some g → E (.ref W) none H) ∧ (∀ rest, rem = g :: rest → PR C W r tl kd run ks H At2 Q2 E (f () rest)) := by
  refine ⟨fun c => ?_, fun rest e => ?_⟩
  · rw [expT_bad c] at h
    exact h _ (Z.But.refl _)
  · subst e
    rw [expT_ok] at h
    exact h
theorem Res.assoc {α β γ : Type} (x : Res α) (f : α → List Str → Res β) (g : β → List Str → Res γ) : (x.bind f).bind g = x.bind fun a r => (f a r).bind g := by cases x <;> rfl
theorem But.back2 {b L : Addr} {H0 H1 H2 : Hp} (e : Z.But b H0 H1) (n : H0 L = none) (s : Z.But L H1 H2) : Z.But b H0 H2 := fun a o na h => s a o (ne_of_none h n) (e a o na h)
theorem Rd.fresh {L : Addr} {rem : List Str} (h : Rd C H r tl kd run ks rem) (n : H L = none) : r ≠ L ∧ tl ≠ L ∧ kd ≠ L := by
  obtain ⟨⟨dx, ts, k, h1, h2, h3, h4⟩, h5⟩ := h
  exact ⟨ne_of_none h1 n, ne_of_none h4 n, ne_of_none h5 n⟩
end
theorem ins_tup {C dx : Addr} {fs : List (Str × V)} : ∀ xs, HO.ins C dx fs ≠ .tup xs := fun _ z => by cases z
theorem lst_tup {ys : List V} : ∀ xs, HO.lst ys ≠ .tup xs := fun _ z => by cases z
theorem tup_but {H H' : Hp} {b : Addr} {o : HO} (e : Z.But b H H') (hb : H b = some o) (n : ∀ xs, o ≠ .tup xs) : ∀ p xs, H p = some (.tup xs) → H' p = some (.tup xs) := fun p xs q => e _ _ (ne_of q hb fun z => n xs z.symm) q
/-! statements and answers -/
inductive Act
  | word (w : Str)
  | set_ (n : Str)
  | keep (n : Str) (t : Tm)
  | here (n : Str)
  | place (n m : Str)
  | add (n : Str) (t : Tm)
  | sub (n : Str) (t : Tm)
  | count (n : Str)
inductive Rsl
  | value (t : Tm)
  | one (k n : Str)
  | mean (s c : Str)
def ActAt (H : Hp) : Act → V → Prop
  | .word w, v => ∃ p, v = .ref p ∧ H p = some (.tup [.str w])
  | .set_ n, v => ∃ p, v = .ref p ∧ H p = some (.tup [.str "set", .str n])
  | .keep n t, v => ∃ p x, v = .ref p ∧ H p = some (.tup [.str "keep", .str n, x]) ∧ TmAt H t x
  | .here n, v => ∃ p, v = .ref p ∧ H p = some (.tup [.str "here", .str n])
  | .place n m, v => ∃ p, v = .ref p ∧ H p = some (.tup [.str "place", .str n, .str m])
  | .add n t, v => ∃ p x, v = .ref p ∧ H p = some (.tup [.str "add", .str n, x]) ∧ TmAt H t x
  | .sub n t, v => ∃ p x, v = .ref p ∧ H p = some (.tup [.str "subtract", .str n, x]) ∧ TmAt H t x
  | .count n, v => ∃ p, v = .ref p ∧ H p = some (.tup [.str "count", .str n])
def RslAt (H : Hp) : Rsl → V → Prop
  | .value t, v => ∃ p x, v = .ref p ∧ H p = some (.tup [.str "value", x]) ∧ TmAt H t x
  | .one k n, v => ∃ p, v = .ref p ∧ H p = some (.tup [.str k, .str n])
  | .mean s c, v => ∃ p, v = .ref p ∧ H p = some (.tup [.str "mean", .str s, .str c])
section
variable {H H' : Hp}
theorem ActAt.mono (h : ∀ p xs, H p = some (.tup xs) → H' p = some (.tup xs)) {a : Act} {v : V} (g : ActAt H a v) : ActAt H' a v := by
  cases a with
  | word w => obtain ⟨p, e, g⟩ := g; exact ⟨p, e, h _ _ g⟩
  | set_ n => obtain ⟨p, e, g⟩ := g; exact ⟨p, e, h _ _ g⟩
  | keep n t => obtain ⟨p, x, e, g, g2⟩ := g; exact ⟨p, x, e, h _ _ g, g2.mono h⟩
  | here n => obtain ⟨p, e, g⟩ := g; exact ⟨p, e, h _ _ g⟩
  | place n m => obtain ⟨p, e, g⟩ := g; exact ⟨p, e, h _ _ g⟩
  | add n t => obtain ⟨p, x, e, g, g2⟩ := g; exact ⟨p, x, e, h _ _ g, g2.mono h⟩
  | sub n t => obtain ⟨p, x, e, g, g2⟩ := g; exact ⟨p, x, e, h _ _ g, g2.mono h⟩
  | count n => obtain ⟨p, e, g⟩ := g; exact ⟨p, e, h _ _ g⟩
theorem RslAt.mono (h : ∀ p xs, H p = some (.tup xs) → H' p = some (.tup xs)) {a : Rsl} {v : V} (g : RslAt H a v) : RslAt H' a v := by
  cases a with
  | value t => obtain ⟨p, x, e, g, g2⟩ := g; exact ⟨p, x, e, h _ _ g, g2.mono h⟩
  | one k n => obtain ⟨p, e, g⟩ := g; exact ⟨p, e, h _ _ g⟩
  | mean s c => obtain ⟨p, e, g⟩ := g; exact ⟨p, e, h _ _ g⟩
end
/-- a test, or nothing -/
def TsO (H : Hp) : Option Ts → V → Prop
  | none, v => v = .non
  | some t, v => TsAt H t v
def strO : Option Str → V
  | none => .non
  | some z => .str z
structure Stm where
  act : Act
  test : Option Ts
structure Ans where
  name : Str
  flag : Option Str
  place : Option Str
  res : Rsl
def StAt (C : Addr) (H : Hp) (s : Stm) (v : V) : Prop := ∃ p dx va vt, v = .ref p ∧ H p = some (.ins C dx [("action", va), ("test", vt)]) ∧ ActAt H s.act va ∧ TsO H s.test vt
def AnAt (C : Addr) (H : Hp) (s : Ans) (v : V) : Prop := ∃ p dx vr, v = .ref p ∧ H p = some (.ins C dx [("name", .str s.name), ("flag", strO s.flag), ("place", strO s.place), ("result", vr)]) ∧ RslAt H s.res vr
theorem StAt.same {C : Addr} {H H' : Hp} {s : Stm} {v : V} (e : Same H H') (h : StAt C H s v) : StAt C H' s v := by
  obtain ⟨p, dx, va, vt, h0, h1, h2, h3⟩ := h
  refine ⟨p, dx, va, vt, h0, e _ _ h1, h2.mono fun _ _ z => e _ _ z, ?_⟩
  cases ht : s.test with
  | none => rw [ht] at h3; exact h3
  | some t => rw [ht] at h3; exact TsAt.mono (fun _ _ z => e _ _ z) h3
theorem AnAt.same {C : Addr} {H H' : Hp} {s : Ans} {v : V} (e : Same H H') (h : AnAt C H s v) : AnAt C H' s v := by
  obtain ⟨p, dx, vr, h0, h1, h2⟩ := h
  exact ⟨p, dx, vr, h0, e _ _ h1, h2.mono fun _ _ z => e _ _ z⟩
def rdName (ks : List (Str × Str)) (g : Str) : List Str → Res Str
  | [] => .bad
  | t :: r => if kindOf ks t = g then .ok t r else .bad
def endT {α : Type} (a : α) : List Str → Res α
  | [] => .ok a []
  | _ :: _ => .bad
def rdPlace (run : Bool) (ks : List (Str × Str)) (n : Str) (r : List Str) : Res Act := (expT "=" r).bind fun _ r =>
  if run = true ∧ r.head? = some ("here" : Str) then .ok (.here n) r.tail else (rdName ks "place" r).bind fun m r => .ok (.place n m) r
def rdSumA (run : Bool) (ks : List (Str × Str)) (n : Str) (r : List Str) : Res Act :=
  if r.head? = some ("+=" : Str) then (rdTerm run ks 20 r.tail).bind fun t r => .ok (.add n t) r else (expT "-=" r).bind fun _ r => (rdTerm run ks 20 r).bind fun t r => .ok (.sub n t) r
def rdAct (run : Bool) (ks : List (Str × Str)) : List Str → Res Act
  | [] => .bad
  | t :: r => if t ∈ (["skip", "leave"] : List Str) then .ok (.word t) r
    else if t = "set" then (rdName ks "flag" r).bind fun n r => .ok (.set_ n) r
    else if kindOf ks t = "keep" then (expT "=" r).bind fun _ r => (rdTerm run ks 20 r).bind fun a r => .ok (.keep t a) r
    else if kindOf ks t = "place" then rdPlace run ks t r
    else if kindOf ks t = "sum" then rdSumA run ks t r
    else if kindOf ks t = "count" then (expT "+=" r).bind fun _ r => (expT "1" r).bind fun _ r => .ok (.count t) r
    else .bad
def rdStm (run : Bool) (ks : List (Str × Str)) (r : List Str) : Res Stm := (rdAct run ks r).bind fun a r =>
  if r.head? = some ("if" : Str) then (rdTest run ks 10 r.tail).bind fun t r => endT ⟨a, some t⟩ r else endT ⟨a, none⟩ r
def kinds4 : List (Str × V) := [("flag", .str "truth"), ("sum", .str "sum"), ("count", .str "count"), ("place", .str "place")]
def kinds4L : List Str := ["flag", "sum", "count", "place"]
def rkind (k : Str) : Str := if k = "flag" then "truth" else k
def rdRes (run : Bool) (ks : List (Str × Str)) (r : List Str) : Res Rsl :=
  if kindOf ks (r.headD "") ∉ kinds4L then (rdTerm run ks 20 r).bind fun t r => .ok (.value t) r
  else match r with
    | [] => .bad
    | n :: r => if kindOf ks n = "sum" ∧ r.head? = some ("by" : Str) then (rdName ks "count" r.tail).bind fun c r => .ok (.mean n c) r else .ok (.one (rkind (kindOf ks n)) n) r
def rdTold (ks : List (Str × Str)) (r : List Str) : Res (Option Str × Option Str) :=
  if r.head? = some ("told" : Str) then
    (if r.tail.headD "" ≠ "if" then (rdName ks "place" r.tail).bind fun p r => .ok (some p) r else .ok none r.tail).bind fun p r => (expT "if" r).bind fun _ r => (rdName ks "flag" r).bind fun f r => (expT "else" r).bind fun _ r => .ok (p, some f) r
  else .ok (none, none) r
def rdAns (ks : List (Str × Str)) (r : List Str) : Res Ans := (expT "answer" r).bind fun _ r => match r with
  | [] => .bad
  | n :: r => (expT "=" r).bind fun _ r => (rdTold ks r).bind fun pf r => (rdRes false ks r).bind fun x r => endT ⟨n, pf.2, pf.1, x⟩ r
def sp_rdN {α : Type} (C W : Addr) (At : Hp → α → V → Prop) (p : Bool → List (Str × Str) → Str → List Str → Res α) : Sp := fun vs H Q E => ∃ (n : Str) (r tl kd : Addr) (run : Bool) (ks : List (Str × Str)) (rem : List Str), vs = [.str n, .ref r] ∧ Rd C H r tl kd run ks rem ∧ PR C W r tl kd run ks H At Q E (p run ks n rem)
theorem k_rdN {α : Type} {C W r tl kd : Addr} {run : Bool} {ks : List (Str × Str)} {n : Str} {rem : List Str} {At : Hp → α → V → Prop} {p : Bool → List (Str × Str) → Str → List Str → Res α} {H : Hp} {Q : VK} {E : XK} (h : Rd C H r tl kd run ks rem) (q : PR C W r tl kd run ks H At Q E (p run ks n rem)) :
    sp_rdN C W At p ([.str n, .ref r] ++ []) H Q E := ⟨n, r, tl, kd, run, ks, rem, rfl, h, q⟩
theorem PR.name {α : Type} {C W r tl kd : Addr} {run : Bool} {ks : List (Str × Str)} {H : Hp} {At : Hp → α → V → Prop} {Q : VK} {E : XK} {g : Str} {rem : List Str} {f : Str → List Str → Res α} (h : PR C W r tl kd run ks H At Q E ((rdName ks g rem).bind f)) :
    ((∀ t rest, rem = t :: rest → kindOf ks t ≠ g) → ∀ H', Same H H' ∨ Z.But r H H' → E (.ref W) none H') ∧ (∀ t rest, rem = t :: rest → kindOf ks t = g → PR C W r tl kd run ks H At Q E (f t rest)) := by
  constructor
  · intro c H' b
    have b : Z.But r H H' := b.elim Z.But.same id
    cases rem with
    | nil => exact h _ b
    | cons t rest =>
      have e : rdName ks g (t :: rest) = .bad := if_neg (c t rest rfl)
      rw [e] at h
      exact h _ b
  · intro t rest e c
    subst e
    have e : rdName ks g (t :: rest) = .ok t rest := if_pos c
    rw [e] at h
    exact h
/-! a line as written; names; steps -/
def apart (one other : Str) : Bool := if one = "(" ∨ other ∈ ([")", ","] : List Str) then false else (decide (other ≠ "(") || decide (one ∉ (["min", "max"] : List Str)))
def wrP : Option Str → List Str → List Str
  | _, [] => []
  | none, t :: r => t :: wrP (some t) r
  | some p, t :: r => (if apart p t = true then [(" " : Str), t] else [t]) ++ wrP (some t) r
def lastO : Option Str → List Str → Option Str
  | p, [] => p
  | _, t :: r => lastO (some t) r
theorem wrP_snoc : ∀ (p : Option Str) (l : List Str) (t : Str), wrP p (l ++ [t]) = wrP p l ++ (match lastO p l with | none => [t] | some q => if apart q t = true then [(" " : Str), t] else [t])
  | none, [], t => rfl
  | some p, [], t => by
    show wrP (some p) [t] = [] ++ _
    simp [wrP, lastO]
  | none, a :: l, t => by
    show a :: wrP (some a) (l ++ [t]) = a :: wrP (some a) l ++ _
    rw [wrP_snoc (some a) l t]; rfl
  | some p, a :: l, t => by
    show (if apart p a = true then [(" " : Str), a] else [a]) ++ wrP (some a) (l ++ [t]) = ((if apart p a = true then [(" " : Str), a] else [a]) ++ wrP (some a) l) ++ _
    rw [wrP_snoc (some a) l t, List.append_assoc]; rfl
theorem lastO_take {ts : List Str} {i : Nat} {t : Str} (h : ts[i]? = some t) : ∀ p, lastO p (ts.take (i + 1)) = some t := by
  induction ts generalizing i with
  | nil => cases h
  | cons a r ih =>
    intro p
    cases i with
    | zero => cases h; rfl
    | succ i => exact ih h (some a)
def writtenS (ts : List Str) : Str := Txt.join ("" : Str) (wrP none ts)
theorem wrP_len : ∀ (p : Option Str) (ts : List Str), ((wrP p ts).map (·.length)).sum ≤ (ts.map (·.length)).sum + ts.length
  | _, [] => Nat.zero_le _
  | none, t :: r => by
    have := wrP_len (some t) r
    show (t.length + ((wrP (some t) r).map (·.length)).sum) ≤ (t.length + (r.map (·.length)).sum) + (r.length + 1)
    omega
  | some p, t :: r => by
    have := wrP_len (some t) r
    have e1 : (" " : Str).length = 1 := by decide
    show (((if apart p t = true then [(" " : Str), t] else [t]) ++ wrP (some t) r).map (·.length)).sum ≤ (t.length + (r.map (·.length)).sum) + (r.length + 1)
    rw [List.map_append, List.sum_append]
    split
    · simp only [List.map_cons, List.map_nil, List.sum_cons, List.sum_nil, e1]; omega
    · simp only [List.map_cons, List.map_nil, List.sum_cons, List.sum_nil]; omega
def RES : List Str := ["x", "before", "nothing", "here", "min", "max", "if", "else", "and", "or", "not", "in", "is", "told", "by", "skip", "leave", "set", "keep", "flag", "sum", "count", "place", "steps", "drop", "fill", "hold", "shift", "answer"]
def isName (t : Str) : Bool := Tx.isWordB t && decide (t ∉ RES)
def STP : List Str := ["drop", "fill", "hold", "shift"]
def rdStep : List Str → Res Str
  | [] => .bad
  | t :: r => if t ∈ STP then .ok t r else .bad
/-! a draft -/
structure DSt where
  part : Nat
  kinds : List (Str × Str)
  starts : List Bool
  steps : List Str
  stms : List Stm
  answers : List Ans
  lines : List Str
  slines : List Str
structure DAd where
  d : Addr
  kd : Addr
  s1 : Addr
  s2 : Addr
  s3 : Addr
  s4 : Addr
  s5 : Addr
  s6 : Addr
def DAd.S (a : DAd) : List Addr := [a.d, a.kd, a.s1, a.s2, a.s3, a.s4, a.s5, a.s6]
abbrev dF (a : DAd) (k : Nat) : List (Str × V) := [("part", .int (k : Int)), ("kinds", .ref a.kd), ("starts", .ref a.s1), ("steps", .ref a.s2), ("statements", .ref a.s3), ("answers", .ref a.s4), ("lines", .ref a.s5), ("statement_lines", .ref a.s6)]
def startV : Bool → V
  | true => .int 0
  | false => .non
/-- all but these stand -/
def ButS (S : List Addr) (H H' : Hp) : Prop := ∀ a o, a ∉ S → H a = some o → H' a = some o
section
variable {S : List Addr} {H H1 H2 : Hp} {b : Addr}
theorem ButS.refl : ButS S H H := fun _ _ _ h => h
theorem ButS.trans (x : ButS S H H1) (y : ButS S H1 H2) : ButS S H H2 := fun a o n h => y a o n (x a o n h)
theorem ButS.same (x : Same H H1) : ButS S H H1 := fun a o _ h => x a o h
theorem ButS.but (x : Z.But b H H1) (m : b ∈ S) : ButS S H H1 := fun a o n h => x a o (fun e => n (e ▸ m)) h
theorem ButS.back {H0 : Hp} (s : Same H0 H1) (n : ∀ x ∈ S, H0 x = none) (e : ButS S H1 H2) : Same H0 H2 := fun a o h => e a o (fun m => by rw [n a m] at h; cases h) (s a o h)
/-- what is fresh may change too -/
theorem ButS.fresh (x : ButS S H H1) (n : H b = none) (y : Z.But b H1 H2) : ButS S H H2 := fun a o m h => y a o (ne_of_none h n) (x a o m h)
end
/-- no tuple, no small instance -/
def plainO (o : HO) : Prop := (∀ xs, o ≠ .tup xs) ∧ ∀ C dx fs, o = .ins C dx fs → fs.length = 8
structure DraftAt (C CS CA : Addr) (H : Hp) (a : DAd) (s : DSt) : Prop where
  dx : ∃ dx, H a.d = some (.ins C dx (dF a s.part))
  k : H a.kd = some (.dK (kvsOf s.kinds))
  l1 : H a.s1 = some (.lst (s.starts.map startV))
  l2 : H a.s2 = some (.lst (s.steps.map V.str))
  l3 : ∃ vs, H a.s3 = some (.lst vs) ∧ Paired (StAt CS H) s.stms vs
  l4 : ∃ vs, H a.s4 = some (.lst vs) ∧ Paired (AnAt CA H) s.answers vs
  l5 : H a.s5 = some (.lst (s.lines.map V.str))
  l6 : H a.s6 = some (.lst (s.slines.map V.str))
  nd : a.S.Nodup
theorem paired_imp {α β : Type} {F G : α → β → Prop} {l : List α} {vs : List β} (h : Paired F l vs) (k : ∀ x v, F x v → G x v) : Paired G l vs := by
  induction h with
  | nil => exact .nil
  | cons h _ ih => exact .cons (k _ _ h) ih
theorem paired_snoc {α β : Type} {F : α → β → Prop} {l : List α} {vs : List β} {x : α} {v : β} (h : Paired F l vs) (hx : F x v) : Paired F (l ++ [x]) (vs ++ [v]) := by
  induction h with
  | nil => exact .cons hx .nil
  | cons h _ ih => exact .cons h ih
theorem paired_len {α β : Type} {F : α → β → Prop} {l : List α} {vs : List β} (h : Paired F l vs) : vs.length = l.length := by
  induction h with
  | nil => rfl
  | cons _ _ ih => rw [List.length_cons, List.length_cons, ih]
theorem StAt.keep {C : Addr} {H H' : Hp} {s : Stm} {v : V} (hT : ∀ p xs, H p = some (.tup xs) → H' p = some (.tup xs)) (hI : ∀ p C dx fs, fs.length ≠ 8 → H p = some (.ins C dx fs) → H' p = some (.ins C dx fs)) (h : StAt C H s v) : StAt C H' s v := by
  obtain ⟨p, dx, va, vt, h0, h1, h2, h3⟩ := h
  refine ⟨p, dx, va, vt, h0, hI _ _ _ _ (by show 2 ≠ 8; decide) h1, h2.mono hT, ?_⟩
  cases ht : s.test with
  | none => rw [ht] at h3; exact h3
  | some t => rw [ht] at h3; exact TsAt.mono hT h3
theorem AnAt.keep {C : Addr} {H H' : Hp} {s : Ans} {v : V} (hT : ∀ p xs, H p = some (.tup xs) → H' p = some (.tup xs)) (hI : ∀ p C dx fs, fs.length ≠ 8 → H p = some (.ins C dx fs) → H' p = some (.ins C dx fs)) (h : AnAt C H s v) : AnAt C H' s v := by
  obtain ⟨p, dx, vr, h0, h1, h2⟩ := h
  exact ⟨p, dx, vr, h0, hI _ _ _ _ (by show 4 ≠ 8; decide) h1, h2.mono hT⟩
section
variable {C CS CA : Addr} {H H' : Hp} {a : DAd} {s : DSt}
theorem DraftAt.same (D : DraftAt C CS CA H a s) (e : Same H H') : DraftAt C CS CA H' a s := by
  obtain ⟨⟨dx, h1⟩, h2, h3, h4, ⟨v3, h5, p5⟩, ⟨v4, h6, p6⟩, h7, h8, nd⟩ := D
  exact ⟨⟨dx, e _ _ h1⟩, e _ _ h2, e _ _ h3, e _ _ h4, ⟨v3, e _ _ h5, paired_imp p5 fun _ _ => StAt.same e⟩, ⟨v4, e _ _ h6, paired_imp p6 fun _ _ => AnAt.same e⟩, e _ _ h7, e _ _ h8, nd⟩
theorem DraftAt.plain (D : DraftAt C CS CA H a s) : ∀ x ∈ a.S, ∃ o, H x = some o ∧ plainO o := by
  obtain ⟨⟨dx, h1⟩, h2, h3, h4, ⟨v3, h5, p5⟩, ⟨v4, h6, p6⟩, h7, h8, nd⟩ := D
  have lst : ∀ ys, plainO (.lst ys) := fun ys => ⟨lst_tup, fun _ _ _ z => by cases z⟩
  intro x hx
  unfold DAd.S at hx
  simp only [List.mem_cons, List.not_mem_nil, or_false] at hx
  rcases hx with rfl | rfl | rfl | rfl | rfl | rfl | rfl | rfl
  · exact ⟨_, h1, ins_tup, fun _ _ _ z => by cases z; rfl⟩
  · exact ⟨_, h2, (fun _ z => by cases z), fun _ _ _ z => by cases z⟩
  · exact ⟨_, h3, lst _⟩
  · exact ⟨_, h4, lst _⟩
  · exact ⟨_, h5, lst _⟩
  · exact ⟨_, h6, lst _⟩
  · exact ⟨_, h7, lst _⟩
  · exact ⟨_, h8, lst _⟩
theorem DraftAt.keepT (D : DraftAt C CS CA H a s) (e : ButS a.S H H') : ∀ p xs, H p = some (.tup xs) → H' p = some (.tup xs) := fun p xs h => e p _ (fun m => by
  obtain ⟨o, ho, h1, _⟩ := D.plain p m
  rw [h] at ho; cases ho; exact h1 _ rfl) h
theorem DraftAt.keepI (D : DraftAt C CS CA H a s) (e : ButS a.S H H') : ∀ p C dx fs, fs.length ≠ 8 → H p = some (.ins C dx fs) → H' p = some (.ins C dx fs) := fun p C dx fs n h => e p _ (fun m => by
  obtain ⟨o, ho, _, h1⟩ := D.plain p m
  rw [h] at ho; cases ho; exact n (h1 _ _ _ rfl)) h
theorem DraftAt.stms' (D : DraftAt C CS CA H a s) (e : ButS a.S H H') {l : List Stm} {vs : List V} (h : Paired (StAt CS H) l vs) : Paired (StAt CS H') l vs := paired_imp h fun _ _ => StAt.keep (D.keepT e) (D.keepI e)
theorem DraftAt.anss' (D : DraftAt C CS CA H a s) (e : ButS a.S H H') {l : List Ans} {vs : List V} (h : Paired (AnAt CA H) l vs) : Paired (AnAt CA H') l vs := paired_imp h fun _ _ => AnAt.keep (D.keepT e) (D.keepI e)
theorem DAd.nes (nd : a.S.Nodup) : (a.d ≠ a.kd ∧ a.d ≠ a.s1 ∧ a.d ≠ a.s2 ∧ a.d ≠ a.s3 ∧ a.d ≠ a.s4 ∧ a.d ≠ a.s5 ∧ a.d ≠ a.s6) ∧ (a.kd ≠ a.s1 ∧ a.kd ≠ a.s2 ∧ a.kd ≠ a.s3 ∧ a.kd ≠ a.s4 ∧ a.kd ≠ a.s5 ∧ a.kd ≠ a.s6) ∧ (a.s1 ≠ a.s2 ∧ a.s1 ≠ a.s3 ∧ a.s1 ≠ a.s4 ∧ a.s1 ≠ a.s5 ∧ a.s1 ≠ a.s6) ∧
    (a.s2 ≠ a.s3 ∧ a.s2 ≠ a.s4 ∧ a.s2 ≠ a.s5 ∧ a.s2 ≠ a.s6) ∧ (a.s3 ≠ a.s4 ∧ a.s3 ≠ a.s5 ∧ a.s3 ≠ a.s6) ∧ (a.s4 ≠ a.s5 ∧ a.s4 ≠ a.s6) ∧ a.s5 ≠ a.s6 := by
  unfold DAd.S at nd
  simp only [List.nodup_cons, List.mem_cons, List.not_mem_nil, or_false, not_or, List.nodup_nil, and_true, not_false_eq_true] at nd
  exact nd
theorem DraftAt.set_d (D : DraftAt C CS CA H a s) (b : Z.But a.d H H') {dx : Addr} {k : Nat} (hn : H' a.d = some (.ins C dx (dF a k))) : DraftAt C CS CA H' a { s with part := k } := by
  obtain ⟨⟨n01, n02, n03, n04, n05, n06, n07⟩, ⟨n12, n13, n14, n15, n16, n17⟩, ⟨n23, n24, n25, n26, n27⟩, ⟨n34, n35, n36, n37⟩, ⟨n45, n46, n47⟩, ⟨n56, n57⟩, n67⟩ := DAd.nes D.nd
  have e : ButS a.S H H' := ButS.but b (by unfold DAd.S; simp)
  have D0 := D
  obtain ⟨⟨dx, h0⟩, h1, h2, h3, ⟨v3, h4, p4⟩, ⟨v4, h5, p5⟩, h6, h7, nd⟩ := D
  exact ⟨⟨_, hn⟩, b _ _ n01.symm h1, b _ _ n02.symm h2, b _ _ n03.symm h3, ⟨v3, b _ _ n04.symm h4, D0.stms' e p4⟩, ⟨v4, b _ _ n05.symm h5, D0.anss' e p5⟩, b _ _ n06.symm h6, b _ _ n07.symm h7, nd⟩
theorem DraftAt.set_kd (D : DraftAt C CS CA H a s) (b : Z.But a.kd H H') {ks : List (Str × Str)} (hn : H' a.kd = some (.dK (kvsOf ks))) : DraftAt C CS CA H' a { s with kinds := ks } := by
  obtain ⟨⟨n01, n02, n03, n04, n05, n06, n07⟩, ⟨n12, n13, n14, n15, n16, n17⟩, ⟨n23, n24, n25, n26, n27⟩, ⟨n34, n35, n36, n37⟩, ⟨n45, n46, n47⟩, ⟨n56, n57⟩, n67⟩ := DAd.nes D.nd
  have e : ButS a.S H H' := ButS.but b (by unfold DAd.S; simp)
  have D0 := D
  obtain ⟨⟨dx, h0⟩, h1, h2, h3, ⟨v3, h4, p4⟩, ⟨v4, h5, p5⟩, h6, h7, nd⟩ := D
  exact ⟨⟨dx, b _ _ n01 h0⟩, hn, b _ _ n12.symm h2, b _ _ n13.symm h3, ⟨v3, b _ _ n14.symm h4, D0.stms' e p4⟩, ⟨v4, b _ _ n15.symm h5, D0.anss' e p5⟩, b _ _ n16.symm h6, b _ _ n17.symm h7, nd⟩
theorem DraftAt.set_s1 (D : DraftAt C CS CA H a s) (b : Z.But a.s1 H H') {l : List Bool} (hn : H' a.s1 = some (.lst (l.map startV))) : DraftAt C CS CA H' a { s with starts := l } := by
  obtain ⟨⟨n01, n02, n03, n04, n05, n06, n07⟩, ⟨n12, n13, n14, n15, n16, n17⟩, ⟨n23, n24, n25, n26, n27⟩, ⟨n34, n35, n36, n37⟩, ⟨n45, n46, n47⟩, ⟨n56, n57⟩, n67⟩ := DAd.nes D.nd
  have e : ButS a.S H H' := ButS.but b (by unfold DAd.S; simp)
  have D0 := D
  obtain ⟨⟨dx, h0⟩, h1, h2, h3, ⟨v3, h4, p4⟩, ⟨v4, h5, p5⟩, h6, h7, nd⟩ := D
  exact ⟨⟨dx, b _ _ n02 h0⟩, b _ _ n12 h1, hn, b _ _ n23.symm h3, ⟨v3, b _ _ n24.symm h4, D0.stms' e p4⟩, ⟨v4, b _ _ n25.symm h5, D0.anss' e p5⟩, b _ _ n26.symm h6, b _ _ n27.symm h7, nd⟩
theorem DraftAt.set_s2 (D : DraftAt C CS CA H a s) (b : Z.But a.s2 H H') {l : List Str} (hn : H' a.s2 = some (.lst (l.map V.str))) : DraftAt C CS CA H' a { s with steps := l } := by
  obtain ⟨⟨n01, n02, n03, n04, n05, n06, n07⟩, ⟨n12, n13, n14, n15, n16, n17⟩, ⟨n23, n24, n25, n26, n27⟩, ⟨n34, n35, n36, n37⟩, ⟨n45, n46, n47⟩, ⟨n56, n57⟩, n67⟩ := DAd.nes D.nd
  have e : ButS a.S H H' := ButS.but b (by unfold DAd.S; simp)
  have D0 := D
  obtain ⟨⟨dx, h0⟩, h1, h2, h3, ⟨v3, h4, p4⟩, ⟨v4, h5, p5⟩, h6, h7, nd⟩ := D
  exact ⟨⟨dx, b _ _ n03 h0⟩, b _ _ n13 h1, b _ _ n23 h2, hn, ⟨v3, b _ _ n34.symm h4, D0.stms' e p4⟩, ⟨v4, b _ _ n35.symm h5, D0.anss' e p5⟩, b _ _ n36.symm h6, b _ _ n37.symm h7, nd⟩
theorem DraftAt.set_s5 (D : DraftAt C CS CA H a s) (b : Z.But a.s5 H H') {l : List Str} (hn : H' a.s5 = some (.lst (l.map V.str))) : DraftAt C CS CA H' a { s with lines := l } := by
  obtain ⟨⟨n01, n02, n03, n04, n05, n06, n07⟩, ⟨n12, n13, n14, n15, n16, n17⟩, ⟨n23, n24, n25, n26, n27⟩, ⟨n34, n35, n36, n37⟩, ⟨n45, n46, n47⟩, ⟨n56, n57⟩, n67⟩ := DAd.nes D.nd
  have e : ButS a.S H H' := ButS.but b (by unfold DAd.S; simp)
  have D0 := D
  obtain ⟨⟨dx, h0⟩, h1, h2, h3, ⟨v3, h4, p4⟩, ⟨v4, h5, p5⟩, h6, h7, nd⟩ := D
  exact ⟨⟨dx, b _ _ n06 h0⟩, b _ _ n16 h1, b _ _ n26 h2, b _ _ n36 h3, ⟨v3, b _ _ n46 h4, D0.stms' e p4⟩, ⟨v4, b _ _ n56 h5, D0.anss' e p5⟩, hn, b _ _ n67.symm h7, nd⟩
theorem DraftAt.set_s6 (D : DraftAt C CS CA H a s) (b : Z.But a.s6 H H') {l : List Str} (hn : H' a.s6 = some (.lst (l.map V.str))) : DraftAt C CS CA H' a { s with slines := l } := by
  obtain ⟨⟨n01, n02, n03, n04, n05, n06, n07⟩, ⟨n12, n13, n14, n15, n16, n17⟩, ⟨n23, n24, n25, n26, n27⟩, ⟨n34, n35, n36, n37⟩, ⟨n45, n46, n47⟩, ⟨n56, n57⟩, n67⟩ := DAd.nes D.nd
  have e : ButS a.S H H' := ButS.but b (by unfold DAd.S; simp)
  have D0 := D
  obtain ⟨⟨dx, h0⟩, h1, h2, h3, ⟨v3, h4, p4⟩, ⟨v4, h5, p5⟩, h6, h7, nd⟩ := D
  exact ⟨⟨dx, b _ _ n07 h0⟩, b _ _ n17 h1, b _ _ n27 h2, b _ _ n37 h3, ⟨v3, b _ _ n47 h4, D0.stms' e p4⟩, ⟨v4, b _ _ n57 h5, D0.anss' e p5⟩, b _ _ n67 h6, hn, nd⟩
theorem DraftAt.set_s3 (D : DraftAt C CS CA H a s) (b : Z.But a.s3 H H') {x : Stm} {v : V} {vs : List V} (hv : H a.s3 = some (.lst vs)) (hx : StAt CS H' x v) (hn : H' a.s3 = some (.lst (vs ++ [v]))) : DraftAt C CS CA H' a { s with stms := s.stms ++ [x] } := by
  obtain ⟨⟨n01, n02, n03, n04, n05, n06, n07⟩, ⟨n12, n13, n14, n15, n16, n17⟩, ⟨n23, n24, n25, n26, n27⟩, ⟨n34, n35, n36, n37⟩, ⟨n45, n46, n47⟩, ⟨n56, n57⟩, n67⟩ := DAd.nes D.nd
  have e : ButS a.S H H' := ButS.but b (by unfold DAd.S; simp)
  have D0 := D
  obtain ⟨⟨dx, h0⟩, h1, h2, h3, ⟨v3, h4, p4⟩, ⟨v4, h5, p5⟩, h6, h7, nd⟩ := D
  exact ⟨⟨dx, b _ _ n04 h0⟩, b _ _ n14 h1, b _ _ n24 h2, b _ _ n34 h3, ⟨_, hn, by rw [hv] at h4; cases h4; exact paired_snoc (D0.stms' e p4) hx⟩, ⟨v4, b _ _ n45.symm h5, D0.anss' e p5⟩, b _ _ n46.symm h6, b _ _ n47.symm h7, nd⟩
theorem DraftAt.set_s4 (D : DraftAt C CS CA H a s) (b : Z.But a.s4 H H') {x : Ans} {v : V} {vs : List V} (hv : H a.s4 = some (.lst vs)) (hx : AnAt CA H' x v) (hn : H' a.s4 = some (.lst (vs ++ [v]))) : DraftAt C CS CA H' a { s with answers := s.answers ++ [x] } := by
  obtain ⟨⟨n01, n02, n03, n04, n05, n06, n07⟩, ⟨n12, n13, n14, n15, n16, n17⟩, ⟨n23, n24, n25, n26, n27⟩, ⟨n34, n35, n36, n37⟩, ⟨n45, n46, n47⟩, ⟨n56, n57⟩, n67⟩ := DAd.nes D.nd
  have e : ButS a.S H H' := ButS.but b (by unfold DAd.S; simp)
  have D0 := D
  obtain ⟨⟨dx, h0⟩, h1, h2, h3, ⟨v3, h4, p4⟩, ⟨v4, h5, p5⟩, h6, h7, nd⟩ := D
  exact ⟨⟨dx, b _ _ n05 h0⟩, b _ _ n15 h1, b _ _ n25 h2, b _ _ n35 h3, ⟨v3, b _ _ n45 h4, D0.stms' e p4⟩, ⟨_, hn, by rw [hv] at h5; cases h5; exact paired_snoc (D0.anss' e p5) hx⟩, b _ _ n56.symm h6, b _ _ n57.symm h7, nd⟩
end
/-- what a method of a draft promises -/
def PD (C CS CA W : Addr) (H : Hp) (a : DAd) (Q : VK) (E : XK) : Res DSt → Prop
  | .out => False
  | .bad => ∀ H', ButS a.S H H' → E (.ref W) none H'
  | .ok s _ => ∀ H', ButS a.S H H' → DraftAt C CS CA H' a s → Q .non H'
theorem PD.back {C CS CA W : Addr} {H H1 : Hp} {a : DAd} {Q : VK} {E : XK} {x : Res DSt} (e : ButS a.S H H1) (h : PD C CS CA W H a Q E x) : PD C CS CA W H1 a Q E x := by
  cases x with
  | out => exact h
  | bad => exact fun H' b => h H' (e.trans b)
  | ok s r => exact fun H' b => h H' (e.trans b)
def KND : List Str := ["keep", "flag", "sum", "count", "place"]
def partOf (t : Str) : Nat := if t ∈ KND then 0 else if t = "steps" then 1 else if t = "answer" then 3 else 2
def partsKV : List (Str × V) := [("keep", .int 0), ("flag", .int 0), ("sum", .int 0), ("count", .int 0), ("place", .int 0), ("steps", .int 1), ("answer", .int 3)]
theorem parts_at (t : Str) : (partsKV.lookup t).getD (.int 2) = .int (partOf t : Int) := by
  by_cases h1 : t = "keep"
  · subst h1; decide +kernel
  by_cases h2 : t = "flag"
  · subst h2; decide +kernel
  by_cases h3 : t = "sum"
  · subst h3; decide +kernel
  by_cases h4 : t = "count"
  · subst h4; decide +kernel
  by_cases h5 : t = "place"
  · subst h5; decide +kernel
  by_cases h6 : t = "steps"
  · subst h6; decide +kernel
  by_cases h7 : t = "answer"
  · subst h7; decide +kernel
  have b1 : (t == ("keep" : Str)) = false := by simpa using h1
  have b2 : (t == ("flag" : Str)) = false := by simpa using h2
  have b3 : (t == ("sum" : Str)) = false := by simpa using h3
  have b4 : (t == ("count" : Str)) = false := by simpa using h4
  have b5 : (t == ("place" : Str)) = false := by simpa using h5
  have b6 : (t == ("steps" : Str)) = false := by simpa using h6
  have b7 : (t == ("answer" : Str)) = false := by simpa using h7
  have nk : t ∉ KND := by unfold KND; simp [h1, h2, h3, h4, h5]
  unfold partOf partsKV
  rw [if_neg nk, if_neg h6, if_neg h7]
  simp [List.lookup, b1, b2, b3, b4, b5, b6, b7]
namespace Z
open PySem PySem.Spec PyProof.Rows L2
section
variable {σ : L2.St} {H : Hp} {Q : VK} {ta tb : TE} {a : Addr} {g : Str} {kvs : List (Key × V)}
def dinR (y x : V) (H : Hp) (Q : VK) : Prop := ∃ a o, x = .ref a ∧ DGet H a y o ∧ Q (.bl o.isSome) H
theorem r_din (h : ta σ H fun y H1 => tb σ H1 fun x H2 => dinR y x H2 Q) : tDIn ta tb σ H Q := h
theorem r_dinV (e : H a = some (.dK kvs)) (h : Q (.bl (valV kvs (.inr g)).isSome) H) : dinR (.str g) (.ref a) H Q := ⟨a, _, rfl, DGet.k (k := .inr g) e, h⟩
theorem r_dpL {v : V} {N : Hp → Prop} (e : H a = some (.dK kvs)) (l : kvs.length ≤ 1000000) (k : ∀ H1, But a H H1 → H1 a = some (.dK (putK kvs (.inr g) v)) → N H1) : dpR (.ref a) (.str g) v H N :=
  ⟨a, _, rfl, DPut.k (k := .inr g) e (Nat.lt_of_le_of_lt l (by decide)), k _ But.upd upd_same⟩
end
end Z
local macro_rules | `(tactic| walk_at "call") => `(tactic| first
  | with_reducible refine Z.r_din ?_)
theorem kvs_in (ks : List (Str × Str)) (z : Str) : (valV (kvsOf ks) (.inr z)).isSome = decide (z ∈ ks.map (·.1)) := by
  induction ks with
  | nil => rfl
  | cons q r ih =>
    obtain ⟨a, b⟩ := q
    unfold kvsOf valV at ih ⊢
    rw [List.map_cons, List.find?_cons, List.map_cons]
    by_cases c : z = a
    · subst c
      rw [show decide ((Sum.inr z : Key) = Sum.inr z) = true from decide_eq_true rfl]
      rw [decide_eq_true (show z ∈ z :: r.map (·.1) from List.mem_cons_self)]
      rfl
    · rw [show decide ((Sum.inr a : Key) = Sum.inr z) = false from decide_eq_false fun h => c (Sum.inr.inj h).symm]
      dsimp only
      rw [ih]
      by_cases m : z ∈ r.map (·.1)
      · rw [decide_eq_true m, decide_eq_true (List.mem_cons_of_mem _ m)]
      · rw [decide_eq_false m, decide_eq_false fun h => (List.mem_cons.mp h).elim c m]
theorem kvs_put {ks : List (Str × Str)} {n k : Str} (h : n ∉ ks.map (·.1)) : putK (kvsOf ks) (.inr n) (.str k) = kvsOf (ks ++ [(n, k)]) := by
  unfold putK
  rw [if_neg]
  · unfold kvsOf; rw [List.map_append]; rfl
  · intro e
    obtain ⟨kv, hm, hk⟩ := List.any_eq_true.mp e
    unfold kvsOf at hm
    obtain ⟨q, hq, rfl⟩ := List.mem_map.mp hm
    have : q.1 = n := Sum.inr.inj (of_decide_eq_true hk)
    exact h (by rw [← this]; exact List.mem_map_of_mem hq)
/-- of tokens, on a draft -/
def sp_dr (C CS CA W : Addr) (f : DSt → List Str → Res DSt) : Sp := fun vs H Q E => ∃ (a : DAd) (s : DSt) (t0 : Addr) (ts : List Str), vs = [.ref a.d, .ref t0] ∧ DraftAt C CS CA H a s ∧ H t0 = some (.lst (ts.map V.str)) ∧ (∀ t ∈ ts, t.length ≤ 100000) ∧ s.kinds.length ≤ 100000 ∧ s.starts.length ≤ 100000 ∧ s.steps.length ≤ 50000 ∧ s.answers.length ≤ 100000 ∧ PD C CS CA W H a Q E (f s ts)
theorem k_dr {C CS CA W t0 : Addr} {a : DAd} {s : DSt} {ts : List Str} {f : DSt → List Str → Res DSt} {H : Hp} {Q : VK} {E : XK} (D : DraftAt C CS CA H a s) (ht : H t0 = some (.lst (ts.map V.str))) (lt : ∀ t ∈ ts, t.length ≤ 100000) (l1 : s.kinds.length ≤ 100000) (l2 : s.starts.length ≤ 100000) (l3 : s.steps.length ≤ 50000) (l4 : s.answers.length ≤ 100000)
    (q : PD C CS CA W H a Q E (f s ts)) : sp_dr C CS CA W f ([.ref a.d, .ref t0] ++ []) H Q E := ⟨a, s, t0, ts, rfl, D, ht, lt, l1, l2, l3, l4, q⟩
def rdReg (s : DSt) (ts : List Str) : Res DSt := match ts with
  | kind :: name :: r => if isName name = true ∧ name ∉ s.kinds.map (·.1) then
      (if kind = "keep" ∧ r.head? = some ("=" : Str) then (expT "0" r.tail).bind fun _ r => .ok true r else .ok false r).bind fun st r =>
        endT { s with kinds := s.kinds ++ [(name, kind)], starts := if kind = "keep" then s.starts ++ [st] else s.starts } r
    else .bad
  | _ => .bad
theorem StAt.butR {C RC r dr tl kd : Addr} {run : Bool} {k : Nat} {H H' : Hp} {s : Stm} {v : V} (hr : H r = some (.ins RC dr (rdF tl kd run k))) (b : Z.But r H H') (h : StAt C H s v) : StAt C H' s v := by
  obtain ⟨p, dx, va, vt, h0, h1, h2, h3⟩ := h
  have hT := tup_but b hr ins_tup
  refine ⟨p, dx, va, vt, h0, b _ _ (fun e => by rw [e, hr] at h1; simp at h1) h1, h2.mono hT, ?_⟩
  cases ht : s.test with
  | none => rw [ht] at h3; exact h3
  | some t => rw [ht] at h3; exact TsAt.mono hT h3
theorem AnAt.butR {C RC r dr tl kd : Addr} {run : Bool} {k : Nat} {H H' : Hp} {s : Ans} {v : V} (hr : H r = some (.ins RC dr (rdF tl kd run k))) (b : Z.But r H H') (h : AnAt C H s v) : AnAt C H' s v := by
  obtain ⟨p, dx, vr, h0, h1, h2⟩ := h
  exact ⟨p, dx, vr, h0, b _ _ (fun e => by rw [e, hr] at h1; simp at h1) h1, h2.mono (tup_but b hr ins_tup)⟩
theorem DraftAt.butR {C CS CA RC r tl kd : Addr} {run : Bool} {ks : List (Str × Str)} {rem : List Str} {H H' : Hp} {a : DAd} {s : DSt} (D : DraftAt C CS CA H a s) (hR : Rd RC H r tl kd run ks rem) (b : Z.But r H H') : DraftAt C CS CA H' a s := by
  obtain ⟨dr, ts, k, hr, _⟩ := hR.ex
  have nr : ∀ x ∈ a.S, x ≠ r := fun x hx e => by
    obtain ⟨o, ho, _, h1⟩ := D.plain x hx
    rw [e, hr] at ho
    cases ho
    exact absurd (show (4 : Nat) = 8 from h1 _ _ _ rfl) (by decide)
  unfold DAd.S at nr
  simp only [List.forall_mem_cons] at nr
  obtain ⟨n0, n1, n2, n3, n4, n5, n6, n7, _⟩ := nr
  obtain ⟨⟨dx, h0⟩, h1, h2, h3, ⟨v3, h4, p4⟩, ⟨v4, h5, p5⟩, h6, h7, nd⟩ := D
  exact ⟨⟨dx, b _ _ n0 h0⟩, b _ _ n1 h1, b _ _ n2 h2, b _ _ n3 h3, ⟨v3, b _ _ n4 h4, paired_imp p4 fun _ _ => StAt.butR hr b⟩, ⟨v4, b _ _ n5 h5, paired_imp p5 fun _ _ => AnAt.butR hr b⟩, b _ _ n6 h6, b _ _ n7 h7, nd⟩
def rdStepsL (s : DSt) (ts : List Str) : Res DSt := (expT "steps" ts).bind fun _ r => (rdStep r).bind fun g r => (sepBy rdStep "," 1000 r).bind fun l r => endT { s with steps := s.steps ++ g :: l } r
def rdAnsL (s : DSt) (ts : List Str) : Res DSt := (rdAns s.kinds ts).bind fun x _ => if isName x.name = true ∧ x.name ∉ s.answers.map (·.name) then .ok { s with answers := s.answers ++ [x] } [] else .bad
theorem Res.bind_ok {α β : Type} {x : Res α} {f : α → List Str → Res β} {b : β} {r : List Str} (h : x.bind f = .ok b r) : ∃ a r', x = .ok a r' ∧ f a r' = .ok b r := by
  cases x with
  | out => cases h
  | bad => cases h
  | ok a r' => exact ⟨a, r', rfl, h⟩
theorem paired_get {α β : Type} {F : α → β → Prop} {l : List α} {vs : List β} (h : Paired F l vs) : ∀ {i : Nat} {x : α} {v : β}, l[i]? = some x → vs[i]? = some v → F x v := by
  induction h with
  | nil => intro i x v e; cases e
  | cons h _ ih =>
    intro i x v e1 e2
    cases i with
    | zero => cases e1; cases e2; exact h
    | succ i => exact ih e1 e2
theorem endT_ok {α : Type} {a b : α} {r r' : List Str} (h : endT a r = .ok b r') : b = a := by
  cases r with
  | nil => cases h; rfl
  | cons _ _ => cases h
theorem rdAns_name {ks : List (Str × Str)} {ts : List Str} {x : Ans} {rest : List Str} (h : rdAns ks ts = .ok x rest) : x.name ∈ ts := by
  unfold rdAns at h
  obtain ⟨_, r1, e1, h⟩ := Res.bind_ok h
  cases ts with
  | nil => cases e1
  | cons t r =>
    have e1 : (if t = "answer" then Res.ok () r else .bad) = .ok () r1 := e1
    split at e1
    · obtain rfl : r = r1 := by injection e1
      cases r with
      | nil => cases h
      | cons n r =>
        have h : (expT "=" r).bind _ = _ := h
        obtain ⟨_, r2, _, h⟩ := Res.bind_ok h
        obtain ⟨pf, r3, _, h⟩ := Res.bind_ok h
        obtain ⟨y, r4, _, h⟩ := Res.bind_ok h
        rw [endT_ok h]
        simp
    · cases e1
namespace Tk
open PySem PySem.Spec PyProof.Rows L2 Tx
theorem toksF_len {ls : List Nat} : ∀ {n : Nat} {l : List Nat} {ts : List (List Nat)}, toksF ls n l = some ts → (ts.map List.length).sum ≤ l.length ∧ ts.length ≤ l.length
  | n, [], ts, h => by
    rw [toksF_nil] at h
    cases h
    exact ⟨Nat.le_refl _, Nat.le_refl _⟩
  | 0, _ :: _, _, h => by cases h
  | n + 1, c :: r, ts, h => by
    unfold toksF at h
    split at h
    · have := toksF_len h
      exact ⟨Nat.le_trans this.1 (Nat.le_succ _), Nat.le_trans this.2 (Nat.le_succ _)⟩
    · cases ht : tokAt ls (c :: r) with
      | none => rw [ht] at h; cases h
      | some t =>
        rw [ht] at h
        obtain ⟨us, hu, rfl⟩ := Option.map_eq_some_iff.mp h
        have := toksF_len hu
        have ne := tokAt_ne ht
        have pre := (tokAt_pre ht).length_le
        rw [List.length_drop] at this
        have l1 : 1 ≤ t.length := by cases t with
          | nil => exact absurd rfl ne
          | cons _ _ => exact Nat.succ_le_succ (Nat.zero_le _)
        rw [List.map_cons, List.sum_cons, List.length_cons (a := t)]
        omega
end Tk
def LET : Str := "abcdefghijklmnopqrstuvwxyz"
def toksS (line : Str) : Option (List Str) := (Tk.toks (Tx.tl LET) (Tx.tl line)).map fun ts => ts.map Tk.mk
theorem toksS_len {line : Str} {ts : List Str} (h : toksS line = some ts) : (ts.map (·.length)).sum ≤ line.length ∧ ts.length ≤ line.length := by
  obtain ⟨us, hu, rfl⟩ := Option.map_eq_some_iff.mp h
  have := Tk.toksF_len hu
  rw [List.map_map, List.length_map, Tx.tl_len line]
  have e : (us.map ((fun x : Str => x.length) ∘ Tk.mk)) = us.map List.length := List.map_congr_left fun t _ => Tx.tl_len (Tk.mk t)
  rw [e]
  exact this
theorem mem_sum {ts : List Str} {t : Str} (h : t ∈ ts) : t.length ≤ (ts.map (·.length)).sum := by
  induction ts with
  | nil => cases h
  | cons a r ih =>
    rw [List.map_cons, List.sum_cons]
    rcases List.mem_cons.mp h with rfl | h
    · omega
    · have := ih h; omega
def rdBody (s : DSt) (t : Str) (ts : List Str) : Res DSt :=
  if t ∈ KND then rdReg s ts else if t = "steps" then rdStepsL s ts else if t = "answer" then rdAnsL s ts
  else (rdStm true s.kinds ts).bind fun x _ => .ok { s with stms := s.stms ++ [x], slines := s.slines ++ [writtenS ts] } []
def rdLine (s : DSt) (line : Str) : Res DSt := match toksS line with
  | none => .bad
  | some [] => .bad
  | some (t :: r) => if partOf t < s.part ∨ (t = "steps" ∧ s.steps ≠ []) then .bad else
      (rdBody { s with part := partOf t } t (t :: r)).bind fun s _ => .ok { s with lines := s.lines ++ [writtenS (t :: r)] } []
namespace Z
open PySem PySem.Spec PyProof.Rows L2
section
variable {σ : L2.St} {H : Hp} {Q : VK} {te td : TE} {g : TG} {tt : TT} {vs : List Nat}
theorem r_lock {d : Addr} {u : HO} (e : H d = some u) (m : Mut (some u)) (h : ∀ od H1, (∀ a o, a ≠ d → H a = some o → H1 a = some o) → H1 d = some (.frz od u) → (∀ a, H1 a = none → H a = none) → te σ H1 fun v H' => H' d = some (.frz od u) ∧ Q v (L2.upd H' d u)) : tLockE te σ H Q :=
  ⟨d, u, e, m, fun od => h od _ (fun a o n q => by rw [upd_ne n]; exact q) upd_same fun a q => by
    by_cases c : a = d
    · rw [c, upd_same] at q; cases q
    · rw [upd_ne c] at q; exact q⟩
/-- [.. for k, v in d.items() ..] while d is locked -/
def litR (g : TG) (tt : TT) (te : TE) (vs : List Nat) (σ : L2.St) (Q : VK) : VK := fun x H1 => ∃ d o kvs, x = .ref d ∧ H1 d = some (.frz o (.dK kvs)) ∧ ∀ D, H1 D = none → ∃ W : Nat → Nat → Hp → Prop, (∃ m, W 0 m (L2.upd H1 D (.lst []))) ∧ ∀ i m H, W i m H →
  ((Iti d o kvs).stop i H ∧ Q (.ref D) H) ∨ ((Iti d o kvs).go i H ∧ ∃ Nx : Hp → Prop, (∀ H', Nx H' → ∃ m', m' < m ∧ W (i + 1) m' H') ∧ ∀ x H', (Iti d o kvs).yld i H x H' → g x (wipe σ vs) H' fun σ2 H2 => wipe σ2 vs = wipe σ vs ∧ tt σ2 H2 fun b H3 =>
    if b = true then te σ2 H3 fun y H4 => ∃ acc, H4 D = some (.lst acc) ∧ acc.length < sizeLine ∧ Nx (L2.upd H4 D (.lst (acc ++ [y]))) else Nx H3)
theorem r_lcIt (h : td σ H (litR g tt te vs σ Q)) : tLc (iItems td) g tt te vs σ H Q := h
theorem r_lcItems {d : Addr} {o : Obj} {kvs : List (Key × V)} (hd0 : H d = some (.frz o (.dK kvs))) (Pv : Addr → Nat → Hp → Prop)
    (hs : ∀ D H1, H D = none → Same H H1 → H1 D = some (.lst []) → Pv D 0 H1) (hG : ∀ D i H', H D = none → Pv D i H' → H' d = some (.frz o (.dK kvs)))
    (ht : ∀ D (i : Nat) k v H' T H2, H D = none → kvs[i]? = some (k, v) → Pv D i H' → H' T = none → Same H' H2 → H2 T = some (.tup [kV k, v]) → g (.ref T) (wipe σ vs) H2 fun σ2 H3 => wipe σ2 vs = wipe σ vs ∧ tt σ2 H3 fun b H4 =>
      if b = true then te σ2 H4 (apR D (Pv D (i + 1))) else Pv D (i + 1) H4)
    (hq : ∀ D H', H D = none → Pv D kvs.length H' → Q (.ref D) H') : litR g tt te vs σ Q (.ref d) H := by
  refine ⟨d, o, kvs, rfl, hd0, fun D nD => ?_⟩
  refine lc_it (walk_items) (Pv D) (hs D _ nD (same_upd nD) upd_same) (fun i H' _ p => hG D i H' nD p) (fun i x H' H2 hi p y => ?_) (fun H' p => hq D H' nD p)
  obtain ⟨T, k, v, rfl, nT, rfl, e1, e2⟩ := y
  dsimp only at e1 e2
  cases hu : kvs[i]? with
  | none => rw [hu] at e1; cases e1
  | some kv =>
    rw [hu] at e1 e2
    cases e1
    cases e2
    obtain ⟨k, v⟩ := kv
    exact ht D i k v H' T _ nD hu p nT (same_upd nT) upd_same
end
end Z
def namesOf (s : DSt) (g : Str) : List Str := (s.kinds.filter fun q => decide (q.2 = g)).map (·.1)
def DSt0 : DSt := ⟨0, [], [], [], [], [], [], []⟩
local macro_rules | `(tactic| walk_at "call") => `(tactic| first
  | with_reducible refine Z.r_methAt ?_
  | with_reducible refine Z.r_tryX ?_
  | ((with_reducible refine' Z.r_mtAtV ?e ?l ?_); (case e => walk_at "hp"); (case l => exact rfl)))
/-- how a text's lines are read, one behind the other -/
inductive DR
  | out
  | bad (k : Nat)
  | ok (s : DSt)
def rdFrom : Nat → DSt → List Str → DR
  | _, s, [] => .ok s
  | k, s, l :: r => match rdLine s l with
    | .out => .out
    | .bad => .bad k
    | .ok s' _ => rdFrom (k + 1) s' r
def linesOf (x : Str) : List Str := Txt.split x ("\n" : Str)
def rdDraft (x : Str) : DR := match rdFrom 0 DSt0 (linesOf x) with
  | .ok s => if s.answers = [] then .bad s.lines.length else .ok s
  | z => z
theorem sepBy_len {α : Type} {p : List Str → Res α} {g : Str} : ∀ {k : Nat} {r : List Str} {l : List α} {r' : List Str}, sepBy p g k r = .ok l r' → l.length ≤ k
  | 0, r, l, r', h => by
    unfold sepBy at h
    split at h
    · cases h
    · cases h; exact Nat.le_refl _
  | k + 1, r, l, r', h => by
    unfold sepBy at h
    split at h
    · obtain ⟨a, r1, _, h⟩ := Res.bind_ok h
      obtain ⟨l2, r2, e2, h⟩ := Res.bind_ok h
      cases h
      exact Nat.succ_le_succ (sepBy_len e2)
    · cases h; exact Nat.zero_le _
structure DSm (s : DSt) (k : Nat) : Prop where
  a1 : s.kinds.length ≤ k
  a2 : s.starts.length ≤ k
  a3 : s.answers.length ≤ k
  a4 : s.stms.length ≤ k
  a5 : s.lines.length = k
  a6 : s.slines.length ≤ k
  a7 : s.steps.length ≤ 1001
theorem rdBody_sm {s s2 : DSt} {t : Str} {ts r : List Str} {k : Nat} (S : DSm s k) (ht : t = "steps" → s.steps = []) (h : rdBody s t ts = .ok s2 r) :
    s2.kinds.length ≤ k + 1 ∧ s2.starts.length ≤ k + 1 ∧ s2.answers.length ≤ k + 1 ∧ s2.stms.length ≤ k + 1 ∧ s2.lines.length = k ∧ s2.slines.length ≤ k + 1 ∧ s2.steps.length ≤ 1001 := by
  obtain ⟨a1, a2, a3, a4, a5, a6, a7⟩ := S
  unfold rdBody at h
  split at h
  · unfold rdReg at h
    split at h
    · split at h
      · obtain ⟨_, r1, _, h⟩ := Res.bind_ok h
        rw [endT_ok h]
        refine ⟨by show (s.kinds ++ _).length ≤ _; rw [List.length_append]; show _ + 1 ≤ _; omega, ?_, by show s.answers.length ≤ _; omega, by show s.stms.length ≤ _; omega, a5, by show s.slines.length ≤ _; omega, a7⟩
        dsimp only
        split
        · rw [List.length_append]; show _ + 1 ≤ _; omega
        · omega
      · cases h
    · cases h
  · split at h
    · rename_i c
      unfold rdStepsL at h
      obtain ⟨_, r1, _, h⟩ := Res.bind_ok h
      obtain ⟨g, r2, _, h⟩ := Res.bind_ok h
      obtain ⟨l, r3, el, h⟩ := Res.bind_ok h
      have := sepBy_len el
      rw [endT_ok h]
      refine ⟨by show s.kinds.length ≤ _; omega, by show s.starts.length ≤ _; omega, by show s.answers.length ≤ _; omega, by show s.stms.length ≤ _; omega, a5, by show s.slines.length ≤ _; omega, ?_⟩
      show (s.steps ++ g :: l).length ≤ _
      rw [ht c, List.nil_append, List.length_cons]; omega
    · split at h
      · unfold rdAnsL at h
        obtain ⟨_, r1, _, h⟩ := Res.bind_ok h
        split at h
        · cases h
          exact ⟨by show s.kinds.length ≤ _; omega, by show s.starts.length ≤ _; omega, by show (s.answers ++ _).length ≤ _; rw [List.length_append]; show _ + 1 ≤ _; omega, by show s.stms.length ≤ _; omega, a5, by show s.slines.length ≤ _; omega, a7⟩
        · cases h
      · obtain ⟨_, r1, _, h⟩ := Res.bind_ok h
        cases h
        exact ⟨by show s.kinds.length ≤ _; omega, by show s.starts.length ≤ _; omega, by show s.answers.length ≤ _; omega, by show (s.stms ++ _).length ≤ _; rw [List.length_append]; show _ + 1 ≤ _; omega, a5, by show (s.slines ++ _).length ≤ _; rw [List.length_append]; show _ + 1 ≤ _; omega, a7⟩
theorem rdLine_sm {s s2 : DSt} {x : Str} {r : List Str} {k : Nat} (S : DSm s k) (h : rdLine s x = .ok s2 r) : DSm s2 (k + 1) := by
  unfold rdLine at h
  split at h
  · cases h
  · cases h
  · rename_i t r0 he
    split at h
    · cases h
    · rename_i c
      obtain ⟨s3, r1, e3, h⟩ := Res.bind_ok h
      cases h
      have S' : DSm { s with part := partOf t } k := ⟨S.a1, S.a2, S.a3, S.a4, S.a5, S.a6, S.a7⟩
      have z := rdBody_sm S' (fun e => by
        show s.steps = []
        by_cases q : s.steps = []
        · exact q
        · exact absurd (.inr ⟨e, q⟩) c) e3
      obtain ⟨b1, b2, b3, b4, b5, b6, b7⟩ := z
      exact ⟨b1, b2, b3, b4, by show (s3.lines ++ _).length = _; rw [List.length_append, b5]; rfl, b6, b7⟩
def RaiseLn (B : Addr) (H : Hp) (i : Int) (E : XK) : Prop := ∀ d H', H d = none → Same H H' → H' d = some (.xd [("line", .int i)]) → E (.ref B) (some d) H'
theorem RaiseLn.back {B : Addr} {H H1 : Hp} {i : Int} {E : XK} (s : Same H H1) (h : RaiseLn B H i E) : RaiseLn B H1 i E := fun d H' n s' e => h d H' (by
  cases z : H d with
  | none => rfl
  | some o => rw [s _ _ z] at n; cases n) (s.trans s') e
namespace Z
open PySem PySem.Spec PyProof.Rows L2
/-! for k, v in d.items(), d a written dict -/
def ItiK (kvs : List (Str × V)) : It :=
  ⟨fun i _ => i < kvs.length, fun i H x H' => ∃ T k v, kvs[i]? = some (k, v) ∧ x = .ref T ∧ H T = none ∧ H' = L2.upd H T (.tup [.str k, v]), fun i _ => kvs.length ≤ i⟩
def kvK (kvs : List (Str × V)) : List (Key × V) := kvs.map fun q => ((Sum.inr q.1 : Key), q.2)
theorem kd_pairs {P : Program} {w : World} {es : List DictEntry} {kvs : List (Str × V)} (h : Paired (fun (e : DictEntry) (kv : Str × V) => (∃ t, e.key = .str kv.1 t) ∧ RelV kv.2 e.val) es kvs) : PySem.W.KeysLit w.params es →
    ∃ vs : List (Key × Value), KV (kvK kvs) vs ∧ Pairs (mixKind P w) es vs ∧ vs.map (·.1) = kvs.map (fun q => (Sum.inr q.1 : Key)) ∧ ∀ e ∈ es, ∃ k, (mixKind P w).is k e.key = true ∧ e.hash = (mixKind P w).hash k := by
  induction h with
  | nil => exact fun _ => ⟨[], .nil, .nil, rfl, fun e he => by cases he⟩
  | @cons e kv es kvs h _ ih =>
    rintro ⟨⟨x, t0, ek0, eh⟩, lit⟩
    obtain ⟨vs, h1, h2, h3, h4⟩ := ih lit
    obtain ⟨⟨t, ek⟩, r⟩ := h
    have ex : x = kv.1 := by rw [ek0] at ek; injection ek
    subst ex
    have is : (mixKind P w).is (.inr kv.1) e.key = true := by
      rw [ek]
      show (kv.1 == kv.1) = true
      exact beq_self_eq_true _
    refine ⟨(.inr kv.1, e.val) :: vs, .cons ⟨rfl, r⟩ h1, .cons is rfl h2, by rw [List.map_cons, List.map_cons, h3], fun e' he => ?_⟩
    rcases List.mem_cons.mp he with rfl | he
    · exact ⟨_, is, eh⟩
    · exact h4 e' he
theorem kd_dictAt {P : Program} {K : PySem.W.Frag} {w : World} {a : Addr} {kvs : List (Str × V)} (D : KD K w a kvs) (nd : (kvs.map (·.1)).Nodup) : ∃ (ep : Nat) (vs : List (Key × Value)), KV (kvK kvs) vs ∧ ∀ h : Heap, K.In h → h.DictAt (mixKind P w) a vs ep := by
  obtain ⟨es, n, hl, hk, hp⟩ := D.ex
  obtain ⟨vs, h1, h2, h3, h4⟩ := kd_pairs (P := P) hp hk
  refine ⟨n, vs, h1, fun h X => ⟨_, es, X _ _ hl, ⟨rfl, rfl, rfl⟩, rfl, fun e he => h4 e (Array.mem_toList_iff.mpr he), h2, ?_⟩⟩
  rw [h3]
  have e : (kvs.map fun q => (Sum.inr q.1 : Key)) = (kvs.map (·.1)).map Sum.inr := by rw [List.map_map]; rfl
  rw [e]
  exact List.Pairwise.map (Sum.inr : Str → Key) (fun _ _ n e => n (Sum.inr.inj e)) nd
theorem kvK_get {kvs : List (Str × V)} {i : Nat} {k : Str} {v : V} (h : kvs[i]? = some (k, v)) : (kvK kvs)[i]? = some (.inr k, v) := by
  unfold kvK
  rw [List.getElem?_map, h]; rfl
theorem turn_kitems {P : Program} {w : World} {K : PySem.W.Frag} {d : Addr} {kvs : List (Str × V)} {vs : List (Key × Value)} {ep : Nat} {elts : List Expr} {kk : Nat} {tpos : Pos} (kv : KV (kvK kvs) vs) (hm : ∀ h : Heap, K.In h → h.DictAt (mixKind P w) d vs ep) (it : Addr) :
    Turn P w K (.Tuple elts kk tpos) (ItiK kvs) [it] it (fun i h => ∃ ok ov, IsItemIter h it d i kvs.length ep ok ov) where
  mem := by simp
  obj := fun i h st b hb => by
    have e : b = it := by simpa using hb
    subst e
    obtain ⟨ok, ov, e⟩ := st
    exact ⟨_, e, fun v z => nomatch z⟩
  keep := fun i h h' st k => let ⟨ok, ov, e⟩ := st; ⟨ok, ov, k it (by simp) _ e⟩
  item := by
    intro X hP hw hK hc i pins s σ H E I hf st hi
    subst hP hw hK
    have hm := hm _ I.kIn
    have hi : i < kvs.length := hi
    obtain ⟨⟨k, v⟩, hkv⟩ : ∃ p, kvs[i]? = some p := ⟨kvs[i], List.getElem?_eq_getElem hi⟩
    obtain ⟨u, hu, ru⟩ := kv_get kv (kvK_get hkv)
    have hl : kvs.length = vs.length := by
      have := Paired.length kv
      unfold kvK at this
      rwa [List.length_map] at this
    obtain ⟨ok, ov, he⟩ := st
    rw [hl] at he
    have hlt : it < s.heap.objs.size := Heap.lt_size he
    refine wpAny_pyNext_items_item he hm hu fun key h' hkey ho hT hz hk => ?_
    refine ⟨_, rfl, wpAny_letOwnedTupleGo_items (s := { s with heap := h' }) ho fun h'' he' sb => ?_⟩
    have hT2 : h''.get? s.heap.objs.size = some { cls := .type "tuple", data := .seq #[key, u] } := (sb.2 _ (Nat.ne_of_gt hlt)).trans hT
    have new : ObjOk X.prog X.w (L2.upd H s.heap.objs.size (.tup [.str k, v])) h'' s.heap.objs.size (.tup [.str k, v]) :=
      ⟨by show 2 ≤ sizeLine; decide, [key, u], .cons (relV_key (k := .inr k) (show keyIs (.inr k) key = true from hkey)) (.cons ru .nil), ⟨_, hT2, rfl, _, rfl⟩⟩
    have I1 : Inv X pins σ (L2.upd H s.heap.objs.size (.tup [.str k, v])) { s with heap := h'' } :=
      I.turnedNew (t' := s.toks) (ch := [it]) (fun b ob hb e => (sb.2 b (by simpa using hb)).trans (hk b ob (by simpa using hb) e)) hf (Nat.le_refl _) new
    refine ⟨.ref s.heap.objs.size, _, I1, rfl, ⟨_, k, v, hkv, rfl, I.hok.fresh (Nat.le_refl _), rfl⟩, ⟨key, u, ?_⟩, fun b hb => ?_⟩
    · rw [hl]; exact he'
    · have e : b = it := by simpa using hb
      rw [e, upd_ne (Nat.ne_of_lt hlt)]
      exact (hf it (by simp)).1
  done := by
    intro X hP hw hK hc i pins s σ H E I hf st hi
    subst hP hw hK
    have hi : kvs.length ≤ i := hi
    obtain ⟨f0, f1, f2, f3, f4, f5⟩ := hf it (by simp)
    have hm := hm _ I.kIn
    have hl : kvs.length = vs.length := by
      have := Paired.length kv
      unfold kvK at this
      rwa [List.length_map] at this
    obtain ⟨ok, ov, he⟩ := st
    rw [hl] at he
    exact wpAny_pyNext_items_end (I.ok.hd hc) he hm (List.getElem?_eq_none (by omega)) fun h' eb => ⟨rfl, I.turned (t' := s.toks) (fun b ob hb e => eb b ob hb e) f0 f1 f3 f4 f5⟩
  self := fun A i s Q E st h => let ⟨_, _, e⟩ := st; PySem.W.kcp_self e h
def iItemsK (K : PySem.W.Frag) (w : World) (td : TE) : TI := fun σ H R => td σ H fun x H1 => ∃ d kvs, x = .ref d ∧ KD K w d kvs ∧ (kvs.map (·.1)).Nodup ∧ R (ItiK kvs) H1
theorem pi_kitems {X : Cx} {e : Expr} {td : TE} {apos cpos : Pos} {elts : List Expr} {kk : Nat} {tpos : Pos} (he : PE X e td) (hbase : attributeBase e "items" X.env (eval e X.env) = eval e X.env := by rfl) (hline : (apos.endLine == cpos.line) = true := by rfl) :
    PI X (.Tuple elts kk tpos) (.Call (.Attribute e "items" apos) [] [] cpos) (iItemsK X.K X.w td) := by
  refine ⟨fun pins s σ H R I h => ?_⟩
  refine wpAny_Call_method (T := "dict") (id := "dict.items") hbase rfl hline F.plainAttrs_dict F.slot_dict_items F.type_dict_items (thn (he.run pins s σ H _ I h) fun u s1 ⟨x, H1, I1, rx, d, kvs, ex, D, nd, q⟩ => ?_)
  subst ex
  obtain rfl : u = Value.ref d := rx
  obtain ⟨ep, vs, kv, hm0⟩ := kd_dictAt (P := X.prog) D nd
  have hm := hm0 _ I1.kIn
  have hl : kvs.length = vs.length := by
    have := Paired.length kv
    unfold kvK at this
    rwa [List.length_map] at this
  refine ⟨hm.dictOf.typeIs, hm.dictOf.mapOf.noDict, ?_⟩
  have I2 : Inv X pins σ H1 { s1 with heap := s1.heap.push { cls := .type "dict_items", data := .fields #[.ref d] } } := I1.kept (t' := s1.toks) fun b ob q => Heap.get?_push_of_some _ q
  have fin : wpAny (model X.prog X.w) X.A (pyIter (.ref s1.heap.objs.size)) (PIE X pins σ (.Tuple elts kk tpos) R) X.xe { s1 with heap := s1.heap.push { cls := .type "dict_items", data := .fields #[.ref d] } } := by
    refine wpAny_pyIter_items (d := d) (knd := mixKind X.prog X.w) ⟨_, Heap.get?_push_size _ rfl, rfl, rfl⟩ (hm.push _) (pi_one (tk := s1.toks) I2 _ (turn_kitems kv hm0 _) ⟨.none, .none, ?_⟩ q)
    rw [hl]
    exact Heap.get?_push_size _ rfl
  show wpAny _ _ (callWith cpos (.builtin "dict.items") [.ref d] [] []) _ X.xe s1
  exact method_meetsIn F.slot_dict_items F.entry_dict_items rfl (PySem.evalArgs_none ⟨rfl, hm.dictOf.typeIs, F.args_dict_items_1 _, _, meets_dict_items (mixKind X.prog X.w) d D.low, ⟨vs, hm.dictOf⟩, fin⟩)
section
variable {K : PySem.W.Frag} {w : World} {σ : L2.St} {H : Hp} {D : Ends} {td : TE} {g : TG} {tb : TS}
def fitR (K : PySem.W.Frag) (w : World) (g : TG) (tb : TS) (D : Ends) (σ : L2.St) : VK := fun x H1 => ∃ d kvs, x = .ref d ∧ KD K w d kvs ∧ (kvs.map (·.1)).Nodup ∧ ∃ W : Nat → Nat → L2.St → Hp → Prop, (∃ m, W 0 m σ H1) ∧ ∀ i m σ H, W i m σ H →
      (((ItiK kvs).stop i H ∧ D.nx σ H) ∨ ((ItiK kvs).go i H ∧ ∃ N : L2.St → Hp → Prop, (∀ σ' H', N σ' H' → ∃ m', m' < m ∧ W (i + 1) m' σ' H') ∧ ∀ x H', (ItiK kvs).yld i H x H' → g x σ H' fun σ2 H2 => tb { D with nx := N, ct := N, bk := D.nx } σ2 H2))
theorem r_forIt (h : td σ H (fitR K w g tb D σ)) : tFor (iItemsK K w td) g tb D σ H := h
theorem r_forItems {d : Addr} {kvs : List (Str × V)} (KDd : KD K w d kvs) (nd : (kvs.map (·.1)).Nodup) (Pv : Nat → L2.St → Hp → Prop) (h0 : Pv 0 σ H)
    (ht : ∀ (i : Nat) k v σ' H' T H2, kvs[i]? = some (k, v) → Pv i σ' H' → H' T = none → Same H' H2 → H2 T = some (.tup [.str k, v]) → g (.ref T) σ' H2 fun σ2 H3 => tb { D with nx := Pv (i + 1), ct := Pv (i + 1), bk := D.nx } σ2 H3)
    (hd : ∀ σ' H', Pv kvs.length σ' H' → D.nx σ' H') : fitR K w g tb D σ (.ref d) H := by
  refine ⟨d, kvs, rfl, KDd, nd, fun i m σ' H' => m = kvs.length - i ∧ i ≤ kvs.length ∧ Pv i σ' H', ⟨_, rfl, Nat.zero_le _, h0⟩, ?_⟩
  rintro i m σ' H' ⟨rfl, hi, p⟩
  by_cases c : i < kvs.length
  · refine .inr ⟨c, Pv (i + 1), fun σ2 H2 q => ⟨kvs.length - (i + 1), by omega, rfl, c, q⟩, fun x H2 y => ?_⟩
    obtain ⟨T, k, v, hkv, rfl, nT, rfl⟩ := y
    exact ht i k v σ' H' T _ hkv p nT (same_upd nT) upd_same
  · have e : i = kvs.length := by omega
    subst e
    exact .inl ⟨Nat.le_refl _, hd σ' H' p⟩
end
end Z

local macro_rules | `(tactic| walk_at "go") => `(tactic| with_reducible refine Z.r_forIt ?_)
/-- where the text of what there is too many of goes -/
def RaiseWh (B : Addr) (H : Hp) (k : Str) (E : XK) : Prop := ∀ d H', H d = none → Same H H' → H' d = some (.xd [("what", .str k)]) → E (.ref B) (some d) H'
theorem RaiseWh.back {B : Addr} {H H1 : Hp} {k : Str} {E : XK} (s : Same H H1) (h : RaiseWh B H k E) : RaiseWh B H1 k E := fun d H' n s' e => h d H' (by
  cases z : H d with
  | none => rfl
  | some o => rw [s _ _ z] at n; cases n) (s.trans s') e
def limKs : List (Str × Nat) := [("keeps", 3), ("flags", 2), ("sums", 2), ("counts", 2), ("places", 2), ("steps", 3), ("statements", 10), ("answers", 4)]
/-- the first part of which there are too many -/
def overAt (ls : Str → Nat) (ks : List (Str × Nat)) : Option Str := (ks.find? fun p => p.2 < ls p.1).map (·.1)
/-! a line as written is read as the same tokens -/
namespace Tk
open PySem PySem.Spec PyProof.Rows L2 Tx
def LL : List Nat := [97, 98, 99, 100, 101, 102, 103, 104, 105, 106, 107, 108, 109, 110, 111, 112, 113, 114, 115, 116, 117, 118, 119, 120, 121, 122]
theorem LL_let : tl LET = LL := by decide +kernel
theorem mem_LL {c : Nat} : c ∈ LL ↔ 97 ≤ c ∧ c ≤ 122 := by
  unfold LL
  simp only [List.mem_cons, List.not_mem_nil, or_false]
  omega
def oL : List (List Nat) := [[43, 61], [45, 61], [60, 61], [62, 61], [61, 61], [33, 61], [60], [62], [61], [40], [41], [44], [48], [49]]
theorem oL_eq : others.map tl = oL := by decide +kernel
theorem find_oL (r : List Nat) : (others.find? fun t => (tl t).isPrefixOf r).map tl = oL.find? fun t => t.isPrefixOf r := by
  rw [← oL_eq, List.find?_map]; rfl
/-- a token -/
def Ok (t : List Nat) : Prop := (t ≠ [] ∧ letters t) ∨ t ∈ oL
/-- where a token ends -/
def Stop (t rest : List Nat) : Prop := rest = [] ∨ ∃ c r, rest = c :: r ∧ (c = 32 ∨ c = 41 ∨ c = 44 ∨ t = [40] ∨ (letters t ∧ c = 40))
theorem tw_app {p : Nat → Bool} : ∀ {t rest : List Nat}, (∀ c ∈ t, p c = true) → (rest = [] ∨ ∃ c r, rest = c :: r ∧ p c = false) → (t ++ rest).takeWhile p = t
  | [], rest, _, h => by
    rcases h with rfl | ⟨c, r, rfl, h⟩
    · rfl
    · rw [List.nil_append, List.takeWhile_cons_of_neg (by rw [h]; exact Bool.false_ne_true)]
  | a :: t, rest, ha, h => by
    rw [List.cons_append, List.takeWhile_cons_of_pos (ha a List.mem_cons_self), tw_app (fun c hc => ha c (List.mem_cons_of_mem _ hc)) h]
theorem tok_word {t rest : List Nat} (ne : t ≠ []) (hl : letters t) (h : rest = [] ∨ ∃ c r, rest = c :: r ∧ ¬ (97 ≤ c ∧ c ≤ 122)) : tokAt LL (t ++ rest) = some t := by
  have e : (t ++ rest).takeWhile (fun c => decide (c ∈ LL)) = t := tw_app (fun c hc => decide_eq_true (mem_LL.mpr (hl c hc))) (h.imp id fun ⟨c, r, e, n⟩ => ⟨c, r, e, decide_eq_false fun m => n (mem_LL.mp m)⟩)
  unfold tokAt
  rw [e, if_pos ne]
theorem tok_sign {c : Nat} {r : List Nat} (h : ¬ (97 ≤ c ∧ c ≤ 122)) : tokAt LL (c :: r) = oL.find? fun t => t.isPrefixOf (c :: r) := by
  have e : (c :: r).takeWhile (fun c => decide (c ∈ LL)) = [] := List.takeWhile_cons_of_neg (by simpa using fun m => h (mem_LL.mp m))
  unfold tokAt
  rw [e, if_neg (fun z => z rfl), find_oL]
theorem tok_stop {t rest : List Nat} (h : Ok t) (s : Stop t rest) : tokAt LL (t ++ rest) = some t := by
  rcases h with ⟨ne, hl⟩ | h
  · refine tok_word ne hl ?_
    rcases s with rfl | ⟨c, r, rfl, s⟩
    · exact .inl rfl
    · refine .inr ⟨c, r, rfl, ?_⟩
      rcases s with rfl | rfl | rfl | e | ⟨_, rfl⟩
      · omega
      · omega
      · omega
      · have := hl 40 (by rw [e]; exact List.mem_singleton.mpr rfl)
        omega
      · omega
  · have nl : ∀ u ∈ oL, ¬ letters u := by
      unfold oL letters
      simp only [List.mem_cons, List.not_mem_nil, or_false]
      rintro u (rfl | rfl | rfl | rfl | rfl | rfl | rfl | rfl | rfl | rfl | rfl | rfl | rfl | rfl) hu
      all_goals exact absurd (hu _ List.mem_cons_self) (by decide)
    have nt := nl t h
    unfold oL at h
    simp only [List.mem_cons, List.not_mem_nil, or_false] at h
    rcases s with rfl | ⟨c, r, rfl, s⟩
    · rcases h with rfl | rfl | rfl | rfl | rfl | rfl | rfl | rfl | rfl | rfl | rfl | rfl | rfl | rfl
      all_goals decide +kernel
    · rcases h with rfl | rfl | rfl | rfl | rfl | rfl | rfl | rfl | rfl | rfl | rfl | rfl | rfl | rfl
      all_goals
        show tokAt LL (_ :: _) = _
        rw [tok_sign (by decide)]
        rcases s with rfl | rfl | rfl | s | ⟨s, _⟩
        · rfl
        · rfl
        · rfl
        · first | rfl | exact absurd s (by decide)
        · exact absurd s nt
theorem Ok.ne {t : List Nat} (h : Ok t) : t ≠ [] := by
  rcases h with ⟨ne, _⟩ | h
  · exact ne
  · intro e
    subst e
    revert h
    decide
theorem Ok.no32 {t : List Nat} (h : Ok t) {c : Nat} {r : List Nat} (e : t = c :: r) : c ≠ 32 := by
  rcases h with ⟨_, hl⟩ | h
  · intro z
    have := hl c (by rw [e]; exact List.mem_cons_self)
    omega
  · subst e
    intro z
    subst z
    unfold oL at h
    simp at h
theorem toks_step {t rest : List Nat} (h : Ok t) (s : Stop t rest) : toks LL (t ++ rest) = (toks LL rest).map (t :: ·) := by
  have hs := tok_stop h s
  cases t with
  | nil => exact absurd rfl h.ne
  | cons c r =>
    have z := toks_some (ls := LL) (r := r ++ rest) (t := c :: r) (c := c) (h.no32 rfl) hs
    rw [show c :: (r ++ rest) = (c :: r) ++ rest from rfl] at z
    rw [z, List.drop_left']
    rfl
theorem toks_word {t rest : List Nat} (ne : t ≠ []) (hl : letters t) (h : rest = [] ∨ ∃ c r, rest = c :: r ∧ ¬ (97 ≤ c ∧ c ≤ 122)) : toks LL (t ++ rest) = (toks LL rest).map (t :: ·) := by
  have hs := tok_word ne hl h
  cases t with
  | nil => exact absurd rfl ne
  | cons c r =>
    have n32 : c ≠ 32 := fun z => by have := hl c List.mem_cons_self; omega
    have z := toks_some (ls := LL) (r := r ++ rest) (t := c :: r) (c := c) n32 hs
    rw [show c :: (r ++ rest) = (c :: r) ++ rest from rfl] at z
    rw [z, List.drop_left']
    rfl
theorem tokAt_ok {l t : List Nat} (h : tokAt LL l = some t) : Ok t := by
  unfold tokAt at h
  split at h
  · rename_i c
    rw [← Option.some.inj h]
    refine .inl ⟨c, fun x hx => ?_⟩
    have := List.all_eq_true.mp (List.all_takeWhile (p := fun c => decide (c ∈ LL)) (l := l)) x hx
    exact mem_LL.mp (of_decide_eq_true this)
  · rw [find_oL] at h
    exact .inr (List.mem_of_find?_eq_some h)
theorem toksF_ok : ∀ {n : Nat} {l : List Nat} {ts : List (List Nat)}, toksF LL n l = some ts → ∀ t ∈ ts, Ok t
  | n, [], ts, h => by
    rw [toksF_nil] at h
    cases h
    exact fun t m => by cases m
  | 0, _ :: _, _, h => by cases h
  | n + 1, c :: r, ts, h => by
    unfold toksF at h
    split at h
    · exact toksF_ok h
    · cases ht : tokAt LL (c :: r) with
      | none => rw [ht] at h; cases h
      | some t =>
        rw [ht] at h
        obtain ⟨us, hu, rfl⟩ := Option.map_eq_some_iff.mp h
        intro u hu'
        rcases List.mem_cons.mp hu' with rfl | hu'
        · exact tokAt_ok ht
        · exact toksF_ok hu u hu'
/-- what is joined -/
def flat (ys : List Str) : List Nat := (ys.map tl).flatten
theorem joinL_nil : ∀ ys : List (List Nat), TL.joinL [] ys = ys.flatten
  | [] => rfl
  | [y] => by show y = _; simp
  | y :: z :: r => by
    show y ++ ([] ++ TL.joinL [] (z :: r)) = _
    rw [joinL_nil (z :: r)]; simp
theorem tl_joinE (ys : List Str) : tl (Txt.join ("" : Str) ys) = flat ys := by
  rw [TL.join_eq]
  show TL.tl _ = _
  rw [TL.tl_join, show TL.tl ("" : Str) = [] by decide +kernel, joinL_nil]; rfl
theorem apart_no {p t : List Nat} (h : apart (mk p) (mk t) = false) : p = [40] ∨ t = [41] ∨ t = [44] ∨ (t = [40] ∧ letters p) := by
  unfold apart at h
  have lp : ∀ x : Str, mk p = x → p = tl x := fun x e => by rw [← e]; rfl
  have lt : ∀ x : Str, mk t = x → t = tl x := fun x e => by rw [← e]; rfl
  split at h
  · rename_i c
    rcases c with c | c
    · left; rw [lp _ c]; decide +kernel
    · simp only [List.mem_cons, List.not_mem_nil, or_false] at c
      rcases c with c | c
      · right; left; rw [lt _ c]; decide +kernel
      · right; right; left; rw [lt _ c]; decide +kernel
  · obtain ⟨h1, h2⟩ := Bool.or_eq_false_iff.mp h
    have h1 := of_decide_eq_false h1
    have h2 := of_decide_eq_false h2
    have h1 := Decidable.not_not.mp h1
    have h2 := Decidable.not_not.mp h2
    right; right; right
    refine ⟨by rw [lt _ h1]; decide +kernel, ?_⟩
    simp only [List.mem_cons, List.not_mem_nil, or_false] at h2
    rcases h2 with h2 | h2
    · rw [lp _ h2]
      unfold letters
      decide +kernel
    · rw [lp _ h2]
      unfold letters
      decide +kernel
theorem sp32 : tl (" " : Str) = [32] := by decide +kernel
theorem round_at : ∀ {ts : List (List Nat)} (p : List Nat), Ok p → (∀ t ∈ ts, Ok t) → Stop p (flat (wrP (some (mk p)) (ts.map mk))) ∧ toks LL (flat (wrP (some (mk p)) (ts.map mk))) = some ts
  | [], p, _, _ => ⟨.inl rfl, rfl⟩
  | t :: r, p, hp, h => by
    have ht := h t List.mem_cons_self
    obtain ⟨i1, i2⟩ := round_at (ts := r) t ht fun u hu => h u (List.mem_cons_of_mem _ hu)
    have e2 : toks LL (t ++ flat (wrP (some (mk t)) (r.map mk))) = some (t :: r) := by
      rw [toks_step ht i1, i2]; rfl
    by_cases c : apart (mk p) (mk t) = true
    · have e : flat (wrP (some (mk p)) ((t :: r).map mk)) = 32 :: (t ++ flat (wrP (some (mk t)) (r.map mk))) := by
        show flat ((if apart (mk p) (mk t) = true then [(" " : Str), mk t] else [mk t]) ++ wrP (some (mk t)) (r.map mk)) = _
        rw [if_pos c]
        show tl (" " : Str) ++ (tl (mk t) ++ _) = _
        rw [sp32]; rfl
      rw [e]
      exact ⟨.inr ⟨_, _, rfl, .inl rfl⟩, by rw [toks_space, e2]⟩
    · have e : flat (wrP (some (mk p)) ((t :: r).map mk)) = t ++ flat (wrP (some (mk t)) (r.map mk)) := by
        show flat ((if apart (mk p) (mk t) = true then [(" " : Str), mk t] else [mk t]) ++ wrP (some (mk t)) (r.map mk)) = _
        rw [if_neg c]; rfl
      rw [e]
      refine ⟨?_, e2⟩
      have ne := ht.ne
      have c := apart_no (Bool.eq_false_iff.mpr c)
      cases t with
      | nil => exact absurd rfl ne
      | cons a u =>
        refine .inr ⟨a, u ++ _, rfl, ?_⟩
        rcases c with c | c | c | ⟨c, l⟩
        · exact .inr (.inr (.inr (.inl c)))
        · cases c; exact .inr (.inl rfl)
        · cases c; exact .inr (.inr (.inl rfl))
        · cases c; exact .inr (.inr (.inr (.inr ⟨l, rfl⟩)))
theorem round {ts : List (List Nat)} (h : ∀ t ∈ ts, Ok t) : toks LL (flat (wrP none (ts.map mk))) = some ts := by
  cases ts with
  | nil => rfl
  | cons t r =>
    have ht := h t List.mem_cons_self
    obtain ⟨i1, i2⟩ := round_at (ts := r) t ht fun u hu => h u (List.mem_cons_of_mem _ hu)
    show toks LL (tl (mk t) ++ _) = _
    have z := toks_step ht i1
    rw [i2] at z
    exact z
end Tk
theorem toksS_round {line : Str} {ts : List Str} (h : toksS line = some ts) : toksS (writtenS ts) = some ts := by
  unfold toksS at h ⊢
  obtain ⟨us, hu, rfl⟩ := Option.map_eq_some_iff.mp h
  rw [Tk.LL_let] at hu ⊢
  have ok : ∀ t ∈ us, Tk.Ok t := Tk.toksF_ok hu
  unfold writtenS
  rw [Tk.tl_joinE, Tk.round ok]; rfl
theorem writtenS_len {ts : List Str} : (writtenS ts).length ≤ (ts.map (·.length)).sum + ts.length := by
  unfold writtenS
  rw [Tx.tl_len, Tk.tl_joinE]
  refine Nat.le_trans (Nat.le_of_eq ?_) (wrP_len none ts)
  unfold Tk.flat
  rw [List.length_flatten, List.map_map]
  congr 1

namespace Z
open PySem PySem.Spec PyProof.Rows L2
theorem o_inK {X : Cx} {K : PySem.W.Frag} (e : X.K = K) : OpR X (compareOp .In) (rIn K false) := e ▸ op_in_seq
end Z
/-- a line of statements as kept: it is read again -/
def GoodL (l : Str) : Prop := l.length ≤ 40000 ∧ ∃ ts, toksS l = some ts
theorem rdBody_sl {s s2 : DSt} {t : Str} {ts : List Str} {r : List Str} (h : rdBody s t ts = .ok s2 r) : s2.slines = s.slines ∨ s2.slines = s.slines ++ [writtenS ts] := by
  unfold rdBody at h
  split at h
  · unfold rdReg at h
    split at h
    · split at h
      · obtain ⟨_, r1, _, h⟩ := Res.bind_ok h
        rw [endT_ok h]; exact .inl rfl
      · cases h
    · cases h
  · split at h
    · unfold rdStepsL at h
      obtain ⟨_, r1, _, h⟩ := Res.bind_ok h
      obtain ⟨_, r2, _, h⟩ := Res.bind_ok h
      obtain ⟨_, r3, _, h⟩ := Res.bind_ok h
      rw [endT_ok h]; exact .inl rfl
    · split at h
      · unfold rdAnsL at h
        obtain ⟨_, r1, _, h⟩ := Res.bind_ok h
        split at h
        · cases h; exact .inl rfl
        · cases h
      · obtain ⟨_, r1, _, h⟩ := Res.bind_ok h
        cases h; exact .inr rfl
theorem rdLine_sl {s s2 : DSt} {x : Str} {r : List Str} (h : rdLine s x = .ok s2 r) (lx : x.length ≤ 20000) (hs : ∀ l ∈ s.slines, GoodL l) : ∀ l ∈ s2.slines, GoodL l := by
  unfold rdLine at h
  split at h
  · cases h
  · cases h
  · rename_i t ts et
    split at h
    · cases h
    · obtain ⟨s3, r1, e3, h⟩ := Res.bind_ok h
      cases h
      have lens := toksS_len et
      rcases rdBody_sl e3 with e | e
      · show ∀ l ∈ s3.slines, _
        rw [e]; exact hs
      · show ∀ l ∈ s3.slines, _
        rw [e]
        intro l hl
        rcases List.mem_append.mp hl with hl | hl
        · exact hs l hl
        · rw [List.mem_singleton.mp hl]
          exact ⟨Nat.le_trans writtenS_len (by omega), _, toksS_round et⟩
theorem rdFrom_sl : ∀ {ls : List Str} {k : Nat} {s s2 : DSt}, rdFrom k s ls = .ok s2 → (∀ l ∈ ls, l.length ≤ 20000) → (∀ l ∈ s.slines, GoodL l) → ∀ l ∈ s2.slines, GoodL l
  | [], k, s, s2, h, _, hs => by
    cases h; exact hs
  | x :: ls, k, s, s2, h, hl, hs => by
    unfold rdFrom at h
    split at h
    · cases h
    · cases h
    · rename_i s3 r3 e
      exact rdFrom_sl h (fun l m => hl l (List.mem_cons_of_mem _ m)) (rdLine_sl e (hl x List.mem_cons_self) hs)
theorem rdDraft_sl {z : Str} {s : DSt} (h : rdDraft z = .ok s) (hl : ∀ l ∈ linesOf z, l.length ≤ 20000) : ∀ l ∈ s.slines, GoodL l := by
  unfold rdDraft at h
  split at h
  · rename_i s2 e
    split at h
    · cases h
    · cases h
      exact rdFrom_sl e hl (fun l m => by cases m)
  · rename_i e
    rw [h] at e
    exact absurd rfl (e _)
theorem rdDraft_sm {z : Str} {s : DSt} (h : rdDraft z = .ok s) : s.answers ≠ [] := by
  unfold rdDraft at h
  split at h
  · split at h
    · cases h
    · rename_i c
      cases h; exact c
  · rename_i e
    rw [h] at e
    exact absurd rfl (e _)
/-- whether before stands in a statement -/
def hasB (s : DSt) : Bool := s.slines.any fun l => decide (("before" : Str) ∈ (toksS l).getD [])
/-- how many there are of each part -/
def lensOf (s : DSt) (g : Str) : Nat := if g = "keeps" then (namesOf s "keep").length else if g = "flags" then (namesOf s "flag").length else if g = "sums" then (namesOf s "sum").length else if g = "counts" then (namesOf s "count").length
  else if g = "places" then (namesOf s "place").length else if g = "steps" then s.steps.length else if g = "statements" then s.slines.length else s.answers.length

structure PAd where
  p : Addr
  k1 : Addr
  k2 : Addr
  k3 : Addr
  k4 : Addr
  k5 : Addr
  k6 : Addr
  k7 : Addr
  k8 : Addr
  k9 : Addr
  k10 : Addr
  k11 : Addr
  k12 : Addr
def pF (a : PAd) (b : Bool) : List (Str × V) := [("keeps", .ref a.k1), ("flags", .ref a.k2), ("sums", .ref a.k3), ("counts", .ref a.k4), ("places", .ref a.k5), ("steps", .ref a.k6), ("statements", .ref a.k7), ("answers", .ref a.k8), ("starts", .ref a.k9), ("read_statements", .ref a.k10), ("read_answers", .ref a.k11), ("lines", .ref a.k12), ("has_before", .bl b)]
structure PrAt (C CS CA : Addr) (H : Hp) (a : PAd) (s : DSt) : Prop where
  dx : ∃ dx, H a.p = some (.ins C dx (pF a (hasB s)))
  k1 : H a.k1 = some (.tup ((namesOf s "keep").map V.str))
  k2 : H a.k2 = some (.tup ((namesOf s "flag").map V.str))
  k3 : H a.k3 = some (.tup ((namesOf s "sum").map V.str))
  k4 : H a.k4 = some (.tup ((namesOf s "count").map V.str))
  k5 : H a.k5 = some (.tup ((namesOf s "place").map V.str))
  k6 : H a.k6 = some (.tup (s.steps.map V.str))
  k7 : H a.k7 = some (.tup (s.slines.map V.str))
  k8 : H a.k8 = some (.tup ((s.answers.map (·.name)).map V.str))
  k9 : H a.k9 = some (.tup (s.starts.map startV))
  k10 : ∃ vs, H a.k10 = some (.tup vs) ∧ Paired (StAt CS H) s.stms vs
  k11 : ∃ vs, H a.k11 = some (.tup vs) ∧ Paired (AnAt CA H) s.answers vs
  k12 : H a.k12 = some (.tup (s.lines.map V.str))
theorem PrAt.same {C CS CA : Addr} {H H' : Hp} {a : PAd} {s : DSt} (h : PrAt C CS CA H a s) (e : Same H H') : PrAt C CS CA H' a s := by
  obtain ⟨⟨dx, h0⟩, h1, h2, h3, h4, h5, h6, h7, h8, h9, ⟨v10, h10, p10⟩, ⟨v11, h11, p11⟩, h12⟩ := h
  exact ⟨⟨dx, e _ _ h0⟩, e _ _ h1, e _ _ h2, e _ _ h3, e _ _ h4, e _ _ h5, e _ _ h6, e _ _ h7, e _ _ h8, e _ _ h9, ⟨v10, e _ _ h10, paired_imp p10 fun _ _ => StAt.same e⟩, ⟨v11, e _ _ h11, paired_imp p11 fun _ _ => AnAt.same e⟩, e _ _ h12⟩
/-- a program's instance may change while it is made -/
theorem DraftAt.butP {C CS CA CP p dx : Addr} {H H' : Hp} {a : DAd} {s : DSt} (D : DraftAt C CS CA H a s) (hp : H p = some (.ins CP dx [])) (b : Z.But p H H') : DraftAt C CS CA H' a s := by
  have nr : ∀ x ∈ a.S, x ≠ p := fun x hx e => by
    obtain ⟨o, ho, _, h1⟩ := D.plain x hx
    rw [e, hp] at ho
    cases ho
    exact absurd (show (0 : Nat) = 8 from h1 _ _ _ rfl) (by decide)
  have hT := tup_but b hp ins_tup
  unfold DAd.S at nr
  simp only [List.forall_mem_cons] at nr
  obtain ⟨n0, n1, n2, n3, n4, n5, n6, n7, _⟩ := nr
  obtain ⟨⟨dx, h0⟩, h1, h2, h3, ⟨v3, h4, p4⟩, ⟨v4, h5, p5⟩, h6, h7, nd⟩ := D
  refine ⟨⟨dx, b _ _ n0 h0⟩, b _ _ n1 h1, b _ _ n2 h2, b _ _ n3 h3, ⟨v3, b _ _ n4 h4, paired_imp p4 fun _ _ h => ?_⟩, ⟨v4, b _ _ n5 h5, paired_imp p5 fun _ _ h => ?_⟩, b _ _ n6 h6, b _ _ n7 h7, nd⟩
  · obtain ⟨q, dq, va, vt, g0, g1, g2, g3⟩ := h
    refine ⟨q, dq, va, vt, g0, b _ _ (fun e => by rw [e, hp] at g1; simp at g1) g1, g2.mono hT, ?_⟩
    rename_i st _
    cases ht : st.test with
    | none => rw [ht] at g3; exact g3
    | some t => rw [ht] at g3; exact TsAt.mono hT g3
  · obtain ⟨q, dq, vr, g0, g1, g2⟩ := h
    exact ⟨q, dq, vr, g0, b _ _ (fun e => by rw [e, hp] at g1; simp at g1) g1, g2.mono hT⟩
/-- what a program's text comes to -/
def PrOut (C CS CA B : Addr) (H : Hp) (z : Str) (R : Str → Prop) (Q : PAd → Hp → Prop) (E : XK) : Prop := match rdDraft z with
  | .out => False
  | .bad k => RaiseLn B H (k : Int) E
  | .ok s => match overAt (lensOf s) limKs with
    | some g => R g
    | none => ∀ a H', PrAt C CS CA H' a s → Q a H'
/-- a text that is not too long -/
structure TextOk (z : Str) : Prop where
  len : z.length ≤ 90000
  lines : (linesOf z).length ≤ 1000
  each : ∀ l ∈ linesOf z, l.length ≤ 20000
/-- a source of numbers after at most n turns -/
def Src (H : Hp) (b : Addr) (n : Nat) : Prop := ∃ g s k : Int, H b = some (.dK [(.inr "rest", .int g), (.inr "seed", .int s), (.inr "turn", .int k)]) ∧ 0 ≤ g ∧ 0 ≤ s ∧ s < 4294967296 ∧ 0 ≤ k ∧ k ≤ n
theorem Src.mono {H : Hp} {b : Addr} {n m : Nat} (h : n ≤ m) (x : Src H b n) : Src H b m := by
  obtain ⟨g, s, k, h1, h2, h3, h4, h5, h6⟩ := x
  exact ⟨g, s, k, h1, h2, h3, h4, h5, by omega⟩
theorem Src.same {H H' : Hp} {b : Addr} {n : Nat} (e : Same H H') (x : Src H b n) : Src H' b n := by
  obtain ⟨g, s, k, h1, h2⟩ := x
  exact ⟨g, s, k, e _ _ h1, h2⟩
theorem Src.ne {H : Hp} {b p : Addr} {n : Nat} (x : Src H b n) (h : H p = none) : p ≠ b := fun e => by
  obtain ⟨g, s, k, h1, _⟩ := x
  rw [e, h1] at h; cases h
theorem Src.but {H H' : Hp} {b p : Addr} {n : Nat} (x : Src H b n) (e : Z.But p H H') (ne : b ≠ p) : Src H' b n := by
  obtain ⟨g, s, k, h1, h2⟩ := x
  exact ⟨g, s, k, e _ _ ne h1, h2⟩
local macro_rules | `(tactic| walk_at "dgs") => `(tactic| (refine Z.r_dgS (by assumption) rfl ?_; walk_at "go"))
theorem r_mkPr {C CS CA B TM : Addr} {K : PySem.W.Frag} {z : Str} {H : Hp} {Q : VK} {E : XK} {sp : Sp} (esp : sp = (fun vs H Q E => ∃ (p dx : Addr) (x : V), vs = [.ref p, x] ∧ H p = some (.ins C dx []) ∧
  ((∃ z : Str, x = .str z ∧ TextOk z ∧ PrOut C CS CA B H z (fun g => ∀ H1, Z.But p H H1 → RaiseWh TM H1 g E) (fun a H' => a.p = p → Z.But p H H' → Q .non H') E) ∨ (∃ t, TyX K H x t ∧ PySem.W.kitOne K t (.type "str") = some false ∧ RaiseLn B H (-1) E)) : Sp)) (tz : TextOk z)
    (q : PrOut C CS CA B H z (fun g => RaiseWh TM H g E) (fun a H' => H a.p = none → Same H H' → Q (.ref a.p) H') E) : Z.mkIX C sp E [.str z] H Q := by
  subst esp
  intro p dx np ndx ne
  have sm : Same H (L2.upd (L2.upd H dx (.own p)) p (.ins C dx [])) := fun b o e => by
    rw [upd_ne (ne_of_none e np), upd_ne (ne_of_none e ndx)]; exact e
  refine ⟨p, dx, .str z, rfl, upd_same, .inl ⟨z, rfl, tz, ?_⟩⟩
  unfold PrOut at q ⊢
  cases er : rdDraft z with
  | out => rw [er] at q; exact q.elim
  | bad k => rw [er] at q; exact RaiseLn.back sm q
  | ok s =>
    rw [er] at q
    dsimp only at q ⊢
    cases eo : overAt (lensOf s) limKs with
    | some g =>
      rw [eo] at q
      exact fun H1 b => RaiseWh.back (fun a o e => b _ _ (ne_of_none e np) (sm _ _ e)) q
    | none =>
      rw [eo] at q
      intro a H' P ea b
      refine ⟨rfl, ?_⟩
      subst ea
      exact q a H' P np fun y o e => b _ _ (ne_of_none e np) (sm _ _ e)
namespace Z
open PySem PySem.Spec PyProof.Rows L2
section
variable {X : Cx} {K : PySem.W.Frag} {o e : Expr} {to te : TE}
theorem pe_joinK {apos pos : Pos} (eK : X.K = K) (ho : PE X o to) (he : PE X e te) (hs : starEach [e] X.env = [(false, eval e X.env)] := by rfl) (hbase : attributeBase o "join" X.env (eval o X.env) = eval o X.env := by rfl) (hline : (apos.endLine == pos.line) = true := by rfl) :
    PE X (.Call (.Attribute o "join" apos) [e] [] pos) (tM1 (jnR K) to te) := eK ▸ pe_join ho he hs hbase hline
end
/-- a sign, so many times, also none -/
def rRepA : R2 := fun x y H Q => ∃ (z : Str) (n : Nat), x = .str z ∧ y = .int (n : Int) ∧ n ≤ 1000 ∧ z.length = 1 ∧ Q (.str (repS z n)) H
theorem repS_tl (z : Str) (n : Nat) : (repS z n).cps.toList = (List.replicate n z.cps.toList).flatten := by
  unfold repS
  have g : ∀ (n : Nat) (a : Array Nat), ((List.replicate n z.cps).foldl (· ++ ·) a).toList = a.toList ++ (List.replicate n z.cps.toList).flatten := by
    intro n
    induction n with
    | zero => intro a; simp
    | succ n ih =>
      intro a
      rw [List.replicate_succ, List.foldl_cons, ih, Array.toList_append, List.replicate_succ, List.flatten_cons, List.append_assoc]
  show ((List.replicate n z.cps).foldl (· ++ ·) #[]).toList = _
  rw [g]; rfl
theorem repS_len (z : Str) (n : Nat) : (repS z n).length = n * z.length := by
  show (repS z n).cps.size = _
  rw [← Array.length_toList, repS_tl, List.length_flatten, List.map_replicate, List.sum_replicate_nat, Array.length_toList]; rfl
theorem op_repA {X : Cx} : OpR X (binaryOp .Mult) rRepA := by
  intro pins s σ H x y v u Q I rx ry h
  obtain ⟨z, n, rfl, rfl, n3, lz, q⟩ := h
  by_cases c : 2 ≤ n
  · exact op_repS pins s σ H _ _ v u Q I rx ry ⟨z, n, rfl, rfl, c, n3, lz, by rw [repS_len, lz]; omega, q⟩
  · obtain ⟨t, rfl⟩ := (show ∃ t, v = Value.str z t from rx)
    obtain ⟨t2, rfl⟩ := (show ∃ t, u = Value.int (n : Int) t from ry)
    refine PySem.P.mul_str ?_ (fun h1 h2 => ?_) (fun h1 h2 => ?_) ?_
    · rw [decide_eq_false (by omega), decide_eq_false (by omega)]; rfl
    · exfalso
      have : n = 1 := by omega
      subst this
      revert h2
      show ((((1 : Nat) : Int) == 1) || _) = false → False
      intro h2
      cases h2
    · exfalso
      have : n = 1 := by omega
      subst this
      revert h2
      show ((((1 : Nat) : Int) == 1) || _) = false → False
      intro h2
      cases h2
    · by_cases c0 : n = 0
      · subst c0
        rw [if_pos (by omega)]
        exact ⟨by decide, .str (repS z 0), H, I.tok _, ⟨_, rfl⟩, q⟩
      · have : n = 1 := by omega
        subst this
        rw [if_neg (by omega), if_pos (by rfl)]
        have e : repS z 1 = z := Str.ext' (Array.toList_inj.mp (by rw [repS_tl]; simp))
        rw [e] at q
        exact ⟨.str z, H, I, ⟨_, rfl⟩, q⟩
theorem r_repA {z : Str} {n : Int} {m : Nat} {H : Hp} {Q : VK} (e : n = (m : Int)) (n3 : m ≤ 1000) (lz : z.length = 1) (q : Q (.str (repS z m)) H) : rRepA (.str z) (.int n) H Q := ⟨z, m, rfl, by rw [e], n3, lz, q⟩
end Z
theorem r_mkPrI {C CS CA B TM : Addr} {K : PySem.W.Frag} {z : Str} {H : Hp} {Q : VK} {E : XK} {sp : Sp} (esp : sp = (fun vs H Q E => ∃ (p dx : Addr) (x : V), vs = [.ref p, x] ∧ H p = some (.ins C dx []) ∧
  ((∃ z : Str, x = .str z ∧ TextOk z ∧ PrOut C CS CA B H z (fun g => ∀ H1, Z.But p H H1 → RaiseWh TM H1 g E) (fun a H' => a.p = p → Z.But p H H' → Q .non H') E) ∨ (∃ t, TyX K H x t ∧ PySem.W.kitOne K t (.type "str") = some false ∧ RaiseLn B H (-1) E)) : Sp)) (tz : TextOk z)
    (q : PrOut C CS CA B H z (fun g => RaiseWh TM H g E) (fun a H' => H a.p = none → Same H H' → Q (.ref a.p) H') E) : Z.mkI C sp [] [.str z] H Q E := r_mkPr esp tz q
namespace Z
open PySem PySem.Spec PyProof.Rows L2
theorem r_sumI' {K : PySem.W.Frag} {a : Addr} {ns : List Int} {H : Hp} {Q : VK} (hs : SqL K H a (ns.map V.int)) (h : Q (.int ns.sum) H) : rSum K [.ref a] H Q := ⟨a, ns, rfl, hs, h⟩
theorem c_lenK' {X : Cx} {K : PySem.W.Frag} (e : X.K = K) : CallR X (.builtin "len") (rLen K) := e ▸ c_len
end Z

/-! the lines that the law builds, read -/
def resWs : List Str := ["x", "before", "nothing", "here", "min", "max", "if", "else", "and", "or", "not", "in", "is", "told", "by", "skip", "leave", "set", "keep", "flag", "sum", "count", "place", "steps", "drop", "fill", "hold", "shift", "answer"]
def One (y : Str) : Prop := ∃ c : Nat, y = ⟨#[c]⟩ ∧ 97 ≤ c ∧ c ≤ 122
theorem one_join : ∀ {ys : List Str}, (∀ y ∈ ys, One y) → (ys.map (·.length)).sum = ys.length ∧ (TL.tl (Txt.join ("" : Str) ys)).length = ys.length ∧ ∀ c ∈ TL.tl (Txt.join ("" : Str) ys), 97 ≤ c ∧ c ≤ 122
  | [], _ => ⟨rfl, by rw [TL.join_eq, TL.tl_join]; rfl, fun c hc => by rw [TL.join_eq, TL.tl_join] at hc; cases hc⟩
  | [y], h => by
    obtain ⟨c, rfl, c0, c1⟩ := h _ (List.mem_singleton.mpr rfl)
    refine ⟨rfl, by rw [TL.join_eq, TL.tl_join]; rfl, fun d hd => ?_⟩
    rw [TL.join_eq, TL.tl_join] at hd
    have hd : d ∈ [c] := hd
    rw [List.mem_singleton.mp hd]
    exact ⟨c0, c1⟩
  | y :: z :: r, h => by
    obtain ⟨c, rfl, c0, c1⟩ := h _ (List.mem_cons_self ..)
    obtain ⟨i1, i2, i3⟩ := one_join (ys := z :: r) fun y hy => h y (List.mem_cons_of_mem _ hy)
    rw [TL.join_eq, TL.tl_join] at i2 i3
    have e : TL.tl (Txt.join ("" : Str) (⟨#[c]⟩ :: z :: r)) = c :: TL.joinL (TL.tl ("" : Str)) ((z :: r).map TL.tl) := by
      rw [TL.join_eq, TL.tl_join]; rfl
    refine ⟨?_, by rw [e, List.length_cons, i2]; rfl, fun d hd => ?_⟩
    · rw [List.map_cons, List.sum_cons, i1]
      show 1 + (z :: r).length = (z :: r).length + 1
      omega
    · rw [e] at hd
      rcases List.mem_cons.mp hd with rfl | hd
      · exact ⟨c0, c1⟩
      · exact i3 d hd
section
open Tx Tk
theorem tl_app (a b : Str) : tl (a ++ b) = tl a ++ tl b := by
  show (a.cps ++ b.cps).toList = _
  rw [Array.toList_append]
theorem res_eq : RES = resWs := rfl
theorem name_of {w : Str} (h : Word w) (n : w ∉ resWs) : isName w = true := by
  unfold isName
  rw [(isWord_iff w).mpr ⟨h.1, h.2.1, h.2.2⟩, res_eq, decide_eq_true n]; rfl
theorem word_ne {w : Str} (h : Word w) : tl w ≠ [] := fun e => by
  have := h.1
  rw [tl_len, e] at this
  exact absurd this (by decide)
/-- a name that can't be one -/
def Wrong (x : Str) : Prop := (tl x ≠ [] ∧ letters (tl x) ∧ isName x = false ∧ x.length ≤ 40) ∨
  (∃ (a b : List Nat) (c : Nat), tl x = a ++ c :: b ∧ a ≠ [] ∧ b ≠ [] ∧ letters a ∧ letters b ∧ c ∈ ([48, 49, 55, 95, 45, 65, 46, 32] : List Nat) ∧ x.length ≤ 40)
theorem Wrong.len {x : Str} (h : Wrong x) : x.length ≤ 40 := by
  rcases h with ⟨_, _, _, h⟩ | ⟨_, _, _, _, _, _, _, _, _, h⟩ <;> exact h
theorem Wrong.sign {x : Str} (h : Wrong x) : (10 : Nat) ∉ tl x := by
  rcases h with ⟨_, h, _⟩ | ⟨a, b, c, e, _, _, h1, h2, h3, _⟩
  · intro m; have := h 10 m; omega
  · rw [e]
    intro m
    rcases List.mem_append.mp m with m | m
    · have := h1 10 m; omega
    · rcases List.mem_cons.mp m with m | m
      · rw [← m] at h3; revert h3; decide
      · have := h2 10 m; omega
def tail0 : List Nat := [32, 61, 32, 48]
theorem tl_tail0 : tl (" = 0" : Str) = tail0 := by decide +kernel
theorem toks_tail0 : toks LL tail0 = some [[61], [48]] := by decide +kernel
/-- what stands behind a name -/
def tailOk (t : List Nat) (ts : List (List Nat)) : Prop := (t = [] ∧ ts = []) ∨ (t = tail0 ∧ ts = [[61], [48]])
theorem tailOk.toks {t : List Nat} {ts : List (List Nat)} (h : tailOk t ts) : toks LL t = some ts := by
  rcases h with ⟨rfl, rfl⟩ | ⟨rfl, rfl⟩
  · rfl
  · exact toks_tail0
theorem tailOk.head {t : List Nat} {ts : List (List Nat)} (h : tailOk t ts) : t = [] ∨ ∃ c r, t = c :: r ∧ ¬ (97 ≤ c ∧ c ≤ 122) := by
  rcases h with ⟨rfl, _⟩ | ⟨rfl, _⟩
  · exact .inl rfl
  · exact .inr ⟨32, _, rfl, by omega⟩
theorem toks_sign {c : Nat} {r : List Nat} {ts : List (List Nat)} (h : c = 48 ∨ c = 49) (hr : toks LL r = some ts) : toks LL (c :: r) = some ([c] :: ts) := by
  have e : tokAt LL (c :: r) = some [c] := by
    rw [tok_sign (by omega)]
    rcases h with rfl | rfl <;> rfl
  rw [toks_some (by omega) e]
  show (toks LL r).map _ = _
  rw [hr]; rfl
theorem toks_strange {c d : Nat} {r : List Nat} (h : c = 55 ∨ c = 95 ∨ c = 45 ∨ c = 65 ∨ c = 46) (hd : 97 ≤ d) : toks LL (c :: d :: r) = none := by
  refine toks_none (by omega) ?_
  rw [tok_sign (by omega)]
  rcases h with rfl | rfl | rfl | rfl | rfl
  · rfl
  · rfl
  · have : (61 == d) = false := by simpa using (by omega : ¬ 61 = d)
    simp [oL, List.find?, List.isPrefixOf, this]
  · rfl
  · rfl
/-- how a wrong name is read -/
theorem wrong_toks {x : Str} {t : List Nat} {ts : List (List Nat)} (h : Wrong x) (ht : tailOk t ts) : toks LL (tl x ++ t) = none ∨
    (isName x = false ∧ toks LL (tl x ++ t) = some (tl x :: ts)) ∨ ∃ a u r, toks LL (tl x ++ t) = some (a :: u :: r) ∧ mk u ≠ ("=" : Str) := by
  have eq61 : ∀ u, mk u = ("=" : Str) → u = [61] := fun u e => by
    have := congrArg tl e
    exact this.trans (by decide +kernel)
  rcases h with ⟨ne, hl, hn, _⟩ | ⟨a, b, c, e, na, nb, ha, hb, hc, _⟩
  · right; left
    refine ⟨hn, ?_⟩
    rw [toks_word ne hl ht.head, ht.toks]; rfl
  · rw [e, List.append_assoc]
    obtain ⟨d, b', rfl⟩ : ∃ d b', b = d :: b' := by
      cases b with
      | nil => exact absurd rfl nb
      | cons d b' => exact ⟨d, b', rfl⟩
    have hd := hb d List.mem_cons_self
    have tb : toks LL ((d :: b') ++ t) = some ((d :: b') :: ts) := by
      rw [toks_word nb hb ht.head, ht.toks]; rfl
    have cl : ¬ (97 ≤ c ∧ c ≤ 122) := by
      simp only [List.mem_cons, List.not_mem_nil, or_false] at hc
      omega
    have ta : toks LL (a ++ (c :: (d :: b') ++ t)) = (toks LL (c :: (d :: b') ++ t)).map (a :: ·) := toks_word na ha (.inr ⟨c, _, rfl, cl⟩)
    rw [ta]
    simp only [List.mem_cons, List.not_mem_nil, or_false] at hc
    by_cases c1 : c = 48 ∨ c = 49
    · right; right
      rw [List.cons_append, toks_sign c1 tb]
      refine ⟨_, _, _, rfl, fun z => ?_⟩
      have := eq61 _ z
      simp at this
      omega
    · by_cases c2 : c = 32
      · right; right
        subst c2
        rw [List.cons_append, toks_space, tb]
        refine ⟨_, _, _, rfl, fun z => ?_⟩
        have := eq61 _ z
        simp at this
        omega
      · left
        rw [List.cons_append, List.cons_append, toks_strange (by omega) hd.1]; rfl
theorem tkS {x : Str} {o : Option (List (List Nat))} (h : toks LL (tl x) = o) : toksS x = o.map fun ts => ts.map mk := by
  unfold toksS
  rw [LL_let, h]
theorem knd_word : ∀ g ∈ KND, tl g ≠ [] ∧ letters (tl g) := by
  unfold KND letters
  decide +kernel
theorem toks_pre {g : Str} {r : List Nat} (h : tl g ≠ [] ∧ letters (tl g)) : toks LL (tl g ++ (32 :: r)) = (toks LL r).map (tl g :: ·) := by
  rw [toks_word h.1 h.2 (.inr ⟨32, r, rfl, by omega⟩), toks_space]
theorem sp_tl (g w : Str) : tl (g ++ (" " : Str) ++ w) = tl g ++ (32 :: tl w) := by
  rw [tl_app, tl_app, sp32, List.append_assoc]; rfl
theorem ans_tl (w : Str) : tl (("answer " : Str) ++ w ++ (" = 0" : Str)) = tl ("answer" : Str) ++ (32 :: (tl w ++ tail0)) := by
  rw [tl_app, tl_app, tl_tail0, show tl ("answer " : Str) = tl ("answer" : Str) ++ [32] by decide +kernel]
  simp only [List.append_assoc, List.singleton_append, List.cons_append, List.nil_append]
theorem keep_tl (w : Str) : tl (("keep " : Str) ++ w ++ (" = 0" : Str)) = tl ("keep" : Str) ++ (32 :: (tl w ++ tail0)) := by
  rw [tl_app, tl_app, tl_tail0, show tl ("keep " : Str) = tl ("keep" : Str) ++ [32] by decide +kernel]
  simp only [List.append_assoc, List.singleton_append, List.cons_append, List.nil_append]
theorem ans_word : tl ("answer" : Str) ≠ [] ∧ letters (tl ("answer" : Str)) := by
  unfold letters
  decide +kernel
/-! single lines -/
theorem reg_part {g : Str} (h : g ∈ KND) : partOf g = 0 := if_pos h
theorem rdLine_reg {s : DSt} {l g : Str} {r : List Str} (hg : g ∈ KND) (hp : s.part = 0) (ht : toksS l = some (g :: r)) :
    rdLine s l = (rdReg { s with part := 0 } (g :: r)).bind fun s _ => .ok { s with lines := s.lines ++ [writtenS (g :: r)] } [] := by
  unfold rdLine
  rw [ht]
  dsimp only
  rw [reg_part hg, hp, if_neg (fun z => z.elim (fun z => absurd z (by omega)) fun z => by
    rw [z.1] at hg
    revert hg
    decide)]
  unfold rdBody
  rw [if_pos hg]
theorem wrong_reg {s : DSt} {g x : Str} (hg : g ∈ KND) (hp : s.part = 0) {l : Str} {t : List Nat} {ts : List (List Nat)} (h : Wrong x) (ht : tailOk t ts) (hl : tl l = tl g ++ (32 :: (tl x ++ t))) : rdLine s l = .bad := by
  have e := toks_pre (r := tl x ++ t) (knd_word g hg)
  rw [← hl] at e
  rcases wrong_toks h ht with c | ⟨hn, c⟩ | ⟨a, u, r, c, hu⟩
  · rw [c] at e
    unfold rdLine
    rw [tkS e]; rfl
  · rw [c] at e
    have e2 : toksS l = some (g :: x :: ts.map mk) := by
      rw [tkS e]
      show some (mk (tl g) :: mk (tl x) :: ts.map mk) = _
      rw [mk_tl, mk_tl]
    rw [rdLine_reg hg hp e2]
    unfold rdReg
    dsimp only
    rw [if_neg (fun z => by rw [hn] at z; exact Bool.false_ne_true z.1)]; rfl
  · rw [c] at e
    have e2 : toksS l = some (g :: mk a :: mk u :: r.map mk) := by
      rw [tkS e]
      show some (mk (tl g) :: mk a :: mk u :: r.map mk) = _
      rw [mk_tl]
    rw [rdLine_reg hg hp e2]
    unfold rdReg
    dsimp only
    split
    · rw [if_neg (fun z => hu (Option.some.inj z.2))]; rfl
    · rfl
theorem ans_part : partOf "answer" = 3 := by decide +kernel
theorem rdLine_ans {s : DSt} {l : Str} {r : List Str} (hp : s.part ≤ 3) (ht : toksS l = some (("answer" : Str) :: r)) :
    rdLine s l = (rdAnsL { s with part := 3 } (("answer" : Str) :: r)).bind fun s _ => .ok { s with lines := s.lines ++ [writtenS (("answer" : Str) :: r)] } [] := by
  unfold rdLine
  rw [ht]
  dsimp only
  rw [ans_part, if_neg (fun z => z.elim (fun z => absurd z (by omega)) fun z => absurd z.1 (by decide))]
  unfold rdBody
  rw [if_neg (by decide +kernel), if_neg (by decide), if_pos rfl]
theorem rdAns0 {ks : List (Str × Str)} {n z : Str} (h0 : kindOf ks z = "") (hz : z = "0" ∨ z = "nothing") : rdAns ks ["answer", n, "=", z] = .ok ⟨n, none, none, .value (.leaf z)⟩ [] := by
  have nz : z ≠ ("told" : Str) := by rcases hz with rfl | rfl <;> decide
  have nm : z ∉ (["min", "max"] : List Str) := by rcases hz with rfl | rfl <;> decide
  have n0 : z ∈ (["0", "nothing"] : List Str) := by rcases hz with rfl | rfl <;> decide
  have e1 : rdTold ks [z] = .ok (none, none) [z] := if_neg (fun y => nz (Option.some.inj y))
  have e2 : rdTerm false ks 20 [z] = .ok (.leaf z) [] := by
    show (if z ∈ (["min", "max"] : List Str) then _ else rdLeaf false ks z []) = _
    rw [if_neg nm]
    unfold rdLeaf
    rw [if_pos (.inl n0)]
  have e3 : rdRes false ks [z] = .ok (.value (.leaf z)) [] := by
    unfold rdRes
    rw [show ([z] : List Str).headD "" = z from rfl, h0, if_pos (by decide), e2]; rfl
  unfold rdAns
  rw [expT_ok]
  show Res.bind (expT "=" [("=" : Str), z]) (fun _ r => Res.bind (rdTold ks r) fun pf r => Res.bind (rdRes false ks r) fun x r => endT (Ans.mk n pf.2 pf.1 x) r) = _
  rw [expT_ok]
  show Res.bind (rdTold ks [z]) (fun pf r => Res.bind (rdRes false ks r) fun x r => endT (Ans.mk n pf.2 pf.1 x) r) = _
  rw [e1]
  show Res.bind (rdRes false ks [z]) (fun x r => endT (Ans.mk n none none x) r) = _
  rw [e3]; rfl
theorem wrong_ans {x : Str} (h : Wrong x) : rdLine DSt0 (("answer " : Str) ++ x ++ (" = 0" : Str)) = .bad := by
  have ht : tailOk tail0 [[61], [48]] := .inr ⟨rfl, rfl⟩
  have e := toks_pre (r := tl x ++ tail0) ans_word
  rw [← ans_tl] at e
  have h61 : mk [61] = ("=" : Str) := by decide +kernel
  have h48 : mk [48] = ("0" : Str) := by decide +kernel
  rcases wrong_toks h ht with c | ⟨hn, c⟩ | ⟨a, u, r, c, hu⟩
  · rw [c] at e
    unfold rdLine
    rw [tkS e]; rfl
  · rw [c] at e
    have e2 : toksS (("answer " : Str) ++ x ++ (" = 0" : Str)) = some [("answer" : Str), x, "=", "0"] := by
      rw [tkS e]
      show some [mk (tl ("answer" : Str)), mk (tl x), mk [61], mk [48]] = _
      rw [mk_tl, mk_tl, h61, h48]
    rw [rdLine_ans (by decide) e2]
    unfold rdAnsL
    rw [rdAns0 rfl (.inl rfl)]
    show Res.bind (if isName x = true ∧ _ then _ else _) _ = _
    rw [if_neg (fun z => by rw [hn] at z; exact Bool.false_ne_true z.1)]; rfl
  · rw [c] at e
    have e2 : toksS (("answer " : Str) ++ x ++ (" = 0" : Str)) = some (("answer" : Str) :: mk a :: mk u :: r.map mk) := by
      rw [tkS e]
      show some (mk (tl ("answer" : Str)) :: mk a :: mk u :: r.map mk) = _
      rw [mk_tl]
    rw [rdLine_ans (by decide) e2]
    unfold rdAnsL rdAns
    rw [expT_ok]
    show Res.bind (Res.bind ((expT "=" (mk u :: r.map mk)).bind _) _) _ = _
    rw [expT_bad (r := mk u :: r.map mk) (fun z => hu (Option.some.inj z))]; rfl
/-- a register's line -/
theorem good_reg {s : DSt} {g w : Str} (hg : g ∈ KND) (hp : s.part = 0) (hw : Word w) (hn : w ∉ resWs) : rdLine s (g ++ (" " : Str) ++ w) =
    if w ∈ s.kinds.map (·.1) then .bad else .ok { s with part := 0, kinds := s.kinds ++ [(w, g)], starts := if g = "keep" then s.starts ++ [false] else s.starts, lines := s.lines ++ [writtenS [g, w]] } [] := by
  have e := toks_pre (r := tl w) (knd_word g hg)
  rw [← sp_tl, show tl w = tl w ++ [] from (List.append_nil _).symm, toks_word (word_ne hw) hw.2.2 (.inl rfl)] at e
  have e2 : toksS (g ++ (" " : Str) ++ w) = some [g, w] := by
    have e : toks LL (tl (g ++ (" " : Str) ++ w)) = some [tl g, tl w] := e
    rw [tkS e]
    show some [mk (tl g), mk (tl w)] = _
    rw [mk_tl, mk_tl]
  rw [rdLine_reg hg hp e2]
  unfold rdReg
  dsimp only
  by_cases c : w ∈ s.kinds.map (·.1)
  · rw [if_neg (fun z => z.2 c), if_pos c]; rfl
  · rw [if_pos ⟨name_of hw hn, c⟩, if_neg c, if_neg (fun z => by cases z.2)]; rfl
theorem good_keep {s : DSt} {w : Str} (hp : s.part = 0) (hw : Word w) (hn : w ∉ resWs) (c : w ∉ s.kinds.map (·.1)) : rdLine s (("keep " : Str) ++ w ++ (" = 0" : Str)) =
    .ok { s with part := 0, kinds := s.kinds ++ [(w, ("keep" : Str))], starts := s.starts ++ [true], lines := s.lines ++ [writtenS ["keep", w, "=", "0"]] } [] := by
  have hg : ("keep" : Str) ∈ KND := by decide
  have ht : tailOk tail0 [[61], [48]] := .inr ⟨rfl, rfl⟩
  have e := toks_pre (r := tl w ++ tail0) (knd_word _ hg)
  rw [← keep_tl, toks_word (word_ne hw) hw.2.2 ht.head, ht.toks] at e
  have h61 : mk [61] = ("=" : Str) := by decide +kernel
  have h48 : mk [48] = ("0" : Str) := by decide +kernel
  have e2 : toksS (("keep " : Str) ++ w ++ (" = 0" : Str)) = some [("keep" : Str), w, "=", "0"] := by
    have e : toks LL (tl (("keep " : Str) ++ w ++ (" = 0" : Str))) = some [tl ("keep" : Str), tl w, [61], [48]] := e
    rw [tkS e]
    show some [mk (tl ("keep" : Str)), mk (tl w), mk [61], mk [48]] = _
    rw [mk_tl, mk_tl, h61, h48]
  rw [rdLine_reg hg hp e2]
  unfold rdReg
  dsimp only
  rw [if_pos ⟨name_of hw hn, c⟩, if_pos ⟨rfl, rfl⟩]
  show Res.bind (Res.bind (Res.bind (expT "0" ["0"]) _) _) _ = _
  rw [expT_ok]; rfl
/-- an answer's line -/
theorem good_ans {s : DSt} {w z : Str} (hp : s.part ≤ 3) (hw : Word w) (hn : w ∉ resWs) (hz : z = "0" ∨ z = "nothing") (h0 : kindOf s.kinds z = "") : rdLine s (("answer " : Str) ++ w ++ ((" = " : Str) ++ z)) =
    if w ∈ s.answers.map (·.name) then .bad else .ok { s with part := 3, answers := s.answers ++ [⟨w, none, none, .value (.leaf z)⟩], lines := s.lines ++ [writtenS ["answer", w, "=", z]] } [] := by
  have h61 : mk [61] = ("=" : Str) := by decide +kernel
  have et : toks LL (tl ((" = " : Str) ++ z)) = some [[61], tl z] ∧ ∃ r, tl ((" = " : Str) ++ z) = 32 :: r := by
    rcases hz with rfl | rfl
    · exact ⟨by decide +kernel, [61, 32, 48], by decide +kernel⟩
    · exact ⟨by decide +kernel, [61, 32, 110, 111, 116, 104, 105, 110, 103], by decide +kernel⟩
  obtain ⟨et, r0, er⟩ := et
  have el : tl (("answer " : Str) ++ w ++ ((" = " : Str) ++ z)) = tl ("answer" : Str) ++ (32 :: (tl w ++ tl ((" = " : Str) ++ z))) := by
    rw [tl_app, tl_app, show tl ("answer " : Str) = tl ("answer" : Str) ++ [32] by decide +kernel]
    simp only [List.append_assoc, List.singleton_append, List.cons_append, List.nil_append]
  have e := toks_pre (r := tl w ++ tl ((" = " : Str) ++ z)) ans_word
  rw [← el, toks_word (word_ne hw) hw.2.2 (.inr ⟨32, r0, er, by omega⟩), et] at e
  have e2 : toksS (("answer " : Str) ++ w ++ ((" = " : Str) ++ z)) = some [("answer" : Str), w, "=", z] := by
    have e : toks LL (tl (("answer " : Str) ++ w ++ ((" = " : Str) ++ z))) = some [tl ("answer" : Str), tl w, [61], tl z] := e
    rw [tkS e]
    show some [mk (tl ("answer" : Str)), mk (tl w), mk [61], mk (tl z)] = _
    rw [mk_tl, mk_tl, mk_tl, h61]
  rw [rdLine_ans hp e2]
  unfold rdAnsL
  rw [rdAns0 h0 hz]
  show Res.bind (if isName w = true ∧ w ∉ s.answers.map (·.name) then _ else _) _ = _
  by_cases c : w ∈ s.answers.map (·.name)
  · rw [if_neg (fun z => z.2 c), if_pos c]; rfl
  · rw [if_pos ⟨name_of hw hn, c⟩, if_neg c]; rfl
end
def rdLs (ls : List Str) : DR := match rdFrom 0 DSt0 ls with
  | .ok s => if s.answers = [] then .bad s.lines.length else .ok s
  | z => z
theorem rdDraft_ls (z : Str) : rdDraft z = rdLs (linesOf z) := rfl
theorem rdLs_bad0 {l : Str} {ls : List Str} (h : rdLine DSt0 l = .bad) : rdLs (l :: ls) = .bad 0 := by
  unfold rdLs rdFrom
  rw [h]
theorem kind_none {ks : List (Str × Str)} {z : Str} (h : z ∉ ks.map (·.1)) : kindOf ks z = "" := by
  unfold kindOf
  induction ks with
  | nil => rfl
  | cons k r ih =>
    rw [List.map_cons] at h
    have h1 : ¬ z = k.1 := fun e => h (e ▸ List.mem_cons_self)
    rw [List.lookup_cons, show (z == k.1) = false by simpa using h1]
    exact ih fun m => h (List.mem_cons_of_mem _ m)
theorem over_none {ls : Str → Nat} : ∀ {ks : List (Str × Nat)}, (∀ k ∈ ks, ls k.1 ≤ k.2) → overAt ls ks = none := by
  intro ks h
  unfold overAt
  rw [List.find?_eq_none.mpr fun k hk => by
    rw [decide_eq_false (Nat.not_lt.mpr (h k hk))]; exact Bool.false_ne_true]
  rfl
theorem rdFrom_ok {k : Nat} {s s2 : DSt} {l : Str} {r ls : List Str} (h : rdLine s l = .ok s2 r) : rdFrom k s (l :: ls) = rdFrom (k + 1) s2 ls := by
  show (match rdLine s l with | .out => DR.out | .bad => .bad k | .ok s' _ => rdFrom (k + 1) s' ls) = _
  rw [h]
theorem rdFrom_bad {k : Nat} {s : DSt} {l : Str} {ls : List Str} (h : rdLine s l = .bad) : rdFrom k s (l :: ls) = .bad k := by
  show (match rdLine s l with | .out => DR.out | .bad => .bad k | .ok s' _ => rdFrom (k + 1) s' ls) = _
  rw [h]
theorem eq0 : (" = 0" : Str) = (" = " : Str) ++ ("0" : Str) := by decide +kernel
theorem eqN : (" = nothing" : Str) = (" = " : Str) ++ ("nothing" : Str) := by decide +kernel
theorem zero_word {w z : Str} (h : Word w) (hn : w ∉ resWs) (hz : z = "0" ∨ z = "nothing") : z ≠ w := by
  rintro rfl
  rcases hz with rfl | rfl
  · have := h.2.2 48 (by decide +kernel)
    omega
  · exact hn (by decide)
/-- what a register's line, an answer's line leaves -/
theorem step_reg {s : DSt} {g w : Str} (hg : g ∈ KND) (hp : s.part = 0) (hw : Word w) (hn : w ∉ resWs) (c : w ∉ s.kinds.map (·.1)) : ∃ s2, rdLine s (g ++ (" " : Str) ++ w) = .ok s2 [] ∧ s2.part = 0 ∧ s2.kinds = s.kinds ++ [(w, g)] ∧ s2.answers = s.answers ∧ s2.steps = s.steps ∧ s2.slines = s.slines := by
  have e := good_reg hg hp hw hn
  rw [if_neg c] at e
  exact ⟨_, e, rfl, rfl, rfl, rfl, rfl⟩
theorem step_ans {s : DSt} {w z : Str} (hp : s.part ≤ 3) (hw : Word w) (hn : w ∉ resWs) (hz : z = "0" ∨ z = "nothing") (h0 : kindOf s.kinds z = "") (c : w ∉ s.answers.map (·.name)) :
    ∃ s2, rdLine s (("answer " : Str) ++ w ++ ((" = " : Str) ++ z)) = .ok s2 [] ∧ s2.part = 3 ∧ s2.kinds = s.kinds ∧ s2.answers = s.answers ++ [⟨w, none, none, .value (.leaf z)⟩] ∧ s2.steps = s.steps ∧ s2.slines = s.slines := by
  have e := good_ans hp hw hn hz h0
  rw [if_neg c] at e
  exact ⟨_, e, rfl, rfl, rfl, rfl, rfl⟩
theorem bad_ans {s : DSt} {w z : Str} (hp : s.part ≤ 3) (hw : Word w) (hn : w ∉ resWs) (hz : z = "0" ∨ z = "nothing") (h0 : kindOf s.kinds z = "") (c : w ∈ s.answers.map (·.name)) : rdLine s (("answer " : Str) ++ w ++ ((" = " : Str) ++ z)) = .bad := by
  have e := good_ans hp hw hn hz h0
  rwa [if_pos c] at e
theorem over_few {s : DSt} (h1 : s.kinds.length ≤ 2) (h2 : s.steps = []) (h3 : s.slines = []) (h4 : s.answers.length ≤ 4) : overAt (lensOf s) limKs = none := by
  refine over_none ?_
  have two : ∀ k : Str, (namesOf s k).length ≤ 2 := fun k => by
    unfold namesOf
    rw [List.length_map]
    exact Nat.le_trans (List.length_filter_le _ _) h1
  intro k hk
  unfold limKs at hk
  simp only [List.mem_cons, List.not_mem_nil, or_false] at hk
  rcases hk with rfl | rfl | rfl | rfl | rfl | rfl | rfl | rfl
  · exact Nat.le_trans (two "keep") (by decide)
  · exact two "flag"
  · exact two "sum"
  · exact two "count"
  · exact two "place"
  · show s.steps.length ≤ 3
    rw [h2]; exact Nat.zero_le _
  · show s.slines.length ≤ 10
    rw [h3]; exact Nat.zero_le _
  · exact h4
section
variable {g o w x n : Str} {last : List Str}
theorem f_twice (hg : g ∈ KND) (ho : o ∈ KND) (hw : Word w) (hn : w ∉ resWs) : rdLs ((g ++ (" " : Str) ++ w) :: (o ++ (" " : Str) ++ w) :: last) = .bad 1 := by
  unfold rdLs
  obtain ⟨s1, e1, p1, k1, _⟩ := step_reg (s := DSt0) hg rfl hw hn (by intro z; cases z)
  rw [rdFrom_ok e1, rdFrom_bad]
  rw [good_reg ho p1 hw hn, if_pos (by rw [k1]; exact List.mem_singleton.mpr rfl)]
theorem f_keep (ho : o ∈ KND) (hw : Word w) (hn : w ∉ resWs) : rdLs ((("keep " : Str) ++ w ++ (" = 0" : Str)) :: (o ++ (" " : Str) ++ w) :: last) = .bad 1 := by
  unfold rdLs
  have e1 := good_keep (s := DSt0) rfl hw hn (by intro z; cases z)
  rw [rdFrom_ok e1, rdFrom_bad]
  rw [good_reg ho rfl hw hn, if_pos (by exact List.mem_singleton.mpr rfl)]
theorem f_two (hg : g ∈ KND) (ho : o ∈ KND) (hw : Word w) (hn : w ∉ resWs) (hx : Word x) (hm : x ∉ resWs) (ne : x ≠ w) (hnm : Word n) (hnn : n ∉ resWs) :
    ∃ s, rdLs [g ++ (" " : Str) ++ w, o ++ (" " : Str) ++ x, ("answer " : Str) ++ n ++ (" = 0" : Str)] = .ok s ∧ overAt (lensOf s) limKs = none := by
  obtain ⟨s1, e1, p1, k1, a1, t1, l1⟩ := step_reg (s := DSt0) hg rfl hw hn (by intro z; cases z)
  obtain ⟨s2, e2, p2, k2, a2, t2, l2⟩ := step_reg (s := s1) ho p1 hx hm (by rw [k1]; intro z; exact ne (List.mem_singleton.mp z))
  obtain ⟨s3, e3, p3, k3, a3, t3, l3⟩ := step_ans (s := s2) (z := "0") (by omega) hnm hnn (.inl rfl) (kind_none (by
    rw [k2, k1]
    intro z
    have z : ("0" : Str) ∈ [w, x] := z
    rcases List.mem_cons.mp z with z | z
    · exact zero_word hw hn (.inl rfl) z
    · exact zero_word hx hm (.inl rfl) (List.mem_singleton.mp z))) (by rw [a2, a1]; intro z; cases z)
  rw [← eq0] at e3
  refine ⟨s3, ?_, over_few (by rw [k3, k2, k1]; exact Nat.le_refl _) (by rw [t3, t2, t1]; rfl) (by rw [l3, l2, l1]; rfl) (by rw [a3, a2, a1]; exact Nat.le_of_ble_eq_true rfl)⟩
  unfold rdLs
  rw [rdFrom_ok e1, rdFrom_ok e2, rdFrom_ok e3]
  show (if s3.answers = [] then _ else _) = _
  rw [if_neg (by rw [a3]; simp)]
theorem f_both (hg : g ∈ KND) (hw : Word w) (hn : w ∉ resWs) : ∃ s, rdLs [g ++ (" " : Str) ++ w, ("answer " : Str) ++ w ++ (" = 0" : Str)] = .ok s ∧ overAt (lensOf s) limKs = none ∧ s.kinds = [(w, g)] ∧ s.answers.map (·.name) = [w] := by
  obtain ⟨s1, e1, p1, k1, a1, t1, l1⟩ := step_reg (s := DSt0) hg rfl hw hn (by intro z; cases z)
  obtain ⟨s3, e3, p3, k3, a3, t3, l3⟩ := step_ans (s := s1) (z := "0") (by omega) hw hn (.inl rfl) (kind_none (by
    rw [k1]
    intro z
    exact zero_word hw hn (.inl rfl) (List.mem_singleton.mp z))) (by rw [a1]; intro z; cases z)
  rw [← eq0] at e3
  refine ⟨s3, ?_, over_few (by rw [k3, k1]; exact Nat.le_of_ble_eq_true rfl) (by rw [t3, t1]; rfl) (by rw [l3, l1]; rfl) (by rw [a3, a1]; exact Nat.le_of_ble_eq_true rfl), by rw [k3, k1]; rfl, by rw [a3, a1]; rfl⟩
  unfold rdLs
  rw [rdFrom_ok e1, rdFrom_ok e3]
  show (if s3.answers = [] then _ else _) = _
  rw [if_neg (by rw [a3]; simp)]
theorem f_again (hw : Word w) (hn : w ∉ resWs) (hnm : Word n) (hnn : n ∉ resWs) : ∃ k : Nat, 1 ≤ k ∧ rdLs [("answer " : Str) ++ n ++ (" = 0" : Str), ("answer " : Str) ++ w ++ (" = 0" : Str), ("answer " : Str) ++ w ++ (" = nothing" : Str)] = .bad k := by
  obtain ⟨s1, e1, p1, k1, a1, t1, l1⟩ := step_ans (s := DSt0) (z := "0") (by decide) hnm hnn (.inl rfl) rfl (by intro z; cases z)
  have nk : ∀ z : Str, kindOf s1.kinds z = "" := fun z => by rw [k1]; rfl
  by_cases c : w ∈ s1.answers.map (·.name)
  · refine ⟨1, Nat.le_refl _, ?_⟩
    have e2 := bad_ans (s := s1) (z := "0") (by omega) hw hn (.inl rfl) (nk _) c
    rw [← eq0] at e1 e2
    unfold rdLs
    rw [rdFrom_ok e1, rdFrom_bad e2]
  · refine ⟨2, by decide, ?_⟩
    obtain ⟨s2, e2, p2, k2, a2, t2, l2⟩ := step_ans (s := s1) (z := "0") (by omega) hw hn (.inl rfl) (nk _) c
    have e3 := bad_ans (s := s2) (z := "nothing") (by omega) hw hn (.inr rfl) (by rw [k2]; exact nk _) (by rw [a2, List.map_append]; simp)
    rw [← eq0] at e1 e2
    rw [← eqN] at e3
    unfold rdLs
    rw [rdFrom_ok e1, rdFrom_ok e2, rdFrom_bad e3]
end
/-- lines that are joined and split again -/
structure LinesOk (ls : List Str) : Prop where
  ne : ls ≠ []
  n : ls.length ≤ 60
  each : ∀ l ∈ ls, l.length ≤ 1400 ∧ (10 : Nat) ∉ Tx.tl l
theorem joinL_len (S : List Nat) : ∀ ys : List (List Nat), (TL.joinL S ys).length ≤ (ys.map List.length).sum + ys.length * S.length
  | [] => Nat.zero_le _
  | [y] => by
    show y.length ≤ _
    simp
  | y :: z :: r => by
    have ih := joinL_len S (z :: r)
    show (y ++ (S ++ TL.joinL S (z :: r))).length ≤ _
    rw [List.length_append, List.length_append, List.map_cons, List.sum_cons, List.length_cons, Nat.succ_mul]
    omega
theorem nl10 : Tx.tl ("\n" : Str) = [10] := by decide +kernel
theorem LinesOk.split {ls : List Str} (h : LinesOk ls) : linesOf (Txt.join ("\n" : Str) ls) = ls :=
  TL.split_join (s := 10) (S := []) (by show Tx.tl _ = _; exact nl10) (by decide +kernel) h.ne fun p hp => (h.each p hp).2
theorem sum_le {ns : List Nat} {b : Nat} (h : ∀ x ∈ ns, x ≤ b) : ns.sum ≤ ns.length * b := by
  induction ns with
  | nil => exact Nat.zero_le _
  | cons x r ih =>
    have h1 := h x List.mem_cons_self
    have h2 := ih fun y hy => h y (List.mem_cons_of_mem _ hy)
    rw [List.sum_cons, List.length_cons, Nat.succ_mul]
    omega
theorem LinesOk.sum {ls : List Str} (h : LinesOk ls) : (ls.map (·.length)).sum ≤ ls.length * 1400 := by
  have := sum_le (ns := ls.map (·.length)) (b := 1400) fun x hx => by
    obtain ⟨l, hl, rfl⟩ := List.mem_map.mp hx
    exact (h.each l hl).1
  rwa [List.length_map] at this
theorem LinesOk.text {ls : List Str} (h : LinesOk ls) : TextOk (Txt.join ("\n" : Str) ls) := by
  refine ⟨?_, ?_, ?_⟩
  · have e : (Txt.join ("\n" : Str) ls).length = (TL.joinL [10] (ls.map Tx.tl)).length := by
      rw [Tx.tl_len, TL.join_eq]
      show (TL.tl _).length = _
      rw [TL.tl_join]
      show (TL.joinL (Tx.tl ("\n" : Str)) _).length = _
      rw [nl10]
    have h1 := joinL_len [10] (ls.map Tx.tl)
    have h2 := h.sum
    have h3 := h.n
    have e2 : ((ls.map Tx.tl).map List.length).sum = (ls.map (·.length)).sum := by
      rw [List.map_map]
      exact congrArg List.sum (List.map_congr_left fun x _ => (Tx.tl_len x).symm)
    rw [e2, List.length_map] at h1
    have e3 : ([10] : List Nat).length = 1 := rfl
    rw [e3] at h1
    omega
  · rw [h.split]; have := h.n; omega
  · rw [h.split]
    intro l hl
    have := (h.each l hl).1
    omega

theorem slen (a b : Str) : (a ++ b).length = a.length + b.length := by
  rw [Tx.tl_len, tl_app, List.length_append, ← Tx.tl_len, ← Tx.tl_len]
/-- a piece of a line -/
def Pc (n : Nat) (x : Str) : Prop := x.length ≤ n ∧ (10 : Nat) ∉ Tx.tl x
theorem Pc.app {n m : Nat} {a b : Str} (h : Pc n a) (k : Pc m b) : Pc (n + m) (a ++ b) := by
  refine ⟨by rw [slen]; have := h.1; have := k.1; omega, ?_⟩
  rw [tl_app]
  exact fun z => (List.mem_append.mp z).elim h.2 k.2
theorem Pc.word {w : Str} (h : Word w) : Pc 8 w := ⟨h.2.1, fun m => by have := h.2.2 10 m; omega⟩
theorem Pc.wrong {w : Str} (h : Wrong w) : Pc 40 w := ⟨h.len, h.sign⟩
theorem Pc.sort {g : Str} (h : g ∈ KND) : Pc 5 g := by
  have z : ∀ g ∈ KND, g.length ≤ 5 ∧ (10 : Nat) ∉ Tx.tl g := by
    unfold KND
    decide +kernel
  exact z g h
theorem Pc.sp : Pc 1 (" " : Str) := by unfold Pc; decide +kernel
theorem Pc.ans : Pc 7 ("answer " : Str) := by unfold Pc; decide +kernel
theorem Pc.kp : Pc 5 ("keep " : Str) := by unfold Pc; decide +kernel
theorem Pc.e0 : Pc 4 (" = 0" : Str) := by unfold Pc; decide +kernel
theorem Pc.eN : Pc 10 (" = nothing" : Str) := by unfold Pc; decide +kernel
theorem Pc.ok {n : Nat} {x : Str} (h : Pc n x) (l : n ≤ 1400) : x.length ≤ 1400 ∧ (10 : Nat) ∉ Tx.tl x := ⟨Nat.le_trans h.1 l, h.2⟩
theorem lo1 {n : Nat} {x : Str} (h : Pc n x) (l : n ≤ 1400) : LinesOk [x] := ⟨nofun, Nat.le_of_ble_eq_true rfl, fun y hy => by rw [List.mem_singleton.mp hy]; exact h.ok l⟩
theorem lo_cons {n : Nat} {x : Str} {ls : List Str} (h : Pc n x) (l : n ≤ 1400) (k : LinesOk ls) (c : ls.length ≤ 59) : LinesOk (x :: ls) := ⟨nofun, by show ls.length + 1 ≤ 60; omega, fun y hy => by
  rcases List.mem_cons.mp hy with rfl | hy
  · exact h.ok l
  · exact k.each y hy⟩
theorem k17_idx {g : Str} (h : g ∈ KND) : ∃ j : Nat, j < 5 ∧ KND[j]? = some g ∧ ∀ (m : Nat) (z : Str), m < j → KND[m]? = some z → z ≠ g := by
  have z : ∀ g ∈ KND, ∃ j, j < 5 ∧ KND[j]? = some g ∧ ∀ m, m < j → KND[m]? ≠ some g := by
    unfold KND
    decide +kernel
  obtain ⟨j, h1, h2, h3⟩ := z g h
  exact ⟨j, h1, h2, fun m y hm e ne => h3 m hm (by rw [e, ne])⟩
/-- how many names there are in all -/
theorem k17_sum {g w : Str} {s : DSt} (h : g ∈ KND) (hk : s.kinds = [(w, g)]) : ([((namesOf s "keep").length : Int), (namesOf s "flag").length, (namesOf s "sum").length, (namesOf s "count").length, (namesOf s "place").length] : List Int).sum = 1 := by
  unfold namesOf
  rw [hk]
  unfold KND at h
  simp only [List.mem_cons, List.not_mem_nil, or_false] at h
  rcases h with rfl | rfl | rfl | rfl | rfl <;> rfl
theorem k17_name {g w : Str} {s : DSt} (hk : s.kinds = [(w, g)]) : namesOf s g = [w] := by
  unfold namesOf
  rw [hk, List.filter_cons_of_pos (by exact decide_eq_true rfl)]; rfl
theorem word_q {w : Str} (h : Word w) (l : w.length < 8) : Word (w ++ ("q" : Str)) := by
  have e : Tx.tl ("q" : Str) = [113] := by decide +kernel
  have cq : ("q" : Str).length = 1 := by decide +kernel
  refine ⟨by rw [slen]; omega, by rw [slen, cq]; omega, fun c hc => ?_⟩
  have hc : c ∈ Tx.tl (w ++ ("q" : Str)) := hc
  rw [tl_app, e] at hc
  rcases List.mem_append.mp hc with hc | hc
  · exact h.2.2 c hc
  · rw [List.mem_singleton.mp hc]; omega
theorem word_7 {w x : Str} (h : Word w) (e : Tx.tl x = (Tx.tl w).take 7) : Word x := by
  have l1 := h.1
  have l2 := h.2.1
  rw [Tx.tl_len] at l1 l2
  refine ⟨by rw [Tx.tl_len, e, List.length_take]; omega, by rw [Tx.tl_len, e, List.length_take]; omega, fun c hc => ?_⟩
  have hc : c ∈ Tx.tl x := hc
  rw [e] at hc
  exact h.2.2 c (List.mem_of_mem_take hc)
theorem word_qqqq : Word ("qqqq" : Str) ∧ ("qqqq" : Str) ∉ resWs := ⟨⟨by decide +kernel, by decide +kernel, by decide +kernel⟩, by decide +kernel⟩
theorem neStr {K : PySem.W.Frag} {a b : Addr} {w : Str} {H : Hp} {Q : VK} (h : Word w) (h1 : H a = some (.tup [.str w])) (h2 : H b = some (.tup [.str w])) (q : Q (.bl false) H) : rNeD K (.ref a) (.ref b) H Q := by
  have F : Fine 1 (.tuple [.str w]) := .tuple (fine_cons (Fine.str h.ok) fine_nil)
  refine ⟨_, _, .tup (SqT.of h1) (.cons (.str _) .nil), .tup (SqT.of h2) (.cons (.str _) .nil), F.shaped (by decide), F.shaped (by decide), ?_⟩
  rw [F.same]; exact q
theorem knd_fine {g : Str} (h : g ∈ KND) : PyData.strOk g = true := by
  have z : ∀ g ∈ KND, PyData.strOk g = true := by
    unfold KND
    decide +kernel
  exact z g h
theorem r_idxK {K : PySem.W.Frag} {a : Addr} {g : Str} {j : Nat} {H : Hp} {Q : VK} (hs : SqL K H a (KND.map V.str)) (hg : g ∈ KND) (hj : KND[j]? = some g) (no : ∀ (m : Nat) (z : Str), m < j → KND[m]? = some z → z ≠ g) (q : Q (.int (j : Nat)) H) : rIndexD K (.ref a) [.str g] H Q := by
  have Fl : Fine 1 (.list (KND.map PyData.str)) := .list (Fine.map fun x hx => Fine.str (knd_fine hx))
  refine ⟨a, .str g, .str g, KND.map PyData.str, j, .str g, rfl, rfl, .lst hs (dp_map fun x _ => .str x), .str g, Fl.shaped (by decide), (Fine.str (knd_fine hg)).shaped (by decide), by rw [List.getElem?_map, hj]; rfl, (Fine.str (knd_fine hg)).same, fun m z' hm hz => ?_, q⟩
  rw [List.getElem?_map] at hz
  cases hu : KND[m]? with
  | none => rw [hu] at hz; cases hz
  | some z =>
    rw [hu] at hz
    cases hz
    have ne := no m z hm hu
    show (z == g) = false
    simpa using ne
theorem str_fine {w : Str} (h : Word w) : Fine 0 (.str w) := Fine.str h.ok
local macro_rules | `(tactic| walk_at "goA") => `(tactic| repeat (first
  | ((with_reducible refine' Z.r_addS ?e ?_); (case e => exact Z.szle (by first | omega | (simp only [slen]; omega))))
  | ((with_reducible refine' Z.r_cat ?h1 ?h2 ?l ?_); (case h1 => walk_at "hp"); (case h2 => walk_at "hp"); (case l => exact Nat.le_of_ble_eq_true rfl))
  | walk_at "st"))
section
variable {P : Program} {w : World} {K : PySem.W.Frag} {mg : Str → Option Value} {base : Heap}
theorem sc_is_word : FnScope ["text"] ["text"] (defScope s_is_word) := ⟨rfl, rfl, rfl, by decide +kernel, rfl, by decide +kernel, by decide +kernel⟩
def sp_is_word : Sp := fun vs H Q _ => ∃ x : Str, vs = [.str x] ∧ x.length ≤ 100000 ∧ Q (.bl (Tx.isWordB x)) H
theorem ok_is_word (T : Top K mg w) : FnOk P w K mg base CX0 1 T.f_is_word T.fd_is_word ["text"] sp_is_word := by
  refine T.F_is_word.ok sc_is_word (fun vs H Q E h => ?_) (fun cdv A outer s H vs Q E hr h => ?_)
  · obtain ⟨x, rfl, _⟩ := h
    rfl
  · obtain ⟨x, rfl, l, q⟩ := h
    refine ⟨_, pss_one (ps_ret (pe_and (pe_chain op_le op_le (pe_int) (pe_callB Z.c_lenS (by rfl) T.z_len (by decide +kernel) (pa_cons (pv 0) (pa_nil))) (pe_int)) (pe_and (pe_bm0 PySem.F.plainAttrs_str PySem.F.slot_str_isascii PySem.F.type_str_isascii mt_isascii (pv 0)) (pe_and (pe_bm0 PySem.F.plainAttrs_str PySem.F.slot_str_isalpha PySem.F.type_str_isalpha mt_isalpha (pv 0)) (pe_one (pe_bm0 PySem.F.plainAttrs_str PySem.F.slot_str_islower PySem.F.type_str_islower mt_islower (pv 0))))))), ?_⟩
    refine Z.r_start (σ' := [some (.str x)]) rfl ?_
    unfold Tx.isWordB at q
    walk_at "go"
    refine Z.r_lenSS l ?_
    walk_at "go"
    have e1 : decide ((1 : Int) ≤ (x.length : Int)) = decide (1 ≤ x.length) := by
      by_cases h : 1 ≤ x.length
      · rw [decide_eq_true h]; exact decide_eq_true (by omega)
      · rw [decide_eq_false h]; exact decide_eq_false (by omega)
    have e2 : decide ((x.length : Int) ≤ 8) = decide (x.length ≤ 8) := by
      by_cases h : x.length ≤ 8
      · rw [decide_eq_true h]; exact decide_eq_true (by omega)
      · rw [decide_eq_false h]; exact decide_eq_false (by omega)
    rw [e1]
    cases b1 : decide (1 ≤ x.length) with
    | false =>
      rw [b1] at q
      walk_at "go"
      exact q
    | true =>
    rw [b1] at q
    walk_at "go"
    rw [e2]
    cases b2 : decide (x.length ≤ 8) with
    | false =>
      rw [b2] at q
      walk_at "go"
      exact q
    | true =>
    rw [b2] at q
    walk_at "go"
    refine ⟨_, rfl, rfl, trivial, ?_⟩
    cases b3 : Txt.isascii x with
    | false =>
      rw [b3] at q
      walk_at "go"
      exact q
    | true =>
    rw [b3] at q
    walk_at "go"
    refine ⟨_, rfl, rfl, trivial, ?_⟩
    cases b4 : Txt.isalpha x with
    | false =>
      rw [b4] at q
      walk_at "go"
      exact q
    | true =>
    rw [b4] at q
    walk_at "go"
    refine ⟨_, rfl, rfl, trivial, ?_⟩
    exact q
theorem k_is_word {x : Str} {H : Hp} {Q : VK} {E : XK} (l : x.length ≤ 100000) (q : Q (.bl (Tx.isWordB x)) H) : sp_is_word ([.str x] ++ []) H Q E := ⟨x, rfl, l, q⟩
theorem sc_token_at : FnScope ["line", "at", "letters", "end", "token"] ["line", "at", "letters"] (defScope s_token_at) := ⟨rfl, rfl, rfl, by decide +kernel, rfl, by decide +kernel, by decide +kernel⟩
def sp_token_at (W : Addr) : Sp := fun vs H Q E => ∃ (x ls : Str) (k : Nat), vs = [.str x, .int (k : Int), .str ls] ∧ x.length ≤ 100000 ∧ k ≤ x.length ∧
  (Tk.tokAt (Tx.tl ls) ((Tx.tl x).drop k) = none → E (.ref W) none H) ∧ (∀ t, Tk.tokAt (Tx.tl ls) ((Tx.tl x).drop k) = some t → Q (.str (Tk.mk t)) H)
theorem ok_token_at (T : Top K mg w) : FnOk P w K mg base (L2N.CX P w) 1 T.f_token_at T.fd_token_at ["line", "at", "letters"] (sp_token_at T.C_WrongLine) := by
  refine Z.okXN T.F_token_at sc_token_at (fun vs H Q E h => ?_) (fun cdv A outer s H vs Q E hr h => ?_)
  · obtain ⟨x, ls, k, rfl, _⟩ := h
    rfl
  · obtain ⟨x, ls, k, rfl, lx, lk, qe, q⟩ := h
    refine ⟨_, pss_cons (ps_set (i := 3) sc_token_at.nd rfl (.inl rfl) (pv 1)) (pss_cons (ps_while (passes_of rfl) ((pw_and (pt_cmpR op_lt (pv 3) (pe_callB Z.c_lenS (by rfl) T.z_len (by decide +kernel) (pa_cons (pv 0) (pa_nil))) (nomark _)) (pw_and1 (pt_cmpR Z.op_inSg (pe_ix (Z.ix_seqG (K := K) rfl) (pv 0) (pv 3) (fun _ _ => rfl)) (pv 2) rfl))).pt) (pss_one (ps_aug (i := 3) sc_token_at.nd rfl (.inl rfl) (pe_int) ip_add))) (pss_cons (ps_if (pt_cmpR op_gt (pv 3) (pv 1) (nomark _)) (pss_one (ps_ret (pe_slice sl_str (pv 0) (po_some (pv 1)) (po_some (pv 3))))) (pss_nil)) (pss_cons (ps_for (passes_of rfl) rfl (pi_tup (pe_glob (v := .ref T.A_OTHER_TOKENS) (by rfl) T.mgK_OTHER_TOKENS rfl)) (pg_name (i := 4) sc_token_at.nd rfl (.inl rfl)) (pss_one (ps_if (pt_val (Z.pe_bmK (K := K) rfl PySem.F.plainAttrs_str PySem.F.slot_str_startswith PySem.F.type_str_startswith Z.m_sw3 (pv 0) (pa_cons (pv 4) (pa_cons (pv 1) (pa_nil))))) (pss_one (ps_ret (pv 4))) (pss_nil)))) (pss_one (L2N.ps_raise rfl (L2N.takes_of rfl rfl rfl rfl) (Z.pmk_plainN T.xp_WrongLine T.mgC_WrongLine (by rfl) (pe_str))))))), ?_⟩
    refine Z.r_start (σ' := [some (.str x), some (.int (k : Int)), some (.str ls), none, none]) rfl ?_
    have ll : x.length = (Tx.tl x).length := Tx.tl_len x
    have hd : ∀ e, ((Tx.tl x).drop k)[e]? = (Tx.tl x)[k + e]? := fun e => by rw [List.getElem?_drop]
    have ld : ((Tx.tl x).drop k).length = x.length - k := by rw [List.length_drop, ll]
    walk_at "toseq"
    walk_at "toseq"
    refine Z.viaS (fun σ' H' => H' = H ∧ ∃ e : Nat, k ≤ e ∧ e ≤ x.length ∧ ((Tx.tl x).drop k).takeWhile (fun c => decide (c ∈ Tx.tl ls)) = ((Tx.tl x).drop k).take (e - k) ∧ σ' = [some (.str x), some (.int (k : Int)), some (.str ls), some (.int (e : Int)), none]) (fun D' kk => ?_) ?_
    · refine Z.r_while ⟨fun m σ' H' => H' = H ∧ ∃ e : Nat, m = x.length - e ∧ k ≤ e ∧ e ≤ x.length ∧ (∀ c ∈ ((Tx.tl x).drop k).take (e - k), decide (c ∈ Tx.tl ls) = true) ∧ σ' = [some (.str x), some (.int (k : Int)), some (.str ls), some (.int (e : Int)), none], ⟨_, rfl, k, rfl, Nat.le_refl _, lk, ?_, rfl⟩, ?_⟩
      · rw [Nat.sub_self]; exact fun c hc => by cases hc
      rintro m σ' H' ⟨rfl, e, rfl, ke, el, all, rfl⟩
      walk_at "go"
      refine Z.r_lenSS lx ?_
      walk_at "go"
      refine Z.ways (fun c => ?_) (fun c => ?_)
      · have ce : e < (Tx.tl x).length := by omega
        have ge : (Tx.tl x)[e]? = some ((Tx.tl x)[e]'ce) := List.getElem?_eq_getElem ce
        have ge2 : ((Tx.tl x).drop k)[e - k]? = some ((Tx.tl x)[e]'ce) := by rw [hd, show k + (e - k) = e by omega, ge]
        walk_at "go"
        refine Z.r_ixS (c := (Tx.tl x)[e]'ce) (Nat.le_trans lx (by decide)) (atI_nat ge) ?_
        walk_at "go"
        refine Z.ways (fun c2 => ?_) (fun c2 => ?_)
        · refine Z.r_wN ?_
          walk_at "go"
          refine ⟨x.length - (e + 1), by omega, rfl, e + 1, rfl, by omega, by omega, ?_, rfl⟩
          rw [show e + 1 - k = (e - k) + 1 by omega, List.take_succ, ge2]
          intro d hd
          rcases List.mem_append.mp hd with h | h
          · exact all d h
          · rw [List.mem_singleton.mp h]
            exact decide_eq_true c2
        · exact kk _ _ ⟨rfl, e, ke, el, Tk.tw _ _ all (.inr ⟨_, ge2, decide_eq_false c2⟩), rfl⟩
      · walk_at "go"
        exact kk _ _ ⟨rfl, e, ke, el, Tk.tw _ _ all (.inl (by rw [ld]; omega)), rfl⟩
    rintro σ' H' ⟨rfl, e, ke, el, etw, rfl⟩
    walk_at "go"
    refine Z.ways (fun c => ?_) (fun c => ?_)
    · walk_at "go"
      refine Z.r_slSt lx ?_
      have et : Tx.tl (cutS x (some (k : Int)) (some (e : Int))) = ((Tx.tl x).drop k).take (e - k) := by
        show ((Tx.tl x).drop (HT.sIx x.length 0 (some (k : Int)))).take (HT.sIx x.length x.length (some (e : Int)) - HT.sIx x.length 0 (some (k : Int))) = _
        rw [HT.sIx_nat, HT.sIx_nat, Nat.min_eq_left lk, Nat.min_eq_left el]
      have ne : ((Tx.tl x).drop k).take (e - k) ≠ [] := by
        intro z
        have := congrArg List.length z
        rw [List.length_take, ld] at this
        simp at this
        omega
      have ta : Tk.tokAt (Tx.tl ls) ((Tx.tl x).drop k) = some (((Tx.tl x).drop k).take (e - k)) := by
        unfold Tk.tokAt
        rw [etw, if_pos ne]
      have z := q _ ta
      rw [← et, Tk.mk_tl] at z
      exact z
    · have e0 : e = k := by omega
      subst e0
      have ta : Tk.tokAt (Tx.tl ls) ((Tx.tl x).drop e) = (Tk.others.find? fun t => (Tx.tl t).isPrefixOf ((Tx.tl x).drop e)).map Tx.tl := by
        unfold Tk.tokAt
        rw [etw, Nat.sub_self, List.take_zero, if_neg (fun h => h rfl)]
      walk_at "go"
      refine Z.r_tup_by (T.wt_OTHER_TOKENS H') (fun i σ' H'' => H'' = H' ∧ (∀ t ∈ Tk.others.take i, (Tx.tl t).isPrefixOf ((Tx.tl x).drop e) = false) ∧ ∃ v, σ' = [some (.str x), some (.int (e : Int)), some (.str ls), some (.int (e : Int)), v]) ?_ ?_ ?_ ?_
      · exact ⟨rfl, (fun t h => by cases h), _, rfl⟩
      · rintro i σ' H'' ⟨rfl, _⟩
        exact T.wt_OTHER_TOKENS _
      · rintro i y σ' H'' hy ⟨rfl, no, v, rfl⟩
        have hy : (Tk.others.map V.str)[i]? = some y := hy
        rw [List.getElem?_map] at hy
        cases hu : Tk.others[i]? with
        | none => rw [hu] at hy; cases hy
        | some t =>
        rw [hu] at hy
        cases hy
        walk_at "go"
        rw [Tk.sw3 x t lk]
        cases hp : (Tx.tl t).isPrefixOf ((Tx.tl x).drop e) with
        | true =>
          walk_at "go"
          have z := q (Tx.tl t) (by rw [ta, Tk.find_at hu hp no]; rfl)
          rw [Tk.mk_tl] at z
          exact z
        | false =>
          walk_at "go"
          refine ⟨rfl, fun u hm => ?_, _, rfl⟩
          rw [List.take_succ, hu] at hm
          rcases List.mem_append.mp hm with h | h
          · exact no u h
          · rw [List.mem_singleton.mp h]; exact hp
      · rintro σ' H'' ⟨rfl, no, v, rfl⟩
        walk_at "go"
        refine qe ?_
        rw [ta, List.find?_eq_none.mpr (fun t ht => by rw [no t (by rw [show ([V.str "+=", V.str "-=", V.str "<=", V.str ">=", V.str "==", V.str "!=", V.str "<", V.str ">", V.str "=", V.str "(", V.str ")", V.str ",", V.str "0", V.str "1"] : List V).length = Tk.others.length from rfl, List.take_length]; exact ht)]; exact Bool.false_ne_true)]; rfl
theorem k_token_at {W : Addr} {x ls : Str} {k : Nat} {H : Hp} {Q : VK} {E : XK} (lx : x.length ≤ 100000) (lk : k ≤ x.length) (qe : Tk.tokAt (Tx.tl ls) ((Tx.tl x).drop k) = none → E (.ref W) none H) (q : ∀ t, Tk.tokAt (Tx.tl ls) ((Tx.tl x).drop k) = some t → Q (.str (Tk.mk t)) H) :
    sp_token_at W ([.str x, .int (k : Int), .str ls] ++ []) H Q E := ⟨x, ls, k, rfl, lx, lk, qe, q⟩
theorem sc_tokens_of : FnScope ["line", "letters", "tokens", "at", "token"] ["line", "letters"] (defScope s_tokens_of) := ⟨rfl, rfl, rfl, by decide +kernel, rfl, by decide +kernel, by decide +kernel⟩
def sp_tokens_of (W : Addr) : Sp := fun vs H Q E => ∃ (x ls : Str), vs = [.str x, .str ls] ∧ x.length ≤ 100000 ∧
  (Tk.toks (Tx.tl ls) (Tx.tl x) = none → ∀ H', Same H H' → E (.ref W) none H') ∧ (∀ ts, Tk.toks (Tx.tl ls) (Tx.tl x) = some ts → ∀ p H', H p = none → Same H H' → H' p = some (.lst (ts.map fun t => V.str (Tk.mk t))) → Q (.ref p) H')
theorem ok_tokens_of (T : Top K mg w) : FnOk P w K mg base (L2N.CX P w) 2 T.f_tokens_of T.fd_tokens_of ["line", "letters"] (sp_tokens_of T.C_WrongLine) := by
  refine Z.okXND T.F_tokens_of sc_tokens_of (fun vs H Q E h => ?_) (fun cdv A outer s H vs Q E hr h => ?_)
  · obtain ⟨x, ls, rfl, _⟩ := h
    rfl
  · obtain ⟨x, ls, rfl, lx, qe, q⟩ := h
    refine ⟨_, pss_cons (ps_set (i := 2) sc_tokens_of.nd rfl (.inl rfl) (pe_lst (pa_nil))) (pss_cons (ps_set (i := 3) sc_tokens_of.nd rfl (.inl rfl) (pe_int)) (pss_cons (ps_while (passes_of rfl) (pt_cmpR op_lt (pv 3) (pe_callB Z.c_lenS (by rfl) T.z_len (by decide +kernel) (pa_cons (pv 0) (pa_nil))) (nomark _)) (pss_one (ps_if (pt_cmpR op_eq (pe_ix (Z.ix_seqG (K := K) rfl) (pv 0) (pv 3) (fun _ _ => rfl)) (pe_str) (nomark _)) (pss_one (ps_aug (i := 3) sc_tokens_of.nd rfl (.inl rfl) (pe_int) ip_add)) (pss_cons (ps_set (i := 4) sc_tokens_of.nd rfl (.inl rfl) (pe_call (ok_token_at T) (hr.mono (by decide)) (by rfl) T.mg_token_at T.F_token_at.kp T.B_token_at .nil (L2N.passes_call (L2N.takes_of rfl rfl rfl rfl) fun _ _ _ _ h => h) (pa_cons (pv 0) (pa_cons (pv 3) (pa_cons (pv 1) (pa_nil)))))) (pss_cons (ps_expr (pe_bm PySem.F.plainAttrs_list PySem.F.slot_list_append PySem.F.type_list_append mt_append (pv 2) (pa_cons (pv 4) (pa_nil)))) (pss_one (ps_aug (i := 3) sc_tokens_of.nd rfl (.inl rfl) (pe_callB Z.c_lenS (by rfl) T.z_len (by decide +kernel) (pa_cons (pv 4) (pa_nil))) ip_add))))))) (pss_one (ps_ret (pv 2))))), ?_⟩
    refine Z.r_start (σ' := [some (.str x), some (.str ls), none, none, none]) rfl ?_
    have ll : x.length = (Tx.tl x).length := Tx.tl_len x
    walk_at "go"
    intro p H1 np s1 hp
    walk_at "toseq"
    walk_at "toseq"
    refine Z.r_while ⟨fun m σ' H' => ∃ (k : Nat) (acc : List (List Nat)) (v : Option V), m = x.length - k ∧ k ≤ x.length ∧ acc.length ≤ k ∧ Same H H' ∧ H' p = some (.lst (acc.map fun t => V.str (Tk.mk t))) ∧ Tk.toks (Tx.tl ls) (Tx.tl x) = (Tk.toks (Tx.tl ls) ((Tx.tl x).drop k)).map (acc ++ ·) ∧
      σ' = [some (.str x), some (.str ls), some (.ref p), some (.int (k : Int)), v], ⟨_, 0, [], _, rfl, Nat.zero_le _, Nat.le_refl _, s1, hp, ?_, rfl⟩, ?_⟩
    · rw [List.drop_zero]; simp
    rintro m σ' H2 ⟨k, acc, v, rfl, lk, la, s2, hp2, et, rfl⟩
    walk_at "go"
    refine Z.r_lenSS lx ?_
    walk_at "go"
    refine Z.ways (fun c => ?_) (fun c => ?_)
    · refine Z.r_wN ?_
      have ck : k < (Tx.tl x).length := by omega
      have gk : (Tx.tl x)[k]? = some ((Tx.tl x)[k]'ck) := List.getElem?_eq_getElem ck
      have dk : (Tx.tl x).drop k = (Tx.tl x)[k]'ck :: (Tx.tl x).drop (k + 1) := List.drop_eq_getElem_cons ck
      have e32 : (" " : Str) = ⟨#[32]⟩ := Tx.sign_text 32 " " (by decide +kernel)
      walk_at "go"
      refine Z.r_ixS (c := (Tx.tl x)[k]'ck) (Nat.le_trans lx (by decide)) (atI_nat gk) ?_
      walk_at "go"
      refine Z.ways (fun c2 => ?_) (fun c2 => ?_)
      · have c32 : (Tx.tl x)[k]'ck = 32 := by
          rw [e32] at c2
          have := congrArg (fun z : Str => z.cps.toList) c2
          simpa using this
        walk_at "go"
        refine ⟨x.length - (k + 1), by omega, k + 1, acc, v, rfl, by omega, by omega, s2, hp2, ?_, rfl⟩
        rw [et, dk, c32, Tk.toks_space]
      · have c32 : (Tx.tl x)[k]'ck ≠ 32 := fun h => c2 (by rw [h, e32])
        walk_at "go"
        refine k_token_at lx lk (fun h => ?_) fun t h => ?_
        · refine qe ?_ _ s2
          rw [et, dk, Tk.toks_none c32 (by rw [← dk]; exact h)]; rfl
        · have ne := Tk.tokAt_ne h
          have pre := (Tk.tokAt_pre h).length_le
          rw [List.length_drop, ← ll] at pre
          have lt : (Tk.mk t).length = t.length := Tx.tl_len _
          have l1 : 1 ≤ t.length := by cases t with
            | nil => exact absurd rfl ne
            | cons _ _ => exact Nat.succ_le_succ (Nat.zero_le _)
          walk_at "go"
          refine Z.r_app hp2 (by rw [List.length_map]; omega) fun H3 b3 h3 => ?_
          walk_at "go"
          refine Z.r_lenSS (by omega) ?_
          walk_at "go"
          refine ⟨x.length - (k + t.length), by omega, k + t.length, acc ++ [t], _, rfl, by omega, by rw [List.length_append]; show _ + 1 ≤ _; omega, Z.But.back s2 np b3, by rw [h3, List.map_append]; rfl, ?_, by rw [lt]; rfl⟩
          rw [et, dk, Tk.toks_some c32 (by rw [← dk]; exact h), ← dk, List.drop_drop]
          cases Tk.toks (Tx.tl ls) ((Tx.tl x).drop (k + t.length)) with
          | none => rfl
          | some z => simp
    · have ek : k = x.length := by omega
      have et2 : Tk.toks (Tx.tl ls) (Tx.tl x) = some acc := by
        rw [et, ek, ll, List.drop_length]
        show (some [] : Option (List (List Nat))).map (acc ++ ·) = _
        simp
      walk_at "go"
      exact q acc et2 p H2 np s2 hp2
theorem k_tokens_of {W : Addr} {x ls : Str} {H : Hp} {Q : VK} {E : XK} (lx : x.length ≤ 100000) (qe : Tk.toks (Tx.tl ls) (Tx.tl x) = none → ∀ H', Same H H' → E (.ref W) none H')
    (q : ∀ ts, Tk.toks (Tx.tl ls) (Tx.tl x) = some ts → ∀ p H', H p = none → Same H H' → H' p = some (.lst (ts.map fun t => V.str (Tk.mk t))) → Q (.ref p) H') : sp_tokens_of W [.str x, .str ls] H Q E := ⟨x, ls, rfl, lx, qe, q⟩

theorem sc_Reader___init : FnScope ["self", "tokens", "kinds", "is_in_run"] ["self", "tokens", "kinds", "is_in_run"] (defScope s_Reader___init) := ⟨rfl, rfl, rfl, by decide +kernel, rfl, by decide +kernel, by decide +kernel⟩
def sp_Rd_init (C : Addr) : Sp := fun vs H Q _ => ∃ (r dx t0 k0 : Addr) (run : Bool) (ks : List (Str × Str)) (ts : List Str), vs = [.ref r, .ref t0, .ref k0, .bl run] ∧ H r = some (.ins C dx []) ∧ H t0 = some (.lst (ts.map V.str)) ∧ H k0 = some (.dK (kvsOf ks)) ∧
  ∀ H' tl kd, H tl = none → H kd = none → Z.But r H H' → Rd C H' r tl kd run ks ts → Q .non H'
theorem ok_Reader___init (T : Top K mg w) : FnOk P w K mg base CX0 1 T.f_Reader___init T.fd_Reader___init ["self", "tokens", "kinds", "is_in_run"] (sp_Rd_init T.C_Reader) := by
  refine T.F_Reader___init.ok sc_Reader___init (fun vs H Q E h => ?_) (fun cdv A outer s H vs Q E hr h => ?_)
  · obtain ⟨r, dx, t0, k0, run, ks, ts, rfl, _⟩ := h
    rfl
  · obtain ⟨r, dx, t0, k0, run, ks, ts, rfl, hr0, ht, hk, q⟩ := h
    refine ⟨_, pss_cons (ps_fld (pv 0) (pe_callTy Z.c_listOf (by rfl) T.z_list (by decide +kernel) (pa_cons (pv 1) (pa_nil))) rfl) (pss_cons (ps_fld (pv 0) (pe_callTy Z.c_dictOf (by rfl) T.z_dict (by decide +kernel) (pa_cons (pv 2) (pa_nil))) rfl) (pss_cons (ps_fld (pv 0) (pv 3) rfl) (pss_one (ps_fld (pv 0) (pe_int) rfl)))), ?_⟩
    refine Z.r_start (σ' := [some (.ref r), some (.ref t0), some (.ref k0), some (.bl run)]) rfl ?_
    walk_at "go"
    refine Z.r_listL ht fun tl H1 n1 s1 h1 => ?_
    have hr1 := s1 _ _ hr0
    walk_at "go"
    intro H2 b2 h2
    have nr1 : tl ≠ r := (ne_of_none hr0 n1).symm
    walk_at "go"
    have hk2 : H2 k0 = some (.dK (kvsOf ks)) := b2 _ _ (ne_of hk hr0 (by intro z; cases z)) (s1 _ _ hk)
    refine Z.r_dictOf hk2 fun kd H3 n3 s3 h3 => ?_
    have hr3 := s3 _ _ h2
    have ht3 := s3 _ _ (b2 _ _ nr1 h1)
    walk_at "go"
    intro H4 b4 h4
    walk_at "go"
    intro H5 b5 h5
    walk_at "go"
    intro H6 b6 h6
    have nk : H kd = none := by
      cases z : H kd with
      | none => rfl
      | some o =>
        by_cases c : kd = r
        · rw [c, h2] at n3; cases n3
        · rw [b2 _ _ c (s1 _ _ z)] at n3; cases n3
    have nkr : kd ≠ r := (ne_of_none hr0 nk).symm
    exact q H6 tl kd n1 nk ((Z.But.same s1).trans (b2.trans ((Z.But.same s3).trans (b4.trans (b5.trans b6))))) ⟨⟨dx, ts, 0, h6, Nat.zero_le _, rfl, b6 _ _ nr1 (b5 _ _ nr1 (b4 _ _ nr1 ht3))⟩, b6 _ _ nkr (b5 _ _ nkr (b4 _ _ nkr h3))⟩
theorem r_mkRd {C t0 k0 : Addr} {run : Bool} {ks : List (Str × Str)} {ts : List Str} {H : Hp} {Q : VK} {E : XK} (ht : H t0 = some (.lst (ts.map V.str))) (hk : H k0 = some (.dK (kvsOf ks)))
    (q : ∀ r tl kd H', H r = none → H tl = none → H kd = none → Same H H' → Rd C H' r tl kd run ks ts → Q (.ref r) H') : Z.mkI C (sp_Rd_init C) [] [.ref t0, .ref k0, .bl run] H Q E := by
  intro x dx nx nd ne
  have sm : Same H (L2.upd (L2.upd H dx (.own x)) x (.ins C dx [])) := fun b o e => by
    rw [upd_ne (ne_of_none e nx), upd_ne (ne_of_none e nd)]; exact e
  have fr : ∀ {a}, (L2.upd (L2.upd H dx (.own x)) x (.ins C dx [])) a = none → H a = none := fun {a} h => by
    cases z : H a with
    | none => rfl
    | some o => rw [sm _ _ z] at h; cases h
  exact ⟨x, dx, t0, k0, run, ks, ts, rfl, upd_same, sm _ _ ht, sm _ _ hk, fun H' tl kd n1 n2 b1 h1 => ⟨rfl, q x tl kd H' nx (fr n1) (fr n2) (fun b o e => b1 _ _ (ne_of_none e nx) (sm _ _ e)) h1⟩⟩
theorem sc_Reader_peek : FnScope ["self"] ["self"] (defScope s_Reader_peek) := ⟨rfl, rfl, rfl, by decide +kernel, rfl, by decide +kernel, by decide +kernel⟩
def sp_peek (C : Addr) : Sp := fun vs H Q _ => ∃ (r tl kd : Addr) (run : Bool) (ks : List (Str × Str)) (rem : List Str), vs = [.ref r] ∧ Rd C H r tl kd run ks rem ∧ Q (.str (rem.headD "")) H
theorem ok_Reader_peek (T : Top K mg w) : FnOk P w K mg base CX0 1 T.f_Reader_peek T.fd_Reader_peek ["self"] (sp_peek T.C_Reader) := by
  refine T.F_Reader_peek.ok sc_Reader_peek (fun vs H Q E h => ?_) (fun cdv A outer s H vs Q E hr h => ?_)
  · obtain ⟨r, tl, kd, run, ks, rem, rfl, _⟩ := h
    rfl
  · obtain ⟨r, tl, kd, run, ks, rem, rfl, ⟨⟨dx, ts, k, h1, h2, rfl, h4⟩, h5⟩, q⟩ := h
    refine ⟨_, pss_one (ps_ret (pe_ifExp (pt_cmpR op_lt (pe_fld (pv 0) rfl) (pe_callB Z.c_len (by rfl) T.z_len (by decide +kernel) (pa_cons (pe_fld (pv 0) rfl) (pa_nil))) (nomark _)) (pe_ix (Z.ix_seqG (K := K) rfl) (pe_fld (pv 0) rfl) (pe_fld (pv 0) rfl) (fun _ _ => rfl)) (pe_str))), ?_⟩
    refine Z.r_start (σ' := [some (.ref r)]) rfl ?_
    walk_at "go"
    rw [List.length_map]
    refine Z.ways (fun c => ?_) (fun c => ?_)
    · have ck : k < ts.length := by omega
      have e : (ts.drop k).headD "" = ts[k] := by rw [List.drop_eq_getElem_cons ck]; rfl
      rw [e] at q
      walk_at "go"
      exact Z.r_ixL (SqL.of h4) (atI_nat (by rw [List.getElem?_map, List.getElem?_eq_getElem ck]; rfl)) q
    · have e : ts.drop k = [] := List.drop_eq_nil_of_le (by omega)
      rw [e] at q
      walk_at "go"
      exact q
theorem k_peek {C r tl kd : Addr} {run : Bool} {ks : List (Str × Str)} {rem : List Str} {H : Hp} {Q : VK} {E : XK} (h : Rd C H r tl kd run ks rem) (q : Q (.str (rem.headD "")) H) : sp_peek C ([.ref r] ++ []) H Q E := ⟨r, tl, kd, run, ks, rem, rfl, h, q⟩
theorem sc_Reader_take : FnScope ["self"] ["self"] (defScope s_Reader_take) := ⟨rfl, rfl, rfl, by decide +kernel, rfl, by decide +kernel, by decide +kernel⟩
def sp_take (C W : Addr) : Sp := fun vs H Q E => ∃ (r tl kd : Addr) (run : Bool) (ks : List (Str × Str)) (rem : List Str), vs = [.ref r] ∧ Rd C H r tl kd run ks rem ∧ (rem = [] → E (.ref W) none H) ∧ (∀ t rest, rem = t :: rest → ∀ H', Z.But r H H' → Rd C H' r tl kd run ks rest → Q (.str t) H')
theorem Rd.ne {C : Addr} {H : Hp} {r tl kd : Addr} {run : Bool} {ks : List (Str × Str)} {rem : List Str} (h : Rd C H r tl kd run ks rem) : tl ≠ r ∧ kd ≠ r := by
  obtain ⟨⟨dx, ts, k, h1, h2, h3, h4⟩, h5⟩ := h
  exact ⟨ne_of h4 h1 (by intro z; cases z), ne_of h5 h1 (by intro z; cases z)⟩
theorem ok_Reader_take (T : Top K mg w) : FnOk P w K mg base (L2N.CX P w) 1 T.f_Reader_take T.fd_Reader_take ["self"] (sp_take T.C_Reader T.C_WrongLine) := by
  refine Z.okXN T.F_Reader_take sc_Reader_take (fun vs H Q E h => ?_) (fun cdv A outer s H vs Q E hr h => ?_)
  · obtain ⟨r, tl, kd, run, ks, rem, rfl, _⟩ := h
    rfl
  · obtain ⟨r, tl, kd, run, ks, rem, rfl, h, qe, q⟩ := h
    obtain ⟨n1, n2⟩ := h.ne
    obtain ⟨⟨dx, ts, k, h1, h2, rfl, h4⟩, h5⟩ := h
    refine ⟨_, pss_cons (ps_if (pt_cmpR op_eq (pe_fld (pv 0) rfl) (pe_callB Z.c_len (by rfl) T.z_len (by decide +kernel) (pa_cons (pe_fld (pv 0) rfl) (pa_nil))) (nomark _)) (pss_one (L2N.ps_raise rfl (L2N.takes_of rfl rfl rfl rfl) (Z.pmk_plainN T.xp_WrongLine T.mgC_WrongLine (by rfl) (pe_str)))) (pss_nil)) (pss_cons (ps_fldaug (pv 0) (pe_int) in_add) (pss_one (ps_ret (pe_ix (Z.ix_seqG (K := K) rfl) (pe_fld (pv 0) rfl) (pe_op op_sub (pe_fld (pv 0) rfl) (pe_int)) (fun _ _ => rfl))))), ?_⟩
    refine Z.r_start (σ' := [some (.ref r)]) rfl ?_
    walk_at "go"
    rw [List.length_map]
    refine Z.ways (fun c => ?_) (fun c => ?_)
    · have e : ts.drop k = [] := List.drop_eq_nil_of_le (by omega)
      walk_at "go"
      exact qe e
    · have ck : k < ts.length := by
        have : ¬ (k = ts.length) := fun h => c (by rw [h])
        omega
      have e : ts.drop k = ts[k] :: ts.drop (k + 1) := List.drop_eq_getElem_cons ck
      walk_at "go"
      intro H1 b1 e1
      have h41 := b1 _ _ n1 h4
      have e1 : H1 r = some (.ins T.C_Reader dx (rdF tl kd run (k + 1))) := e1
      walk_at "go"
      refine Z.r_ixL (v := .str ts[k]) (SqL.of h41) ?_ (q _ _ e H1 b1 ⟨⟨dx, ts, k + 1, e1, by omega, rfl, h41⟩, b1 _ _ n2 h5⟩)
      rw [show (((k + 1 : Nat) : Int) - 1) = (k : Int) by omega]
      exact atI_nat (by rw [List.getElem?_map, List.getElem?_eq_getElem ck]; rfl)
theorem k_take {C W r tl kd : Addr} {run : Bool} {ks : List (Str × Str)} {rem : List Str} {H : Hp} {Q : VK} {E : XK} (h : Rd C H r tl kd run ks rem) (qe : rem = [] → E (.ref W) none H) (q : ∀ t rest, rem = t :: rest → ∀ H', Z.But r H H' → Rd C H' r tl kd run ks rest → Q (.str t) H') : sp_take C W ([.ref r] ++ []) H Q E := ⟨r, tl, kd, run, ks, rem, rfl, h, qe, q⟩
theorem sc_Reader_skip_if : FnScope ["self", "token"] ["self", "token"] (defScope s_Reader_skip_if) := ⟨rfl, rfl, rfl, by decide +kernel, rfl, by decide +kernel, by decide +kernel⟩
def sp_skip (C : Addr) : Sp := fun vs H Q _ => ∃ (r tl kd : Addr) (run : Bool) (ks : List (Str × Str)) (rem : List Str) (g : Str), vs = [.ref r, .str g] ∧ g ≠ "" ∧ Rd C H r tl kd run ks rem ∧ (rem.head? ≠ some g → Q (.bl false) H) ∧ (∀ rest, rem = g :: rest → ∀ H', Z.But r H H' → Rd C H' r tl kd run ks rest → Q (.bl true) H')
theorem ok_Reader_skip_if (T : Top K mg w) : FnOk P w K mg base CX0 2 T.f_Reader_skip_if T.fd_Reader_skip_if ["self", "token"] (sp_skip T.C_Reader) := by
  refine T.F_Reader_skip_if.ok sc_Reader_skip_if (fun vs H Q E h => ?_) (fun cdv A outer s H vs Q E hr h => ?_)
  · obtain ⟨r, tl, kd, run, ks, rem, g, rfl, _⟩ := h
    rfl
  · obtain ⟨r, tl, kd, run, ks, rem, g, rfl, ng, h, qe, q⟩ := h
    obtain ⟨n1, n2⟩ := h.ne
    refine ⟨_, pss_cons (ps_if (pt_cmpR op_ne (pe_meth0 (pv 0) T.cl_Reader T.me_Reader_peek (ok_Reader_peek T) (hr.mono (by decide)) T.B_Reader_peek .nil pass0) (pv 1) (nomark _)) (pss_one (ps_ret (pe_bl))) (pss_nil)) (pss_cons (ps_fldaug (pv 0) (pe_int) in_add) (pss_one (ps_ret (pe_bl)))), ?_⟩
    refine Z.r_start (σ' := [some (.ref r), some (.str g)]) rfl ?_
    have h0 := h
    obtain ⟨⟨dx, ts, k, h1, h2, h3, h4⟩, h5⟩ := h
    walk_at "go"
    refine k_peek h0 ?_
    walk_at "go"
    cases rem with
    | nil =>
      refine Z.waysN (fun c => ?_) (fun c => ?_)
      · walk_at "go"
        exact qe nofun
      · exact absurd (show ("" : Str) = g from c).symm ng
    | cons t rest =>
      have ck : k < ts.length := by
        have := congrArg List.length h3
        rw [List.length_drop, List.length_cons] at this
        omega
      rw [List.drop_eq_getElem_cons ck] at h3
      obtain ⟨e1, e2⟩ := List.cons.inj h3
      refine Z.waysN (fun c => ?_) (fun c => ?_)
      · walk_at "go"
        exact qe fun z => c (Option.some.inj z)
      · have c : t = g := c
        walk_at "go"
        intro H1 b1 hr1
        walk_at "go"
        exact q rest (by rw [c]) H1 b1 ⟨⟨dx, ts, k + 1, hr1, by omega, e2, b1 _ _ n1 h4⟩, b1 _ _ n2 h5⟩
theorem k_skip {C r tl kd : Addr} {run : Bool} {ks : List (Str × Str)} {rem : List Str} {g : Str} {H : Hp} {Q : VK} {E : XK} (h : Rd C H r tl kd run ks rem) (ng : g ≠ "") (qe : rem.head? ≠ some g → Q (.bl false) H) (q : ∀ rest, rem = g :: rest → ∀ H', Z.But r H H' → Rd C H' r tl kd run ks rest → Q (.bl true) H') :
    sp_skip C ([.ref r, .str g] ++ []) H Q E := ⟨r, tl, kd, run, ks, rem, g, rfl, ng, h, qe, q⟩
theorem sc_Reader_expect : FnScope ["self", "token"] ["self", "token"] (defScope s_Reader_expect) := ⟨rfl, rfl, rfl, by decide +kernel, rfl, by decide +kernel, by decide +kernel⟩
def sp_expect (C W : Addr) : Sp := fun vs H Q E => ∃ (r tl kd : Addr) (run : Bool) (ks : List (Str × Str)) (rem : List Str) (g : Str), vs = [.ref r, .str g] ∧ g ≠ "" ∧ g.length ≤ 100 ∧ Rd C H r tl kd run ks rem ∧ (rem.head? ≠ some g → E (.ref W) none H) ∧ (∀ rest, rem = g :: rest → ∀ H', Z.But r H H' → Rd C H' r tl kd run ks rest → Q .non H')
theorem ok_Reader_expect (T : Top K mg w) : FnOk P w K mg base (L2N.CX P w) 3 T.f_Reader_expect T.fd_Reader_expect ["self", "token"] (sp_expect T.C_Reader T.C_WrongLine) := by
  refine Z.okXN T.F_Reader_expect sc_Reader_expect (fun vs H Q E h => ?_) (fun cdv A outer s H vs Q E hr h => ?_)
  · obtain ⟨r, tl, kd, run, ks, rem, g, rfl, _⟩ := h
    rfl
  · obtain ⟨r, tl, kd, run, ks, rem, g, rfl, ng, lg, h, qe, q⟩ := h
    refine ⟨_, pss_one (ps_if (pt_not (pt_val (pe_meth (pv 0) T.cl_Reader T.me_Reader_skip_if (ok_Reader_skip_if T) (hr.mono (by decide)) T.B_Reader_skip_if .nil pass0 (pa_cons (pv 1) (pa_nil))))) (pss_one (L2N.ps_raise rfl (L2N.takes_of rfl rfl rfl rfl) (Z.pmk_plainN T.xp_WrongLine T.mgC_WrongLine (by rfl) (pe_joined (.cons (pe_str) (.cons (pe_fmt (pv 1)) (.nil))))))) (pss_nil)), ?_⟩
    refine Z.r_start (σ' := [some (.ref r), some (.str g)]) rfl ?_
    obtain ⟨dx, ts, k, h1, _⟩ := h.ex
    walk_at "go"
    refine k_skip h ng (fun c => ?_) (fun rest c H1 b1 h1' => ?_)
    · walk_at "go"
      refine r_fs (by decide) (by omega) ?_
      walk_at "go"
      exact qe c
    · walk_at "go"
      exact q rest c H1 b1 h1'
theorem k_expect {C W r tl kd : Addr} {run : Bool} {ks : List (Str × Str)} {rem : List Str} {g : Str} {H : Hp} {Q : VK} {E : XK} (h : Rd C H r tl kd run ks rem) (ng : g ≠ "") (lg : g.length ≤ 100) (qe : rem.head? ≠ some g → E (.ref W) none H) (q : ∀ rest, rem = g :: rest → ∀ H', Z.But r H H' → Rd C H' r tl kd run ks rest → Q .non H') :
    sp_expect C W ([.ref r, .str g] ++ []) H Q E := ⟨r, tl, kd, run, ks, rem, g, rfl, ng, lg, h, qe, q⟩
theorem sc_Reader_expect_end : FnScope ["self"] ["self"] (defScope s_Reader_expect_end) := ⟨rfl, rfl, rfl, by decide +kernel, rfl, by decide +kernel, by decide +kernel⟩
def sp_end (C W : Addr) : Sp := fun vs H Q E => ∃ (r tl kd : Addr) (run : Bool) (ks : List (Str × Str)) (rem : List Str), vs = [.ref r] ∧ Rd C H r tl kd run ks rem ∧ (rem ≠ [] → E (.ref W) none H) ∧ (rem = [] → Q .non H)
theorem ok_Reader_expect_end (T : Top K mg w) : FnOk P w K mg base (L2N.CX P w) 1 T.f_Reader_expect_end T.fd_Reader_expect_end ["self"] (sp_end T.C_Reader T.C_WrongLine) := by
  refine Z.okXN T.F_Reader_expect_end sc_Reader_expect_end (fun vs H Q E h => ?_) (fun cdv A outer s H vs Q E hr h => ?_)
  · obtain ⟨r, tl, kd, run, ks, rem, rfl, _⟩ := h
    rfl
  · obtain ⟨r, tl, kd, run, ks, rem, rfl, ⟨⟨dx, ts, k, h1, h2, rfl, h4⟩, h5⟩, qe, q⟩ := h
    refine ⟨_, pss_one (ps_if (pt_cmpR op_lt (pe_fld (pv 0) rfl) (pe_callB Z.c_len (by rfl) T.z_len (by decide +kernel) (pa_cons (pe_fld (pv 0) rfl) (pa_nil))) (nomark _)) (pss_one (L2N.ps_raise rfl (L2N.takes_of rfl rfl rfl rfl) (Z.pmk_plainN T.xp_WrongLine T.mgC_WrongLine (by rfl) (pe_str)))) (pss_nil)), ?_⟩
    refine Z.r_start (σ' := [some (.ref r)]) rfl ?_
    walk_at "go"
    rw [List.length_map]
    refine Z.ways (fun c => ?_) (fun c => ?_)
    · walk_at "go"
      refine qe fun z => ?_
      have := congrArg List.length z
      rw [List.length_drop, List.length_nil] at this
      omega
    · walk_at "go"
      exact q (List.drop_eq_nil_of_le (by omega))
theorem k_end {C W r tl kd : Addr} {run : Bool} {ks : List (Str × Str)} {rem : List Str} {H : Hp} {Q : VK} {E : XK} (h : Rd C H r tl kd run ks rem) (qe : rem ≠ [] → E (.ref W) none H) (q : rem = [] → Q .non H) : sp_end C W ([.ref r] ++ []) H Q E := ⟨r, tl, kd, run, ks, rem, rfl, h, qe, q⟩
theorem sc_Reader_kind_of : FnScope ["self", "token"] ["self", "token"] (defScope s_Reader_kind_of) := ⟨rfl, rfl, rfl, by decide +kernel, rfl, by decide +kernel, by decide +kernel⟩
def sp_kind (C : Addr) : Sp := fun vs H Q _ => ∃ (r tl kd : Addr) (run : Bool) (ks : List (Str × Str)) (rem : List Str) (g : Str), vs = [.ref r, .str g] ∧ Rd C H r tl kd run ks rem ∧ Q (.str (kindOf ks g)) H
theorem ok_Reader_kind_of (T : Top K mg w) : FnOk P w K mg base CX0 1 T.f_Reader_kind_of T.fd_Reader_kind_of ["self", "token"] (sp_kind T.C_Reader) := by
  refine T.F_Reader_kind_of.ok sc_Reader_kind_of (fun vs H Q E h => ?_) (fun cdv A outer s H vs Q E hr h => ?_)
  · obtain ⟨r, tl, kd, run, ks, rem, g, rfl, _⟩ := h
    rfl
  · obtain ⟨r, tl, kd, run, ks, rem, g, rfl, ⟨⟨dx, ts, k, h1, h2, h3, h4⟩, h5⟩, q⟩ := h
    refine ⟨_, pss_one (ps_ret (pe_dget2 (hu_of hr) (pe_fld (pv 0) rfl) (pv 1) (pe_str) ⟨rfl, rfl, rfl, rfl⟩)), ?_⟩
    refine Z.r_start (σ' := [some (.ref r), some (.str g)]) rfl ?_
    walk_at "go"
    refine Z.r_isD h5 ?_
    walk_at "go"
    refine Z.r_dg2 h5 ?_
    rw [valV_kvs]
    exact q
theorem k_kind {C r tl kd : Addr} {run : Bool} {ks : List (Str × Str)} {rem : List Str} {g : Str} {H : Hp} {Q : VK} {E : XK} (h : Rd C H r tl kd run ks rem) (q : Q (.str (kindOf ks g)) H) : sp_kind C ([.ref r, .str g] ++ []) H Q E := ⟨r, tl, kd, run, ks, rem, g, rfl, h, q⟩
theorem sc_Reader_read_name : FnScope ["self", "kind", "token"] ["self", "kind"] (defScope s_Reader_read_name) := ⟨rfl, rfl, rfl, by decide +kernel, rfl, by decide +kernel, by decide +kernel⟩
def sp_name (C W : Addr) : Sp := fun vs H Q E => ∃ (r tl kd : Addr) (run : Bool) (ks : List (Str × Str)) (rem : List Str) (g : Str), vs = [.ref r, .str g] ∧ g.length ≤ 100 ∧ Rd C H r tl kd run ks rem ∧
  ((∀ t rest, rem = t :: rest → kindOf ks t ≠ g) → ∀ H', Same H H' ∨ Z.But r H H' → E (.ref W) none H') ∧ (∀ t rest, rem = t :: rest → kindOf ks t = g → ∀ H', Z.But r H H' → Rd C H' r tl kd run ks rest → Q (.str t) H')
theorem ok_Reader_read_name (T : Top K mg w) : FnOk P w K mg base (L2N.CX P w) 2 T.f_Reader_read_name T.fd_Reader_read_name ["self", "kind"] (sp_name T.C_Reader T.C_WrongLine) := by
  refine Z.okXN T.F_Reader_read_name sc_Reader_read_name (fun vs H Q E h => ?_) (fun cdv A outer s H vs Q E hr h => ?_)
  · obtain ⟨r, tl, kd, run, ks, rem, g, rfl, _⟩ := h
    rfl
  · obtain ⟨r, tl, kd, run, ks, rem, g, rfl, lg, h, qe, q⟩ := h
    refine ⟨_, pss_cons (ps_set (i := 2) sc_Reader_read_name.nd rfl (.inl rfl) (pe_meth0 (pv 0) T.cl_Reader T.me_Reader_take (ok_Reader_take T) (hr.mono (by decide)) T.B_Reader_take .nil (L2N.passes_call (L2N.takes_of rfl rfl rfl rfl) fun _ _ _ _ h => h))) (pss_cons (ps_if (pt_cmpR op_ne (pe_meth (pv 0) T.cl_Reader T.me_Reader_kind_of (ok_Reader_kind_of T) (hr.mono (by decide)) T.B_Reader_kind_of .nil pass0 (pa_cons (pv 2) (pa_nil))) (pv 1) (nomark _)) (pss_one (L2N.ps_raise rfl (L2N.takes_of rfl rfl rfl rfl) (Z.pmk_plainN T.xp_WrongLine T.mgC_WrongLine (by rfl) (pe_joined (.cons (pe_str) (.cons (pe_fmt (pv 1)) (.nil))))))) (pss_nil)) (pss_one (ps_ret (pv 2)))), ?_⟩
    refine Z.r_start (σ' := [some (.ref r), some (.str g), none]) rfl ?_
    obtain ⟨dx, ts, k, h1, _⟩ := h.ex
    walk_at "go"
    refine k_take h (fun e => qe (fun t rest z => by rw [e] at z; cases z) _ (.inl (Same.refl _))) fun t rest e H1 b1 hR => ?_
    obtain ⟨dx1, ts1, k1, h11, _⟩ := hR.ex
    walk_at "go"
    refine k_kind hR ?_
    walk_at "go"
    refine Z.waysN (fun c => ?_) (fun c => ?_)
    · walk_at "go"
      refine r_fs (by decide) (by omega) ?_
      walk_at "go"
      refine qe (fun t' rest' z => ?_) _ (.inr b1)
      rw [e] at z
      cases z
      exact c
    · walk_at "go"
      exact q t rest e c H1 b1 hR
theorem k_name {C W r tl kd : Addr} {run : Bool} {ks : List (Str × Str)} {rem : List Str} {g : Str} {H : Hp} {Q : VK} {E : XK} (h : Rd C H r tl kd run ks rem) (lg : g.length ≤ 100) (qe : (∀ t rest, rem = t :: rest → kindOf ks t ≠ g) → ∀ H', Same H H' ∨ Z.But r H H' → E (.ref W) none H')
    (q : ∀ t rest, rem = t :: rest → kindOf ks t = g → ∀ H', Z.But r H H' → Rd C H' r tl kd run ks rest → Q (.str t) H') : sp_name C W ([.ref r, .str g] ++ []) H Q E := ⟨r, tl, kd, run, ks, rem, g, rfl, lg, h, qe, q⟩

theorem sc_Reader_read_term : FnScope ["self", "token", "one", "other"] ["self"] (defScope s_Reader_read_term) := ⟨rfl, rfl, rfl, by decide +kernel, rfl, by decide +kernel, by decide +kernel⟩
def sp_term (C W : Addr) : Nat → Sp
  | 0 => fun _ _ _ _ => False
  | n + 1 => fun vs H Q E => ∃ (r tl kd : Addr) (run : Bool) (ks : List (Str × Str)) (rem : List Str), vs = [.ref r] ∧ Rd C H r tl kd run ks rem ∧ PR C W r tl kd run ks H TmAt Q E (rdTerm run ks n rem)
theorem k_term {C W r tl kd : Addr} {run : Bool} {ks : List (Str × Str)} {rem : List Str} {n : Nat} {H : Hp} {Q : VK} {E : XK} (h : Rd C H r tl kd run ks rem) (q : PR C W r tl kd run ks H TmAt Q E (rdTerm run ks n rem)) : sp_term C W (n + 1) ([.ref r] ++ []) H Q E := ⟨r, tl, kd, run, ks, rem, rfl, h, q⟩
theorem ok_Reader_read_term_s (T : Top K mg w) (n : Nat) (ih : FnOk P w K mg base (L2N.CX P w) (n + 3) T.f_Reader_read_term T.fd_Reader_read_term ["self"] (sp_term T.C_Reader T.C_WrongLine n)) : FnOk P w K mg base (L2N.CX P w) (n + 3 + 1) T.f_Reader_read_term T.fd_Reader_read_term ["self"] (sp_term T.C_Reader T.C_WrongLine (n + 1)) := by
  refine Z.okXN T.F_Reader_read_term sc_Reader_read_term (fun vs H Q E h => ?_) (fun cdv A outer s H vs Q E hr h => ?_)
  · obtain ⟨r, tl, kd, run, ks, rem, rfl, _⟩ := h
    rfl
  · obtain ⟨r, tl, kd, run, ks, rem, rfl, h, q⟩ := h
    refine ⟨_, pss_cons (ps_set (i := 1) sc_Reader_read_term.nd rfl (.inl rfl) (pe_meth0 (pv 0) T.cl_Reader T.me_Reader_take (ok_Reader_take T) (hr.mono (by omega)) T.B_Reader_take .nil (L2N.passes_call (L2N.takes_of rfl rfl rfl rfl) fun _ _ _ _ h => h))) (pss_cons (ps_if (pt_cmpR op_in_seq (pv 1) (pe_tup (pa_cons (pe_str) (pa_cons (pe_str) (pa_nil)))) rfl) (pss_cons (ps_expr (pe_meth (pv 0) T.cl_Reader T.me_Reader_expect (ok_Reader_expect T) (hr.mono (by omega)) T.B_Reader_expect .nil (L2N.passes_call (L2N.takes_of rfl rfl rfl rfl) fun _ _ _ _ h => h) (pa_cons (pe_str) (pa_nil)))) (pss_cons (ps_set (i := 2) sc_Reader_read_term.nd rfl (.inl rfl) (pe_meth0 (pv 0) T.cl_Reader T.me_Reader_read_term ih (hr.mono (by omega)) T.B_Reader_read_term .nil (L2N.passes_call (L2N.takes_of rfl rfl rfl rfl) fun _ _ _ _ h => h))) (pss_cons (ps_expr (pe_meth (pv 0) T.cl_Reader T.me_Reader_expect (ok_Reader_expect T) (hr.mono (by omega)) T.B_Reader_expect .nil (L2N.passes_call (L2N.takes_of rfl rfl rfl rfl) fun _ _ _ _ h => h) (pa_cons (pe_str) (pa_nil)))) (pss_cons (ps_set (i := 3) sc_Reader_read_term.nd rfl (.inl rfl) (pe_meth0 (pv 0) T.cl_Reader T.me_Reader_read_term ih (hr.mono (by omega)) T.B_Reader_read_term .nil (L2N.passes_call (L2N.takes_of rfl rfl rfl rfl) fun _ _ _ _ h => h))) (pss_cons (ps_expr (pe_meth (pv 0) T.cl_Reader T.me_Reader_expect (ok_Reader_expect T) (hr.mono (by omega)) T.B_Reader_expect .nil (L2N.passes_call (L2N.takes_of rfl rfl rfl rfl) fun _ _ _ _ h => h) (pa_cons (pe_str) (pa_nil)))) (pss_one (ps_ret (pe_tup (pa_cons (pv 1) (pa_cons (pv 2) (pa_cons (pv 3) (pa_nil)))))))))))) (pss_nil)) (pss_cons (ps_if ((pw_or (pt_cmpR op_in_seq (pv 1) (pe_tup (pa_cons (pe_str) (pa_cons (pe_str) (pa_nil)))) rfl) (pw_or1 ((pw_and (pt_val (pe_fld (pv 0) rfl)) (pw_and1 (pt_cmpR op_in_seq (pv 1) (pe_tup (pa_cons (pe_str) (pa_cons (pe_str) (pa_nil)))) rfl))).pt))).pt) (pss_one (ps_ret (pe_tup (pa_cons (pv 1) (pa_nil))))) (pss_nil)) (pss_cons (ps_if (pt_cmpR op_eq (pe_meth (pv 0) T.cl_Reader T.me_Reader_kind_of (ok_Reader_kind_of T) (hr.mono (by omega)) T.B_Reader_kind_of .nil pass0 (pa_cons (pv 1) (pa_nil))) (pe_str) (nomark _)) (pss_one (ps_ret (pe_tup (pa_cons (pe_str) (pa_cons (pv 1) (pa_nil)))))) (pss_nil)) (pss_one (L2N.ps_raise rfl (L2N.takes_of rfl rfl rfl rfl) (Z.pmk_plainN T.xp_WrongLine T.mgC_WrongLine (by rfl) (pe_str))))))), ?_⟩
    refine Z.r_start (σ' := [some (.ref r), none, none, none]) rfl ?_
    obtain ⟨dx, ts, k, h1, _⟩ := h.ex
    walk_at "go"
    refine k_take h (fun e => ?_) fun t rest e H1 b1 hR => ?_
    · subst e
      have q : ∀ H', Z.But r H H' → E (.ref T.C_WrongLine) none H' := by cases n <;> exact q
      exact q _ (Z.But.refl _)
    subst e
    obtain ⟨dx1, ts1, k1, h11, _⟩ := hR.ex
    walk_at "go"
    intro p1 H2 np1 s2 hp1
    refine Z.r_inT (zs := ["min", "max"]) (SqT.of hp1) ?_
    have hR2 := hR.same s2
    have b2 := b1.trans (Z.But.same s2)
    walk_at "go"
    refine Z.ways (fun c => ?_) (fun c => ?_)
    · cases n with
      | zero =>
        unfold rdTerm at q
        rw [if_pos c] at q
        exact q.elim
      | succ n =>
        unfold rdTerm at q
        rw [if_pos c] at q
        obtain ⟨dx2, ts2, k2, h12, _⟩ := hR2.ex
        walk_at "go"
        refine k_expect hR2 (by decide) (by decide) (fun c2 => ?_) fun r3 e3 H3 b3 hR3 => ?_
        · rw [expT_bad c2] at q
          exact q _ b2
        subst e3
        rw [expT_ok] at q
        have b03 := b2.trans b3
        obtain ⟨dx3, ts3, k3, h13, _⟩ := hR3.ex
        walk_at "go"
        refine k_term hR3 ?_
        cases ea : rdTerm run ks n r3 with
        | out => simp only [Res.bind, ea] at q; exact q
        | bad =>
          simp only [Res.bind, ea] at q
          exact fun H' b' => q _ (b03.trans b')
        | ok ta r4 =>
        simp only [Res.bind, ea] at q
        intro va H4 b4 hR4 hta
        have b04 := b03.trans b4
        obtain ⟨dx4, ts4, k4, h14, _⟩ := hR4.ex
        walk_at "go"
        refine k_expect hR4 (by decide) (by decide) (fun c2 => ?_) fun r5 e5 H5 b5 hR5 => ?_
        · rw [expT_bad c2] at q
          exact q _ b04
        subst e5
        rw [expT_ok] at q
        have b05 := b04.trans b5
        have hta5 := hta.but b5 h14 (fun _ z => by cases z)
        obtain ⟨dx5, ts5, k5, h15, _⟩ := hR5.ex
        walk_at "go"
        refine k_term hR5 ?_
        cases eb : rdTerm run ks n r5 with
        | out => simp only [Res.bind, eb] at q; exact q
        | bad =>
          simp only [Res.bind, eb] at q
          exact fun H' b' => q _ (b05.trans b')
        | ok tb r6 =>
        simp only [Res.bind, eb] at q
        intro vb H6 b6 hR6 htb
        have b06 := b05.trans b6
        have hta6 := hta5.but b6 h15 (fun _ z => by cases z)
        obtain ⟨dx6, ts6, k6, h16, _⟩ := hR6.ex
        walk_at "go"
        refine k_expect hR6 (by decide) (by decide) (fun c2 => ?_) fun r7 e7 H7 b7 hR7 => ?_
        · rw [expT_bad c2] at q
          exact q _ b06
        subst e7
        rw [expT_ok] at q
        have b07 := b06.trans b7
        have hta7 := hta6.but b7 h16 (fun _ z => by cases z)
        have htb7 := htb.but b7 h16 (fun _ z => by cases z)
        walk_at "go"
        intro p8 H8 np8 s8 hp8
        exact q _ _ (b07.trans (Z.But.same s8)) (hR7.same s8) ⟨p8, va, vb, rfl, hp8, hta7.same s8, htb7.same s8⟩
    · have q : PR T.C_Reader T.C_WrongLine r tl kd run ks H TmAt Q E (rdLeaf run ks t rest) := by
        cases n <;> (unfold rdTerm at q; rw [if_neg c] at q; exact q)
      unfold rdLeaf at q
      walk_at "go"
      intro p3 H3 np3 s3 hp3
      refine Z.r_inT (zs := ["0", "nothing"]) (SqT.of hp3) ?_
      have hR3 := hR2.same s3
      have b3 := b2.trans (Z.But.same s3)
      obtain ⟨dx3, ts3, k3, h13, _⟩ := hR3.ex
      walk_at "go"
      refine Z.ways (fun c2 => ?_) (fun c2 => ?_)
      · rw [if_pos (.inl c2)] at q
        walk_at "go"
        intro p4 H4 np4 s4 hp4
        exact q _ _ (b3.trans (Z.But.same s4)) (hR3.same s4) ⟨p4, rfl, hp4⟩
      · cases run with
        | true =>
          walk_at "go"
          intro p4 H4 np4 s4 hp4
          refine Z.r_inT (zs := ["x", "before"]) (SqT.of hp4) ?_
          have hR4 := hR3.same s4
          have b4 := b3.trans (Z.But.same s4)
          obtain ⟨dx4, ts4, k4, h14, _⟩ := hR4.ex
          walk_at "go"
          refine Z.ways (fun c3 => ?_) (fun c3 => ?_)
          · rw [if_pos (.inr ⟨rfl, c3⟩)] at q
            walk_at "go"
            intro p5 H5 np5 s5 hp5
            exact q _ _ (b4.trans (Z.But.same s5)) (hR4.same s5) ⟨p5, rfl, hp5⟩
          · rw [if_neg (fun z => z.elim c2 fun z => c3 z.2)] at q
            walk_at "go"
            refine k_kind hR4 ?_
            walk_at "go"
            refine Z.ways (fun c4 => ?_) (fun c4 => ?_)
            · rw [if_pos c4] at q
              walk_at "go"
              intro p5 H5 np5 s5 hp5
              exact q _ _ (b4.trans (Z.But.same s5)) (hR4.same s5) ⟨p5, rfl, hp5⟩
            · rw [if_neg c4] at q
              walk_at "go"
              exact q _ b4
        | false =>
          rw [if_neg (fun z => z.elim c2 fun z => Bool.false_ne_true z.1)] at q
          walk_at "go"
          refine k_kind hR3 ?_
          walk_at "go"
          refine Z.ways (fun c4 => ?_) (fun c4 => ?_)
          · rw [if_pos c4] at q
            walk_at "go"
            intro p5 H5 np5 s5 hp5
            exact q _ _ (b3.trans (Z.But.same s5)) (hR3.same s5) ⟨p5, rfl, hp5⟩
          · rw [if_neg c4] at q
            walk_at "go"
            exact q _ b3
theorem ok_Reader_read_term_a (T : Top K mg w) : ∀ n, FnOk P w K mg base (L2N.CX P w) (n + 3) T.f_Reader_read_term T.fd_Reader_read_term ["self"] (sp_term T.C_Reader T.C_WrongLine n)
  | 0 => ⟨fun _ _ _ _ h => h.elim, fun _ _ _ _ _ _ _ _ _ _ _ _ _ h => h.elim⟩
  | n + 1 => ok_Reader_read_term_s T n (ok_Reader_read_term_a T n)
theorem ok_Reader_read_term (T : Top K mg w) : FnOk P w K mg base (L2N.CX P w) 24 T.f_Reader_read_term T.fd_Reader_read_term ["self"] (sp_term T.C_Reader T.C_WrongLine 21) := ok_Reader_read_term_a T 21

theorem sc_Reader__sum_atom : FnScope ["self", "one", "sign"] ["self"] (defScope s_Reader__sum_atom) := ⟨rfl, rfl, rfl, by decide +kernel, rfl, by decide +kernel, by decide +kernel⟩
theorem ok_Reader__sum_atom (T : Top K mg w) : FnOk P w K mg base (L2N.CX P w) 2 T.f_Reader__sum_atom T.fd_Reader__sum_atom ["self"] (sp_rd T.C_Reader T.C_WrongLine TsAt fun _ _ => rdSum) := by
  refine Z.okXN T.F_Reader__sum_atom sc_Reader__sum_atom (fun vs H Q E h => ?_) (fun cdv A outer s H vs Q E hr h => ?_)
  · obtain ⟨r, tl, kd, run, ks, rem, rfl, _⟩ := h
    rfl
  · obtain ⟨r, tl, kd, run, ks, rem, rfl, h, q⟩ := h
    refine ⟨_, pss_cons (ps_set (i := 1) sc_Reader__sum_atom.nd rfl (.inl rfl) (pe_meth0 (pv 0) T.cl_Reader T.me_Reader_take (ok_Reader_take T) (hr.mono (by decide)) T.B_Reader_take .nil (L2N.passes_call (L2N.takes_of rfl rfl rfl rfl) fun _ _ _ _ h => h))) (pss_cons (ps_set (i := 2) sc_Reader__sum_atom.nd rfl (.inl rfl) (pe_meth0 (pv 0) T.cl_Reader T.me_Reader_take (ok_Reader_take T) (hr.mono (by decide)) T.B_Reader_take .nil (L2N.passes_call (L2N.takes_of rfl rfl rfl rfl) fun _ _ _ _ h => h))) (pss_cons (ps_if ((pw_or (pt_cmpR op_notIn_seq (pv 2) (pe_tup (pa_cons (pe_str) (pa_cons (pe_str) (pa_nil)))) rfl) (pw_or1 (pt_cmpR op_ne (pe_meth0 (pv 0) T.cl_Reader T.me_Reader_take (ok_Reader_take T) (hr.mono (by decide)) T.B_Reader_take .nil (L2N.passes_call (L2N.takes_of rfl rfl rfl rfl) fun _ _ _ _ h => h)) (pv 1) (nomark _)))).pt) (pss_one (L2N.ps_raise rfl (L2N.takes_of rfl rfl rfl rfl) (Z.pmk_plainN T.xp_WrongLine T.mgC_WrongLine (by rfl) (pe_str)))) (pss_nil)) (pss_one (ps_ret (pe_tup (pa_cons (pe_str) (pa_cons (pv 2) (pa_cons (pv 1) (pa_nil))))))))), ?_⟩
    refine Z.r_start (σ' := [some (.ref r), none, none]) rfl ?_
    obtain ⟨dx, ts, k, h1, _⟩ := h.ex
    walk_at "go"
    refine k_take h (fun e => ?_) fun n r1 e H1 b1 hR1 => ?_
    · subst e; exact q _ (Z.But.refl _)
    subst e
    obtain ⟨dx1, ts1, k1, h11, _⟩ := hR1.ex
    walk_at "go"
    refine k_take hR1 (fun e => ?_) fun g r2 e H2 b2 hR2 => ?_
    · subst e; exact q _ b1
    subst e
    have b02 := b1.trans b2
    obtain ⟨dx2, ts2, k2, h12, _⟩ := hR2.ex
    walk_at "go"
    intro p3 H3 np3 s3 hp3
    refine Z.r_ninT (zs := ["==", "!="]) (SqT.of hp3) ?_
    have hR3 := hR2.same s3
    have b03 := b02.trans (Z.But.same s3)
    obtain ⟨dx3, ts3, k3, h13, _⟩ := hR3.ex
    walk_at "go"
    refine Z.waysN (fun c => ?_) (fun c => ?_)
    · walk_at "go"
      have q : ∀ H', Z.But r H H' → E (.ref T.C_WrongLine) none H' := by
        cases r2 with
        | nil => exact q
        | cons m r3 =>
          have e : rdSum (n :: g :: m :: r3) = .bad := if_neg fun z => c z.1
          have q : PR T.C_Reader T.C_WrongLine r tl kd run ks H TsAt Q E (rdSum (n :: g :: m :: r3)) := q
          rw [e] at q
          exact q
      exact q _ b03
    · walk_at "go"
      refine k_take hR3 (fun e => ?_) fun m r3 e H4 b4 hR4 => ?_
      · subst e; exact q _ b03
      subst e
      have b04 := b03.trans b4
      walk_at "go"
      have q : PR T.C_Reader T.C_WrongLine r tl kd run ks H TsAt Q E (rdSum (n :: g :: m :: r3)) := q
      refine Z.waysN (fun c2 => ?_) (fun c2 => ?_)
      · have e : rdSum (n :: g :: m :: r3) = .bad := if_neg fun z => c2 z.2
        rw [e] at q
        walk_at "go"
        exact q _ b04
      · have e : rdSum (n :: g :: m :: r3) = .ok (.sum g n) r3 := if_pos ⟨c, c2⟩
        rw [e] at q
        walk_at "go"
        intro p5 H5 np5 s5 hp5
        refine q _ _ (b04.trans (Z.But.same s5)) (hR4.same s5) ?_
        unfold TsAt
        exact ⟨p5, rfl, hp5⟩
theorem sc_Reader__terms_in_brackets : FnScope ["self", "terms"] ["self"] (defScope s_Reader__terms_in_brackets) := ⟨rfl, rfl, rfl, by decide +kernel, rfl, by decide +kernel, by decide +kernel⟩
/-- a tuple of terms -/
def TmsV (H : Hp) (l : List Tm) (v : V) : Prop := ∃ q vs, v = .ref q ∧ H q = some (.tup vs) ∧ TmsAt H l vs
theorem ok_Reader__terms_in_brackets (T : Top K mg w) : FnOk P w K mg base (L2N.CX P w) 25 T.f_Reader__terms_in_brackets T.fd_Reader__terms_in_brackets ["self"] (sp_rd T.C_Reader T.C_WrongLine TmsV rdTerms) := by
  refine Z.okXN T.F_Reader__terms_in_brackets sc_Reader__terms_in_brackets (fun vs H Q E h => ?_) (fun cdv A outer s H vs Q E hr h => ?_)
  · obtain ⟨r, tl, kd, run, ks, rem, rfl, _⟩ := h
    rfl
  · obtain ⟨r, tl, kd, run, ks, rem, rfl, h, q⟩ := h
    refine ⟨_, pss_cons (ps_expr (pe_meth (pv 0) T.cl_Reader T.me_Reader_expect (ok_Reader_expect T) (hr.mono (by decide)) T.B_Reader_expect .nil (L2N.passes_call (L2N.takes_of rfl rfl rfl rfl) fun _ _ _ _ h => h) (pa_cons (pe_str) (pa_nil)))) (pss_cons (ps_set (i := 1) sc_Reader__terms_in_brackets.nd rfl (.inl rfl) (pe_lst (pa_cons (pe_meth0 (pv 0) T.cl_Reader T.me_Reader_read_term (ok_Reader_read_term T) (hr.mono (by decide)) T.B_Reader_read_term .nil (L2N.passes_call (L2N.takes_of rfl rfl rfl rfl) fun _ _ _ _ h => h)) (pa_nil)))) (pss_cons (ps_while (passes_of rfl) (pt_val (pe_meth (pv 0) T.cl_Reader T.me_Reader_skip_if (ok_Reader_skip_if T) (hr.mono (by decide)) T.B_Reader_skip_if .nil pass0 (pa_cons (pe_str) (pa_nil)))) (pss_one (ps_expr (pe_bm PySem.F.plainAttrs_list PySem.F.slot_list_append PySem.F.type_list_append mt_append (pv 1) (pa_cons (pe_meth0 (pv 0) T.cl_Reader T.me_Reader_read_term (ok_Reader_read_term T) (hr.mono (by decide)) T.B_Reader_read_term .nil (L2N.passes_call (L2N.takes_of rfl rfl rfl rfl) fun _ _ _ _ h => h)) (pa_nil)))))) (pss_cons (ps_expr (pe_meth (pv 0) T.cl_Reader T.me_Reader_expect (ok_Reader_expect T) (hr.mono (by decide)) T.B_Reader_expect .nil (L2N.passes_call (L2N.takes_of rfl rfl rfl rfl) fun _ _ _ _ h => h) (pa_cons (pe_str) (pa_nil)))) (pss_one (ps_ret (pe_callTy Z.c_tupOf (by rfl) T.z_tuple (by decide +kernel) (pa_cons (pv 1) (pa_nil)))))))), ?_⟩
    refine Z.r_start (σ' := [some (.ref r), none]) rfl ?_
    obtain ⟨dx, ts, k, h1, _⟩ := h.ex
    walk_at "go"
    have q : PR T.C_Reader T.C_WrongLine r tl kd run ks H TmsV Q E ((expT "(" rem).bind fun _ r => (rdTerm run ks 20 r).bind fun a r => (sepBy (rdTerm run ks 20) "," 1000 r).bind fun l r => (expT ")" r).bind fun _ r => .ok (a :: l) r) := q
    refine k_expect h (by decide) (by decide) (fun c => (PR.exp q).1 c) fun r0 e0 H0 b0 hR0 => ?_
    have q := (PR.exp q).2 _ e0
    obtain ⟨dx0, ts0, k0, h10, _⟩ := hR0.ex
    walk_at "go"
    refine k_term hR0 (PR.first (PR.back b0 q) fun a rest v H1 ea b1 hR hta _ => ?_)
    rw [ea] at q
    have q : PR T.C_Reader T.C_WrongLine r tl kd run ks H TmsV Q E ((sepBy (rdTerm run ks 20) "," 1000 rest).bind fun l r => (expT ")" r).bind fun _ r => .ok (a :: l) r) := q
    have b01 := b0.trans b1
    walk_at "go"
    intro L H2 nL s2 hL
    have hR2 := hR.same s2
    have hta2 : TmAt H2 a v := hta.same s2
    have b02 := b01.trans (Z.But.same s2)
    have n0 : H L = none := by
      cases z : H L with
      | none => rfl
      | some o =>
        by_cases c : L = r
        · obtain ⟨_, _, _, e, _⟩ := hR.ex
          rw [c, e] at nL; cases nL
        · rw [b01 _ _ c z] at nL; cases nL
    obtain ⟨nr, ntl, nkd⟩ := hR.fresh nL
    walk_at "toseq"
    refine Z.viaS (fun σ' H' => ∃ acc vs rem', Z.But r H H' ∧ Rd T.C_Reader H' r tl kd run ks rem' ∧ H' L = some (.lst vs) ∧ TmsAt H' (a :: acc) vs ∧ acc.length ≤ 1000 ∧ PR T.C_Reader T.C_WrongLine r tl kd run ks H TmsV Q E ((expT ")" rem').bind fun _ r => .ok (a :: acc) r) ∧ σ' = [some (.ref r), some (.ref L)]) (fun D' kk => ?_) ?_
    · refine Z.r_while ⟨fun m σ' H' => ∃ acc vs rem', Z.But r H H' ∧ Rd T.C_Reader H' r tl kd run ks rem' ∧ H' L = some (.lst vs) ∧ TmsAt H' (a :: acc) vs ∧ acc.length + m = 1000 ∧ PR T.C_Reader T.C_WrongLine r tl kd run ks H TmsV Q E ((sepBy (rdTerm run ks 20) "," m rem').bind fun l r => (expT ")" r).bind fun _ r => .ok (a :: (acc ++ l)) r) ∧ σ' = [some (.ref r), some (.ref L)], ⟨1000, [], [v], rest, b02, hR2, hL, ⟨v, [], rfl, hta2, rfl⟩, rfl, q, rfl⟩, ?_⟩
      rintro m σ' H3 ⟨acc, vs, rem', b3, hR3, hL3, hta3, lm, q, rfl⟩
      obtain ⟨dx3, ts3, k3, h13, _⟩ := hR3.ex
      walk_at "go"
      refine k_skip hR3 (by decide) (fun c => ?_) fun rest' c H4 b4 hR4 => ?_
      · have e : sepBy (rdTerm run ks 20) "," m rem' = .ok [] rem' := by
          cases m <;> exact if_neg c
        rw [e] at q
        walk_at "go"
        refine kk _ _ ⟨acc, vs, rem', b3, hR3, hL3, hta3, by omega, ?_, rfl⟩
        have q : PR T.C_Reader T.C_WrongLine r tl kd run ks H TmsV Q E ((expT ")" rem').bind fun _ r => .ok (a :: (acc ++ [])) r) := q
        rw [List.append_nil] at q
        exact q
      · subst c
        have hL4 := b4 _ _ nr.symm hL3
        cases m with
        | zero =>
          have e : sepBy (rdTerm run ks 20) "," 0 ("," :: rest') = .out := if_pos rfl
          rw [e] at q
          exact q.elim
        | succ m =>
        have e : sepBy (rdTerm run ks 20) "," (m + 1) ("," :: rest') = (rdTerm run ks 20 rest').bind fun a r => (sepBy (rdTerm run ks 20) "," m r).bind fun l r => .ok (a :: l) r := if_pos rfl
        rw [e, Res.assoc] at q
        obtain ⟨dx4, ts4, k4, h14, _⟩ := hR4.ex
        walk_at "go"
        refine Z.r_wN ?_
        walk_at "go"
        refine k_term hR4 (PR.first (PR.back (b3.trans b4) q) fun a2 rest2 v2 H5 ea2 b5 hR5 hta5 _ => ?_)
        rw [ea2] at q
        have q : PR T.C_Reader T.C_WrongLine r tl kd run ks H TmsV Q E (((sepBy (rdTerm run ks 20) "," m rest2).bind fun l r => .ok (a2 :: l) r).bind fun l r => (expT ")" r).bind fun _ r => .ok (a :: (acc ++ l)) r) := q
        rw [Res.assoc] at q
        have hL5 := b5 _ _ nr.symm hL4
        have lvs := TmsAt.len hta3
        rw [List.length_cons] at lvs
        walk_at "go"
        refine Z.r_app hL5 (by omega) fun H6 b6 h6 => ?_
        walk_at "go"
        refine ⟨m, by omega, acc ++ [a2], vs ++ [v2], rest2, But.back2 ((b3.trans b4).trans b5) n0 b6, hR5.but b6 nr ntl nkd, h6, ?_, by rw [List.length_append]; show _ + 1 + _ = _; omega, ?_, rfl⟩
        · refine TmsAt.mono (tup_but b6 hL5 lst_tup) ?_
          exact TmsAt.snoc (l := a :: acc) (TmsAt.mono (tup_but b5 h14 ins_tup) (TmsAt.mono (tup_but b4 h13 ins_tup) hta3)) hta5
        · simp only [List.append_assoc, List.singleton_append]
          exact q
    · rintro σ' H3 ⟨acc, vs, rem', b3, hR3, hL3, hta3, la, q, rfl⟩
      obtain ⟨dx3, ts3, k3, h13, _⟩ := hR3.ex
      walk_at "go"
      refine k_expect hR3 (by decide) (by decide) (fun c => (PR.exp (PR.back b3 q)).1 c) fun r4 e4 H4 b4 hR4 => ?_
      have q := (PR.exp q).2 _ e4
      have hL4 := b4 _ _ nr.symm hL3
      walk_at "go"
      intro q5 H5 nq s5 hq
      exact q _ _ ((b3.trans b4).trans (Z.But.same s5)) (hR4.same s5) ⟨q5, vs, rfl, hq, TmsAt.mono (fun _ _ e => s5 _ _ e) (TmsAt.mono (tup_but b4 h13 ins_tup) hta3)⟩
theorem sc_Reader__term_atom : FnScope ["self", "one", "sign"] ["self"] (defScope s_Reader__term_atom) := ⟨rfl, rfl, rfl, by decide +kernel, rfl, by decide +kernel, by decide +kernel⟩
theorem ok_Reader__term_atom (T : Top K mg w) : FnOk P w K mg base (L2N.CX P w) 26 T.f_Reader__term_atom T.fd_Reader__term_atom ["self"] (sp_rd T.C_Reader T.C_WrongLine TsAt rdTA) := by
  refine Z.okXN T.F_Reader__term_atom sc_Reader__term_atom (fun vs H Q E h => ?_) (fun cdv A outer s H vs Q E hr h => ?_)
  · obtain ⟨r, tl, kd, run, ks, rem, rfl, _⟩ := h
    rfl
  · obtain ⟨r, tl, kd, run, ks, rem, rfl, h, q⟩ := h
    refine ⟨_, pss_cons (ps_set (i := 1) sc_Reader__term_atom.nd rfl (.inl rfl) (pe_meth0 (pv 0) T.cl_Reader T.me_Reader_read_term (ok_Reader_read_term T) (hr.mono (by decide)) T.B_Reader_read_term .nil (L2N.passes_call (L2N.takes_of rfl rfl rfl rfl) fun _ _ _ _ h => h))) (pss_cons (ps_set (i := 2) sc_Reader__term_atom.nd rfl (.inl rfl) (pe_meth0 (pv 0) T.cl_Reader T.me_Reader_take (ok_Reader_take T) (hr.mono (by decide)) T.B_Reader_take .nil (L2N.passes_call (L2N.takes_of rfl rfl rfl rfl) fun _ _ _ _ h => h))) (pss_cons (ps_if (pt_cmpR op_in_seq (pv 2) (pe_glob (v := .ref T.A_COMPARISONS) (by rfl) T.mgK_COMPARISONS rfl) rfl) (pss_one (ps_ret (pe_tup (pa_cons (pe_str) (pa_cons (pv 2) (pa_cons (pv 1) (pa_cons (pe_meth0 (pv 0) T.cl_Reader T.me_Reader_read_term (ok_Reader_read_term T) (hr.mono (by decide)) T.B_Reader_read_term .nil (L2N.passes_call (L2N.takes_of rfl rfl rfl rfl) fun _ _ _ _ h => h)) (pa_nil)))))))) (pss_nil)) (pss_cons (ps_if (pt_cmpR op_eq (pv 2) (pe_str) (nomark _)) (pss_cons (ps_expr (pe_meth (pv 0) T.cl_Reader T.me_Reader_expect (ok_Reader_expect T) (hr.mono (by decide)) T.B_Reader_expect .nil (L2N.passes_call (L2N.takes_of rfl rfl rfl rfl) fun _ _ _ _ h => h) (pa_cons (pe_str) (pa_nil)))) (pss_one (ps_ret (pe_tup (pa_cons (pe_str) (pa_cons (pv 1) (pa_nil))))))) (pss_nil)) (pss_cons (ps_if (pt_cmpR op_eq (pv 2) (pe_str) (nomark _)) (pss_one (ps_ret (pe_tup (pa_cons (pe_str) (pa_cons (pv 1) (pa_cons (pe_meth0 (pv 0) T.cl_Reader T.me_Reader__terms_in_brackets (ok_Reader__terms_in_brackets T) (hr.mono (by decide)) T.B_Reader__terms_in_brackets .nil (L2N.passes_call (L2N.takes_of rfl rfl rfl rfl) fun _ _ _ _ h => h)) (pa_nil))))))) (pss_nil)) (pss_one (L2N.ps_raise rfl (L2N.takes_of rfl rfl rfl rfl) (Z.pmk_plainN T.xp_WrongLine T.mgC_WrongLine (by rfl) (pe_str)))))))), ?_⟩
    refine Z.r_start (σ' := [some (.ref r), none, none]) rfl ?_
    obtain ⟨dx, ts, k, h1, _⟩ := h.ex
    walk_at "go"
    unfold rdTA at q
    refine k_term h (PR.first q fun a rest v H1 ea b1 hR hta _ => ?_)
    rw [ea] at q
    have hta1 := hta
    obtain ⟨dx1, ts1, k1, h11, _⟩ := hR.ex
    walk_at "go"
    refine k_take hR (fun e => ?_) fun g r2 e H2 b2 hR2 => ?_
    · subst e; exact q _ b1
    subst e
    have q : PR T.C_Reader T.C_WrongLine r tl kd run ks H TsAt Q E (if g ∈ comps then (rdTerm run ks 20 r2).bind fun b r => .ok (.cmp g a b) r
      else if g = "is" then (expT "nothing" r2).bind fun _ r => .ok (.isn a) r
      else if g = "in" then (rdTerms run ks r2).bind fun l r => .ok (.inn a l) r else .bad) := q
    have b02 := b1.trans b2
    have hta2 : TmAt H2 a v := hta.but b2 h11 ins_tup
    obtain ⟨dx2, ts2, k2, h12, _⟩ := hR2.ex
    walk_at "go"
    refine Z.r_inT (zs := comps) (T.wt_COMPARISONS H2) ?_
    walk_at "go"
    refine Z.ways (fun c => ?_) (fun c => ?_)
    · rw [if_pos c] at q
      walk_at "go"
      refine k_term hR2 (PR.first (PR.back b02 q) fun b r3 vb H3 eb b3 hR3 htb _ => ?_)
      rw [eb] at q
      have hta3 : TmAt H3 a v := hta2.but b3 h12 ins_tup
      walk_at "go"
      intro p4 H4 np4 s4 hp4
      refine q _ _ ((b02.trans b3).trans (Z.But.same s4)) (hR3.same s4) ?_
      unfold TsAt
      exact ⟨p4, v, vb, rfl, hp4, hta3.same s4, htb.same s4⟩
    · rw [if_neg c] at q
      walk_at "go"
      refine Z.ways (fun c2 => ?_) (fun c2 => ?_)
      · rw [if_pos c2] at q
        walk_at "go"
        refine k_expect hR2 (by decide) (by decide) (fun c => (PR.exp (PR.back b02 q)).1 c) fun r3 e3 H3 b3 hR3 => ?_
        have q := (PR.exp q).2 _ e3
        have hta3 : TmAt H3 a v := hta2.but b3 h12 ins_tup
        walk_at "go"
        intro p4 H4 np4 s4 hp4
        refine q _ _ ((b02.trans b3).trans (Z.But.same s4)) (hR3.same s4) ?_
        unfold TsAt
        exact ⟨p4, v, rfl, hp4, hta3.same s4⟩
      · rw [if_neg c2] at q
        walk_at "go"
        refine Z.ways (fun c3 => ?_) (fun c3 => ?_)
        · rw [if_pos c3] at q
          walk_at "go"
          refine k_rd (p := rdTerms) hR2 (PR.first (PR.back b02 q) fun l r3 vl H3 el b3 hR3 htl _ => ?_)
          have el : rdTerms run ks r2 = .ok l r3 := el
          rw [el] at q
          obtain ⟨q3, vs, rfl, hq3, hvs⟩ := htl
          have hta3 : TmAt H3 a v := hta2.but b3 h12 ins_tup
          walk_at "go"
          intro p4 H4 np4 s4 hp4
          refine q _ _ ((b02.trans b3).trans (Z.But.same s4)) (hR3.same s4) ?_
          unfold TsAt
          exact ⟨p4, v, q3, vs, rfl, hp4, hta3.same s4, s4 _ _ hq3, TmsAt.mono (fun _ _ e => s4 _ _ e) hvs⟩
        · rw [if_neg c3] at q
          walk_at "go"
          exact q _ b02
theorem sc_Reader__part : FnScope ["self", "atoms"] ["self"] (defScope s_Reader__part) := ⟨rfl, rfl, rfl, by decide +kernel, rfl, by decide +kernel, by decide +kernel⟩
theorem ok_Reader__part_s (T : Top K mg w) (n : Nat) (ih : FnOk P w K mg base (L2N.CX P w) (3 * n + 27) T.f_Reader__atom T.fd_Reader__atom ["self"] (sp_rd T.C_Reader T.C_WrongLine TsAt fun run ks => rdAtom run ks n)) : FnOk P w K mg base (L2N.CX P w) (3 * n + 27 + 1) T.f_Reader__part T.fd_Reader__part ["self"] (sp_rd T.C_Reader T.C_WrongLine TsAt fun run ks => rdPart run ks n) := by
  refine Z.okXN T.F_Reader__part sc_Reader__part (fun vs H Q E h => ?_) (fun cdv A outer s H vs Q E hr h => ?_)
  · obtain ⟨r, tl, kd, run, ks, rem, rfl, _⟩ := h
    rfl
  · obtain ⟨r, tl, kd, run, ks, rem, rfl, h, q⟩ := h
    refine ⟨_, pss_cons (ps_set (i := 1) sc_Reader__part.nd rfl (.inl rfl) (pe_lst (pa_cons (pe_meth0 (pv 0) T.cl_Reader T.me_Reader__atom ih (hr.mono (by omega)) T.B_Reader__atom .nil (L2N.passes_call (L2N.takes_of rfl rfl rfl rfl) fun _ _ _ _ h => h)) (pa_nil)))) (pss_cons (ps_while (passes_of rfl) (pt_val (pe_meth (pv 0) T.cl_Reader T.me_Reader_skip_if (ok_Reader_skip_if T) (hr.mono (by omega)) T.B_Reader_skip_if .nil pass0 (pa_cons (pe_str) (pa_nil)))) (pss_one (ps_expr (pe_bm PySem.F.plainAttrs_list PySem.F.slot_list_append PySem.F.type_list_append mt_append (pv 1) (pa_cons (pe_meth0 (pv 0) T.cl_Reader T.me_Reader__atom ih (hr.mono (by omega)) T.B_Reader__atom .nil (L2N.passes_call (L2N.takes_of rfl rfl rfl rfl) fun _ _ _ _ h => h)) (pa_nil)))))) (pss_one (ps_ret (pe_ifExp (pt_cmpR op_eq (pe_callB Z.c_len (by rfl) T.z_len (by decide +kernel) (pa_cons (pv 1) (pa_nil))) (pe_int) (nomark _)) (pe_ix (Z.ix_seqG (K := K) rfl) (pv 1) (pe_int) (fun _ _ => rfl)) (pe_tup (pa_cons (pe_str) (pa_cons (pe_callTy Z.c_tupOf (by rfl) T.z_tuple (by decide +kernel) (pa_cons (pv 1) (pa_nil))) (pa_nil)))))))), ?_⟩
    refine Z.r_start (σ' := [some (.ref r), none]) rfl ?_
    obtain ⟨dx, ts, k, h1, _⟩ := h.ex
    walk_at "go"
    have q : PR T.C_Reader T.C_WrongLine r tl kd run ks H TsAt Q E ((rdAtom run ks n rem).bind fun a r => (sepBy (rdAtom run ks n) "and" 1000 r).bind fun l r => .ok (if l = [] then a else .and_ (a :: l)) r) := q
    refine k_rd (p := fun run ks => rdAtom run ks n) h (PR.first q fun a rest v H1 ea b1 hR hta _ => ?_)
    have ea : rdAtom run ks n rem = .ok a rest := ea
    rw [ea] at q
    have q : PR T.C_Reader T.C_WrongLine r tl kd run ks H TsAt Q E ((sepBy (rdAtom run ks n) "and" 1000 rest).bind fun l r => .ok (if l = [] then a else .and_ (a :: l)) r) := q
    walk_at "go"
    intro L H2 nL s2 hL
    have hR2 := hR.same s2
    have hta2 : TsAt H2 a v := hta.mono fun _ _ e => s2 _ _ e
    have b02 := b1.trans (Z.But.same s2)
    have n0 : H L = none := by
      cases z : H L with
      | none => rfl
      | some o =>
        by_cases c : L = r
        · obtain ⟨_, _, _, e, _⟩ := hR.ex
          rw [c, e] at nL; cases nL
        · rw [b1 _ _ c z] at nL; cases nL
    obtain ⟨nr, ntl, nkd⟩ := hR.fresh nL
    walk_at "toseq"
    refine Z.viaS (fun σ' H' => ∃ acc vs rem' l, Z.But r H H' ∧ Rd T.C_Reader H' r tl kd run ks rem' ∧ H' L = some (.lst vs) ∧ TssAt H' (a :: acc) vs ∧ acc.length ≤ 1000 ∧ (∀ v H'', Z.But r H H'' → Rd T.C_Reader H'' r tl kd run ks rem' → TsAt H'' (if acc = [] then a else .and_ (a :: acc)) v → Q v H'') ∧ l = 0 ∧ σ' = [some (.ref r), some (.ref L)]) (fun D' kk => ?_) ?_
    · refine Z.r_while ⟨fun m σ' H' => ∃ acc vs rem', Z.But r H H' ∧ Rd T.C_Reader H' r tl kd run ks rem' ∧ H' L = some (.lst vs) ∧ TssAt H' (a :: acc) vs ∧ acc.length + m = 1000 ∧ PR T.C_Reader T.C_WrongLine r tl kd run ks H TsAt Q E ((sepBy (rdAtom run ks n) "and" m rem').bind fun l r => .ok (if acc ++ l = [] then a else .and_ (a :: (acc ++ l))) r) ∧ σ' = [some (.ref r), some (.ref L)], ⟨1000, [], [v], rest, b02, hR2, hL, TssAt.one hta2, rfl, q, rfl⟩, ?_⟩
      rintro m σ' H3 ⟨acc, vs, rem', b3, hR3, hL3, hta3, lm, q, rfl⟩
      obtain ⟨dx3, ts3, k3, h13, _⟩ := hR3.ex
      walk_at "go"
      refine k_skip hR3 (by decide) (fun c => ?_) fun rest' c H4 b4 hR4 => ?_
      · have e : sepBy (rdAtom run ks n) "and" m rem' = .ok [] rem' := by
          cases m <;> exact if_neg c
        rw [e] at q
        walk_at "go"
        refine kk _ _ ⟨acc, vs, rem', 0, b3, hR3, hL3, hta3, by omega, ?_, rfl, rfl⟩
        have q : PR T.C_Reader T.C_WrongLine r tl kd run ks H TsAt Q E (.ok (if acc ++ [] = [] then a else .and_ (a :: (acc ++ []))) rem') := q
        rw [List.append_nil] at q
        exact q
      · subst c
        have hL4 := b4 _ _ nr.symm hL3
        cases m with
        | zero =>
          have e : sepBy (rdAtom run ks n) "and" 0 ("and" :: rest') = .out := if_pos rfl
          rw [e] at q
          exact q.elim
        | succ m =>
        have e : sepBy (rdAtom run ks n) "and" (m + 1) ("and" :: rest') = (rdAtom run ks n rest').bind fun a r => (sepBy (rdAtom run ks n) "and" m r).bind fun l r => .ok (a :: l) r := if_pos rfl
        rw [e, Res.assoc] at q
        obtain ⟨dx4, ts4, k4, h14, _⟩ := hR4.ex
        walk_at "go"
        refine Z.r_wN ?_
        walk_at "go"
        refine k_rd (p := fun run ks => rdAtom run ks n) hR4 (PR.first (PR.back (b3.trans b4) q) fun a2 rest2 v2 H5 ea2 b5 hR5 hta5 _ => ?_)
        have ea2 : rdAtom run ks n rest' = .ok a2 rest2 := ea2
        rw [ea2] at q
        have q : PR T.C_Reader T.C_WrongLine r tl kd run ks H TsAt Q E (((sepBy (rdAtom run ks n) "and" m rest2).bind fun l r => .ok (a2 :: l) r).bind fun l r => .ok (if acc ++ l = [] then a else .and_ (a :: (acc ++ l))) r) := q
        rw [Res.assoc] at q
        have hL5 := b5 _ _ nr.symm hL4
        have lvs := TssAt.len hta3
        rw [List.length_cons] at lvs
        walk_at "go"
        refine Z.r_app hL5 (by omega) fun H6 b6 h6 => ?_
        walk_at "go"
        refine ⟨m, by omega, acc ++ [a2], vs ++ [v2], rest2, But.back2 ((b3.trans b4).trans b5) n0 b6, hR5.but b6 nr ntl nkd, h6, ?_, by rw [List.length_append]; show _ + 1 + _ = _; omega, ?_, rfl⟩
        · refine TssAt.mono (tup_but b6 hL5 lst_tup) ?_
          exact TssAt.snoc (l := a :: acc) hta5 (TssAt.mono (tup_but b5 h14 ins_tup) (TssAt.mono (tup_but b4 h13 ins_tup) hta3))
        · simp only [List.append_assoc, List.singleton_append]
          exact q
    · rintro σ' H3 ⟨acc, vs, rem', l, b3, hR3, hL3, hta3, la, fin, _, rfl⟩
      have lvs := TssAt.len hta3
      rw [List.length_cons] at lvs
      walk_at "go"
      refine Z.ways (fun c => ?_) (fun c => ?_)
      · have ea0 : acc = [] := List.eq_nil_of_length_eq_zero (by omega)
        subst ea0
        unfold TssAt at hta3
        obtain ⟨v0, us, evs, h0, hus⟩ := hta3
        unfold TssAt at hus
        subst hus
        subst evs
        walk_at "go"
        exact fin v0 H3 b3 hR3 h0
      · have ne : acc ≠ [] := fun z => c (by rw [lvs, z]; rfl)
        rw [if_neg ne] at fin
        walk_at "go"
        intro q2 H4 nq s4 hq
        walk_at "go"
        intro p5 H5 np5 s5 hp5
        have s45 := s4.trans s5
        refine fin _ _ (b3.trans (Z.But.same s45)) (hR3.same s45) ?_
        unfold TsAt
        exact ⟨p5, q2, vs, rfl, hp5, s5 _ _ hq, TssAt.mono (fun _ _ e => s45 _ _ e) hta3⟩
theorem sc_Reader_read_test : FnScope ["self", "parts"] ["self"] (defScope s_Reader_read_test) := ⟨rfl, rfl, rfl, by decide +kernel, rfl, by decide +kernel, by decide +kernel⟩
theorem ok_Reader_read_test_s (T : Top K mg w) (n : Nat) (ih : FnOk P w K mg base (L2N.CX P w) (3 * n + 28) T.f_Reader__part T.fd_Reader__part ["self"] (sp_rd T.C_Reader T.C_WrongLine TsAt fun run ks => rdPart run ks n)) : FnOk P w K mg base (L2N.CX P w) (3 * n + 28 + 1) T.f_Reader_read_test T.fd_Reader_read_test ["self"] (sp_rd T.C_Reader T.C_WrongLine TsAt fun run ks => rdTest run ks n) := by
  refine Z.okXN T.F_Reader_read_test sc_Reader_read_test (fun vs H Q E h => ?_) (fun cdv A outer s H vs Q E hr h => ?_)
  · obtain ⟨r, tl, kd, run, ks, rem, rfl, _⟩ := h
    rfl
  · obtain ⟨r, tl, kd, run, ks, rem, rfl, h, q⟩ := h
    refine ⟨_, pss_cons (ps_set (i := 1) sc_Reader_read_test.nd rfl (.inl rfl) (pe_lst (pa_cons (pe_meth0 (pv 0) T.cl_Reader T.me_Reader__part ih (hr.mono (by omega)) T.B_Reader__part .nil (L2N.passes_call (L2N.takes_of rfl rfl rfl rfl) fun _ _ _ _ h => h)) (pa_nil)))) (pss_cons (ps_while (passes_of rfl) (pt_val (pe_meth (pv 0) T.cl_Reader T.me_Reader_skip_if (ok_Reader_skip_if T) (hr.mono (by omega)) T.B_Reader_skip_if .nil pass0 (pa_cons (pe_str) (pa_nil)))) (pss_one (ps_expr (pe_bm PySem.F.plainAttrs_list PySem.F.slot_list_append PySem.F.type_list_append mt_append (pv 1) (pa_cons (pe_meth0 (pv 0) T.cl_Reader T.me_Reader__part ih (hr.mono (by omega)) T.B_Reader__part .nil (L2N.passes_call (L2N.takes_of rfl rfl rfl rfl) fun _ _ _ _ h => h)) (pa_nil)))))) (pss_one (ps_ret (pe_ifExp (pt_cmpR op_eq (pe_callB Z.c_len (by rfl) T.z_len (by decide +kernel) (pa_cons (pv 1) (pa_nil))) (pe_int) (nomark _)) (pe_ix (Z.ix_seqG (K := K) rfl) (pv 1) (pe_int) (fun _ _ => rfl)) (pe_tup (pa_cons (pe_str) (pa_cons (pe_callTy Z.c_tupOf (by rfl) T.z_tuple (by decide +kernel) (pa_cons (pv 1) (pa_nil))) (pa_nil)))))))), ?_⟩
    refine Z.r_start (σ' := [some (.ref r), none]) rfl ?_
    obtain ⟨dx, ts, k, h1, _⟩ := h.ex
    walk_at "go"
    have q : PR T.C_Reader T.C_WrongLine r tl kd run ks H TsAt Q E ((rdPart run ks n rem).bind fun a r => (sepBy (rdPart run ks n) "or" 1000 r).bind fun l r => .ok (if l = [] then a else .or_ (a :: l)) r) := q
    refine k_rd (p := fun run ks => rdPart run ks n) h (PR.first q fun a rest v H1 ea b1 hR hta _ => ?_)
    have ea : rdPart run ks n rem = .ok a rest := ea
    rw [ea] at q
    have q : PR T.C_Reader T.C_WrongLine r tl kd run ks H TsAt Q E ((sepBy (rdPart run ks n) "or" 1000 rest).bind fun l r => .ok (if l = [] then a else .or_ (a :: l)) r) := q
    walk_at "go"
    intro L H2 nL s2 hL
    have hR2 := hR.same s2
    have hta2 : TsAt H2 a v := hta.mono fun _ _ e => s2 _ _ e
    have b02 := b1.trans (Z.But.same s2)
    have n0 : H L = none := by
      cases z : H L with
      | none => rfl
      | some o =>
        by_cases c : L = r
        · obtain ⟨_, _, _, e, _⟩ := hR.ex
          rw [c, e] at nL; cases nL
        · rw [b1 _ _ c z] at nL; cases nL
    obtain ⟨nr, ntl, nkd⟩ := hR.fresh nL
    walk_at "toseq"
    refine Z.viaS (fun σ' H' => ∃ acc vs rem' l, Z.But r H H' ∧ Rd T.C_Reader H' r tl kd run ks rem' ∧ H' L = some (.lst vs) ∧ TssAt H' (a :: acc) vs ∧ acc.length ≤ 1000 ∧ (∀ v H'', Z.But r H H'' → Rd T.C_Reader H'' r tl kd run ks rem' → TsAt H'' (if acc = [] then a else .or_ (a :: acc)) v → Q v H'') ∧ l = 0 ∧ σ' = [some (.ref r), some (.ref L)]) (fun D' kk => ?_) ?_
    · refine Z.r_while ⟨fun m σ' H' => ∃ acc vs rem', Z.But r H H' ∧ Rd T.C_Reader H' r tl kd run ks rem' ∧ H' L = some (.lst vs) ∧ TssAt H' (a :: acc) vs ∧ acc.length + m = 1000 ∧ PR T.C_Reader T.C_WrongLine r tl kd run ks H TsAt Q E ((sepBy (rdPart run ks n) "or" m rem').bind fun l r => .ok (if acc ++ l = [] then a else .or_ (a :: (acc ++ l))) r) ∧ σ' = [some (.ref r), some (.ref L)], ⟨1000, [], [v], rest, b02, hR2, hL, TssAt.one hta2, rfl, q, rfl⟩, ?_⟩
      rintro m σ' H3 ⟨acc, vs, rem', b3, hR3, hL3, hta3, lm, q, rfl⟩
      obtain ⟨dx3, ts3, k3, h13, _⟩ := hR3.ex
      walk_at "go"
      refine k_skip hR3 (by decide) (fun c => ?_) fun rest' c H4 b4 hR4 => ?_
      · have e : sepBy (rdPart run ks n) "or" m rem' = .ok [] rem' := by
          cases m <;> exact if_neg c
        rw [e] at q
        walk_at "go"
        refine kk _ _ ⟨acc, vs, rem', 0, b3, hR3, hL3, hta3, by omega, ?_, rfl, rfl⟩
        have q : PR T.C_Reader T.C_WrongLine r tl kd run ks H TsAt Q E (.ok (if acc ++ [] = [] then a else .or_ (a :: (acc ++ []))) rem') := q
        rw [List.append_nil] at q
        exact q
      · subst c
        have hL4 := b4 _ _ nr.symm hL3
        cases m with
        | zero =>
          have e : sepBy (rdPart run ks n) "or" 0 ("or" :: rest') = .out := if_pos rfl
          rw [e] at q
          exact q.elim
        | succ m =>
        have e : sepBy (rdPart run ks n) "or" (m + 1) ("or" :: rest') = (rdPart run ks n rest').bind fun a r => (sepBy (rdPart run ks n) "or" m r).bind fun l r => .ok (a :: l) r := if_pos rfl
        rw [e, Res.assoc] at q
        obtain ⟨dx4, ts4, k4, h14, _⟩ := hR4.ex
        walk_at "go"
        refine Z.r_wN ?_
        walk_at "go"
        refine k_rd (p := fun run ks => rdPart run ks n) hR4 (PR.first (PR.back (b3.trans b4) q) fun a2 rest2 v2 H5 ea2 b5 hR5 hta5 _ => ?_)
        have ea2 : rdPart run ks n rest' = .ok a2 rest2 := ea2
        rw [ea2] at q
        have q : PR T.C_Reader T.C_WrongLine r tl kd run ks H TsAt Q E (((sepBy (rdPart run ks n) "or" m rest2).bind fun l r => .ok (a2 :: l) r).bind fun l r => .ok (if acc ++ l = [] then a else .or_ (a :: (acc ++ l))) r) := q
        rw [Res.assoc] at q
        have hL5 := b5 _ _ nr.symm hL4
        have lvs := TssAt.len hta3
        rw [List.length_cons] at lvs
        walk_at "go"
        refine Z.r_app hL5 (by omega) fun H6 b6 h6 => ?_
        walk_at "go"
        refine ⟨m, by omega, acc ++ [a2], vs ++ [v2], rest2, But.back2 ((b3.trans b4).trans b5) n0 b6, hR5.but b6 nr ntl nkd, h6, ?_, by rw [List.length_append]; show _ + 1 + _ = _; omega, ?_, rfl⟩
        · refine TssAt.mono (tup_but b6 hL5 lst_tup) ?_
          exact TssAt.snoc (l := a :: acc) hta5 (TssAt.mono (tup_but b5 h14 ins_tup) (TssAt.mono (tup_but b4 h13 ins_tup) hta3))
        · simp only [List.append_assoc, List.singleton_append]
          exact q
    · rintro σ' H3 ⟨acc, vs, rem', l, b3, hR3, hL3, hta3, la, fin, _, rfl⟩
      have lvs := TssAt.len hta3
      rw [List.length_cons] at lvs
      walk_at "go"
      refine Z.ways (fun c => ?_) (fun c => ?_)
      · have ea0 : acc = [] := List.eq_nil_of_length_eq_zero (by omega)
        subst ea0
        unfold TssAt at hta3
        obtain ⟨v0, us, evs, h0, hus⟩ := hta3
        unfold TssAt at hus
        subst hus
        subst evs
        walk_at "go"
        exact fin v0 H3 b3 hR3 h0
      · have ne : acc ≠ [] := fun z => c (by rw [lvs, z]; rfl)
        rw [if_neg ne] at fin
        walk_at "go"
        intro q2 H4 nq s4 hq
        walk_at "go"
        intro p5 H5 np5 s5 hp5
        have s45 := s4.trans s5
        refine fin _ _ (b3.trans (Z.But.same s45)) (hR3.same s45) ?_
        unfold TsAt
        exact ⟨p5, q2, vs, rfl, hp5, s5 _ _ hq, TssAt.mono (fun _ _ e => s45 _ _ e) hta3⟩
theorem sc_Reader__atom : FnScope ["self", "kind", "inner"] ["self"] (defScope s_Reader__atom) := ⟨rfl, rfl, rfl, by decide +kernel, rfl, by decide +kernel, by decide +kernel⟩
theorem ok_Reader__atom_s (T : Top K mg w) (n : Nat) (ih : FnOk P w K mg base (L2N.CX P w) (3 * n + 27) T.f_Reader__atom T.fd_Reader__atom ["self"] (sp_rd T.C_Reader T.C_WrongLine TsAt fun run ks => rdAtom run ks n))
    (ih2 : FnOk P w K mg base (L2N.CX P w) (3 * n + 29) T.f_Reader_read_test T.fd_Reader_read_test ["self"] (sp_rd T.C_Reader T.C_WrongLine TsAt fun run ks => rdTest run ks n)) : FnOk P w K mg base (L2N.CX P w) (3 * n + 29 + 1) T.f_Reader__atom T.fd_Reader__atom ["self"] (sp_rd T.C_Reader T.C_WrongLine TsAt fun run ks => rdAtom run ks (n + 1)) := by
  refine Z.okXN T.F_Reader__atom sc_Reader__atom (fun vs H Q E h => ?_) (fun cdv A outer s H vs Q E hr h => ?_)
  · obtain ⟨r, tl, kd, run, ks, rem, rfl, _⟩ := h
    rfl
  · obtain ⟨r, tl, kd, run, ks, rem, rfl, h, q⟩ := h
    refine ⟨_, pss_cons (ps_if (pt_val (pe_meth (pv 0) T.cl_Reader T.me_Reader_skip_if (ok_Reader_skip_if T) (hr.mono (by omega)) T.B_Reader_skip_if .nil pass0 (pa_cons (pe_str) (pa_nil)))) (pss_one (ps_ret (pe_tup (pa_cons (pe_str) (pa_cons (pe_meth0 (pv 0) T.cl_Reader T.me_Reader__atom ih (hr.mono (by omega)) T.B_Reader__atom .nil (L2N.passes_call (L2N.takes_of rfl rfl rfl rfl) fun _ _ _ _ h => h)) (pa_nil)))))) (pss_nil)) (pss_cons (ps_if (pt_val (pe_meth (pv 0) T.cl_Reader T.me_Reader_skip_if (ok_Reader_skip_if T) (hr.mono (by omega)) T.B_Reader_skip_if .nil pass0 (pa_cons (pe_str) (pa_nil)))) (pss_cons (ps_set (i := 2) sc_Reader__atom.nd rfl (.inl rfl) (pe_meth0 (pv 0) T.cl_Reader T.me_Reader_read_test ih2 (hr.mono (by omega)) T.B_Reader_read_test .nil (L2N.passes_call (L2N.takes_of rfl rfl rfl rfl) fun _ _ _ _ h => h))) (pss_cons (ps_expr (pe_meth (pv 0) T.cl_Reader T.me_Reader_expect (ok_Reader_expect T) (hr.mono (by omega)) T.B_Reader_expect .nil (L2N.passes_call (L2N.takes_of rfl rfl rfl rfl) fun _ _ _ _ h => h) (pa_cons (pe_str) (pa_nil)))) (pss_one (ps_ret (pe_tup (pa_cons (pe_str) (pa_cons (pv 2) (pa_nil)))))))) (pss_nil)) (pss_cons (ps_set (i := 1) sc_Reader__atom.nd rfl (.inl rfl) (pe_meth (pv 0) T.cl_Reader T.me_Reader_kind_of (ok_Reader_kind_of T) (hr.mono (by omega)) T.B_Reader_kind_of .nil pass0 (pa_cons (pe_meth0 (pv 0) T.cl_Reader T.me_Reader_peek (ok_Reader_peek T) (hr.mono (by omega)) T.B_Reader_peek .nil pass0) (pa_nil)))) (pss_cons (ps_if (pt_cmpR op_eq (pv 1) (pe_str) (nomark _)) (pss_one (ps_ret (pe_tup (pa_cons (pe_str) (pa_cons (pe_meth0 (pv 0) T.cl_Reader T.me_Reader_take (ok_Reader_take T) (hr.mono (by omega)) T.B_Reader_take .nil (L2N.passes_call (L2N.takes_of rfl rfl rfl rfl) fun _ _ _ _ h => h)) (pa_nil)))))) (pss_nil)) (pss_cons (ps_if (pt_cmpR op_eq (pv 1) (pe_str) (nomark _)) (pss_one (ps_ret (pe_meth0 (pv 0) T.cl_Reader T.me_Reader__sum_atom (ok_Reader__sum_atom T) (hr.mono (by omega)) T.B_Reader__sum_atom .nil (L2N.passes_call (L2N.takes_of rfl rfl rfl rfl) fun _ _ _ _ h => h)))) (pss_nil)) (pss_one (ps_ret (pe_meth0 (pv 0) T.cl_Reader T.me_Reader__term_atom (ok_Reader__term_atom T) (hr.mono (by omega)) T.B_Reader__term_atom .nil (L2N.passes_call (L2N.takes_of rfl rfl rfl rfl) fun _ _ _ _ h => h)))))))), ?_⟩
    refine Z.r_start (σ' := [some (.ref r), none, none]) rfl ?_
    obtain ⟨dx, ts, k, h1, _⟩ := h.ex
    have q : PR T.C_Reader T.C_WrongLine r tl kd run ks H TsAt Q E (rdAtomOf run ks (rdAtom run ks n) (rdTest run ks n) rem) := q
    unfold rdAtomOf at q
    walk_at "go"
    refine k_skip h (by decide) (fun c => ?_) fun r1 e H1 b1 hR1 => ?_
    · rw [if_neg c] at q
      walk_at "go"
      refine k_skip h (by decide) (fun c2 => ?_) fun r1 e H1 b1 hR1 => ?_
      · rw [if_neg c2] at q
        walk_at "go"
        refine k_peek h ?_
        walk_at "go"
        refine k_kind h ?_
        walk_at "go"
        refine Z.ways (fun c3 => ?_) (fun c3 => ?_)
        · rw [if_pos c3] at q
          walk_at "go"
          refine k_take h (fun e => ?_) fun t r2 e H2 b2 hR2 => ?_
          · subst e; exact q _ (Z.But.refl _)
          subst e
          walk_at "go"
          intro p3 H3 np3 s3 hp3
          refine q _ _ (b2.trans (Z.But.same s3)) (hR2.same s3) ?_
          unfold TsAt
          exact ⟨p3, rfl, hp3⟩
        · rw [if_neg c3] at q
          walk_at "go"
          refine Z.ways (fun c4 => ?_) (fun c4 => ?_)
          · rw [if_pos c4] at q
            walk_at "go"
            exact k_rd (p := fun _ _ => rdSum) h q
          · rw [if_neg c4] at q
            walk_at "go"
            exact k_rd (p := rdTA) h q
      · subst e
        rw [if_pos (show ("(" :: r1 : List Str).head? = some ("(" : Str) from rfl)] at q
        have q : PR T.C_Reader T.C_WrongLine r tl kd run ks H TsAt Q E ((rdTest run ks n r1).bind fun t r => (expT ")" r).bind fun _ r => .ok (.br t) r) := q
        obtain ⟨dx1, ts1, k1, h11, _⟩ := hR1.ex
        walk_at "go"
        refine k_rd (p := fun run ks => rdTest run ks n) hR1 (PR.first (PR.back b1 q) fun t r2 v H2 et b2 hR2 htt _ => ?_)
        have et : rdTest run ks n r1 = .ok t r2 := et
        rw [et] at q
        have q : PR T.C_Reader T.C_WrongLine r tl kd run ks H TsAt Q E ((expT ")" r2).bind fun _ r => .ok (.br t) r) := q
        have b02 := b1.trans b2
        obtain ⟨dx2, ts2, k2, h12, _⟩ := hR2.ex
        walk_at "go"
        refine k_expect hR2 (by decide) (by decide) (fun c => (PR.exp (PR.back b02 q)).1 c) fun r3 e3 H3 b3 hR3 => ?_
        have q := (PR.exp q).2 _ e3
        have htt3 : TsAt H3 t v := TsAt.mono (tup_but b3 h12 ins_tup) htt
        walk_at "go"
        intro p4 H4 np4 s4 hp4
        refine q _ _ ((b02.trans b3).trans (Z.But.same s4)) (hR3.same s4) ?_
        unfold TsAt
        exact ⟨p4, v, rfl, hp4, TsAt.mono (fun _ _ e => s4 _ _ e) htt3⟩
    · subst e
      rw [if_pos (show ("not" :: r1 : List Str).head? = some ("not" : Str) from rfl)] at q
      have q : PR T.C_Reader T.C_WrongLine r tl kd run ks H TsAt Q E ((rdAtom run ks n r1).bind fun a r => .ok (.not_ a) r) := q
      obtain ⟨dx1, ts1, k1, h11, _⟩ := hR1.ex
      walk_at "go"
      refine k_rd (p := fun run ks => rdAtom run ks n) hR1 (PR.first (PR.back b1 q) fun t r2 v H2 et b2 hR2 htt _ => ?_)
      have et : rdAtom run ks n r1 = .ok t r2 := et
      rw [et] at q
      walk_at "go"
      intro p4 H4 np4 s4 hp4
      refine q _ _ ((b1.trans b2).trans (Z.But.same s4)) (hR2.same s4) ?_
      unfold TsAt
      exact ⟨p4, v, rfl, hp4, TsAt.mono (fun _ _ e => s4 _ _ e) htt⟩
theorem ok_Reader_all (T : Top K mg w) : ∀ n, FnOk P w K mg base (L2N.CX P w) (3 * n + 27) T.f_Reader__atom T.fd_Reader__atom ["self"] (sp_rd T.C_Reader T.C_WrongLine TsAt fun run ks => rdAtom run ks n)
  | 0 => ⟨fun _ _ _ _ ⟨_, _, _, _, _, _, _, _, h⟩ => h.elim, fun _ _ _ _ _ _ _ _ _ _ _ _ _ ⟨_, _, _, _, _, _, _, _, h⟩ => h.elim⟩
  | n + 1 => ok_Reader__atom_s T n (ok_Reader_all T n) (ok_Reader_read_test_s T n (ok_Reader__part_s T n (ok_Reader_all T n)))
theorem ok_Reader__atom (T : Top K mg w) : FnOk P w K mg base (L2N.CX P w) 57 T.f_Reader__atom T.fd_Reader__atom ["self"] (sp_rd T.C_Reader T.C_WrongLine TsAt fun run ks => rdAtom run ks 10) := ok_Reader_all T 10
theorem ok_Reader__part (T : Top K mg w) : FnOk P w K mg base (L2N.CX P w) 58 T.f_Reader__part T.fd_Reader__part ["self"] (sp_rd T.C_Reader T.C_WrongLine TsAt fun run ks => rdPart run ks 10) := ok_Reader__part_s T 10 (ok_Reader_all T 10)
theorem ok_Reader_read_test (T : Top K mg w) : FnOk P w K mg base (L2N.CX P w) 59 T.f_Reader_read_test T.fd_Reader_read_test ["self"] (sp_rd T.C_Reader T.C_WrongLine TsAt fun run ks => rdTest run ks 10) := ok_Reader_read_test_s T 10 (ok_Reader__part_s T 10 (ok_Reader_all T 10))

theorem sc_Statement___init : FnScope ["self", "action", "test"] ["self", "action", "test"] (defScope s_Statement___init) := ⟨rfl, rfl, rfl, by decide +kernel, rfl, by decide +kernel, by decide +kernel⟩
def sp_St_init (C : Addr) : Sp := fun vs H Q _ => ∃ (p dx : Addr) (x y : V), vs = [.ref p, x, y] ∧ H p = some (.ins C dx []) ∧ ∀ H', Z.But p H H' → H' p = some (.ins C dx [("action", x), ("test", y)]) → Q .non H'
theorem ok_Statement___init (T : Top K mg w) : FnOk P w K mg base CX0 1 T.f_Statement___init T.fd_Statement___init ["self", "action", "test"] (sp_St_init T.C_Statement) := by
  refine T.F_Statement___init.ok sc_Statement___init (fun vs H Q E h => ?_) (fun cdv A outer s H vs Q E hr h => ?_)
  · obtain ⟨p, dx, x, y, rfl, _⟩ := h
    rfl
  · obtain ⟨p, dx, x, y, rfl, hp, q⟩ := h
    refine ⟨_, pss_cons (ps_fld (pv 0) (pv 1) rfl) (pss_one (ps_fld (pv 0) (pv 2) rfl)), ?_⟩
    refine Z.r_start (σ' := [some (.ref p), some (x), some (y)]) rfl ?_
    walk_at "go"
    intro H1 b1 h1
    walk_at "go"
    intro H2 b2 h2
    exact q _ (b1.trans b2) h2
theorem r_mkSt {C : Addr} {x y : V} {H : Hp} {Q : VK} {E : XK} (q : ∀ p dx H1, H p = none → Same H H1 → H1 p = some (.ins C dx [("action", x), ("test", y)]) → Q (.ref p) H1) : Z.mkI C (sp_St_init C) [] [x, y] H Q E := by
  intro p dx nx nd ne
  refine ⟨p, dx, x, y, rfl, upd_same, fun H1 b1 h1 => ⟨rfl, q p dx H1 nx (fun b o e => ?_) h1⟩⟩
  exact b1 _ _ (ne_of_none e nx) (by rw [upd_ne (ne_of_none e nx), upd_ne (ne_of_none e nd)]; exact e)
theorem sc_Answer___init : FnScope ["self", "name", "flag", "place", "result"] ["self", "name", "flag", "place", "result"] (defScope s_Answer___init) := ⟨rfl, rfl, rfl, by decide +kernel, rfl, by decide +kernel, by decide +kernel⟩
def sp_An_init (C : Addr) : Sp := fun vs H Q _ => ∃ (p dx : Addr) (x y z u : V), vs = [.ref p, x, y, z, u] ∧ H p = some (.ins C dx []) ∧ ∀ H', Z.But p H H' → H' p = some (.ins C dx [("name", x), ("flag", y), ("place", z), ("result", u)]) → Q .non H'
theorem ok_Answer___init (T : Top K mg w) : FnOk P w K mg base CX0 1 T.f_Answer___init T.fd_Answer___init ["self", "name", "flag", "place", "result"] (sp_An_init T.C_Answer) := by
  refine T.F_Answer___init.ok sc_Answer___init (fun vs H Q E h => ?_) (fun cdv A outer s H vs Q E hr h => ?_)
  · obtain ⟨p, dx, x, y, z, u, rfl, _⟩ := h
    rfl
  · obtain ⟨p, dx, x, y, z, u, rfl, hp, q⟩ := h
    refine ⟨_, pss_cons (ps_fld (pv 0) (pv 1) rfl) (pss_cons (ps_fld (pv 0) (pv 2) rfl) (pss_cons (ps_fld (pv 0) (pv 3) rfl) (pss_one (ps_fld (pv 0) (pv 4) rfl)))), ?_⟩
    refine Z.r_start (σ' := [some (.ref p), some (x), some (y), some (z), some (u)]) rfl ?_
    walk_at "go"
    intro H1 b1 h1
    walk_at "go"
    intro H2 b2 h2
    walk_at "go"
    intro H3 b3 h3
    walk_at "go"
    intro H4 b4 h4
    exact q _ ((b1.trans b2).trans (b3.trans b4)) h4
theorem r_mkAn {C : Addr} {x y z u : V} {H : Hp} {Q : VK} {E : XK} (q : ∀ p dx H1, H p = none → Same H H1 → H1 p = some (.ins C dx [("name", x), ("flag", y), ("place", z), ("result", u)]) → Q (.ref p) H1) : Z.mkI C (sp_An_init C) [] [x, y, z, u] H Q E := by
  intro p dx nx nd ne
  refine ⟨p, dx, x, y, z, u, rfl, upd_same, fun H1 b1 h1 => ⟨rfl, q p dx H1 nx (fun b o e => ?_) h1⟩⟩
  exact b1 _ _ (ne_of_none e nx) (by rw [upd_ne (ne_of_none e nx), upd_ne (ne_of_none e nd)]; exact e)
theorem sc_place_action : FnScope ["name", "reader"] ["name", "reader"] (defScope s_place_action) := ⟨rfl, rfl, rfl, by decide +kernel, rfl, by decide +kernel, by decide +kernel⟩
theorem ok_place_action (T : Top K mg w) : FnOk P w K mg base (L2N.CX P w) 4 T.f_place_action T.fd_place_action ["name", "reader"] (sp_rdN T.C_Reader T.C_WrongLine ActAt rdPlace) := by
  refine Z.okXN T.F_place_action sc_place_action (fun vs H Q E h => ?_) (fun cdv A outer s H vs Q E hr h => ?_)
  · obtain ⟨n, r, tl, kd, run, ks, rem, rfl, _⟩ := h
    rfl
  · obtain ⟨n, r, tl, kd, run, ks, rem, rfl, h, q⟩ := h
    refine ⟨_, pss_cons (ps_expr (pe_meth (pv 1) T.cl_Reader T.me_Reader_expect (ok_Reader_expect T) (hr.mono (by decide)) T.B_Reader_expect .nil (L2N.passes_call (L2N.takes_of rfl rfl rfl rfl) fun _ _ _ _ h => h) (pa_cons (pe_str) (pa_nil)))) (pss_cons (ps_if ((pw_and (pt_val (pe_fld (pv 1) rfl)) (pw_and1 (pt_val (pe_meth (pv 1) T.cl_Reader T.me_Reader_skip_if (ok_Reader_skip_if T) (hr.mono (by decide)) T.B_Reader_skip_if .nil pass0 (pa_cons (pe_str) (pa_nil)))))).pt) (pss_one (ps_ret (pe_tup (pa_cons (pe_str) (pa_cons (pv 0) (pa_nil)))))) (pss_nil)) (pss_one (ps_ret (pe_tup (pa_cons (pe_str) (pa_cons (pv 0) (pa_cons (pe_meth (pv 1) T.cl_Reader T.me_Reader_read_name (ok_Reader_read_name T) (hr.mono (by decide)) T.B_Reader_read_name .nil (L2N.passes_call (L2N.takes_of rfl rfl rfl rfl) fun _ _ _ _ h => h) (pa_cons (pe_str) (pa_nil))) (pa_nil)))))))), ?_⟩
    refine Z.r_start (σ' := [some (.str n), some (.ref r)]) rfl ?_
    obtain ⟨dx, ts, k, h1, _⟩ := h.ex
    walk_at "go"
    unfold rdPlace at q
    refine k_expect h (by decide) (by decide) (fun c => (PR.exp q).1 c) fun r0 e0 H0 b0 hR0 => ?_
    have q := (PR.exp q).2 _ e0
    obtain ⟨dx0, ts0, k0, h10, _⟩ := hR0.ex
    walk_at "go"
    cases run with
    | true =>
      walk_at "go"
      refine k_skip hR0 (by decide) (fun c => ?_) fun r1 e1 H1 b1 hR1 => ?_
      · rw [if_neg fun z => c z.2] at q
        have q0 := PR.name (PR.back b0 q)
        walk_at "go"
        refine k_name hR0 (by decide) q0.1 fun t rest e c2 H2 b2 hR2 => ?_
        have q := (PR.name q).2 t rest e c2
        walk_at "go"
        intro p3 H3 np3 s3 hp3
        exact q _ _ ((b0.trans b2).trans (Z.But.same s3)) (hR2.same s3) ⟨p3, rfl, hp3⟩
      · subst e1
        rw [if_pos ⟨rfl, rfl⟩] at q
        walk_at "go"
        intro p3 H3 np3 s3 hp3
        exact q _ _ ((b0.trans b1).trans (Z.But.same s3)) (hR1.same s3) ⟨p3, rfl, hp3⟩
    | false =>
      rw [if_neg fun z => Bool.false_ne_true z.1] at q
      have q0 := PR.name (PR.back b0 q)
      walk_at "go"
      refine k_name hR0 (by decide) q0.1 fun t rest e c2 H2 b2 hR2 => ?_
      have q := (PR.name q).2 t rest e c2
      walk_at "go"
      intro p3 H3 np3 s3 hp3
      exact q _ _ ((b0.trans b2).trans (Z.But.same s3)) (hR2.same s3) ⟨p3, rfl, hp3⟩
theorem sc_sum_action : FnScope ["name", "reader"] ["name", "reader"] (defScope s_sum_action) := ⟨rfl, rfl, rfl, by decide +kernel, rfl, by decide +kernel, by decide +kernel⟩
theorem ok_sum_action (T : Top K mg w) : FnOk P w K mg base (L2N.CX P w) 25 T.f_sum_action T.fd_sum_action ["name", "reader"] (sp_rdN T.C_Reader T.C_WrongLine ActAt rdSumA) := by
  refine Z.okXN T.F_sum_action sc_sum_action (fun vs H Q E h => ?_) (fun cdv A outer s H vs Q E hr h => ?_)
  · obtain ⟨n, r, tl, kd, run, ks, rem, rfl, _⟩ := h
    rfl
  · obtain ⟨n, r, tl, kd, run, ks, rem, rfl, h, q⟩ := h
    refine ⟨_, pss_cons (ps_if (pt_val (pe_meth (pv 1) T.cl_Reader T.me_Reader_skip_if (ok_Reader_skip_if T) (hr.mono (by decide)) T.B_Reader_skip_if .nil pass0 (pa_cons (pe_str) (pa_nil)))) (pss_one (ps_ret (pe_tup (pa_cons (pe_str) (pa_cons (pv 0) (pa_cons (pe_meth0 (pv 1) T.cl_Reader T.me_Reader_read_term (ok_Reader_read_term T) (hr.mono (by decide)) T.B_Reader_read_term .nil (L2N.passes_call (L2N.takes_of rfl rfl rfl rfl) fun _ _ _ _ h => h)) (pa_nil))))))) (pss_nil)) (pss_cons (ps_expr (pe_meth (pv 1) T.cl_Reader T.me_Reader_expect (ok_Reader_expect T) (hr.mono (by decide)) T.B_Reader_expect .nil (L2N.passes_call (L2N.takes_of rfl rfl rfl rfl) fun _ _ _ _ h => h) (pa_cons (pe_str) (pa_nil)))) (pss_one (ps_ret (pe_tup (pa_cons (pe_str) (pa_cons (pv 0) (pa_cons (pe_meth0 (pv 1) T.cl_Reader T.me_Reader_read_term (ok_Reader_read_term T) (hr.mono (by decide)) T.B_Reader_read_term .nil (L2N.passes_call (L2N.takes_of rfl rfl rfl rfl) fun _ _ _ _ h => h)) (pa_nil)))))))), ?_⟩
    refine Z.r_start (σ' := [some (.str n), some (.ref r)]) rfl ?_
    obtain ⟨dx, ts, k, h1, _⟩ := h.ex
    walk_at "go"
    unfold rdSumA at q
    refine k_skip h (by decide) (fun c => ?_) fun r1 e1 H1 b1 hR1 => ?_
    · rw [if_neg c] at q
      walk_at "go"
      refine k_expect h (by decide) (by decide) (fun c => (PR.exp q).1 c) fun r0 e0 H0 b0 hR0 => ?_
      have q := (PR.exp q).2 _ e0
      obtain ⟨dx0, ts0, k0, h10, _⟩ := hR0.ex
      walk_at "go"
      refine k_term hR0 (PR.first (PR.back b0 q) fun a rest v H2 ea b2 hR2 hta _ => ?_)
      rw [ea] at q
      walk_at "go"
      intro p3 H3 np3 s3 hp3
      exact q _ _ ((b0.trans b2).trans (Z.But.same s3)) (hR2.same s3) ⟨p3, v, rfl, hp3, hta.same s3⟩
    · subst e1
      rw [if_pos (show ("+=" :: r1 : List Str).head? = some ("+=" : Str) from rfl)] at q
      have q : PR T.C_Reader T.C_WrongLine r tl kd run ks H ActAt Q E ((rdTerm run ks 20 r1).bind fun t r => .ok (.add n t) r) := q
      obtain ⟨dx1, ts1, k1, h11, _⟩ := hR1.ex
      walk_at "go"
      refine k_term hR1 (PR.first (PR.back b1 q) fun a rest v H2 ea b2 hR2 hta _ => ?_)
      rw [ea] at q
      walk_at "go"
      intro p3 H3 np3 s3 hp3
      exact q _ _ ((b1.trans b2).trans (Z.But.same s3)) (hR2.same s3) ⟨p3, v, rfl, hp3, hta.same s3⟩
theorem sc_action : FnScope ["reader", "token", "kind"] ["reader"] (defScope s_action) := ⟨rfl, rfl, rfl, by decide +kernel, rfl, by decide +kernel, by decide +kernel⟩
theorem ok_action (T : Top K mg w) : FnOk P w K mg base (L2N.CX P w) 26 T.f_action T.fd_action ["reader"] (sp_rd T.C_Reader T.C_WrongLine ActAt rdAct) := by
  refine Z.okXN T.F_action sc_action (fun vs H Q E h => ?_) (fun cdv A outer s H vs Q E hr h => ?_)
  · obtain ⟨r, tl, kd, run, ks, rem, rfl, _⟩ := h
    rfl
  · obtain ⟨r, tl, kd, run, ks, rem, rfl, h, q⟩ := h
    refine ⟨_, pss_cons (ps_set (i := 1) sc_action.nd rfl (.inl rfl) (pe_meth0 (pv 0) T.cl_Reader T.me_Reader_take (ok_Reader_take T) (hr.mono (by decide)) T.B_Reader_take .nil (L2N.passes_call (L2N.takes_of rfl rfl rfl rfl) fun _ _ _ _ h => h))) (pss_cons (ps_if (pt_cmpR op_in_seq (pv 1) (pe_tup (pa_cons (pe_str) (pa_cons (pe_str) (pa_nil)))) rfl) (pss_one (ps_ret (pe_tup (pa_cons (pv 1) (pa_nil))))) (pss_nil)) (pss_cons (ps_if (pt_cmpR op_eq (pv 1) (pe_str) (nomark _)) (pss_one (ps_ret (pe_tup (pa_cons (pe_str) (pa_cons (pe_meth (pv 0) T.cl_Reader T.me_Reader_read_name (ok_Reader_read_name T) (hr.mono (by decide)) T.B_Reader_read_name .nil (L2N.passes_call (L2N.takes_of rfl rfl rfl rfl) fun _ _ _ _ h => h) (pa_cons (pe_str) (pa_nil))) (pa_nil)))))) (pss_nil)) (pss_cons (ps_set (i := 2) sc_action.nd rfl (.inl rfl) (pe_meth (pv 0) T.cl_Reader T.me_Reader_kind_of (ok_Reader_kind_of T) (hr.mono (by decide)) T.B_Reader_kind_of .nil pass0 (pa_cons (pv 1) (pa_nil)))) (pss_cons (ps_if (pt_cmpR op_eq (pv 2) (pe_str) (nomark _)) (pss_cons (ps_expr (pe_meth (pv 0) T.cl_Reader T.me_Reader_expect (ok_Reader_expect T) (hr.mono (by decide)) T.B_Reader_expect .nil (L2N.passes_call (L2N.takes_of rfl rfl rfl rfl) fun _ _ _ _ h => h) (pa_cons (pe_str) (pa_nil)))) (pss_one (ps_ret (pe_tup (pa_cons (pe_str) (pa_cons (pv 1) (pa_cons (pe_meth0 (pv 0) T.cl_Reader T.me_Reader_read_term (ok_Reader_read_term T) (hr.mono (by decide)) T.B_Reader_read_term .nil (L2N.passes_call (L2N.takes_of rfl rfl rfl rfl) fun _ _ _ _ h => h)) (pa_nil)))))))) (pss_nil)) (pss_cons (ps_if (pt_cmpR op_eq (pv 2) (pe_str) (nomark _)) (pss_one (ps_ret (pe_call (ok_place_action T) (hr.mono (by decide)) (by rfl) T.mg_place_action T.F_place_action.kp T.B_place_action .nil (L2N.passes_call (L2N.takes_of rfl rfl rfl rfl) fun _ _ _ _ h => h) (pa_cons (pv 1) (pa_cons (pv 0) (pa_nil)))))) (pss_nil)) (pss_cons (ps_if (pt_cmpR op_eq (pv 2) (pe_str) (nomark _)) (pss_one (ps_ret (pe_call (ok_sum_action T) (hr.mono (by decide)) (by rfl) T.mg_sum_action T.F_sum_action.kp T.B_sum_action .nil (L2N.passes_call (L2N.takes_of rfl rfl rfl rfl) fun _ _ _ _ h => h) (pa_cons (pv 1) (pa_cons (pv 0) (pa_nil)))))) (pss_nil)) (pss_cons (ps_if (pt_cmpR op_eq (pv 2) (pe_str) (nomark _)) (pss_cons (ps_expr (pe_meth (pv 0) T.cl_Reader T.me_Reader_expect (ok_Reader_expect T) (hr.mono (by decide)) T.B_Reader_expect .nil (L2N.passes_call (L2N.takes_of rfl rfl rfl rfl) fun _ _ _ _ h => h) (pa_cons (pe_str) (pa_nil)))) (pss_cons (ps_expr (pe_meth (pv 0) T.cl_Reader T.me_Reader_expect (ok_Reader_expect T) (hr.mono (by decide)) T.B_Reader_expect .nil (L2N.passes_call (L2N.takes_of rfl rfl rfl rfl) fun _ _ _ _ h => h) (pa_cons (pe_str) (pa_nil)))) (pss_one (ps_ret (pe_tup (pa_cons (pe_str) (pa_cons (pv 1) (pa_nil)))))))) (pss_nil)) (pss_one (L2N.ps_raise rfl (L2N.takes_of rfl rfl rfl rfl) (Z.pmk_plainN T.xp_WrongLine T.mgC_WrongLine (by rfl) (pe_str))))))))))), ?_⟩
    refine Z.r_start (σ' := [some (.ref r), none, none]) rfl ?_
    obtain ⟨dx, ts, k, h1, _⟩ := h.ex
    walk_at "go"
    refine k_take h (fun e => ?_) fun t r1 e H1 b1 hR1 => ?_
    · subst e; exact q _ (Z.But.refl _)
    subst e
    unfold rdAct at q
    dsimp only at q
    obtain ⟨dx1, ts1, k1, h11, _⟩ := hR1.ex
    walk_at "go"
    intro p2 H2 np2 s2 hp2
    refine Z.r_inT (zs := ["skip", "leave"]) (SqT.of hp2) ?_
    have hR2 := hR1.same s2
    have b2 := b1.trans (Z.But.same s2)
    obtain ⟨dx2, ts2, k2, h12, _⟩ := hR2.ex
    walk_at "go"
    refine Z.ways (fun c => ?_) (fun c => ?_)
    · rw [if_pos c] at q
      walk_at "go"
      intro p3 H3 np3 s3 hp3
      exact q _ _ (b2.trans (Z.But.same s3)) (hR2.same s3) ⟨p3, rfl, hp3⟩
    rw [if_neg c] at q
    walk_at "go"
    refine Z.ways (fun c2 => ?_) (fun c2 => ?_)
    · rw [if_pos c2] at q
      have q0 := PR.name (PR.back b2 q)
      walk_at "go"
      refine k_name hR2 (by decide) q0.1 fun t rest e c2 H3 b3 hR3 => ?_
      have q := (PR.name q).2 t rest e c2
      walk_at "go"
      intro p4 H4 np4 s4 hp4
      exact q _ _ ((b2.trans b3).trans (Z.But.same s4)) (hR3.same s4) ⟨p4, rfl, hp4⟩
    rw [if_neg c2] at q
    walk_at "go"
    refine k_kind hR2 ?_
    walk_at "go"
    refine Z.ways (fun c3 => ?_) (fun c3 => ?_)
    · rw [if_pos c3] at q
      walk_at "go"
      refine k_expect hR2 (by decide) (by decide) (fun c => (PR.exp (PR.back b2 q)).1 c) fun r3 e3 H3 b3 hR3 => ?_
      have q := (PR.exp q).2 _ e3
      obtain ⟨dx3, ts3, k3, h13, _⟩ := hR3.ex
      walk_at "go"
      refine k_term hR3 (PR.first (PR.back (b2.trans b3) q) fun a rest v H4 ea b4 hR4 hta _ => ?_)
      rw [ea] at q
      walk_at "go"
      intro p5 H5 np5 s5 hp5
      exact q _ _ (((b2.trans b3).trans b4).trans (Z.But.same s5)) (hR4.same s5) ⟨p5, v, rfl, hp5, hta.same s5⟩
    rw [if_neg c3] at q
    walk_at "go"
    refine Z.ways (fun c4 => ?_) (fun c4 => ?_)
    · rw [if_pos c4] at q
      walk_at "go"
      exact k_rdN (p := rdPlace) hR2 (PR.back b2 q)
    rw [if_neg c4] at q
    walk_at "go"
    refine Z.ways (fun c5 => ?_) (fun c5 => ?_)
    · rw [if_pos c5] at q
      walk_at "go"
      exact k_rdN (p := rdSumA) hR2 (PR.back b2 q)
    rw [if_neg c5] at q
    walk_at "go"
    refine Z.ways (fun c6 => ?_) (fun c6 => ?_)
    · rw [if_pos c6] at q
      walk_at "go"
      refine k_expect hR2 (by decide) (by decide) (fun c => (PR.exp (PR.back b2 q)).1 c) fun r3 e3 H3 b3 hR3 => ?_
      have q := (PR.exp q).2 _ e3
      obtain ⟨dx3, ts3, k3, h13, _⟩ := hR3.ex
      walk_at "go"
      refine k_expect hR3 (by decide) (by decide) (fun c => (PR.exp (PR.back (b2.trans b3) q)).1 c) fun r4 e4 H4 b4 hR4 => ?_
      have q := (PR.exp q).2 _ e4
      walk_at "go"
      intro p5 H5 np5 s5 hp5
      exact q _ _ (((b2.trans b3).trans b4).trans (Z.But.same s5)) (hR4.same s5) ⟨p5, rfl, hp5⟩
    rw [if_neg c6] at q
    walk_at "go"
    exact q _ b2
theorem sc_statement : FnScope ["reader", "action", "test"] ["reader"] (defScope s_statement) := ⟨rfl, rfl, rfl, by decide +kernel, rfl, by decide +kernel, by decide +kernel⟩
theorem ok_statement (T : Top K mg w) : FnOk P w K mg base (L2N.CX P w) 60 T.f_statement T.fd_statement ["reader"] (sp_rd T.C_Reader T.C_WrongLine (StAt T.C_Statement) rdStm) := by
  refine Z.okXN T.F_statement sc_statement (fun vs H Q E h => ?_) (fun cdv A outer s H vs Q E hr h => ?_)
  · obtain ⟨r, tl, kd, run, ks, rem, rfl, _⟩ := h
    rfl
  · obtain ⟨r, tl, kd, run, ks, rem, rfl, h, q⟩ := h
    refine ⟨_, pss_cons (ps_set (i := 1) sc_statement.nd rfl (.inl rfl) (pe_call (ok_action T) (hr.mono (by decide)) (by rfl) T.mg_action T.F_action.kp T.B_action .nil (L2N.passes_call (L2N.takes_of rfl rfl rfl rfl) fun _ _ _ _ h => h) (pa_cons (pv 0) (pa_nil)))) (pss_cons (ps_set (i := 2) sc_statement.nd rfl (.inl rfl) (pe_ifExp (pt_val (pe_meth (pv 0) T.cl_Reader T.me_Reader_skip_if (ok_Reader_skip_if T) (hr.mono (by decide)) T.B_Reader_skip_if .nil pass0 (pa_cons (pe_str) (pa_nil)))) (pe_meth0 (pv 0) T.cl_Reader T.me_Reader_read_test (ok_Reader_read_test T) (hr.mono (by decide)) T.B_Reader_read_test .nil (L2N.passes_call (L2N.takes_of rfl rfl rfl rfl) fun _ _ _ _ h => h)) (pe_non))) (pss_cons (ps_expr (pe_meth0 (pv 0) T.cl_Reader T.me_Reader_expect_end (ok_Reader_expect_end T) (hr.mono (by decide)) T.B_Reader_expect_end .nil (L2N.passes_call (L2N.takes_of rfl rfl rfl rfl) fun _ _ _ _ h => h))) (pss_one (ps_ret (pe_make T.mk_Statement (ok_Statement___init T) (hr.mono (by decide)) (by rfl) T.mgC_Statement T.B_Statement___init .nil pass0 (pa_cons (pv 1) (pa_cons (pv 2) (pa_nil)))))))), ?_⟩
    refine Z.r_start (σ' := [some (.ref r), none, none]) rfl ?_
    walk_at "go"
    unfold rdStm at q
    refine k_rd (p := rdAct) h (PR.first q fun a rest va H1 ea b1 hR1 hta _ => ?_)
    rw [ea] at q
    have q : PR T.C_Reader T.C_WrongLine r tl kd run ks H (StAt T.C_Statement) Q E (if rest.head? = some ("if" : Str) then (rdTest run ks 10 rest.tail).bind fun t r => endT ⟨a, some t⟩ r else endT ⟨a, none⟩ rest) := q
    walk_at "toseq"
    refine Z.r_asg (Z.via (R := fun v H' => ∃ o rem', Z.But r H H' ∧ Rd T.C_Reader H' r tl kd run ks rem' ∧ ActAt H' a va ∧ TsO H' o v ∧ PR T.C_Reader T.C_WrongLine r tl kd run ks H (StAt T.C_Statement) Q E (endT ⟨a, o⟩ rem')) (fun M kk => ?_) ?_)
    · obtain ⟨dx1, ts1, k1, h11, _⟩ := hR1.ex
      walk_at "go"
      refine k_skip hR1 (by decide) (fun c => ?_) fun r2 e2 H2 b2 hR2 => ?_
      · rw [if_neg c] at q
        walk_at "go"
        exact kk _ _ ⟨none, rest, b1, hR1, hta, rfl, q⟩
      · subst e2
        rw [if_pos (show ("if" :: r2 : List Str).head? = some ("if" : Str) from rfl)] at q
        have q : PR T.C_Reader T.C_WrongLine r tl kd run ks H (StAt T.C_Statement) Q E ((rdTest run ks 10 r2).bind fun t r => endT ⟨a, some t⟩ r) := q
        obtain ⟨dx2, ts2, k2, h12, _⟩ := hR2.ex
        walk_at "go"
        refine k_rd (p := fun run ks => rdTest run ks 10) hR2 (PR.first (PR.back (b1.trans b2) q) fun t r3 vt H3 et b3 hR3 htt _ => ?_)
        have et : rdTest run ks 10 r2 = .ok t r3 := et
        rw [et] at q
        exact kk _ _ ⟨some t, r3, (b1.trans b2).trans b3, hR3, (hta.mono (tup_but b2 h11 ins_tup)).mono (tup_but b3 h12 ins_tup), htt, q⟩
    rintro vt H2 ⟨o, rem', b2, hR2, hta2, hto, q⟩
    obtain ⟨dx2, ts2, k2, h12, _⟩ := hR2.ex
    walk_at "go"
    refine k_end hR2 (fun c => ?_) fun c => ?_
    · cases rem' with
      | nil => exact absurd rfl c
      | cons _ _ => exact q _ b2
    · subst c
      walk_at "go"
      refine r_mkSt fun p dp H3 np s3 hp => ?_
      walk_at "go"
      refine q _ _ (b2.trans (Z.But.same s3)) (hR2.same s3) ⟨p, dp, va, vt, rfl, hp, hta2.mono fun _ _ e => s3 _ _ e, ?_⟩
      cases o with
      | none => exact hto
      | some t => exact TsAt.mono (fun _ _ e => s3 _ _ e) hto
theorem sc_read_statement : FnScope ["tokens", "kinds"] ["tokens", "kinds"] (defScope s_read_statement) := ⟨rfl, rfl, rfl, by decide +kernel, rfl, by decide +kernel, by decide +kernel⟩
/-- what is read of tokens -/
def sp_rdT {α : Type} (W : Addr) (At : Hp → α → V → Prop) (p : List (Str × Str) → List Str → Res α) : Sp := fun vs H Q E => ∃ (t0 k0 : Addr) (ks : List (Str × Str)) (ts : List Str), vs = [.ref t0, .ref k0] ∧ H t0 = some (.lst (ts.map V.str)) ∧ H k0 = some (.dK (kvsOf ks)) ∧
  match p ks ts with
  | .out => False
  | .bad => ∀ H', Same H H' → E (.ref W) none H'
  | .ok a _ => ∀ v H', Same H H' → At H' a v → Q v H'
theorem ok_read_statement (T : Top K mg w) : FnOk P w K mg base (L2N.CX P w) 61 T.f_read_statement T.fd_read_statement ["tokens", "kinds"] (sp_rdT T.C_WrongLine (StAt T.C_Statement) (rdStm true)) := by
  refine Z.okXN T.F_read_statement sc_read_statement (fun vs H Q E h => ?_) (fun cdv A outer s H vs Q E hr h => ?_)
  · obtain ⟨t0, k0, ks, ts, rfl, _⟩ := h
    rfl
  · obtain ⟨t0, k0, ks, ts, rfl, ht, hk, q⟩ := h
    refine ⟨_, pss_one (ps_ret (pe_call (ok_statement T) (hr.mono (by decide)) (by rfl) T.mg_statement T.F_statement.kp T.B_statement .nil (L2N.passes_call (L2N.takes_of rfl rfl rfl rfl) fun _ _ _ _ h => h) (pa_cons (pe_make T.mk_Reader (ok_Reader___init T) (hr.mono (by decide)) (by rfl) T.mgC_Reader T.B_Reader___init .nil pass0 (pa_cons (pv 0) (pa_cons (pv 1) (pa_cons (pe_bl) (pa_nil))))) (pa_nil)))), ?_⟩
    refine Z.r_start (σ' := [some (.ref t0), some (.ref k0)]) rfl ?_
    walk_at "go"
    refine r_mkRd ht hk fun r tl kd H1 nr ntl nkd s1 hR => ?_
    walk_at "go"
    refine k_rd (p := rdStm) hR ?_
    cases e : rdStm true ks ts with
    | out => rw [e] at q; exact q
    | bad =>
      rw [e] at q
      exact fun H' b => q _ (Z.But.back s1 nr b)
    | ok a rest =>
      rw [e] at q
      exact fun v H' b _ hv => q _ _ (Z.But.back s1 nr b) hv
theorem k_rdT {α : Type} {W t0 k0 : Addr} {At : Hp → α → V → Prop} {p : List (Str × Str) → List Str → Res α} {ks : List (Str × Str)} {ts : List Str} {H : Hp} {Q : VK} {E : XK} (ht : H t0 = some (.lst (ts.map V.str))) (hk : H k0 = some (.dK (kvsOf ks)))
    (q : match p ks ts with | .out => False | .bad => ∀ H', Same H H' → E (.ref W) none H' | .ok a _ => ∀ v H', Same H H' → At H' a v → Q v H') : sp_rdT W At p ([.ref t0, .ref k0] ++ []) H Q E := ⟨t0, k0, ks, ts, rfl, ht, hk, q⟩
theorem sc_result : FnScope ["reader", "kind", "name"] ["reader"] (defScope s_result) := ⟨rfl, rfl, rfl, by decide +kernel, rfl, by decide +kernel, by decide +kernel⟩
theorem kinds4_in (k : Str) : (kinds4.lookup k).isSome = decide (k ∈ kinds4L) := by
  unfold kinds4 kinds4L
  by_cases h1 : k = "flag"
  · subst h1; rfl
  by_cases h2 : k = "sum"
  · subst h2; decide +kernel
  by_cases h3 : k = "count"
  · subst h3; decide +kernel
  by_cases h4 : k = "place"
  · subst h4; decide +kernel
  rw [decide_eq_false (by simp [h1, h2, h3, h4])]
  have b1 : (k == ("flag" : Str)) = false := by simpa using h1
  have b2 : (k == ("sum" : Str)) = false := by simpa using h2
  have b3 : (k == ("count" : Str)) = false := by simpa using h3
  have b4 : (k == ("place" : Str)) = false := by simpa using h4
  simp [List.lookup, b1, b2, b3, b4]
theorem kinds4_at {k : Str} (h : k ∈ kinds4L) : kinds4.lookup k = some (.str (rkind k)) := by
  unfold kinds4L at h
  simp only [List.mem_cons, List.not_mem_nil, or_false] at h
  rcases h with rfl | rfl | rfl | rfl <;> decide +kernel
theorem ok_result (T : Top K mg w) : FnOk P w K mg base (L2N.CX P w) 25 T.f_result T.fd_result ["reader"] (sp_rd T.C_Reader T.C_WrongLine RslAt rdRes) := by
  refine Z.okXN T.F_result sc_result (fun vs H Q E h => ?_) (fun cdv A outer s H vs Q E hr h => ?_)
  · obtain ⟨r, tl, kd, run, ks, rem, rfl, _⟩ := h
    rfl
  · obtain ⟨r, tl, kd, run, ks, rem, rfl, h, q⟩ := h
    refine ⟨_, pss_cons (ps_set (i := 1) sc_result.nd rfl (.inl rfl) (pe_meth (pv 0) T.cl_Reader T.me_Reader_kind_of (ok_Reader_kind_of T) (hr.mono (by decide)) T.B_Reader_kind_of .nil pass0 (pa_cons (pe_meth0 (pv 0) T.cl_Reader T.me_Reader_peek (ok_Reader_peek T) (hr.mono (by decide)) T.B_Reader_peek .nil pass0) (pa_nil)))) (pss_cons (ps_if (pt_cmpR (Z.o_ninKD (K := K) (w := w) rfl rfl) (pv 1) (pe_glob (v := .ref T.A_RESULT_KINDS) (by rfl) T.mgK_RESULT_KINDS rfl) rfl) (pss_one (ps_ret (pe_tup (pa_cons (pe_str) (pa_cons (pe_meth0 (pv 0) T.cl_Reader T.me_Reader_read_term (ok_Reader_read_term T) (hr.mono (by decide)) T.B_Reader_read_term .nil (L2N.passes_call (L2N.takes_of rfl rfl rfl rfl) fun _ _ _ _ h => h)) (pa_nil)))))) (pss_nil)) (pss_cons (ps_set (i := 2) sc_result.nd rfl (.inl rfl) (pe_meth0 (pv 0) T.cl_Reader T.me_Reader_take (ok_Reader_take T) (hr.mono (by decide)) T.B_Reader_take .nil (L2N.passes_call (L2N.takes_of rfl rfl rfl rfl) fun _ _ _ _ h => h))) (pss_cons (ps_if ((pw_and (pt_cmpR op_eq (pv 1) (pe_str) (nomark _)) (pw_and1 (pt_val (pe_meth (pv 0) T.cl_Reader T.me_Reader_skip_if (ok_Reader_skip_if T) (hr.mono (by decide)) T.B_Reader_skip_if .nil pass0 (pa_cons (pe_str) (pa_nil)))))).pt) (pss_one (ps_ret (pe_tup (pa_cons (pe_str) (pa_cons (pv 2) (pa_cons (pe_meth (pv 0) T.cl_Reader T.me_Reader_read_name (ok_Reader_read_name T) (hr.mono (by decide)) T.B_Reader_read_name .nil (L2N.passes_call (L2N.takes_of rfl rfl rfl rfl) fun _ _ _ _ h => h) (pa_cons (pe_str) (pa_nil))) (pa_nil))))))) (pss_nil)) (pss_one (ps_ret (pe_tup (pa_cons (pe_ix (Z.ix_KD (K := K) (w := w) rfl rfl) (pe_glob (v := .ref T.A_RESULT_KINDS) (by rfl) T.mgK_RESULT_KINDS rfl) (pv 1) (fun _ _ => rfl)) (pa_cons (pv 2) (pa_nil))))))))), ?_⟩
    refine Z.r_start (σ' := [some (.ref r), none, none]) rfl ?_
    obtain ⟨dx, ts, k, h1, _⟩ := h.ex
    walk_at "go"
    refine k_peek h ?_
    walk_at "go"
    refine k_kind h ?_
    unfold rdRes at q
    walk_at "go"
    refine Z.r_inKD T.kd_RESULT_KINDS ?_
    rw [show (List.lookup (kindOf ks (rem.headD "")) [("flag", V.str "truth"), ("sum", V.str "sum"), ("count", V.str "count"), ("place", V.str "place")]).isSome = decide (kindOf ks (rem.headD "") ∈ kinds4L) from kinds4_in _]
    walk_at "go"
    refine Z.waysN (fun c => ?_) (fun c => ?_)
    · rw [if_pos c] at q
      walk_at "go"
      refine k_term h (PR.first q fun a rest v H1 ea b1 hR1 hta _ => ?_)
      rw [ea] at q
      walk_at "go"
      intro p2 H2 np2 s2 hp2
      exact q _ _ (b1.trans (Z.But.same s2)) (hR1.same s2) ⟨p2, v, rfl, hp2, hta.same s2⟩
    · rw [if_neg (fun z => z c)] at q
      walk_at "go"
      refine k_take h (fun e => ?_) fun n r1 e H1 b1 hR1 => ?_
      · subst e; exact q _ (Z.But.refl _)
      subst e
      have c : kindOf ks n ∈ kinds4L := c
      have q : PR T.C_Reader T.C_WrongLine r tl kd run ks H RslAt Q E (if kindOf ks n = "sum" ∧ r1.head? = some ("by" : Str) then (rdName ks "count" r1.tail).bind fun c r => .ok (.mean n c) r else .ok (.one (rkind (kindOf ks n)) n) r1) := q
      have hd : (n :: r1).headD ("" : Str) = n := rfl
      rw [hd]
      obtain ⟨dx1, ts1, k1, h11, _⟩ := hR1.ex
      walk_at "toseq"
      refine Z.viaR (fun σ' H' => Z.But r H H' ∧ Rd T.C_Reader H' r tl kd run ks r1 ∧ ¬ (kindOf ks n = "sum" ∧ r1.head? = some ("by" : Str)) ∧ σ' = [some (.ref r), some (.str (kindOf ks n)), some (.str n)]) (fun M kk => ?_) ?_
      · walk_at "go"
        refine Z.ways (fun c2 => ?_) (fun c2 => ?_)
        · walk_at "go"
          refine k_skip hR1 (by decide) (fun c3 => ?_) fun r2 e2 H2 b2 hR2 => ?_
          · walk_at "go"
            exact kk _ _ ⟨b1, hR1, (fun z => c3 z.2), rfl⟩
          · subst e2
            rw [if_pos ⟨c2, rfl⟩] at q
            have q : PR T.C_Reader T.C_WrongLine r tl kd run ks H RslAt Q E ((rdName ks "count" r2).bind fun c r => .ok (.mean n c) r) := q
            have q0 := PR.name (PR.back (b1.trans b2) q)
            obtain ⟨dx2, ts2, k2, h12, _⟩ := hR2.ex
            walk_at "go"
            refine k_name hR2 (by decide) q0.1 fun t rest e c3 H3 b3 hR3 => ?_
            have q := (PR.name q).2 t rest e c3
            walk_at "go"
            intro p4 H4 np4 s4 hp4
            exact q _ _ (((b1.trans b2).trans b3).trans (Z.But.same s4)) (hR3.same s4) ⟨p4, rfl, hp4⟩
        · walk_at "go"
          exact kk _ _ ⟨b1, hR1, (fun z => c2 z.1), rfl⟩
      rintro σ' H2 ⟨b2, hR2, c2, rfl⟩
      rw [if_neg c2] at q
      walk_at "go"
      refine Z.r_ixKD T.kd_RESULT_KINDS (kinds4_at c) ?_
      walk_at "go"
      intro p3 H3 np3 s3 hp3
      exact q _ _ (b2.trans (Z.But.same s3)) (hR2.same s3) ⟨p3, rfl, hp3⟩
theorem sc_read_answer : FnScope ["tokens", "kinds", "reader", "name", "flag", "place", "result"] ["tokens", "kinds"] (defScope s_read_answer) := ⟨rfl, rfl, rfl, by decide +kernel, rfl, by decide +kernel, by decide +kernel⟩
theorem ok_read_answer (T : Top K mg w) : FnOk P w K mg base (L2N.CX P w) 26 T.f_read_answer T.fd_read_answer ["tokens", "kinds"] (sp_rdT T.C_WrongLine (AnAt T.C_Answer) rdAns) := by
  refine Z.okXN T.F_read_answer sc_read_answer (fun vs H Q E h => ?_) (fun cdv A outer s H vs Q E hr h => ?_)
  · obtain ⟨t0, k0, ks, ts, rfl, _⟩ := h
    rfl
  · obtain ⟨t0, k0, ks, ts, rfl, ht, hk, q⟩ := h
    refine ⟨_, pss_cons (ps_set (i := 2) sc_read_answer.nd rfl (.inl rfl) (pe_make T.mk_Reader (ok_Reader___init T) (hr.mono (by decide)) (by rfl) T.mgC_Reader T.B_Reader___init .nil pass0 (pa_cons (pv 0) (pa_cons (pv 1) (pa_cons (pe_bl) (pa_nil)))))) (pss_cons (ps_expr (pe_meth (pv 2) T.cl_Reader T.me_Reader_expect (ok_Reader_expect T) (hr.mono (by decide)) T.B_Reader_expect .nil (L2N.passes_call (L2N.takes_of rfl rfl rfl rfl) fun _ _ _ _ h => h) (pa_cons (pe_str) (pa_nil)))) (pss_cons (ps_set (i := 3) sc_read_answer.nd rfl (.inl rfl) (pe_meth0 (pv 2) T.cl_Reader T.me_Reader_take (ok_Reader_take T) (hr.mono (by decide)) T.B_Reader_take .nil (L2N.passes_call (L2N.takes_of rfl rfl rfl rfl) fun _ _ _ _ h => h))) (pss_cons (ps_expr (pe_meth (pv 2) T.cl_Reader T.me_Reader_expect (ok_Reader_expect T) (hr.mono (by decide)) T.B_Reader_expect .nil (L2N.passes_call (L2N.takes_of rfl rfl rfl rfl) fun _ _ _ _ h => h) (pa_cons (pe_str) (pa_nil)))) (pss_cons (ps_set (i := 4) sc_read_answer.nd rfl (.inl rfl) (pe_non)) (pss_cons (ps_set (i := 5) sc_read_answer.nd rfl (.inl rfl) (pe_non)) (pss_cons (ps_if (pt_val (pe_meth (pv 2) T.cl_Reader T.me_Reader_skip_if (ok_Reader_skip_if T) (hr.mono (by decide)) T.B_Reader_skip_if .nil pass0 (pa_cons (pe_str) (pa_nil)))) (pss_cons (ps_if (pt_cmpR op_ne (pe_meth0 (pv 2) T.cl_Reader T.me_Reader_peek (ok_Reader_peek T) (hr.mono (by decide)) T.B_Reader_peek .nil pass0) (pe_str) (nomark _)) (pss_one (ps_set (i := 5) sc_read_answer.nd rfl (.inl rfl) (pe_meth (pv 2) T.cl_Reader T.me_Reader_read_name (ok_Reader_read_name T) (hr.mono (by decide)) T.B_Reader_read_name .nil (L2N.passes_call (L2N.takes_of rfl rfl rfl rfl) fun _ _ _ _ h => h) (pa_cons (pe_str) (pa_nil))))) (pss_nil)) (pss_cons (ps_expr (pe_meth (pv 2) T.cl_Reader T.me_Reader_expect (ok_Reader_expect T) (hr.mono (by decide)) T.B_Reader_expect .nil (L2N.passes_call (L2N.takes_of rfl rfl rfl rfl) fun _ _ _ _ h => h) (pa_cons (pe_str) (pa_nil)))) (pss_cons (ps_set (i := 4) sc_read_answer.nd rfl (.inl rfl) (pe_meth (pv 2) T.cl_Reader T.me_Reader_read_name (ok_Reader_read_name T) (hr.mono (by decide)) T.B_Reader_read_name .nil (L2N.passes_call (L2N.takes_of rfl rfl rfl rfl) fun _ _ _ _ h => h) (pa_cons (pe_str) (pa_nil)))) (pss_one (ps_expr (pe_meth (pv 2) T.cl_Reader T.me_Reader_expect (ok_Reader_expect T) (hr.mono (by decide)) T.B_Reader_expect .nil (L2N.passes_call (L2N.takes_of rfl rfl rfl rfl) fun _ _ _ _ h => h) (pa_cons (pe_str) (pa_nil)))))))) (pss_nil)) (pss_cons (ps_set (i := 6) sc_read_answer.nd rfl (.inl rfl) (pe_call (ok_result T) (hr.mono (by decide)) (by rfl) T.mg_result T.F_result.kp T.B_result .nil (L2N.passes_call (L2N.takes_of rfl rfl rfl rfl) fun _ _ _ _ h => h) (pa_cons (pv 2) (pa_nil)))) (pss_cons (ps_expr (pe_meth0 (pv 2) T.cl_Reader T.me_Reader_expect_end (ok_Reader_expect_end T) (hr.mono (by decide)) T.B_Reader_expect_end .nil (L2N.passes_call (L2N.takes_of rfl rfl rfl rfl) fun _ _ _ _ h => h))) (pss_one (ps_ret (pe_make T.mk_Answer (ok_Answer___init T) (hr.mono (by decide)) (by rfl) T.mgC_Answer T.B_Answer___init .nil pass0 (pa_cons (pv 3) (pa_cons (pv 4) (pa_cons (pv 5) (pa_cons (pv 6) (pa_nil)))))))))))))))), ?_⟩
    refine Z.r_start (σ' := [some (.ref t0), some (.ref k0), none, none, none, none, none]) rfl ?_
    walk_at "go"
    refine r_mkRd ht hk fun r tl kd H1 nr ntl nkd s1 hR => ?_
    have q : PR T.C_Reader T.C_WrongLine r tl kd false ks H1 (AnAt T.C_Answer) Q E (rdAns ks ts) := by
      cases e : rdAns ks ts with
      | out => rw [e] at q; exact q
      | bad =>
        rw [e] at q
        exact fun H' b => q _ (Z.But.back s1 nr b)
      | ok a rest =>
        rw [e] at q
        exact fun v H' b _ hv => q _ _ (Z.But.back s1 nr b) hv
    unfold rdAns at q
    obtain ⟨dx, _, k, h1, _⟩ := hR.ex
    walk_at "go"
    refine k_expect hR (by decide) (by decide) (fun c => (PR.exp q).1 c) fun r2 e2 H2 b2 hR2 => ?_
    have q := (PR.exp q).2 _ e2
    obtain ⟨dx2, ts2, k2, h12, _⟩ := hR2.ex
    walk_at "go"
    refine k_take hR2 (fun e => ?_) fun n r3 e H3 b3 hR3 => ?_
    · subst e; exact q _ b2
    subst e
    have q : PR T.C_Reader T.C_WrongLine r tl kd false ks H1 (AnAt T.C_Answer) Q E ((expT "=" r3).bind fun _ r => (rdTold ks r).bind fun pf r => (rdRes false ks r).bind fun x r => endT ⟨n, pf.2, pf.1, x⟩ r) := q
    have b03 := b2.trans b3
    obtain ⟨dx3, ts3, k3, h13, _⟩ := hR3.ex
    walk_at "go"
    refine k_expect hR3 (by decide) (by decide) (fun c => (PR.exp (PR.back b03 q)).1 c) fun r4 e4 H4 b4 hR4 => ?_
    have q := (PR.exp q).2 _ e4
    have b04 := b03.trans b4
    obtain ⟨dx4, ts4, k4, h14, _⟩ := hR4.ex
    walk_at "toseq"
    walk_at "toseq"
    walk_at "toseq"
    refine Z.viaR (fun σ' H' => ∃ p f rem', Z.But r H1 H' ∧ Rd T.C_Reader H' r tl kd false ks rem' ∧ PR T.C_Reader T.C_WrongLine r tl kd false ks H1 (AnAt T.C_Answer) Q E ((rdRes false ks rem').bind fun x r => endT ⟨n, f, p, x⟩ r) ∧ σ' = [some (.ref t0), some (.ref k0), some (.ref r), some (.str n), some (strO f), some (strO p), none]) (fun M kk => ?_) ?_
    · have q : PR T.C_Reader T.C_WrongLine r tl kd false ks H1 (AnAt T.C_Answer) Q E ((rdTold ks r4).bind fun pf r => (rdRes false ks r).bind fun x r => endT ⟨n, pf.2, pf.1, x⟩ r) := q
      unfold rdTold at q
      walk_at "go"
      refine k_skip hR4 (by decide) (fun c => ?_) fun r5 e5 H5 b5 hR5 => ?_
      · rw [if_neg c] at q
        walk_at "go"
        exact kk _ _ ⟨none, none, r4, b04, hR4, q, rfl⟩
      · subst e5
        rw [if_pos (show ("told" :: r5 : List Str).head? = some ("told" : Str) from rfl)] at q
        have b05 := b04.trans b5
        have q : PR T.C_Reader T.C_WrongLine r tl kd false ks H1 (AnAt T.C_Answer) Q E (((if r5.headD "" ≠ "if" then (rdName ks "place" r5).bind fun p r => .ok (some p) r else .ok none r5).bind fun p r => (expT "if" r).bind fun _ r => (rdName ks "flag" r).bind fun f r => (expT "else" r).bind fun _ r => .ok (p, some f) r).bind fun pf r => (rdRes false ks r).bind fun x r => endT ⟨n, pf.2, pf.1, x⟩ r) := q
        rw [Res.assoc] at q
        obtain ⟨dx5, ts5, k5, h15, _⟩ := hR5.ex
        walk_at "toseq"
        refine Z.viaS (fun σ' H' => ∃ p rem', Z.But r H1 H' ∧ Rd T.C_Reader H' r tl kd false ks rem' ∧ PR T.C_Reader T.C_WrongLine r tl kd false ks H1 (AnAt T.C_Answer) Q E (((expT "if" rem').bind fun _ r => (rdName ks "flag" r).bind fun f r => (expT "else" r).bind fun _ r => .ok (p, some f) r).bind fun pf r => (rdRes false ks r).bind fun x r => endT ⟨n, pf.2, pf.1, x⟩ r) ∧ σ' = [some (.ref t0), some (.ref k0), some (.ref r), some (.str n), some .non, some (strO p), none]) (fun D' kk2 => ?_) ?_
        · walk_at "go"
          refine k_peek hR5 ?_
          walk_at "go"
          refine Z.waysN (fun c => ?_) (fun c => ?_)
          · rw [if_pos c, Res.assoc] at q
            have q0 := PR.name (PR.back b05 q)
            walk_at "go"
            refine k_name hR5 (by decide) q0.1 fun t rest e c3 H6 b6 hR6 => ?_
            have q := (PR.name q).2 t rest e c3
            walk_at "go"
            exact kk2 _ _ ⟨some t, rest, b05.trans b6, hR6, q, rfl⟩
          · rw [if_neg (fun z => z c)] at q
            walk_at "go"
            exact kk2 _ _ ⟨none, r5, b05, hR5, q, rfl⟩
        rintro σ' H6 ⟨p, rem', b6, hR6, q, rfl⟩
        rw [Res.assoc] at q
        obtain ⟨dx6, ts6, k6, h16, _⟩ := hR6.ex
        walk_at "go"
        refine k_expect hR6 (by decide) (by decide) (fun c => (PR.exp (PR.back b6 q)).1 c) fun r7 e7 H7 b7 hR7 => ?_
        have q := (PR.exp q).2 _ e7
        rw [Res.assoc] at q
        have b07 := b6.trans b7
        have q0 := PR.name (PR.back b07 q)
        obtain ⟨dx7, ts7, k7, h17, _⟩ := hR7.ex
        walk_at "go"
        refine k_name hR7 (by decide) q0.1 fun t r8 e c3 H8 b8 hR8 => ?_
        have q := (PR.name q).2 t r8 e c3
        rw [Res.assoc] at q
        have b08 := b07.trans b8
        obtain ⟨dx8, ts8, k8, h18, _⟩ := hR8.ex
        walk_at "go"
        refine k_expect hR8 (by decide) (by decide) (fun c => (PR.exp (PR.back b08 q)).1 c) fun r9 e9 H9 b9 hR9 => ?_
        have q := (PR.exp q).2 _ e9
        walk_at "go"
        exact kk _ _ ⟨p, some t, r9, b08.trans b9, hR9, q, rfl⟩
    rintro σ' H5 ⟨p, f, rem', b5, hR5, q, rfl⟩
    walk_at "go"
    refine k_rd (p := rdRes) hR5 (PR.first (PR.back b5 q) fun x rest vx H6 ex b6 hR6 htx _ => ?_)
    have ex : rdRes false ks rem' = .ok x rest := ex
    rw [ex] at q
    have b06 := b5.trans b6
    obtain ⟨dx6, ts6, k6, h16, _⟩ := hR6.ex
    walk_at "go"
    refine k_end hR6 (fun c => ?_) fun c => ?_
    · cases rest with
      | nil => exact absurd rfl c
      | cons _ _ => exact q _ b06
    · subst c
      walk_at "go"
      refine r_mkAn fun pa dp H7 np s7 hp => ?_
      walk_at "go"
      exact q _ _ (b06.trans (Z.But.same s7)) (hR6.same s7) ⟨pa, dp, vx, rfl, hp, htx.mono fun _ _ e => s7 _ _ e⟩

theorem sc_are_apart : FnScope ["one", "other"] ["one", "other"] (defScope s_are_apart) := ⟨rfl, rfl, rfl, by decide +kernel, rfl, by decide +kernel, by decide +kernel⟩
def sp_apart : Sp := fun vs H Q _ => ∃ a b : Str, vs = [.str a, .str b] ∧ ∀ H', Same H H' → Q (.bl (apart a b)) H'
theorem ok_are_apart (T : Top K mg w) : FnOk P w K mg base CX0 1 T.f_are_apart T.fd_are_apart ["one", "other"] sp_apart := by
  refine T.F_are_apart.ok sc_are_apart (fun vs H Q E h => ?_) (fun cdv A outer s H vs Q E hr h => ?_)
  · obtain ⟨a, b, rfl, _⟩ := h
    rfl
  · obtain ⟨a, b, rfl, q⟩ := h
    refine ⟨_, pss_cons (ps_if ((pw_or (pt_cmpR op_eq (pv 0) (pe_str) (nomark _)) (pw_or1 (pt_cmpR op_in_seq (pv 1) (pe_tup (pa_cons (pe_str) (pa_cons (pe_str) (pa_nil)))) rfl))).pt) (pss_one (ps_ret (pe_bl))) (pss_nil)) (pss_one (ps_ret (pe_or (pe_cmpR op_ne (pv 1) (pe_str) (nomark _)) (pe_one (pe_cmpR op_notIn_seq (pv 0) (pe_tup (pa_cons (pe_str) (pa_cons (pe_str) (pa_nil)))) rfl))))), ?_⟩
    refine Z.r_start (σ' := [some (.str a), some (.str b)]) rfl ?_
    unfold apart at q
    walk_at "go"
    refine Z.ways (fun c => ?_) (fun c => ?_)
    · rw [if_pos (.inl c)] at q
      walk_at "go"
      exact q _ (Same.refl _)
    · walk_at "go"
      intro p1 H1 np1 s1 hp1
      refine Z.r_inT (zs := [")", ","]) (SqT.of hp1) ?_
      walk_at "go"
      refine Z.ways (fun c2 => ?_) (fun c2 => ?_)
      · rw [if_pos (.inr c2)] at q
        walk_at "go"
        exact q _ s1
      · rw [if_neg (fun z => z.elim c c2)] at q
        walk_at "go"
        by_cases c3 : b = "("
        · rw [decide_eq_true c3]
          rw [show decide (b ≠ "(") = false from decide_eq_false fun z => z c3, Bool.false_or] at q
          walk_at "go"
          intro p2 H2 np2 s2 hp2
          refine Z.r_ninT (zs := ["min", "max"]) (SqT.of hp2) ?_
          walk_at "go"
          have e : decide (a ∉ (["min", "max"] : List Str)) = !decide (a ∈ (["min", "max"] : List Str)) := by
            by_cases z : a ∈ (["min", "max"] : List Str)
            · rw [decide_eq_true z, decide_eq_false fun y => y z]; rfl
            · rw [decide_eq_false z, decide_eq_true z]; rfl
          rw [e] at q
          exact q _ (s1.trans s2)
        · rw [decide_eq_false c3]
          rw [show decide (b ≠ "(") = true from decide_eq_true c3, Bool.true_or] at q
          walk_at "go"
          exact q _ s1
theorem k_apart {a b : Str} {H : Hp} {Q : VK} {E : XK} (q : ∀ H', Same H H' → Q (.bl (apart a b)) H') : sp_apart ([.str a, .str b] ++ []) H Q E := ⟨a, b, rfl, q⟩
theorem sc_written : FnScope ["tokens", "pieces", "at", "token"] ["tokens"] (defScope s_written) := ⟨rfl, rfl, rfl, by decide +kernel, rfl, by decide +kernel, by decide +kernel⟩
def sp_written : Sp := fun vs H Q _ => ∃ (t0 : Addr) (ts : List Str), vs = [.ref t0] ∧ H t0 = some (.lst (ts.map V.str)) ∧ (ts.map (·.length)).sum + ts.length ≤ 40000 ∧ ∀ H', Same H H' → Q (.str (writtenS ts)) H'
theorem ok_written (T : Top K mg w) : FnOk P w K mg base CX0 2 T.f_written T.fd_written ["tokens"] sp_written := by
  refine T.F_written.ok sc_written (fun vs H Q E h => ?_) (fun cdv A outer s H vs Q E hr h => ?_)
  · obtain ⟨t0, ts, rfl, _⟩ := h
    rfl
  · obtain ⟨t0, ts, rfl, ht, lt, q⟩ := h
    refine ⟨_, pss_cons (ps_set (i := 1) sc_written.nd rfl (.inl rfl) (pe_lst (pa_nil))) (pss_cons (ps_for PassesOwn.never rfl (pi_enum (by rfl) T.z_enumerate (pa_cons (pv 0) (pa_nil))) (pg_tup rfl (pgs_cons (pg_name (i := 2) sc_written.nd rfl (.inl rfl)) (pgs_cons (pg_name (i := 3) sc_written.nd rfl (.inl rfl)) (pgs_nil)))) (pss_cons (ps_if ((pw_and (pt_cmpR op_gt (pv 2) (pe_int) (nomark _)) (pw_and1 (pt_val (pe_call (ok_are_apart T) (hr.mono (by decide)) (by rfl) T.mg_are_apart T.F_are_apart.kp T.B_are_apart .nil pass0 (pa_cons (pe_ix (Z.ix_seqG (K := K) rfl) (pv 0) (pe_op op_sub (pv 2) (pe_int)) (fun _ _ => rfl)) (pa_cons (pv 3) (pa_nil))))))).pt) (pss_one (ps_expr (pe_bm PySem.F.plainAttrs_list PySem.F.slot_list_append PySem.F.type_list_append mt_append (pv 1) (pa_cons (pe_str) (pa_nil))))) (pss_nil)) (pss_one (ps_expr (pe_bm PySem.F.plainAttrs_list PySem.F.slot_list_append PySem.F.type_list_append mt_append (pv 1) (pa_cons (pv 3) (pa_nil))))))) (pss_one (ps_ret (pe_join (pe_str) (pv 1))))), ?_⟩
    refine Z.r_start (σ' := [some (.ref t0), none, none, none]) rfl ?_
    walk_at "go"
    intro L H1 nL s1 hL
    have ht1 := s1 _ _ ht
    walk_at "go"
    refine Z.r_enum_by (SqL.of ht1) (fun k σ' H' => Same H H' ∧ H' L = some (.lst ((wrP none (ts.take k)).map V.str)) ∧ ∃ v2 v3, σ' = [some (.ref t0), some (.ref L), v2, v3]) ?_ ?_ ?_ ?_
    · exact ⟨s1, hL, _, _, rfl⟩
    · rintro k σ' H' ⟨s', _⟩
      exact SqL.of (s' _ _ ht)
    · rintro k x σ' H2 hx ⟨s2, hL2, v2, v3, rfl⟩ TT H3 nTT s3 hTT
      rw [List.getElem?_map] at hx
      cases hu : ts[k]? with
      | none => rw [hu] at hx; cases hx
      | some t =>
      rw [hu] at hx
      cases hx
      have lk := (List.getElem?_eq_some_iff.mp hu).1
      have hL3 := s3 _ _ hL2
      have s03 := s2.trans s3
      have ht3 := s03 _ _ ht
      have etk : ts.take (k + 1) = ts.take k ++ [t] := by rw [List.take_succ, hu]; rfl
      have lens : ∀ (p : Option Str) (l : List Str), (wrP p l).length ≤ 2 * l.length := by
        intro p l
        induction l generalizing p with
        | nil => cases p <;> exact Nat.le_refl _
        | cons a r ih =>
          have := ih (some a)
          cases p with
          | none => show (wrP (some a) r).length + 1 ≤ 2 * (r.length + 1); omega
          | some p =>
            show ((if apart p a = true then [(" " : Str), a] else [a]) ++ wrP (some a) r).length ≤ 2 * (r.length + 1)
            rw [List.length_append]
            split
            · show 2 + _ ≤ _; omega
            · show 1 + _ ≤ _; omega
      have lw : (wrP none (ts.take k)).length ≤ 90000 := by
        have := lens none (ts.take k)
        rw [List.length_take] at this
        omega
      have sn := wrP_snoc none (ts.take k) t
      obtain ⟨sep, esep, esn⟩ : ∃ sep : List Str, (sep = match lastO none (ts.take k) with | none => [] | some q => if apart q t = true then [(" " : Str)] else []) ∧ wrP none (ts.take k ++ [t]) = wrP none (ts.take k) ++ sep ++ [t] := by
        refine ⟨_, rfl, ?_⟩
        rw [sn]
        cases lastO none (ts.take k) with
        | none => simp
        | some q =>
          dsimp only
          split <;> simp
      walk_at "toseq"
      refine Z.viaS (fun σ' H' => Same H H' ∧ H' L = some (.lst ((wrP none (ts.take k) ++ sep).map V.str)) ∧ σ' = [some (.ref t0), some (.ref L), some (.int (k : Int)), some (.str t)]) (fun D' kk => ?_) ?_
      · walk_at "go"
        refine Z.ways (fun c => ?_) (fun c => ?_)
        · cases k with
          | zero => exact absurd c (by decide)
          | succ j =>
            have lj : j < ts.length := by omega
            have gj : ts[j]? = some (ts[j]'lj) := List.getElem?_eq_getElem lj
            rw [lastO_take gj] at esep
            dsimp only at esep
            walk_at "go"
            refine Z.r_ixL (v := .str (ts[j]'lj)) (SqL.of ht3) (by rw [show (((j + 1 : Nat) : Int) - 1) = (j : Int) by omega]; exact atI_nat (by rw [List.getElem?_map, gj]; rfl)) ?_
            walk_at "go"
            refine k_apart fun H4 s4 => ?_
            have hL4 := s4 _ _ hL3
            cases ea : apart (ts[j]'lj) t with
            | true =>
              rw [ea, if_pos rfl] at esep
              walk_at "go"
              refine Z.r_app hL4 (by rw [List.length_map]; omega) fun H5 b5 h5 => ?_
              walk_at "go"
              exact kk _ _ ⟨Z.But.back (s03.trans s4) nL b5, by rw [h5, esep, List.map_append]; rfl, rfl⟩
            | false =>
              rw [ea, if_neg Bool.false_ne_true] at esep
              walk_at "go"
              exact kk _ _ ⟨s03.trans s4, by rw [hL4, esep, List.append_nil], rfl⟩
        · have k0 : k = 0 := by omega
          subst k0
          have es : sep = [] := esep
          walk_at "go"
          exact kk _ _ ⟨s03, by rw [hL3, es, List.append_nil], rfl⟩
      rintro σ' H4 ⟨s4, hL4, rfl⟩
      have ls : sep.length ≤ 1 := by
        rw [esep]
        split
        · exact Nat.zero_le _
        · split
          · exact Nat.le_refl _
          · exact Nat.zero_le _
      walk_at "go"
      refine Z.r_app hL4 (by rw [List.length_map, List.length_append]; omega) fun H5 b5 h5 => ?_
      walk_at "go"
      exact ⟨Z.But.back s4 nL b5, by rw [h5, etk, esn]; simp only [List.map_append]; rfl, _, _, rfl⟩
    · rintro σ' H2 ⟨s2, hL2, v2, v3, rfl⟩
      rw [List.length_map, List.take_length] at hL2
      walk_at "go"
      have := wrP_len none ts
      have e0 : ("" : Str).length = 0 := by decide
      refine (Z.r_join (K := K) hL2 (by rw [e0]; omega) ?_ : Z.jnR K _ _ _ _)
      exact q _ s2
theorem k_written {t0 : Addr} {ts : List Str} {H : Hp} {Q : VK} {E : XK} (ht : H t0 = some (.lst (ts.map V.str))) (lt : (ts.map (·.length)).sum + ts.length ≤ 40000) (q : ∀ H', Same H H' → Q (.str (writtenS ts)) H') : sp_written ([.ref t0] ++ []) H Q E := ⟨t0, ts, rfl, ht, lt, q⟩
theorem sc_is_name : FnScope ["token"] ["token"] (defScope s_is_name) := ⟨rfl, rfl, rfl, by decide +kernel, rfl, by decide +kernel, by decide +kernel⟩
def sp_is_name : Sp := fun vs H Q _ => ∃ x : Str, vs = [.str x] ∧ x.length ≤ 100000 ∧ Q (.bl (isName x)) H
theorem ok_is_name (T : Top K mg w) : FnOk P w K mg base CX0 2 T.f_is_name T.fd_is_name ["token"] sp_is_name := by
  refine T.F_is_name.ok sc_is_name (fun vs H Q E h => ?_) (fun cdv A outer s H vs Q E hr h => ?_)
  · obtain ⟨x, rfl, _⟩ := h
    rfl
  · obtain ⟨x, rfl, l, q⟩ := h
    refine ⟨_, pss_one (ps_ret (pe_and (pe_call (ok_is_word T) (hr.mono (by decide)) (by rfl) T.mg_is_word T.F_is_word.kp T.B_is_word .nil pass0 (pa_cons (pv 0) (pa_nil))) (pe_one (pe_cmpR op_notIn_seq (pv 0) (pe_glob (v := .ref T.A_RESERVED) (by rfl) T.mgK_RESERVED rfl) rfl)))), ?_⟩
    refine Z.r_start (σ' := [some (.str x)]) rfl ?_
    unfold isName at q
    walk_at "go"
    refine k_is_word l ?_
    walk_at "go"
    cases c : Tx.isWordB x with
    | false =>
      rw [c] at q
      walk_at "go"
      exact q
    | true =>
      rw [c, Bool.true_and] at q
      walk_at "go"
      refine Z.r_ninT (zs := RES) (T.wt_RESERVED H) ?_
      have e : decide (x ∉ RES) = !decide (x ∈ RES) := by
        by_cases z : x ∈ RES
        · rw [decide_eq_true z, decide_eq_false fun y => y z]; rfl
        · rw [decide_eq_false z, decide_eq_true z]; rfl
      rw [e] at q
      exact q
theorem k_is_name {x : Str} {H : Hp} {Q : VK} {E : XK} (l : x.length ≤ 100000) (q : Q (.bl (isName x)) H) : sp_is_name ([.str x] ++ []) H Q E := ⟨x, rfl, l, q⟩
theorem sc_step : FnScope ["reader", "token"] ["reader"] (defScope s_step) := ⟨rfl, rfl, rfl, by decide +kernel, rfl, by decide +kernel, by decide +kernel⟩
theorem ok_step (T : Top K mg w) : FnOk P w K mg base (L2N.CX P w) 2 T.f_step T.fd_step ["reader"] (sp_rd T.C_Reader T.C_WrongLine (fun _ z v => v = .str z) fun _ _ => rdStep) := by
  refine Z.okXN T.F_step sc_step (fun vs H Q E h => ?_) (fun cdv A outer s H vs Q E hr h => ?_)
  · obtain ⟨r, tl, kd, run, ks, rem, rfl, _⟩ := h
    rfl
  · obtain ⟨r, tl, kd, run, ks, rem, rfl, h, q⟩ := h
    refine ⟨_, pss_cons (ps_set (i := 1) sc_step.nd rfl (.inl rfl) (pe_meth0 (pv 0) T.cl_Reader T.me_Reader_take (ok_Reader_take T) (hr.mono (by decide)) T.B_Reader_take .nil (L2N.passes_call (L2N.takes_of rfl rfl rfl rfl) fun _ _ _ _ h => h))) (pss_cons (ps_if (pt_cmpR op_notIn_seq (pv 1) (pe_glob (v := .ref T.A_STEPS) (by rfl) T.mgK_STEPS rfl) rfl) (pss_one (L2N.ps_raise rfl (L2N.takes_of rfl rfl rfl rfl) (Z.pmk_plainN T.xp_WrongLine T.mgC_WrongLine (by rfl) (pe_str)))) (pss_nil)) (pss_one (ps_ret (pv 1)))), ?_⟩
    refine Z.r_start (σ' := [some (.ref r), none]) rfl ?_
    obtain ⟨dx, ts, k, h1, _⟩ := h.ex
    walk_at "go"
    refine k_take h (fun e => ?_) fun t r1 e H1 b1 hR1 => ?_
    · subst e; exact q _ (Z.But.refl _)
    subst e
    walk_at "go"
    refine Z.r_ninT (zs := STP) (T.wt_STEPS H1) ?_
    walk_at "go"
    refine Z.waysN (fun c => ?_) (fun c => ?_)
    · have e : rdStep (t :: r1) = .bad := if_neg c
      have q : PR T.C_Reader T.C_WrongLine r tl kd run ks H (fun _ z v => v = .str z) Q E (rdStep (t :: r1)) := q
      rw [e] at q
      walk_at "go"
      exact q _ b1
    · have e : rdStep (t :: r1) = .ok t r1 := if_pos c
      have q : PR T.C_Reader T.C_WrongLine r tl kd run ks H (fun _ z v => v = .str z) Q E (rdStep (t :: r1)) := q
      rw [e] at q
      walk_at "go"
      exact q _ _ b1 hR1 rfl

theorem sc_Draft__enter_part : FnScope ["self", "first", "part"] ["self", "first"] (defScope s_Draft__enter_part) := ⟨rfl, rfl, rfl, by decide +kernel, rfl, by decide +kernel, by decide +kernel⟩
def sp_enter (C CS CA W : Addr) : Sp := fun vs H Q E => ∃ (a : DAd) (s : DSt) (t : Str), vs = [.ref a.d, .str t] ∧ DraftAt C CS CA H a s ∧ PD C CS CA W H a Q E (if partOf t < s.part ∨ (t = "steps" ∧ s.steps ≠ []) then .bad else .ok { s with part := partOf t } [])
theorem ok_Draft__enter_part (T : Top K mg w) : FnOk P w K mg base (L2N.CX P w) 1 T.f_Draft__enter_part T.fd_Draft__enter_part ["self", "first"] (sp_enter T.C_Draft T.C_Statement T.C_Answer T.C_WrongLine) := by
  refine Z.okXN T.F_Draft__enter_part sc_Draft__enter_part (fun vs H Q E h => ?_) (fun cdv A outer s H vs Q E hr h => ?_)
  · obtain ⟨a, s, t, rfl, _⟩ := h
    rfl
  · obtain ⟨a, st, t, rfl, D, q⟩ := h
    refine ⟨_, pss_cons (ps_set (i := 2) sc_Draft__enter_part.nd rfl (.inl rfl) (Z.pe_kget2 (pe_glob (v := .ref T.A_PARTS) (by rfl) T.mgK_PARTS rfl) (pv 1) (pe_glob (v := .int 2) (by rfl) T.mgK_STATEMENT_PART ⟨_, rfl⟩) ⟨rfl, rfl, rfl, rfl⟩)) (pss_cons (ps_if ((pw_or (pt_cmpR op_lt (pv 2) (pe_fld (pv 0) rfl) (nomark _)) (pw_or1 ((pw_and (pt_cmpR op_eq (pv 1) (pe_str) (nomark _)) (pw_and1 (pt_cmpR op_gt (pe_callB Z.c_len (by rfl) T.z_len (by decide +kernel) (pa_cons (pe_fld (pv 0) rfl) (pa_nil))) (pe_int) (nomark _)))).pt))).pt) (pss_one (L2N.ps_raise rfl (L2N.takes_of rfl rfl rfl rfl) (Z.pmk_plainN T.xp_WrongLine T.mgC_WrongLine (by rfl) (pe_str)))) (pss_nil)) (pss_one (ps_fld (pv 0) (pv 2) rfl))), ?_⟩
    refine Z.r_start (σ' := [some (.ref a.d), some (.str t), none]) rfl ?_
    obtain ⟨dx, h0⟩ := D.dx
    walk_at "go"
    refine Z.r_kgD T.kd_PARTS ?_
    walk_at "go"
    refine Z.r_kgR T.kd_PARTS ?_
    rw [show (List.lookup t [("keep", V.int 0), ("flag", V.int 0), ("sum", V.int 0), ("count", V.int 0), ("place", V.int 0), ("steps", V.int 1), ("answer", V.int 3)]).getD (V.int 2) = .int (partOf t : Int) from parts_at t]
    have hs2 := D.l2
    walk_at "toseq"
    refine Z.viaR (fun σ' H' => H = H' ∧ ¬ (partOf t < st.part ∨ (t = "steps" ∧ st.steps ≠ [])) ∧ σ' = [some (.ref a.d), some (.str t), some (.int (partOf t : Int))]) (fun M kk => ?_) ?_
    · walk_at "go"
      refine Z.ways (fun c => ?_) (fun c => ?_)
      · rw [if_pos (.inl (by omega))] at q
        walk_at "go"
        exact q _ ButS.refl
      · walk_at "go"
        refine Z.ways (fun c2 => ?_) (fun c2 => ?_)
        · walk_at "go"
          rw [List.length_map]
          refine Z.ways (fun c3 => ?_) (fun c3 => ?_)
          · rw [if_pos (.inr ⟨c2, fun z => by rw [z] at c3; exact absurd c3 (by decide)⟩)] at q
            walk_at "go"
            exact q _ ButS.refl
          · walk_at "go"
            exact kk _ _ ⟨rfl, fun z => z.elim (fun z => c (by omega)) fun z => z.2 (List.eq_nil_of_length_eq_zero (by omega)), rfl⟩
        · walk_at "go"
          exact kk _ _ ⟨rfl, fun z => z.elim (fun z => c (by omega)) fun z => c2 z.1, rfl⟩
    rintro σ' H' ⟨rfl, nb, rfl⟩
    rw [if_neg nb] at q
    walk_at "go"
    intro H1 b1 h1
    walk_at "go"
    exact q _ (ButS.but b1 (by unfold DAd.S; simp)) (D.set_d b1 h1)
theorem k_enter {C CS CA W : Addr} {a : DAd} {s : DSt} {t : Str} {H : Hp} {Q : VK} {E : XK} (D : DraftAt C CS CA H a s) (q : PD C CS CA W H a Q E (if partOf t < s.part ∨ (t = "steps" ∧ s.steps ≠ []) then .bad else .ok { s with part := partOf t } [])) : sp_enter C CS CA W ([.ref a.d, .str t] ++ []) H Q E := ⟨a, s, t, rfl, D, q⟩

theorem sc_Draft__read_register : FnScope ["self", "tokens", "reader", "kind", "name", "start"] ["self", "tokens"] (defScope s_Draft__read_register) := ⟨rfl, rfl, rfl, by decide +kernel, rfl, by decide +kernel, by decide +kernel⟩
theorem ok_Draft__read_register (T : Top K mg w) : FnOk P w K mg base (L2N.CX P w) 4 T.f_Draft__read_register T.fd_Draft__read_register ["self", "tokens"] (sp_dr T.C_Draft T.C_Statement T.C_Answer T.C_WrongLine rdReg) := by
  refine Z.okXN T.F_Draft__read_register sc_Draft__read_register (fun vs H Q E h => ?_) (fun cdv A outer s H vs Q E hr h => ?_)
  · obtain ⟨a, s, t0, ts, rfl, _⟩ := h
    rfl
  · obtain ⟨a, st, t0, ts, rfl, D, ht, lt, lk, ls, _, _, q⟩ := h
    refine ⟨_, pss_cons (ps_set (i := 2) sc_Draft__read_register.nd rfl (.inl rfl) (pe_make T.mk_Reader (ok_Reader___init T) (hr.mono (by decide)) (by rfl) T.mgC_Reader T.B_Reader___init .nil pass0 (pa_cons (pv 1) (pa_cons (pe_dnewK) (pa_cons (pe_bl) (pa_nil)))))) (pss_cons (ps_set (i := 3) sc_Draft__read_register.nd rfl (.inl rfl) (pe_meth0 (pv 2) T.cl_Reader T.me_Reader_take (ok_Reader_take T) (hr.mono (by decide)) T.B_Reader_take .nil (L2N.passes_call (L2N.takes_of rfl rfl rfl rfl) fun _ _ _ _ h => h))) (pss_cons (ps_set (i := 4) sc_Draft__read_register.nd rfl (.inl rfl) (pe_meth0 (pv 2) T.cl_Reader T.me_Reader_take (ok_Reader_take T) (hr.mono (by decide)) T.B_Reader_take .nil (L2N.passes_call (L2N.takes_of rfl rfl rfl rfl) fun _ _ _ _ h => h))) (pss_cons (ps_if ((pw_or (pt_not (pt_val (pe_call (ok_is_name T) (hr.mono (by decide)) (by rfl) T.mg_is_name T.F_is_name.kp T.B_is_name .nil pass0 (pa_cons (pv 4) (pa_nil))))) (pw_or1 (pt_cmp (pc_din (hu_of hr) (pv 4) (pe_fld (pv 0) rfl))))).pt) (pss_one (L2N.ps_raise rfl (L2N.takes_of rfl rfl rfl rfl) (Z.pmk_plainN T.xp_WrongLine T.mgC_WrongLine (by rfl) (pe_str)))) (pss_nil)) (pss_cons (ps_set (i := 5) sc_Draft__read_register.nd rfl (.inl rfl) (pe_non)) (pss_cons (ps_if ((pw_and (pt_cmpR op_eq (pv 3) (pe_str) (nomark _)) (pw_and1 (pt_val (pe_meth (pv 2) T.cl_Reader T.me_Reader_skip_if (ok_Reader_skip_if T) (hr.mono (by decide)) T.B_Reader_skip_if .nil pass0 (pa_cons (pe_str) (pa_nil)))))).pt) (pss_cons (ps_expr (pe_meth (pv 2) T.cl_Reader T.me_Reader_expect (ok_Reader_expect T) (hr.mono (by decide)) T.B_Reader_expect .nil (L2N.passes_call (L2N.takes_of rfl rfl rfl rfl) fun _ _ _ _ h => h) (pa_cons (pe_str) (pa_nil)))) (pss_one (ps_set (i := 5) sc_Draft__read_register.nd rfl (.inl rfl) (pe_int)))) (pss_nil)) (pss_cons (ps_expr (pe_meth0 (pv 2) T.cl_Reader T.me_Reader_expect_end (ok_Reader_expect_end T) (hr.mono (by decide)) T.B_Reader_expect_end .nil (L2N.passes_call (L2N.takes_of rfl rfl rfl rfl) fun _ _ _ _ h => h))) (pss_cons (ps_dput (hu_of hr) (pe_fld (pv 0) rfl) (pv 4) (pv 3) rfl) (pss_one (ps_if (pt_cmpR op_eq (pv 3) (pe_str) (nomark _)) (pss_one (ps_expr (pe_bm PySem.F.plainAttrs_list PySem.F.slot_list_append PySem.F.type_list_append mt_append (pe_fld (pv 0) rfl) (pa_cons (pv 5) (pa_nil))))) (pss_nil)))))))))), ?_⟩
    refine Z.r_start (σ' := [some (.ref a.d), some (.ref t0), none, none, none, none]) rfl ?_
    obtain ⟨dxd, hd0⟩ := D.dx
    walk_at "go"
    intro k0 H1 nk0 s1 hk0
    walk_at "go"
    refine r_mkRd (ks := []) (s1 _ _ ht) hk0 fun r tl kd H2 nr ntl nkd s2 hR => ?_
    have s02 := s1.trans s2
    have nr0 : H r = none := by
      cases z : H r with
      | none => rfl
      | some o => rw [s1 _ _ z] at nr; cases nr
    have fr : ∀ {H'}, Z.But r H2 H' → ButS a.S H H' := fun b => (ButS.same s02).fresh nr0 b
    have hDr : ∀ {H'}, Z.But r H2 H' → DraftAt T.C_Draft T.C_Statement T.C_Answer H' a st := fun b => D.same (Z.But.back s02 nr0 b)
    obtain ⟨dx2, _, k2, h12, _⟩ := hR.ex
    walk_at "go"
    refine k_take hR (fun e => ?_) fun kind r3 e H3 b3 hR3 => ?_
    · subst e; exact q _ (fr (Z.But.refl _))
    subst e
    obtain ⟨dx3, ts3, k3, h13, _⟩ := hR3.ex
    walk_at "go"
    refine k_take hR3 (fun e => ?_) fun name r4 e H4 b4 hR4 => ?_
    · subst e; exact q _ (fr b3)
    subst e
    have b04 := b3.trans b4
    have q : PD T.C_Draft T.C_Statement T.C_Answer T.C_WrongLine H a Q E (if isName name = true ∧ name ∉ st.kinds.map (·.1) then
      (if kind = "keep" ∧ r4.head? = some ("=" : Str) then (expT "0" r4.tail).bind fun _ r => .ok true r else .ok false r4).bind fun x r =>
        endT { st with kinds := st.kinds ++ [(name, kind)], starts := if kind = "keep" then st.starts ++ [x] else st.starts } r
      else .bad) := q
    have D4 := hDr b04
    obtain ⟨dxd4, hd4⟩ := D4.dx
    have hk4 := D4.k
    walk_at "toseq"
    refine Z.viaR (fun σ' H' => H4 = H' ∧ (isName name = true ∧ name ∉ st.kinds.map (·.1)) ∧ σ' = [some (.ref a.d), some (.ref t0), some (.ref r), some (.str kind), some (.str name), none]) (fun M kk => ?_) ?_
    · walk_at "go"
      refine k_is_name (lt _ (by simp)) ?_
      walk_at "go"
      cases cn : isName name with
      | false =>
        rw [cn, if_neg (fun z => Bool.false_ne_true z.1)] at q
        walk_at "go"
        exact q _ (fr b04)
      | true =>
        rw [cn] at kk
        walk_at "go"
        refine Z.r_dinV hk4 ?_
        rw [kvs_in]
        walk_at "go"
        refine Z.ways (fun c => ?_) (fun c => ?_)
        · rw [if_neg (fun z => z.2 c)] at q
          walk_at "go"
          exact q _ (fr b04)
        · walk_at "go"
          exact kk _ _ ⟨rfl, ⟨rfl, c⟩, rfl⟩
    rintro σ' H' ⟨rfl, cn, rfl⟩
    rw [if_pos cn] at q
    obtain ⟨dx4, ts4, k4, h14, _⟩ := hR4.ex
    walk_at "toseq"
    walk_at "toseq"
    refine Z.viaR (fun σ' H' => ∃ x rem', Z.But r H2 H' ∧ Rd T.C_Reader H' r tl kd false [] rem' ∧ PD T.C_Draft T.C_Statement T.C_Answer T.C_WrongLine H a Q E (endT { st with kinds := st.kinds ++ [(name, kind)], starts := if kind = "keep" then st.starts ++ [x] else st.starts } rem') ∧ σ' = [some (.ref a.d), some (.ref t0), some (.ref r), some (.str kind), some (.str name), some (startV x)]) (fun M kk => ?_) ?_
    · walk_at "go"
      refine Z.ways (fun c => ?_) (fun c => ?_)
      · walk_at "go"
        refine k_skip hR4 (by decide) (fun c2 => ?_) fun r5 e5 H5 b5 hR5 => ?_
        · rw [if_neg (fun z => c2 z.2)] at q
          walk_at "go"
          exact kk _ _ ⟨false, r4, b04, hR4, q, rfl⟩
        · subst e5
          rw [if_pos ⟨c, rfl⟩, Res.assoc] at q
          have q : PD T.C_Draft T.C_Statement T.C_Answer T.C_WrongLine H a Q E ((expT "0" r5).bind fun _ r => endT { st with kinds := st.kinds ++ [(name, kind)], starts := if kind = "keep" then st.starts ++ [true] else st.starts } r) := q
          obtain ⟨dx5, ts5, k5, h15, _⟩ := hR5.ex
          walk_at "go"
          refine k_expect hR5 (by decide) (by decide) (fun c3 => ?_) fun r6 e6 H6 b6 hR6 => ?_
          · rw [expT_bad c3] at q
            exact q _ (fr (b04.trans b5))
          · subst e6
            rw [expT_ok] at q
            walk_at "go"
            exact kk _ _ ⟨true, r6, (b04.trans b5).trans b6, hR6, q, rfl⟩
      · rw [if_neg (fun z => c z.1)] at q
        walk_at "go"
        exact kk _ _ ⟨false, r4, b04, hR4, q, rfl⟩
    rintro σ' H5 ⟨x, rem', b5, hR5, q, rfl⟩
    obtain ⟨dx5, ts5, k5, h15, _⟩ := hR5.ex
    walk_at "go"
    refine k_end hR5 (fun c => ?_) fun c => ?_
    · cases rem' with
      | nil => exact absurd rfl c
      | cons _ _ => exact q _ (fr b5)
    subst c
    have D5 := hDr b5
    obtain ⟨dxd5, hd5⟩ := D5.dx
    walk_at "go"
    refine Z.r_dpL D5.k (by unfold kvsOf; rw [List.length_map]; omega) fun H6 b6 h6 => ?_
    rw [kvs_put cn.2] at h6
    have D6 := D5.set_kd b6 h6
    have f6 := (fr b5).trans (ButS.but b6 (by unfold DAd.S; simp))
    obtain ⟨dxd6, hd6⟩ := D6.dx
    have hs6 := D6.l1
    have q : ∀ H', ButS a.S H H' → DraftAt T.C_Draft T.C_Statement T.C_Answer H' a { st with kinds := st.kinds ++ [(name, kind)], starts := if kind = "keep" then st.starts ++ [x] else st.starts } → Q .non H' := q
    walk_at "go"
    refine Z.ways (fun c => ?_) (fun c => ?_)
    · rw [if_pos c] at q
      walk_at "go"
      refine Z.r_app hs6 (by rw [List.length_map]; exact ls) fun H7 b7 h7 => ?_
      walk_at "go"
      have h7 : H7 a.s1 = some (.lst ((st.starts ++ [x]).map startV)) := by rw [h7, List.map_append]; rfl
      exact q _ (f6.trans (ButS.but b7 (by unfold DAd.S; simp))) (D6.set_s1 b7 h7)
    · rw [if_neg c] at q
      walk_at "go"
      exact q _ f6 D6

theorem sc_Draft__read_steps : FnScope ["self", "tokens", "reader"] ["self", "tokens"] (defScope s_Draft__read_steps) := ⟨rfl, rfl, rfl, by decide +kernel, rfl, by decide +kernel, by decide +kernel⟩
theorem ok_Draft__read_steps (T : Top K mg w) : FnOk P w K mg base (L2N.CX P w) 4 T.f_Draft__read_steps T.fd_Draft__read_steps ["self", "tokens"] (sp_dr T.C_Draft T.C_Statement T.C_Answer T.C_WrongLine rdStepsL) := by
  refine Z.okXN T.F_Draft__read_steps sc_Draft__read_steps (fun vs H Q E h => ?_) (fun cdv A outer s H vs Q E hr h => ?_)
  · obtain ⟨a, s, t0, ts, rfl, _⟩ := h
    rfl
  · obtain ⟨a, st, t0, ts, rfl, D, ht, lt, lk, ls, lst, _, q⟩ := h
    refine ⟨_, pss_cons (ps_set (i := 2) sc_Draft__read_steps.nd rfl (.inl rfl) (pe_make T.mk_Reader (ok_Reader___init T) (hr.mono (by decide)) (by rfl) T.mgC_Reader T.B_Reader___init .nil pass0 (pa_cons (pv 1) (pa_cons (pe_dnewK) (pa_cons (pe_bl) (pa_nil)))))) (pss_cons (ps_expr (pe_meth (pv 2) T.cl_Reader T.me_Reader_expect (ok_Reader_expect T) (hr.mono (by decide)) T.B_Reader_expect .nil (L2N.passes_call (L2N.takes_of rfl rfl rfl rfl) fun _ _ _ _ h => h) (pa_cons (pe_str) (pa_nil)))) (pss_cons (ps_expr (pe_bm PySem.F.plainAttrs_list PySem.F.slot_list_append PySem.F.type_list_append mt_append (pe_fld (pv 0) rfl) (pa_cons (pe_call (ok_step T) (hr.mono (by decide)) (by rfl) T.mg_step T.F_step.kp T.B_step .nil (L2N.passes_call (L2N.takes_of rfl rfl rfl rfl) fun _ _ _ _ h => h) (pa_cons (pv 2) (pa_nil))) (pa_nil)))) (pss_cons (ps_while (passes_of rfl) (pt_val (pe_meth (pv 2) T.cl_Reader T.me_Reader_skip_if (ok_Reader_skip_if T) (hr.mono (by decide)) T.B_Reader_skip_if .nil pass0 (pa_cons (pe_str) (pa_nil)))) (pss_one (ps_expr (pe_bm PySem.F.plainAttrs_list PySem.F.slot_list_append PySem.F.type_list_append mt_append (pe_fld (pv 0) rfl) (pa_cons (pe_call (ok_step T) (hr.mono (by decide)) (by rfl) T.mg_step T.F_step.kp T.B_step .nil (L2N.passes_call (L2N.takes_of rfl rfl rfl rfl) fun _ _ _ _ h => h) (pa_cons (pv 2) (pa_nil))) (pa_nil)))))) (pss_one (ps_expr (pe_meth0 (pv 2) T.cl_Reader T.me_Reader_expect_end (ok_Reader_expect_end T) (hr.mono (by decide)) T.B_Reader_expect_end .nil (L2N.passes_call (L2N.takes_of rfl rfl rfl rfl) fun _ _ _ _ h => h))))))), ?_⟩
    refine Z.r_start (σ' := [some (.ref a.d), some (.ref t0), none]) rfl ?_
    obtain ⟨dxd, hd0⟩ := D.dx
    walk_at "go"
    intro k0 H1 nk0 s1 hk0
    walk_at "go"
    refine r_mkRd (ks := []) (s1 _ _ ht) hk0 fun r tl kd H2 nr ntl nkd s2 hR => ?_
    have s02 := s1.trans s2
    have up : ∀ {x}, H1 x = none → H x = none := fun {x} n => by
      cases z : H x with
      | none => rfl
      | some o => rw [s1 _ _ z] at n; cases n
    have nr0 := up nr
    have D2 := D.same s02
    unfold rdStepsL at q
    obtain ⟨dx2, _, k2, h12, _⟩ := hR.ex
    walk_at "go"
    refine k_expect hR (by decide) (by decide) (fun c => ?_) fun r3 e3 H3 b3 hR3 => ?_
    · rw [expT_bad c] at q
      exact q _ (ButS.same s02)
    subst e3
    rw [expT_ok] at q
    have q : PD T.C_Draft T.C_Statement T.C_Answer T.C_WrongLine H a Q E ((rdStep r3).bind fun g r => (sepBy rdStep "," 1000 r).bind fun l r => endT { st with steps := st.steps ++ g :: l } r) := q
    have f3 : ButS a.S H H3 := (ButS.same s02).fresh nr0 b3
    have D3 : DraftAt T.C_Draft T.C_Statement T.C_Answer H3 a st := D.same (Z.But.back s02 nr0 b3)
    obtain ⟨dxd3, hd3⟩ := D3.dx
    have hl3 := D3.l2
    have rS : ∀ x ∈ a.S, r ≠ x ∧ tl ≠ x ∧ kd ≠ x := fun x hx => by
      obtain ⟨o, ho, _⟩ := D.plain x hx
      exact ⟨(fun e => by rw [← e, nr0] at ho; cases ho), (fun e => by rw [← e, up ntl] at ho; cases ho), (fun e => by rw [← e, up nkd] at ho; cases ho)⟩
    have m2 : a.s2 ∈ a.S := by unfold DAd.S; simp
    obtain ⟨rs1, rs2, rs3⟩ := rS _ m2
    walk_at "go"
    refine k_rd (p := fun _ _ => rdStep) hR3 ?_
    cases eg : rdStep r3 with
    | out => rw [eg] at q; exact q
    | bad =>
      rw [eg] at q
      exact fun H' b => q _ (f3.fresh nr0 b)
    | ok g r4 =>
    rw [eg] at q
    have q : PD T.C_Draft T.C_Statement T.C_Answer T.C_WrongLine H a Q E ((sepBy rdStep "," 1000 r4).bind fun l r => endT { st with steps := st.steps ++ g :: l } r) := q
    rintro v H4 b4 hR4 rfl
    have f4 : ButS a.S H H4 := f3.fresh nr0 b4
    have D4 : DraftAt T.C_Draft T.C_Statement T.C_Answer H4 a st := D.same (Z.But.back s02 nr0 (b3.trans b4))
    walk_at "go"
    refine Z.r_app D4.l2 (by rw [List.length_map]; omega) fun H5 b5 h5 => ?_
    have h5 : H5 a.s2 = some (.lst ((st.steps ++ [g]).map V.str)) := by rw [h5, List.map_append]; rfl
    have D5 := D4.set_s2 b5 h5
    have f5 := f4.trans (ButS.but b5 m2)
    have hR5 := hR4.but b5 rs1 rs2 rs3
    walk_at "toseq"
    refine Z.viaR (fun σ' H' => ∃ l rem', ButS a.S H H' ∧ Rd T.C_Reader H' r tl kd false [] rem' ∧ DraftAt T.C_Draft T.C_Statement T.C_Answer H' a { st with steps := st.steps ++ g :: l } ∧ PD T.C_Draft T.C_Statement T.C_Answer T.C_WrongLine H a Q E (endT { st with steps := st.steps ++ g :: l } rem') ∧ σ' = [some (.ref a.d), some (.ref t0), some (.ref r)]) (fun M kk => ?_) ?_
    · refine Z.r_while ⟨fun m σ' H' => ∃ acc rem', acc.length + m = 1000 ∧ ButS a.S H H' ∧ Rd T.C_Reader H' r tl kd false [] rem' ∧ DraftAt T.C_Draft T.C_Statement T.C_Answer H' a { st with steps := st.steps ++ g :: acc } ∧ PD T.C_Draft T.C_Statement T.C_Answer T.C_WrongLine H a Q E ((sepBy rdStep "," m rem').bind fun l r => endT { st with steps := st.steps ++ g :: (acc ++ l) } r) ∧ σ' = [some (.ref a.d), some (.ref t0), some (.ref r)], ⟨1000, [], r4, rfl, f5, hR5, D5, q, rfl⟩, ?_⟩
      rintro m σ' H6 ⟨acc, rem', lm, f6, hR6, D6, q, rfl⟩
      obtain ⟨dx6, ts6, k6, h16, _⟩ := hR6.ex
      walk_at "go"
      refine k_skip hR6 (by decide) (fun c => ?_) fun r7 c H7 b7 hR7 => ?_
      · have e : sepBy rdStep "," m rem' = .ok [] rem' := by
          cases m <;> exact if_neg c
        rw [e] at q
        have q : PD T.C_Draft T.C_Statement T.C_Answer T.C_WrongLine H a Q E (endT { st with steps := st.steps ++ g :: (acc ++ []) } rem') := q
        rw [List.append_nil] at q
        walk_at "go"
        exact kk _ _ ⟨acc, rem', f6, hR6, D6, q, rfl⟩
      · subst c
        cases m with
        | zero =>
          have e : sepBy rdStep "," 0 ("," :: r7) = .out := if_pos rfl
          rw [e] at q
          exact q.elim
        | succ m =>
        have e : sepBy rdStep "," (m + 1) ("," :: r7) = (rdStep r7).bind fun a r => (sepBy rdStep "," m r).bind fun l r => .ok (a :: l) r := if_pos rfl
        rw [e, Res.assoc] at q
        have f7 : ButS a.S H H7 := f6.fresh nr0 b7
        have nrd : ∀ x ∈ a.S, x ≠ r := fun x hx => (rS x hx).1.symm
        have D7 : DraftAt T.C_Draft T.C_Statement T.C_Answer H7 a { st with steps := st.steps ++ g :: acc } := D6.butR hR6 b7
        obtain ⟨dxd7, hd7⟩ := D7.dx
        obtain ⟨dx7, ts7, k7, h17, _⟩ := hR7.ex
        have hl7 := D7.l2
        walk_at "go"
        refine Z.r_wN ?_
        walk_at "go"
        refine k_rd (p := fun _ _ => rdStep) hR7 ?_
        cases eg : rdStep r7 with
        | out => rw [eg] at q; exact q
        | bad =>
          rw [eg] at q
          exact fun H' b => q _ (f7.fresh nr0 b)
        | ok g2 r8 =>
        rw [eg] at q
        have q : PD T.C_Draft T.C_Statement T.C_Answer T.C_WrongLine H a Q E (((sepBy rdStep "," m r8).bind fun l r => .ok (g2 :: l) r).bind fun l r => endT { st with steps := st.steps ++ g :: (acc ++ l) } r) := q
        rw [Res.assoc] at q
        rintro v H8 b8 hR8 rfl
        have f8 : ButS a.S H H8 := f7.fresh nr0 b8
        have D8 : DraftAt T.C_Draft T.C_Statement T.C_Answer H8 a { st with steps := st.steps ++ g :: acc } := D7.butR hR7 b8
        walk_at "go"
        refine Z.r_app D8.l2 (by rw [List.length_map, List.length_append, List.length_cons]; omega) fun H9 b9 h9 => ?_
        have h9 : H9 a.s2 = some (.lst ((st.steps ++ g :: (acc ++ [g2])).map V.str)) := by
          rw [h9]; simp only [List.map_append, List.map_cons, List.append_assoc, List.cons_append, List.map_nil]
        have D9 := D8.set_s2 b9 h9
        walk_at "go"
        refine ⟨m, by omega, acc ++ [g2], r8, by rw [List.length_append]; show _ + 1 + _ = _; omega, f8.trans (ButS.but b9 m2), hR8.but b9 rs1 rs2 rs3, D9, ?_, rfl⟩
        simp only [List.append_assoc, List.singleton_append]
        exact q
    rintro σ' H6 ⟨l, rem', f6, hR6, D6, q, rfl⟩
    obtain ⟨dx6, ts6, k6, h16, _⟩ := hR6.ex
    walk_at "go"
    refine k_end hR6 (fun c => ?_) fun c => ?_
    · cases rem' with
      | nil => exact absurd rfl c
      | cons _ _ => exact q _ f6
    subst c
    walk_at "go"
    exact q _ f6 D6

theorem sc_Draft__read_answer : FnScope ["self", "tokens", "answer", "known"] ["self", "tokens"] (defScope s_Draft__read_answer) := ⟨rfl, rfl, rfl, by decide +kernel, rfl, by decide +kernel, by decide +kernel⟩
theorem ok_Draft__read_answer (T : Top K mg w) : FnOk P w K mg base (L2N.CX P w) 27 T.f_Draft__read_answer T.fd_Draft__read_answer ["self", "tokens"] (sp_dr T.C_Draft T.C_Statement T.C_Answer T.C_WrongLine rdAnsL) := by
  refine Z.okXN T.F_Draft__read_answer sc_Draft__read_answer (fun vs H Q E h => ?_) (fun cdv A outer s H vs Q E hr h => ?_)
  · obtain ⟨a, s, t0, ts, rfl, _⟩ := h
    rfl
  · obtain ⟨a, st, t0, ts, rfl, D, ht, lt, lk, ls, lst, la, q⟩ := h
    refine ⟨_, pss_cons (ps_set (i := 2) sc_Draft__read_answer.nd rfl (.inl rfl) (pe_call (ok_read_answer T) (hr.mono (by decide)) (by rfl) T.mg_read_answer T.F_read_answer.kp T.B_read_answer .nil (L2N.passes_call (L2N.takes_of rfl rfl rfl rfl) fun _ _ _ _ h => h) (pa_cons (pv 1) (pa_cons (pe_fld (pv 0) rfl) (pa_nil))))) (pss_cons (ps_if ((pw_or (pt_not (pt_val (pe_call (ok_is_name T) (hr.mono (by decide)) (by rfl) T.mg_is_name T.F_is_name.kp T.B_is_name .nil pass0 (pa_cons (pe_fld (pv 2) rfl) (pa_nil))))) (pw_or1 (pt_cmpR op_in_seq (pe_fld (pv 2) rfl) (pe_lc (own := [("known", 3)]) (g := gName 3) (tt := tYes) rfl sc_Draft__read_answer.nd (pi_list (pe_fld (pv 0) rfl)) (blkOk_by (own := [("known", 3)]) (N := ["self", "tokens", "answer", "known"]) (sc := defScope s_Draft__read_answer) (by decide +kernel)) (fun _ _ _ _ _ => pg_name (i := 3) sc_Draft__read_answer.nd rfl (.inl rfl)) (fun _ _ _ _ _ => pts_nil) (fun _ _ _ _ _ => Z.pe_fldQ (K := K) rfl (pv 3))) rfl))).pt) (pss_one (L2N.ps_raise rfl (L2N.takes_of rfl rfl rfl rfl) (Z.pmk_plainN T.xp_WrongLine T.mgC_WrongLine (by rfl) (pe_str)))) (pss_nil)) (pss_one (ps_expr (pe_bm PySem.F.plainAttrs_list PySem.F.slot_list_append PySem.F.type_list_append mt_append (pe_fld (pv 0) rfl) (pa_cons (pv 2) (pa_nil)))))), ?_⟩
    refine Z.r_start (σ' := [some (.ref a.d), some (.ref t0), none, none]) rfl ?_
    obtain ⟨dxd, hd0⟩ := D.dx
    unfold rdAnsL at q
    walk_at "go"
    refine k_rdT (p := rdAns) ht D.k ?_
    cases ea : rdAns st.kinds ts with
    | out => rw [ea] at q; exact q
    | bad =>
      rw [ea] at q
      exact fun H' s' => q _ (ButS.same s')
    | ok x rest =>
    rw [ea] at q
    have q : PD T.C_Draft T.C_Statement T.C_Answer T.C_WrongLine H a Q E (if isName x.name = true ∧ x.name ∉ st.answers.map (·.name) then .ok { st with answers := st.answers ++ [x] } [] else .bad) := q
    rintro v H1 s1 hx
    have hx0 := hx
    obtain ⟨p, dx, vr, rfl, hp, hrs⟩ := hx
    have ln := lt _ (rdAns_name ea)
    have D1 := D.same s1
    obtain ⟨dxd1, hd1⟩ := D1.dx
    obtain ⟨v4, h4, p4⟩ := D1.l4
    have l4 := paired_len p4
    walk_at "toseq"
    refine Z.viaR (fun σ' H' => ∃ v3, Same H1 H' ∧ (isName x.name = true ∧ x.name ∉ st.answers.map (·.name)) ∧ σ' = [some (.ref a.d), some (.ref t0), some (.ref p), v3]) (fun M kk => ?_) ?_
    · walk_at "go"
      refine k_is_name ln ?_
      cases cn : isName x.name with
      | false =>
        rw [cn, if_neg (fun z => Bool.false_ne_true z.1)] at q
        walk_at "go"
        exact q _ (ButS.same s1)
      | true =>
        rw [cn] at kk q
        walk_at "go"
        refine Z.r_lcL (SqL.of h4) (fun _ => rfl) (fun L i H' => Same H1 H' ∧ H' L = some (.lst (((st.answers.take i).map (·.name)).map V.str))) ?_ ?_ ?_ ?_
        · intro L H2 nL s2 h2
          exact ⟨s2, h2⟩
        · rintro L i H2 nL ⟨s2, _⟩
          exact SqL.of (s2 _ _ h4)
        · rintro L i y H2 nL hy ⟨s2, hL⟩
          have li : i < st.answers.length := by rw [← l4]; exact (List.getElem?_eq_some_iff.mp hy).1
          have gi : st.answers[i]? = some (st.answers[i]'li) := List.getElem?_eq_getElem li
          obtain ⟨p', dx', vr', rfl, hp', _⟩ := AnAt.same s2 (paired_get p4 gi hy)
          walk_at "go"
          refine Z.r_ap hL (by rw [List.length_map, List.length_map, List.length_take]; omega) fun H3 b3 h3 => ⟨Z.But.back s2 nL b3, ?_⟩
          rw [h3, List.take_succ, gi]
          simp only [List.map_append]; rfl
        · rintro L H2 nL ⟨s2, hL⟩
          rw [l4, List.take_length] at hL
          walk_at "go"
          refine Z.r_inL (SqL.of hL) ?_
          walk_at "go"
          refine Z.ways (fun c => ?_) (fun c => ?_)
          · rw [if_neg (fun z => z.2 c)] at q
            walk_at "go"
            exact q _ (ButS.same (s1.trans s2))
          · walk_at "go"
            exact kk _ _ ⟨_, s2, ⟨rfl, c⟩, rfl⟩
    rintro σ' H2 ⟨v3, s2, cn, rfl⟩
    rw [if_pos cn] at q
    have q : ∀ H', ButS a.S H H' → DraftAt T.C_Draft T.C_Statement T.C_Answer H' a { st with answers := st.answers ++ [x] } → Q .non H' := q
    have D2 := D1.same s2
    obtain ⟨dxd2, hd2⟩ := D2.dx
    have h42 := s2 _ _ h4
    have m4 : a.s4 ∈ a.S := by unfold DAd.S; simp
    walk_at "go"
    refine Z.r_app h42 (by omega) fun H3 b3 h3 => ?_
    walk_at "go"
    have f3 : ButS a.S H2 H3 := ButS.but b3 m4
    exact q _ ((ButS.same (s1.trans s2)).trans f3) (D2.set_s4 b3 h42 (AnAt.keep (D2.keepT f3) (D2.keepI f3) (AnAt.same s2 hx0)) h3)

theorem sc_Draft_read_line : FnScope ["self", "line", "tokens"] ["self", "line"] (defScope s_Draft_read_line) := ⟨rfl, rfl, rfl, by decide +kernel, rfl, by decide +kernel, by decide +kernel⟩
structure DSmall (s : DSt) : Prop where
  k : s.kinds.length ≤ 90000
  b : s.starts.length ≤ 90000
  t : s.steps.length ≤ 40000
  a : s.answers.length ≤ 90000
  m : s.stms.length ≤ 90000
  l : s.lines.length ≤ 90000
  u : s.slines.length ≤ 90000
def sp_line (C CS CA W : Addr) : Sp := fun vs H Q E => ∃ (a : DAd) (s : DSt) (x : Str), vs = [.ref a.d, .str x] ∧ DraftAt C CS CA H a s ∧ x.length ≤ 20000 ∧ DSmall s ∧ PD C CS CA W H a Q E (rdLine s x)
theorem rdBody_small {s s2 : DSt} {t : Str} {ts : List Str} {r : List Str} (h : rdBody s t ts = .ok s2 r) : s2.lines = s.lines := by
  unfold rdBody at h
  split at h
  · unfold rdReg at h
    split at h
    · split at h
      · obtain ⟨_, r1, _, h⟩ := Res.bind_ok h
        rw [endT_ok h]
      · cases h
    · cases h
  · split at h
    · unfold rdStepsL at h
      obtain ⟨_, r1, _, h⟩ := Res.bind_ok h
      obtain ⟨_, r2, _, h⟩ := Res.bind_ok h
      obtain ⟨_, r3, _, h⟩ := Res.bind_ok h
      rw [endT_ok h]
    · split at h
      · unfold rdAnsL at h
        obtain ⟨_, r1, _, h⟩ := Res.bind_ok h
        split at h
        · cases h; rfl
        · cases h
      · obtain ⟨_, r1, _, h⟩ := Res.bind_ok h
        cases h; rfl
theorem ok_Draft_read_line (T : Top K mg w) : FnOk P w K mg base (L2N.CX P w) 62 T.f_Draft_read_line T.fd_Draft_read_line ["self", "line"] (sp_line T.C_Draft T.C_Statement T.C_Answer T.C_WrongLine) := by
  refine Z.okXN T.F_Draft_read_line sc_Draft_read_line (fun vs H Q E h => ?_) (fun cdv A outer s H vs Q E hr h => ?_)
  · obtain ⟨a, s, x, rfl, _⟩ := h
    rfl
  · obtain ⟨a, st, x, rfl, D, lx, sm, q⟩ := h
    refine ⟨_, pss_cons (ps_set (i := 2) sc_Draft_read_line.nd rfl (.inl rfl) (pe_call (ok_tokens_of T) (hr.mono (by decide)) (by rfl) T.mg_tokens_of T.F_tokens_of.kp (Classical.choose_spec T.BD_tokens_of).2 (Classical.choose_spec T.BD_tokens_of).1 (L2N.passes_call (L2N.takes_of rfl rfl rfl rfl) fun _ _ _ _ h => h) (pa_cons (pv 1) (pa_nil)))) (pss_cons (ps_if (pt_cmpR op_eq (pe_callB Z.c_len (by rfl) T.z_len (by decide +kernel) (pa_cons (pv 2) (pa_nil))) (pe_int) (nomark _)) (pss_one (L2N.ps_raise rfl (L2N.takes_of rfl rfl rfl rfl) (Z.pmk_plainN T.xp_WrongLine T.mgC_WrongLine (by rfl) (pe_str)))) (pss_nil)) (pss_cons (ps_expr (pe_meth (pv 0) T.cl_Draft T.me_Draft__enter_part (ok_Draft__enter_part T) (hr.mono (by decide)) T.B_Draft__enter_part .nil (L2N.passes_call (L2N.takes_of rfl rfl rfl rfl) fun _ _ _ _ h => h) (pa_cons (pe_ix (Z.ix_seqG (K := K) rfl) (pv 2) (pe_int) (fun _ _ => rfl)) (pa_nil)))) (pss_cons (ps_if (pt_cmpR op_in_seq (pe_ix (Z.ix_seqG (K := K) rfl) (pv 2) (pe_int) (fun _ _ => rfl)) (pe_glob (v := .ref T.A_KINDS) (by rfl) T.mgK_KINDS rfl) rfl) (pss_one (ps_expr (pe_meth (pv 0) T.cl_Draft T.me_Draft__read_register (ok_Draft__read_register T) (hr.mono (by decide)) T.B_Draft__read_register .nil (L2N.passes_call (L2N.takes_of rfl rfl rfl rfl) fun _ _ _ _ h => h) (pa_cons (pv 2) (pa_nil))))) (pss_one (ps_if (pt_cmpR op_eq (pe_ix (Z.ix_seqG (K := K) rfl) (pv 2) (pe_int) (fun _ _ => rfl)) (pe_str) (nomark _)) (pss_one (ps_expr (pe_meth (pv 0) T.cl_Draft T.me_Draft__read_steps (ok_Draft__read_steps T) (hr.mono (by decide)) T.B_Draft__read_steps .nil (L2N.passes_call (L2N.takes_of rfl rfl rfl rfl) fun _ _ _ _ h => h) (pa_cons (pv 2) (pa_nil))))) (pss_one (ps_if (pt_cmpR op_eq (pe_ix (Z.ix_seqG (K := K) rfl) (pv 2) (pe_int) (fun _ _ => rfl)) (pe_str) (nomark _)) (pss_one (ps_expr (pe_meth (pv 0) T.cl_Draft T.me_Draft__read_answer (ok_Draft__read_answer T) (hr.mono (by decide)) T.B_Draft__read_answer .nil (L2N.passes_call (L2N.takes_of rfl rfl rfl rfl) fun _ _ _ _ h => h) (pa_cons (pv 2) (pa_nil))))) (pss_cons (ps_expr (pe_bm PySem.F.plainAttrs_list PySem.F.slot_list_append PySem.F.type_list_append mt_append (pe_fld (pv 0) rfl) (pa_cons (pe_call (ok_read_statement T) (hr.mono (by decide)) (by rfl) T.mg_read_statement T.F_read_statement.kp T.B_read_statement .nil (L2N.passes_call (L2N.takes_of rfl rfl rfl rfl) fun _ _ _ _ h => h) (pa_cons (pv 2) (pa_cons (pe_fld (pv 0) rfl) (pa_nil)))) (pa_nil)))) (pss_one (ps_expr (pe_bm PySem.F.plainAttrs_list PySem.F.slot_list_append PySem.F.type_list_append mt_append (pe_fld (pv 0) rfl) (pa_cons (pe_call (ok_written T) (hr.mono (by decide)) (by rfl) T.mg_written T.F_written.kp T.B_written .nil pass0 (pa_cons (pv 2) (pa_nil))) (pa_nil))))))))))) (pss_one (ps_expr (pe_bm PySem.F.plainAttrs_list PySem.F.slot_list_append PySem.F.type_list_append mt_append (pe_fld (pv 0) rfl) (pa_cons (pe_call (ok_written T) (hr.mono (by decide)) (by rfl) T.mg_written T.F_written.kp T.B_written .nil pass0 (pa_cons (pv 2) (pa_nil))) (pa_nil)))))))), ?_⟩
    refine Z.r_start (σ' := [some (.ref a.d), some (.str x), none]) rfl ?_
    unfold rdLine at q
    walk_at "go"
    refine k_tokens_of (x := x) (ls := LET) (Nat.le_trans lx (by decide)) (fun e H' s' => ?_) fun tsN e t0 H1 n1 s1 ht => ?_
    · have e2 : toksS x = none := by unfold toksS; rw [e]; rfl
      rw [e2] at q
      exact q _ (ButS.same s')
    obtain ⟨ts, ets⟩ : ∃ ts, ts = tsN.map Tk.mk := ⟨_, rfl⟩
    have e2 : toksS x = some ts := by unfold toksS; rw [e, ets]; rfl
    have ht : H1 t0 = some (.lst (ts.map V.str)) := by rw [ht, ets, List.map_map]; rfl
    have lens := toksS_len e2
    rw [e2] at q
    have D1 := D.same s1
    walk_at "go"
    rw [List.length_map]
    cases ts with
    | nil =>
      walk_at "go"
      exact q _ (ButS.same s1)
    | cons t r =>
    have q : PD T.C_Draft T.C_Statement T.C_Answer T.C_WrongLine H a Q E (if partOf t < st.part ∨ (t = "steps" ∧ st.steps ≠ []) then .bad else
      (rdBody { st with part := partOf t } t (t :: r)).bind fun s _ => .ok { s with lines := s.lines ++ [writtenS (t :: r)] } []) := q
    have lt : ∀ u ∈ t :: r, u.length ≤ 100000 := fun u hu => by have := mem_sum hu; omega
    have lsum : ((t :: r).map (·.length)).sum + (t :: r).length ≤ 40000 := by omega
    obtain ⟨dx1, hd1⟩ := D1.dx
    refine Z.no (by
      rw [decide_eq_false]
      rw [List.length_cons]; omega) ?_
    have ix0 : atI ((t :: r).map V.str) ((0 : Nat) : Int) = some (.str t) := atI_nat rfl
    walk_at "go"
    refine k_enter D1 ?_
    by_cases cb : partOf t < st.part ∨ (t = "steps" ∧ st.steps ≠ [])
    · rw [if_pos cb] at q ⊢
      exact fun H' b => q _ ((ButS.same s1).trans b)
    rw [if_neg cb] at q ⊢
    intro H2 b2 D2
    have f2 : ButS a.S H H2 := (ButS.same s1).trans b2
    have nt : t0 ∉ a.S := fun m => by
      obtain ⟨o, ho, _⟩ := D.plain _ m
      rw [n1] at ho; cases ho
    have ht2 := b2 _ _ nt ht
    obtain ⟨dx2, hd2⟩ := D2.dx
    walk_at "toseq"
    refine Z.viaR (fun σ' H' => ∃ s2, ButS a.S H H' ∧ H' t0 = some (.lst ((t :: r).map V.str)) ∧ DraftAt T.C_Draft T.C_Statement T.C_Answer H' a s2 ∧ s2.lines = st.lines ∧ PD T.C_Draft T.C_Statement T.C_Answer T.C_WrongLine H a Q E (.ok { s2 with lines := s2.lines ++ [writtenS (t :: r)] } []) ∧ σ' = [some (.ref a.d), some (.str x), some (.ref t0)]) (fun M kk => ?_) ?_
    · have sub : ∀ {Q2 : VK} (f : DSt → List Str → Res DSt), rdBody { st with part := partOf t } t (t :: r) = f { st with part := partOf t } (t :: r) → (∀ H' s2, ButS a.S H2 H' → DraftAt T.C_Draft T.C_Statement T.C_Answer H' a s2 → s2.lines = st.lines → PD T.C_Draft T.C_Statement T.C_Answer T.C_WrongLine H a Q E (.ok { s2 with lines := s2.lines ++ [writtenS (t :: r)] } []) → Q2 .non H') → PD T.C_Draft T.C_Statement T.C_Answer T.C_WrongLine H2 a Q2 E (f { st with part := partOf t } (t :: r)) := by
        intro Q2 f ef k2
        rw [← ef]
        cases eb : rdBody { st with part := partOf t } t (t :: r) with
        | out => rw [eb] at q; exact q
        | bad =>
          rw [eb] at q
          exact fun H' b => q _ (f2.trans b)
        | ok s2 rest =>
          rw [eb] at q
          exact fun H' b D' => k2 H' s2 b D' (rdBody_small (s := { st with part := partOf t }) eb) q
      walk_at "go"
      refine Z.r_inT (zs := KND) (T.wt_KINDS _) ?_
      walk_at "go"
      refine Z.ways (fun c1 => ?_) (fun c1 => ?_)
      · walk_at "go"
        refine k_dr (f := rdReg) D2 ht2 lt (Nat.le_trans sm.k (by decide)) (Nat.le_trans sm.b (by decide)) (Nat.le_trans sm.t (by decide)) (Nat.le_trans sm.a (by decide)) (sub rdReg (if_pos c1) fun H' s2 b D' el q2 => ?_)
        walk_at "go"
        exact kk _ _ ⟨s2, f2.trans b, b _ _ nt ht2, D', el, q2, rfl⟩
      · walk_at "go"
        refine Z.ways (fun c2 => ?_) (fun c2 => ?_)
        · walk_at "go"
          refine k_dr (f := rdStepsL) D2 ht2 lt (Nat.le_trans sm.k (by decide)) (Nat.le_trans sm.b (by decide)) (Nat.le_trans sm.t (by decide)) (Nat.le_trans sm.a (by decide)) (sub rdStepsL (by unfold rdBody; rw [if_neg c1, if_pos c2]) fun H' s2 b D' el q2 => ?_)
          walk_at "go"
          exact kk _ _ ⟨s2, f2.trans b, b _ _ nt ht2, D', el, q2, rfl⟩
        · walk_at "go"
          refine Z.ways (fun c3 => ?_) (fun c3 => ?_)
          · walk_at "go"
            refine k_dr (f := rdAnsL) D2 ht2 lt (Nat.le_trans sm.k (by decide)) (Nat.le_trans sm.b (by decide)) (Nat.le_trans sm.t (by decide)) (Nat.le_trans sm.a (by decide)) (sub rdAnsL (by unfold rdBody; rw [if_neg c1, if_neg c2, if_pos c3]) fun H' s2 b D' el q2 => ?_)
            walk_at "go"
            exact kk _ _ ⟨s2, f2.trans b, b _ _ nt ht2, D', el, q2, rfl⟩
          · have eb : rdBody { st with part := partOf t } t (t :: r) = (rdStm true st.kinds (t :: r)).bind fun x _ => .ok { ({ st with part := partOf t } : DSt) with stms := st.stms ++ [x], slines := st.slines ++ [writtenS (t :: r)] } [] := by
              unfold rdBody; rw [if_neg c1, if_neg c2, if_neg c3]
            rw [eb] at q
            obtain ⟨v3, h3, p3⟩ := D2.l3
            have l3 := paired_len p3
            have m3 : a.s3 ∈ a.S := by unfold DAd.S; simp
            have m6 : a.s6 ∈ a.S := by unfold DAd.S; simp
            walk_at "go"
            refine k_rdT (p := rdStm true) ht2 D2.k ?_
            cases es : rdStm true st.kinds (t :: r) with
            | out => rw [es] at q; exact q
            | bad =>
              rw [es] at q
              exact fun H' s' => q _ (f2.trans (ButS.same s'))
            | ok y rest =>
            rw [es] at q
            intro v H3 s3 hy
            have h33 := s3 _ _ h3
            have D3 := D2.same s3
            have lm := sm.m
            walk_at "go"
            refine Z.r_app h33 (by rw [l3]; show st.stms.length ≤ _; omega) fun H4 b4 h4 => ?_
            have f34 : ButS a.S H3 H4 := ButS.but b4 m3
            have D4 := D3.set_s3 b4 h33 (StAt.keep (D3.keepT f34) (D3.keepI f34) hy) h4
            obtain ⟨dx4, hd4⟩ := D4.dx
            have ht4 := f34 _ _ nt (s3 _ _ ht2)
            have h64 := D4.l6
            have lu := sm.u
            walk_at "go"
            refine k_written ht4 lsum fun H5 s5 => ?_
            have D5 := D4.same s5
            walk_at "go"
            refine Z.r_app D5.l6 (by rw [List.length_map]; show st.slines.length ≤ _; omega) fun H6 b6 h6 => ?_
            have h6 : H6 a.s6 = some (.lst ((st.slines ++ [writtenS (t :: r)]).map V.str)) := by rw [h6, List.map_append]; rfl
            have D6 := D5.set_s6 b6 h6
            walk_at "go"
            exact kk _ _ ⟨_, ((f2.trans (ButS.same s3)).trans f34).trans ((ButS.same s5).trans (ButS.but b6 m6)), (ButS.but (S := a.S) b6 m6) _ _ nt (s5 _ _ ht4), D6, rfl, q, rfl⟩
    rintro σ' H3 ⟨s2, f3, ht3, D3, el, q, rfl⟩
    have q : ∀ H', ButS a.S H H' → DraftAt T.C_Draft T.C_Statement T.C_Answer H' a { s2 with lines := s2.lines ++ [writtenS (t :: r)] } → Q .non H' := q
    obtain ⟨dx3, hd3⟩ := D3.dx
    have ll := sm.l
    have h53 := D3.l5
    walk_at "go"
    refine k_written ht3 lsum fun H4 s4 => ?_
    have D4 := D3.same s4
    walk_at "go"
    refine Z.r_app D4.l5 (by rw [List.length_map, el]; omega) fun H5 b5 h5 => ?_
    have h5 : H5 a.s5 = some (.lst ((s2.lines ++ [writtenS (t :: r)]).map V.str)) := by rw [h5, List.map_append]; rfl
    walk_at "go"
    exact q _ ((f3.trans (ButS.same s4)).trans (ButS.but b5 (by unfold DAd.S; simp))) (D4.set_s5 b5 h5)
theorem k_line {C CS CA W : Addr} {a : DAd} {s : DSt} {x : Str} {H : Hp} {Q : VK} {E : XK} (D : DraftAt C CS CA H a s) (lx : x.length ≤ 20000) (sm : DSmall s) (q : PD C CS CA W H a Q E (rdLine s x)) : sp_line C CS CA W ([.ref a.d, .str x] ++ []) H Q E := ⟨a, s, x, rfl, D, lx, sm, q⟩

theorem sc_Draft___init : FnScope ["self"] ["self"] (defScope s_Draft___init) := ⟨rfl, rfl, rfl, by decide +kernel, rfl, by decide +kernel, by decide +kernel⟩
def sp_Dr_init (C CS CA : Addr) : Sp := fun vs H Q _ => ∃ (d dx : Addr), vs = [.ref d] ∧ H d = some (.ins C dx []) ∧ ∀ a H', a.d = d → (∀ x ∈ a.S, x ≠ d → H x = none) → Z.But d H H' → DraftAt C CS CA H' a DSt0 → Q .non H'
theorem ok_Draft___init (T : Top K mg w) : FnOk P w K mg base CX0 1 T.f_Draft___init T.fd_Draft___init ["self"] (sp_Dr_init T.C_Draft T.C_Statement T.C_Answer) := by
  refine T.F_Draft___init.ok sc_Draft___init (fun vs H Q E h => ?_) (fun cdv A outer s H vs Q E hr h => ?_)
  · obtain ⟨d, dx, rfl, _⟩ := h
    rfl
  · obtain ⟨d, dx, rfl, hd, q⟩ := h
    refine ⟨_, pss_cons (ps_fld (pv 0) (pe_int) rfl) (pss_cons (ps_fld (pv 0) (pe_dnewK) rfl) (pss_cons (ps_fld (pv 0) (pe_lst (pa_nil)) rfl) (pss_cons (ps_fld (pv 0) (pe_lst (pa_nil)) rfl) (pss_cons (ps_fld (pv 0) (pe_lst (pa_nil)) rfl) (pss_cons (ps_fld (pv 0) (pe_lst (pa_nil)) rfl) (pss_cons (ps_fld (pv 0) (pe_lst (pa_nil)) rfl) (pss_one (ps_fld (pv 0) (pe_lst (pa_nil)) rfl)))))))), ?_⟩
    refine Z.r_start (σ' := [some (.ref d)]) rfl ?_
    walk_at "go"
    intro H1 b1 h1
    walk_at "go"
    intro kd H2 n2 s2 e2
    have h1' := s2 _ _ h1
    walk_at "go"
    intro H3 b3 h3
    have u1 : H kd = none := by
      cases z : H kd with
      | none => rfl
      | some o =>
        by_cases c : kd = d
        · rw [c, h1] at n2; cases n2
        · rw [b1 _ _ c z] at n2; cases n2
    have d1 : kd ≠ d := (ne_of_none hd u1).symm
    have e3 := b3 _ _ d1 e2
    have c3 : Z.But d H H3 := b1.trans ((Z.But.same s2).trans b3)
    have step : ∀ {Hx H4 Hy : Hp} {p : Addr}, Z.But d H Hx → Hx p = none → (∃ o, Hx d = some o) → Same Hx H4 → Z.But d H4 Hy → H p = none ∧ p ≠ d ∧ Z.But d H Hy := by
      rintro Hx H4 Hy p bx np ⟨o, ho⟩ s4 by_
      have nd : p ≠ d := fun e => by rw [e, ho] at np; cases np
      refine ⟨?_, nd, bx.trans ((Z.But.same s4).trans by_)⟩
      cases z : H p with
      | none => rfl
      | some o =>
        rw [bx _ _ nd z] at np
        cases np
    walk_at "go"
    intro p1 H4 n4 s4 e4
    have h3' := s4 _ _ h3
    walk_at "go"
    intro H5 b5 h5
    obtain ⟨u2, d2, c5⟩ := step c3 n4 ⟨_, h3⟩ s4 b5
    walk_at "go"
    intro p2 H6 n6 s6 e6
    have h5' := s6 _ _ h5
    walk_at "go"
    intro H7 b7 h7
    obtain ⟨u3, d3, c7⟩ := step c5 n6 ⟨_, h5⟩ s6 b7
    walk_at "go"
    intro p3 H8 n8 s8 e8
    have h7' := s8 _ _ h7
    walk_at "go"
    intro H9 b9 h9
    obtain ⟨u4, d4, c9⟩ := step c7 n8 ⟨_, h7⟩ s8 b9
    walk_at "go"
    intro p4 H10 n10 s10 e10
    have h9' := s10 _ _ h9
    walk_at "go"
    intro H11 b11 h11
    obtain ⟨u5, d5, c11⟩ := step c9 n10 ⟨_, h9⟩ s10 b11
    walk_at "go"
    intro p5 H12 n12 s12 e12
    have h11' := s12 _ _ h11
    walk_at "go"
    intro H13 b13 h13
    obtain ⟨u6, d6, c13⟩ := step c11 n12 ⟨_, h11⟩ s12 b13
    walk_at "go"
    intro p6 H14 n14 s14 e14
    have h13' := s14 _ _ h13
    walk_at "go"
    intro H15 b15 h15
    obtain ⟨u7, d7, c15⟩ := step c13 n14 ⟨_, h13⟩ s14 b15
    have kA : ∀ {p o}, p ≠ d → H3 p = some o → H5 p = some o := fun n e => b5 _ _ n (s4 _ _ e)
    have kB : ∀ {p o}, p ≠ d → H5 p = some o → H7 p = some o := fun n e => b7 _ _ n (s6 _ _ e)
    have kC : ∀ {p o}, p ≠ d → H7 p = some o → H9 p = some o := fun n e => b9 _ _ n (s8 _ _ e)
    have kD : ∀ {p o}, p ≠ d → H9 p = some o → H11 p = some o := fun n e => b11 _ _ n (s10 _ _ e)
    have kE : ∀ {p o}, p ≠ d → H11 p = some o → H13 p = some o := fun n e => b13 _ _ n (s12 _ _ e)
    have kF : ∀ {p o}, p ≠ d → H13 p = some o → H15 p = some o := fun n e => b15 _ _ n (s14 _ _ e)
    have f0 := kA d1 e3
    have g1 := b5 _ _ d2 e4
    have f1 := kB d1 f0
    have g2 := kB d2 g1
    have i1 := b7 _ _ d3 e6
    have f2 := kC d1 f1
    have g3 := kC d2 g2
    have i2 := kC d3 i1
    have j1 := b9 _ _ d4 e8
    have f3 := kD d1 f2
    have g4 := kD d2 g3
    have i3 := kD d3 i2
    have j2 := kD d4 j1
    have k1 := b11 _ _ d5 e10
    have f4 := kE d1 f3
    have g5 := kE d2 g4
    have i4 := kE d3 i3
    have j3 := kE d4 j2
    have k2 := kE d5 k1
    have l1 := b13 _ _ d6 e12
    refine q ⟨d, kd, p1, p2, p3, p4, p5, p6⟩ H15 rfl (fun x hx nx => ?_) c15 ⟨⟨dx, h15⟩, kF d1 f4, kF d2 g5, kF d3 i4, ⟨[], kF d4 j3, .nil⟩, ⟨[], kF d5 k2, .nil⟩, kF d6 l1, b15 _ _ d7 e14, ?_⟩
    · unfold DAd.S at hx
      simp only [List.mem_cons, List.not_mem_nil, or_false] at hx
      rcases hx with rfl | rfl | rfl | rfl | rfl | rfl | rfl | rfl
      · exact absurd rfl nx
      · exact u1
      · exact u2
      · exact u3
      · exact u4
      · exact u5
      · exact u6
      · exact u7
    · have w1 : kd ≠ p1 := ne_of_none e3 n4
      have w2 : kd ≠ p2 ∧ p1 ≠ p2 := ⟨ne_of_none f0 n6, ne_of_none g1 n6⟩
      have w3 : kd ≠ p3 ∧ p1 ≠ p3 ∧ p2 ≠ p3 := ⟨ne_of_none f1 n8, ne_of_none g2 n8, ne_of_none i1 n8⟩
      have w4 : kd ≠ p4 ∧ p1 ≠ p4 ∧ p2 ≠ p4 ∧ p3 ≠ p4 := ⟨ne_of_none f2 n10, ne_of_none g3 n10, ne_of_none i2 n10, ne_of_none j1 n10⟩
      have w5 : kd ≠ p5 ∧ p1 ≠ p5 ∧ p2 ≠ p5 ∧ p3 ≠ p5 ∧ p4 ≠ p5 := ⟨ne_of_none f3 n12, ne_of_none g4 n12, ne_of_none i3 n12, ne_of_none j2 n12, ne_of_none k1 n12⟩
      have w6 : kd ≠ p6 ∧ p1 ≠ p6 ∧ p2 ≠ p6 ∧ p3 ≠ p6 ∧ p4 ≠ p6 ∧ p5 ≠ p6 := ⟨ne_of_none f4 n14, ne_of_none g5 n14, ne_of_none i4 n14, ne_of_none j3 n14, ne_of_none k2 n14, ne_of_none l1 n14⟩
      unfold DAd.S
      simp only [List.nodup_cons, List.mem_cons, List.not_mem_nil, or_false, not_or, List.nodup_nil, and_true, not_false_eq_true]
      exact ⟨⟨d1.symm, d2.symm, d3.symm, d4.symm, d5.symm, d6.symm, d7.symm⟩, ⟨w1, w2.1, w3.1, w4.1, w5.1, w6.1⟩, ⟨w2.2, w3.2.1, w4.2.1, w5.2.1, w6.2.1⟩, ⟨w3.2.2, w4.2.2.1, w5.2.2.1, w6.2.2.1⟩, ⟨w4.2.2.2, w5.2.2.2.1, w6.2.2.2.1⟩, ⟨w5.2.2.2.2, w6.2.2.2.2.1⟩, w6.2.2.2.2.2⟩
theorem r_mkDr {C CS CA : Addr} {H : Hp} {Q : VK} {E : XK} (q : ∀ a H1, (∀ x ∈ a.S, H x = none) → Same H H1 → DraftAt C CS CA H1 a DSt0 → Q (.ref a.d) H1) : Z.mkI C (sp_Dr_init C CS CA) [] [] H Q E := by
  intro p dx nx nd ne
  have sm : Same H (L2.upd (L2.upd H dx (.own p)) p (.ins C dx [])) := fun b o e => by
    rw [upd_ne (ne_of_none e nx), upd_ne (ne_of_none e nd)]; exact e
  refine ⟨p, dx, rfl, upd_same, fun a H' ea fr b D => ⟨rfl, ?_⟩⟩
  subst ea
  refine q a H' (fun x hx => ?_) (fun y o e => b _ _ (ne_of_none e nx) (sm _ _ e)) D
  by_cases c : x = a.d
  · rw [c]; exact nx
  · cases z : H x with
    | none => rfl
    | some o => have := fr x hx c; rw [sm _ _ z] at this; cases this
theorem sc_Draft_names_of : FnScope ["self", "kind", "name", "its_kind"] ["self", "kind"] (defScope s_Draft_names_of) := ⟨rfl, rfl, rfl, by decide +kernel, rfl, by decide +kernel, by decide +kernel⟩
def sp_names (C CS CA : Addr) : Sp := fun vs H Q _ => ∃ (a : DAd) (s : DSt) (g : Str), vs = [.ref a.d, .str g] ∧ DraftAt C CS CA H a s ∧ s.kinds.length ≤ 100000 ∧ ∀ p H', H p = none → Same H H' → H' p = some (.tup ((namesOf s g).map V.str)) → Q (.ref p) H'
theorem ok_Draft_names_of (T : Top K mg w) : FnOk P w K mg base CX0 1 T.f_Draft_names_of T.fd_Draft_names_of ["self", "kind"] (sp_names T.C_Draft T.C_Statement T.C_Answer) := by
  refine T.F_Draft_names_of.ok sc_Draft_names_of (fun vs H Q E h => ?_) (fun cdv A outer s H vs Q E hr h => ?_)
  · obtain ⟨a, s, g, rfl, _⟩ := h
    rfl
  · obtain ⟨a, st, g, rfl, D, lk, q⟩ := h
    refine ⟨_, pss_one (ps_ret (pe_callTy Z.c_tupOf (by rfl) T.z_tuple (by decide +kernel) (pa_cons (pe_lock (pe_lc (own := [("name", 2), ("its_kind", 3)]) (g := gTup K 2 (gCons (gName 2) (gCons (gName 3) (gNil)))) rfl sc_Draft_names_of.nd (pi_items (pe_fld (pv 0) rfl)) (blkOk_by (own := [("name", 2), ("its_kind", 3)]) (N := ["self", "kind", "name", "its_kind"]) (sc := defScope s_Draft_names_of) (by decide +kernel)) (fun _ _ _ _ _ => pg_tup rfl (pgs_cons (pg_name (i := 2) sc_Draft_names_of.nd rfl (.inl rfl)) (pgs_cons (pg_name (i := 3) sc_Draft_names_of.nd rfl (.inl rfl)) (pgs_nil)))) (fun _ _ _ _ _ => pts_one (pt_cmpR op_eq (pv 3) (pv 1) (nomark _))) (fun _ _ _ _ _ => pv 2))) (pa_nil)))), ?_⟩
    refine Z.r_start (σ' := [some (.ref a.d), some (.str g), none, none]) rfl ?_
    obtain ⟨dx, h0⟩ := D.dx
    have nkd : a.d ≠ a.kd := (DAd.nes D.nd).1.1
    walk_at "go"
    refine Z.r_lock D.k trivial fun od H1 k1 f1 n1 => ?_
    have h01 := k1 _ _ nkd h0
    refine Z.r_lcIt ?_
    walk_at "go"
    refine Z.r_lcItems f1 (fun L i H' => Same H1 H' ∧ H' L = some (.lst ((((st.kinds.take i).filter fun q => decide (q.2 = g)).map (·.1)).map V.str))) ?_ ?_ ?_ ?_
    · intro L H2 nL s2 h2
      exact ⟨s2, h2⟩
    · rintro L i H2 nL ⟨s2, _⟩
      exact s2 _ _ f1
    · rintro L i k v H2 TT H3 nL hu ⟨s2, hL⟩ nT s3 hT
      unfold kvsOf at hu
      rw [List.getElem?_map] at hu
      cases hq : st.kinds[i]? with
      | none => rw [hq] at hu; cases hu
      | some q0 =>
      rw [hq] at hu
      cases hu
      obtain ⟨n0, k0⟩ := q0
      have hL3 := s3 _ _ hL
      have li := (List.getElem?_eq_some_iff.mp hq).1
      walk_at "go"
      refine ⟨rfl, ?_⟩
      walk_at "go"
      refine Z.ways (fun c => ?_) (fun c => ?_)
      · walk_at "go"
        refine Z.r_ap hL3 ?_ fun H4 b4 h4 => ⟨Z.But.back (s2.trans s3) nL b4, ?_⟩
        · rw [List.length_map, List.length_map]
          exact Nat.le_trans (List.length_filter_le _ _) (by rw [List.length_take]; omega)
        · rw [h4, List.take_succ, hq]
          simp only [Option.toList_some, List.filter_append, List.map_append]
          rw [List.filter_cons_of_pos (by exact decide_eq_true c)]
          rfl
      · refine ⟨s2.trans s3, ?_⟩
        rw [hL3, List.take_succ, hq]
        simp only [Option.toList_some, List.filter_append, List.map_append]
        rw [List.filter_cons_of_neg (by rw [decide_eq_false c]; exact Bool.false_ne_true)]
        simp
    · rintro L H2 nL ⟨s2, hL⟩
      have lk2 : (kvsOf st.kinds).length = st.kinds.length := by unfold kvsOf; rw [List.length_map]
      rw [lk2, List.take_length] at hL
      refine ⟨s2 _ _ f1, ?_⟩
      have nLk : L ≠ a.kd := fun e => by rw [e, f1] at nL; cases nL
      have sF : Same H (upd H2 a.kd (.dK (kvsOf st.kinds))) := fun b o e => by
        by_cases c : b = a.kd
        · subst c; rw [upd_same]; rw [D.k] at e; exact e
        · rw [upd_ne c]; exact s2 _ _ (k1 _ _ c e)
      have hLF : upd H2 a.kd (.dK (kvsOf st.kinds)) L = some (.lst ((namesOf st g).map V.str)) := by
        rw [upd_ne nLk]; exact hL
      walk_at "go"
      intro p3 H3 np3 s3 hp3
      walk_at "go"
      refine q p3 H3 ?_ (sF.trans s3) hp3
      cases z : H p3 with
      | none => rfl
      | some o => rw [sF _ _ z] at np3; cases np3
theorem k_names {C CS CA : Addr} {a : DAd} {s : DSt} {g : Str} {H : Hp} {Q : VK} {E : XK} (D : DraftAt C CS CA H a s) (l : s.kinds.length ≤ 100000) (q : ∀ p H', H p = none → Same H H' → H' p = some (.tup ((namesOf s g).map V.str)) → Q (.ref p) H') : sp_names C CS CA ([.ref a.d, .str g] ++ []) H Q E := ⟨a, s, g, rfl, D, l, q⟩

theorem sc_BadProgram___init : FnScope ["self", "line"] ["self", "line"] (defScope s_BadProgram___init) := ⟨rfl, rfl, rfl, by decide +kernel, rfl, by decide +kernel, by decide +kernel⟩
theorem ok_BadProgram___init (T : Top K mg w) : FnOk P w K mg base CX0 1 T.f_BadProgram___init T.fd_BadProgram___init ["self", "line"] (sp_ex T.C_BadProgram "line") := by
  refine T.F_BadProgram___init.ok sc_BadProgram___init (fun vs H Q E h => ?_) (fun cdv A outer s H vs Q E hr h => ?_)
  · obtain ⟨a, y, rfl, _⟩ := h
    rfl
  · obtain ⟨a, y, rfl, ha, q⟩ := h
    refine ⟨_, pss_one (Z.ps_xst (pv 0) (pv 1) rfl), ?_⟩
    refine Z.r_start (σ' := [some (.ref a), some (y)]) rfl ?_
    walk_at "go"
    refine Z.r_xstV T.ex_BadProgram T.no_BadProgram_line ha fun dx H1 n b h1 h2 => ?_
    walk_at "go"
    exact q dx H1 n b h1 h2
theorem ok_BadProgram___init___h (T : Top K mg w) : L2H.FnH P w K mg base CX0 1 T.f_BadProgram___init T.fd_BadProgram___init ["self", "line"] (sp_ex T.C_BadProgram "line") := by
  refine Z.okH T.F_BadProgram___init sc_BadProgram___init (fun vs H Q E h => ?_) (fun cdv A outer s H vs Q E ph hot hr h => ?_)
  · obtain ⟨a, y, rfl, _⟩ := h
    rfl
  · obtain ⟨a, y, rfl, ha, q⟩ := h
    refine ⟨_, pss_one (Z.ps_xst (pv 0) (pv 1) rfl), ?_⟩
    refine Z.r_start (σ' := [some (.ref a), some (y)]) rfl ?_
    walk_at "go"
    refine Z.r_xstV T.ex_BadProgram T.no_BadProgram_line ha fun dx H1 n b h1 h2 => ?_
    walk_at "go"
    exact q dx H1 n b h1 h2
theorem sc_draft_of : FnScope ["text", "draft", "at", "line"] ["text"] (defScope s_draft_of) := ⟨rfl, rfl, rfl, by decide +kernel, rfl, by decide +kernel, by decide +kernel⟩
def sp_draft (K : PySem.W.Frag) (C CS CA B : Addr) : Sp := fun vs H Q E => ∃ x : V, vs = [x] ∧
  ((∃ z : Str, x = .str z ∧ z.length ≤ 90000 ∧ (linesOf z).length ≤ 1000 ∧ (∀ l ∈ linesOf z, l.length ≤ 20000) ∧
      (match rdDraft z with | .out => False | .bad k => RaiseLn B H (k : Int) E | .ok s => ∀ a H', (∀ y ∈ a.S, H y = none) → Same H H' → DraftAt C CS CA H' a s → DSm s (linesOf z).length → Q (.ref a.d) H')) ∨
   (∃ t, TyX K H x t ∧ PySem.W.kitOne K t (.type "str") = some false ∧ RaiseLn B H (-1) E))
theorem ok_draft_of (T : Top K mg w) : FnOk P w K mg base (L2.CX P w) 63 T.f_draft_of T.fd_draft_of ["text"] (sp_draft K T.C_Draft T.C_Statement T.C_Answer T.C_BadProgram) := by
  refine T.F_draft_of.okX sc_draft_of (fun vs H Q E h => ?_) (fun cdv A outer s H vs Q E hr h => ?_)
  · obtain ⟨x, rfl, _⟩ := h
    rfl
  · obtain ⟨x, rfl, h⟩ := h
    refine ⟨_, pss_cons (ps_if (pt_not (pt_val (pe_callB (Z.c_isi (K := K) rfl) (by rfl) T.z_isinstance (by decide +kernel) (pa_cons (pv 0) (pa_cons (pe_bltn (v := .ty "str") (by rfl) T.z_str (by decide +kernel) rfl) (pa_nil)))))) (pss_one (ps_raise rfl (takes_of rfl rfl rfl rfl) (Z.pmk_exf T.ex_BadProgram (ok_BadProgram___init T) (hr.mono (by decide)) (by rfl) T.mgC_BadProgram T.B_BadProgram___init (pa_cons (pe_un un_neg (pe_int)) (pa_nil))))) (pss_nil)) (pss_cons (ps_set (i := 1) sc_draft_of.nd rfl (.inl rfl) (pe_make0 T.mk_Draft (ok_Draft___init T) (hr.mono (by decide)) (by rfl) T.mgC_Draft T.B_Draft___init .nil pass0)) (pss_cons (ps_for (passes_of rfl) rfl (pi_enum (by rfl) T.z_enumerate (pa_cons (Z.pe_bmK (K := K) rfl PySem.F.plainAttrs_str PySem.F.slot_str_split PySem.F.type_str_split mt_split (pv 0) (pa_cons (pe_str) (pa_nil))) (pa_nil))) (pg_tup rfl (pgs_cons (pg_name (i := 2) sc_draft_of.nd rfl (.inl rfl)) (pgs_cons (pg_name (i := 3) sc_draft_of.nd rfl (.inl rfl)) (pgs_nil)))) (pss_one (Z.ps_tryX rfl rfl ⟨rfl, by decide, .inl T.mgC_WrongLine⟩ (L2H.passesAt_of rfl) (takes_of rfl rfl rfl rfl) (fun W pn xe tk tk2 po => pss_one (ps_expr (Z.pe_methAt (pv 1) T.cl_Draft T.me_Draft_read_line (ok_Draft_read_line T) (hr.mono (by decide)) T.B_Draft_read_line (fun σ => L2N.passAt tk σ) (pa_cons (pv 3) (pa_nil))))) (fun a oe cls d pn hz hf tk hot => pss_one (L2H.ps_raiseHN hot tk (L2H.pmk5_oexH T.oex_BadProgram T.ex_BadProgram.ini T.oty_BadProgram (ok_BadProgram___init___h T) (L2H.roomH_mark (hr.mono (by decide)) _) hot T.B_BadProgram___init pass0 (by rfl) T.mgC_BadProgram (pa_cons (pv 2) (pa_nil)))))))) (pss_cons (ps_if (pt_cmpR op_eq (pe_callB Z.c_len (by rfl) T.z_len (by decide +kernel) (pa_cons (pe_fld (pv 1) rfl) (pa_nil))) (pe_int) (nomark _)) (pss_one (ps_raise rfl (takes_of rfl rfl rfl rfl) (Z.pmk_exf T.ex_BadProgram (ok_BadProgram___init T) (hr.mono (by decide)) (by rfl) T.mgC_BadProgram T.B_BadProgram___init (pa_cons (pe_callB Z.c_len (by rfl) T.z_len (by decide +kernel) (pa_cons (pe_fld (pv 1) rfl) (pa_nil))) (pa_nil))))) (pss_nil)) (pss_one (ps_ret (pv 1)))))), ?_⟩
    refine Z.r_start (σ' := [some (x), none, none, none]) rfl ?_
    rcases h with ⟨z, rfl, lz, ll, lg, q⟩ | ⟨t, ty, k1, qr⟩
    · walk_at "go"
      refine r_mkDr fun a H1 fr s1 D1 => ?_
      walk_at "go"
      have z16 : (100000 : Nat) ≤ sizeLine := by decide
      refine ⟨_, _, rfl, rfl, by decide +kernel, by omega, fun L nL => ?_⟩
      have s2 : Same H1 (upd H1 L (.lst ((linesOf z).map V.str))) := Z.same_upd nL
      have hL : (upd H1 L (.lst ((linesOf z).map V.str))) L = some (.lst ((linesOf z).map V.str)) := upd_same
      rw [show Txt.split z ("\n" : Str) = linesOf z from rfl]
      generalize upd H1 L (.lst ((linesOf z).map V.str)) = H2 at s2 hL ⊢
      have nLS : L ∉ a.S := fun m => by
        obtain ⟨o, ho, _⟩ := D1.plain _ m
        rw [ho] at nL; cases nL
      have s02 := s1.trans s2
      have D2 := D1.same s2
      walk_at "go"
      refine Z.r_enum_by (SqL.of hL) (fun k σ' H' => ∃ st v2 v3, Same H H' ∧ H' L = some (.lst ((linesOf z).map V.str)) ∧ DraftAt T.C_Draft T.C_Statement T.C_Answer H' a st ∧ DSm st k ∧ rdFrom 0 DSt0 (linesOf z) = rdFrom k st ((linesOf z).drop k) ∧ σ' = [some (.str z), some (.ref a.d), v2, v3]) ?_ ?_ ?_ ?_
      · exact ⟨DSt0, _, _, s02, hL, D2, ⟨Nat.le_refl _, Nat.le_refl _, Nat.le_refl _, Nat.le_refl _, rfl, Nat.le_refl _, Nat.zero_le _⟩, rfl, rfl⟩
      · rintro k σ' H' ⟨_, _, _, _, h, _⟩
        exact SqL.of h
      · rintro k x σ' H3 hx ⟨st, v2, v3, s3, hL3, D3, sm, er, rfl⟩ TT H4 nTT s4 hTT
        rw [List.getElem?_map] at hx
        cases hu : (linesOf z)[k]? with
        | none => rw [hu] at hx; cases hx
        | some l =>
        rw [hu] at hx
        cases hx
        obtain ⟨lk, e2⟩ := List.getElem?_eq_some_iff.mp hu
        have ed : (linesOf z).drop k = l :: (linesOf z).drop (k + 1) := by rw [List.drop_eq_getElem_cons lk, e2]
        rw [ed] at er
        have s04 := s3.trans s4
        have D4 := D3.same s4
        have hL4 := s4 _ _ hL3
        obtain ⟨dx4, hd4⟩ := D4.dx
        have small : DSmall st := by
          obtain ⟨a1, a2, a3, a4, a5, a6, a7⟩ := sm
          exact ⟨by omega, by omega, by omega, by omega, by omega, by omega, by omega⟩
        walk_at "go"
        refine k_line D4 (lg _ (List.mem_of_getElem? hu)) small ?_
        cases el : rdLine st l with
        | out =>
          have e3 : rdFrom k st (l :: (linesOf z).drop (k + 1)) = .out := by
            show (match rdLine st l with | .out => .out | .bad => .bad k | .ok s' _ => rdFrom (k + 1) s' ((linesOf z).drop (k + 1))) = DR.out
            rw [el]
          have e4 : rdDraft z = .out := by unfold rdDraft; rw [er, e3]
          rw [e4] at q
          exact q
        | bad =>
          have e3 : rdFrom k st (l :: (linesOf z).drop (k + 1)) = .bad k := by
            show (match rdLine st l with | .out => .out | .bad => .bad k | .ok s' _ => rdFrom (k + 1) s' ((linesOf z).drop (k + 1))) = DR.bad k
            rw [el]
          have e4 : rdDraft z = .bad k := by unfold rdDraft; rw [er, e3]
          rw [e4] at q
          have q : RaiseLn T.C_BadProgram H (k : Int) E := q
          intro H5 b5
          have s05 : Same H H5 := ButS.back s04 fr b5
          refine ⟨true, Z.exm_plain T.xp_WrongLine, fun _ e ne => ?_, fun z => Bool.noConfusion z⟩
          dsimp only
          refine Z.r_mkO ?_
          walk_at "go"
          exact k_exR (RaiseLn.back s05 q)
        | ok st2 rest =>
          intro H5 b5 D5
          have s05 : Same H H5 := ButS.back s04 fr b5
          walk_at "go"
          refine ⟨st2, _, _, s05, b5 _ _ nLS hL4, D5, rdLine_sm sm el, ?_, rfl⟩
          rw [er]
          show (match rdLine st l with | .out => DR.out | .bad => DR.bad k | .ok s' _ => rdFrom (k + 1) s' ((linesOf z).drop (k + 1))) = _
          rw [el]
      · rintro σ' H3 ⟨st, v2, v3, s3, hL3, D3, sm, er, rfl⟩
        rw [List.length_map] at er sm
        rw [List.drop_length] at er
        have er : rdFrom 0 DSt0 (linesOf z) = .ok st := er
        have e4 : rdDraft z = if st.answers = [] then .bad st.lines.length else .ok st := by unfold rdDraft; rw [er]
        rw [e4] at q
        obtain ⟨dx3, hd3⟩ := D3.dx
        obtain ⟨v4, h4, p4⟩ := D3.l4
        have l4 := paired_len p4
        have h5 := D3.l5
        walk_at "go"
        refine Z.ways (fun c => ?_) (fun c => ?_)
        · rw [if_pos (List.eq_nil_of_length_eq_zero (by omega))] at q
          walk_at "go"
          rw [List.length_map]
          exact k_exR (RaiseLn.back s3 q)
        · rw [if_neg (fun e => c (by rw [l4, e]; rfl))] at q
          walk_at "go"
          exact q a H3 fr s3 D3 sm
    · walk_at "go"
      exact k_exR qr

theorem sc_TooMany___init : FnScope ["self", "what"] ["self", "what"] (defScope s_TooMany___init) := ⟨rfl, rfl, rfl, by decide +kernel, rfl, by decide +kernel, by decide +kernel⟩
theorem ok_TooMany___init (T : Top K mg w) : FnOk P w K mg base CX0 1 T.f_TooMany___init T.fd_TooMany___init ["self", "what"] (sp_ex T.C_TooMany "what") := by
  refine T.F_TooMany___init.ok sc_TooMany___init (fun vs H Q E h => ?_) (fun cdv A outer s H vs Q E hr h => ?_)
  · obtain ⟨a, y, rfl, _⟩ := h
    rfl
  · obtain ⟨a, y, rfl, ha, q⟩ := h
    refine ⟨_, pss_one (Z.ps_xst (pv 0) (pv 1) rfl), ?_⟩
    refine Z.r_start (σ' := [some (.ref a), some (y)]) rfl ?_
    walk_at "go"
    refine Z.r_xstV T.ex_TooMany T.no_TooMany_what ha fun dx H1 n b h1 h2 => ?_
    walk_at "go"
    exact q dx H1 n b h1 h2
theorem sc_Program__check_limits : FnScope ["self", "parts", "what", "most"] ["self"] (defScope s_Program__check_limits) := ⟨rfl, rfl, rfl, by decide +kernel, rfl, by decide +kernel, by decide +kernel⟩
def sp_lim (C B : Addr) : Sp := fun vs H Q E => ∃ (p dx : Addr) (fs : List (Str × V)) (ls : Str → Nat), vs = [.ref p] ∧ H p = some (.ins C dx fs) ∧
  (∀ k ∈ limKs, ∃ (a : Addr) (xs : List V), fs.lookup k.1 = some (.ref a) ∧ H a = some (.tup xs) ∧ xs.length = ls k.1) ∧
  (match overAt ls limKs with | none => ∀ H', Same H H' → Q .non H' | some k => RaiseWh B H k E)
theorem ok_Program__check_limits (T : Top K mg w) : FnOk P w K mg base (L2.CX P w) 3 T.f_Program__check_limits T.fd_Program__check_limits ["self"] (sp_lim T.C_Program T.C_TooMany) := by
  refine T.F_Program__check_limits.okX sc_Program__check_limits (fun vs H Q E h => ?_) (fun cdv A outer s H vs Q E hr h => ?_)
  · obtain ⟨p, dx, fs, ls, rfl, _⟩ := h
    rfl
  · obtain ⟨p, dx, fs, ls, rfl, hp, hk, q⟩ := h
    refine ⟨_, pss_cons (ps_set (i := 1) sc_Program__check_limits.nd rfl (.inl rfl) (pe_disp (pps_cons (pe_str) (pe_fld (pv 0) rfl) (pps_cons (pe_str) (pe_fld (pv 0) rfl) (pps_cons (pe_str) (pe_fld (pv 0) rfl) (pps_cons (pe_str) (pe_fld (pv 0) rfl) (pps_cons (pe_str) (pe_fld (pv 0) rfl) (pps_cons (pe_str) (pe_fld (pv 0) rfl) (pps_cons (pe_str) (pe_fld (pv 0) rfl) (pps_cons (pe_str) (pe_fld (pv 0) rfl) (pps_nil))))))))) rfl rfl (fun z => by cases z) (by decide))) (pss_one (ps_for (passes_of rfl) rfl (Z.pi_kitems (pe_glob (v := .ref T.A_LIMITS) (by rfl) T.mgK_LIMITS rfl)) (pg_tup rfl (pgs_cons (pg_name (i := 2) sc_Program__check_limits.nd rfl (.inl rfl)) (pgs_cons (pg_name (i := 3) sc_Program__check_limits.nd rfl (.inl rfl)) (pgs_nil)))) (pss_one (ps_if (pt_cmpR op_gt (pe_callB Z.c_len (by rfl) T.z_len (by decide +kernel) (pa_cons (pe_dget (hu_of hr) (pv 1) (pv 2) (fun _ _ => rfl)) (pa_nil))) (pv 3) (nomark _)) (pss_one (ps_raise rfl (takes_of rfl rfl rfl rfl) (Z.pmk_exf T.ex_TooMany (ok_TooMany___init T) (hr.mono (by decide)) (by rfl) T.mgC_TooMany T.B_TooMany___init (pa_cons (pv 2) (pa_nil))))) (pss_nil))))), ?_⟩
    refine Z.r_start (σ' := [some (.ref p), none, none, none]) rfl ?_
    obtain ⟨a1, x1, f1, h1, l1⟩ := hk ("keeps", 3) (by decide)
    obtain ⟨a2, x2, f2, h2, l2⟩ := hk ("flags", 2) (by decide)
    obtain ⟨a3, x3, f3, h3, l3⟩ := hk ("sums", 2) (by decide)
    obtain ⟨a4, x4, f4, h4, l4⟩ := hk ("counts", 2) (by decide)
    obtain ⟨a5, x5, f5, h5, l5⟩ := hk ("places", 2) (by decide)
    obtain ⟨a6, x6, f6, h6, l6⟩ := hk ("steps", 3) (by decide)
    obtain ⟨a7, x7, f7, h7, l7⟩ := hk ("statements", 10) (by decide)
    obtain ⟨a8, x8, f8, h8, l8⟩ := hk ("answers", 4) (by decide)
    dsimp only at f1 f2 f3 f4 f5 f6 f7 f8 l1 l2 l3 l4 l5 l6 l7 l8
    walk_at "go"
    intro d H1 nd s1 e1
    replace hp := s1 _ _ hp
    have g1 := s1 _ _ h1
    have g2 := s1 _ _ h2
    have g3 := s1 _ _ h3
    have g4 := s1 _ _ h4
    have g5 := s1 _ _ h5
    have g6 := s1 _ _ h6
    have g7 := s1 _ _ h7
    have g8 := s1 _ _ h8
    walk_at "go"
    refine Z.r_dsp [(.inr "keeps", .ref a1), (.inr "flags", .ref a2), (.inr "sums", .ref a3), (.inr "counts", .ref a4), (.inr "places", .ref a5), (.inr "steps", .ref a6), (.inr "statements", .ref a7), (.inr "answers", .ref a8)] e1 rfl (Nat.le_of_ble_eq_true rfl) fun H2 b2 h2d => ?_
    have look : ∀ k ∈ limKs, ∃ (a : Addr) (xs : List V), valV (mergeK [] [((.inr "keeps" : Key), V.ref a1), (.inr "flags", .ref a2), (.inr "sums", .ref a3), (.inr "counts", .ref a4), (.inr "places", .ref a5), (.inr "steps", .ref a6), (.inr "statements", .ref a7), (.inr "answers", .ref a8)]) (.inr k.1) = some (.ref a) ∧ H2 a = some (.tup xs) ∧ xs.length = ls k.1 := by
      have nd' : ∀ {a : Addr} {xs : List V}, H1 a = some (.tup xs) → H2 a = some (.tup xs) := fun e => b2 _ _ (fun c => by rw [c, e1] at e; cases e) e
      intro k hk
      unfold limKs at hk
      simp only [List.mem_cons, List.not_mem_nil, or_false] at hk
      rcases hk with rfl | rfl | rfl | rfl | rfl | rfl | rfl | rfl
      · exact ⟨a1, x1, rfl, nd' g1, l1⟩
      · exact ⟨a2, x2, rfl, nd' g2, l2⟩
      · exact ⟨a3, x3, rfl, nd' g3, l3⟩
      · exact ⟨a4, x4, rfl, nd' g4, l4⟩
      · exact ⟨a5, x5, rfl, nd' g5, l5⟩
      · exact ⟨a6, x6, rfl, nd' g6, l6⟩
      · exact ⟨a7, x7, rfl, nd' g7, l7⟩
      · exact ⟨a8, x8, rfl, nd' g8, l8⟩
    have s02 : Same H H2 := fun a o z => b2 a o (fun c => by rw [c, nd] at z; cases z) (s1 _ _ z)
    clear hk h1 h2 h3 h4 h5 h6 h7 h8 g1 g2 g3 g4 g5 g6 g7 g8 f1 f2 f3 f4 f5 f6 f7 f8
    generalize mergeK [] [((.inr "keeps" : Key), V.ref a1), (.inr "flags", .ref a2), (.inr "sums", .ref a3), (.inr "counts", .ref a4), (.inr "places", .ref a5), (.inr "steps", .ref a6), (.inr "statements", .ref a7), (.inr "answers", .ref a8)] = DD at look h2d
    have kdl : Z.KD K w T.A_LIMITS (limKs.map fun p => (p.1, V.int p.2)) := T.kd_LIMITS
    walk_at "go"
    refine Z.r_forItems kdl (by decide +kernel) (fun i σ' H' => ∃ v2 v3, Same H2 H' ∧ overAt ls limKs = overAt ls (limKs.drop i) ∧ σ' = [some (.ref p), some (.ref d), v2, v3]) ⟨_, _, fun _ _ z => z, rfl, rfl⟩ ?_ ?_
    · rintro i k v σ' H' TT H3 hi ⟨v2, v3, s3, eo, rfl⟩ nT s4 hT
      rw [List.getElem?_map] at hi
      cases hu : limKs[i]? with
      | none => rw [hu] at hi; cases hi
      | some pk =>
      rw [hu] at hi
      cases hi
      obtain ⟨lk, e2⟩ := List.getElem?_eq_some_iff.mp hu
      have ed : limKs.drop i = pk :: limKs.drop (i + 1) := by rw [List.drop_eq_getElem_cons lk, e2]
      obtain ⟨a, xs, hv, ha, la⟩ := look pk (List.mem_of_getElem? hu)
      have s23 := s3.trans s4
      have hd3 := s23 _ _ h2d
      have ha3 := s23 _ _ ha
      have hp3 := s23 _ _ (b2 _ _ (fun c => by rw [c, e1] at hp; cases hp) hp)
      walk_at "go"
      refine Z.r_dgS hd3 hv ?_
      walk_at "go"
      refine Z.ways (fun c => ?_) (fun c => ?_)
      · have ev : overAt ls limKs = some pk.1 := by
          rw [eo, ed]
          unfold overAt
          rw [List.find?_cons_of_pos (by rw [← la]; exact decide_eq_true (by omega))]
          rfl
        rw [ev] at q
        walk_at "go"
        exact k_exR (RaiseWh.back (s02.trans s23) q)
      · walk_at "go"
        refine ⟨_, _, s23, ?_, rfl⟩
        rw [eo, ed]
        unfold overAt
        rw [List.find?_cons_of_neg (by rw [← la]; exact fun z => c (by have := of_decide_eq_true z; omega))]
    · rintro σ' H' ⟨v2, v3, s3, eo, rfl⟩
      rw [show overAt ls limKs = none from eo] at q
      walk_at "go"
      exact q _ (s02.trans s3)

def sp_token_at_n : Sp := fun vs H Q _ => ∃ (x ls : Str) (k : Nat), vs = [.str x, .int (k : Int), .str ls] ∧ x.length ≤ 100000 ∧ k ≤ x.length ∧
  ∃ t, Tk.tokAt (Tx.tl ls) ((Tx.tl x).drop k) = some t ∧ Q (.str (Tk.mk t)) H
theorem ok_token_at_n (T : Top K mg w) : FnOk P w K mg base CX0 1 T.f_token_at T.fd_token_at ["line", "at", "letters"] sp_token_at_n := by
  refine T.F_token_at.ok sc_token_at (fun vs H Q E h => ?_) (fun cdv A outer s H vs Q E hr h => ?_)
  · obtain ⟨x, ls, k, rfl, _⟩ := h
    rfl
  · obtain ⟨x, ls, k, rfl, lx, lk, t0, et0, q0⟩ := h
    have q : ∀ t, Tk.tokAt (Tx.tl ls) ((Tx.tl x).drop k) = some t → Q (.str (Tk.mk t)) H := fun t e => by rw [et0] at e; cases e; exact q0
    refine ⟨_, pss_cons (ps_set (i := 3) sc_token_at.nd rfl (.inl rfl) (pv 1)) (pss_cons (ps_while PassesOwn.never ((pw_and (pt_cmpR op_lt (pv 3) (pe_callB Z.c_lenS (by rfl) T.z_len (by decide +kernel) (pa_cons (pv 0) (pa_nil))) (nomark _)) (pw_and1 (pt_cmpR Z.op_inSg (pe_ix (Z.ix_seqG (K := K) rfl) (pv 0) (pv 3) (fun _ _ => rfl)) (pv 2) rfl))).pt) (pss_one (ps_aug (i := 3) sc_token_at.nd rfl (.inl rfl) (pe_int) ip_add))) (pss_cons (ps_if (pt_cmpR op_gt (pv 3) (pv 1) (nomark _)) (pss_one (ps_ret (pe_slice sl_str (pv 0) (po_some (pv 1)) (po_some (pv 3))))) (pss_nil)) (pss_cons (ps_for PassesOwn.never rfl (pi_tup (pe_glob (v := .ref T.A_OTHER_TOKENS) (by rfl) T.mgK_OTHER_TOKENS rfl)) (pg_name (i := 4) sc_token_at.nd rfl (.inl rfl)) (pss_one (ps_if (pt_val (Z.pe_bmK (K := K) rfl PySem.F.plainAttrs_str PySem.F.slot_str_startswith PySem.F.type_str_startswith Z.m_sw3 (pv 0) (pa_cons (pv 4) (pa_cons (pv 1) (pa_nil))))) (pss_one (ps_ret (pv 4))) (pss_nil)))) (pss_one (ps_never))))), ?_⟩
    refine Z.r_start (σ' := [some (.str x), some (.int (k : Int)), some (.str ls), none, none]) rfl ?_
    have ll : x.length = (Tx.tl x).length := Tx.tl_len x
    have hd : ∀ e, ((Tx.tl x).drop k)[e]? = (Tx.tl x)[k + e]? := fun e => by rw [List.getElem?_drop]
    have ld : ((Tx.tl x).drop k).length = x.length - k := by rw [List.length_drop, ll]
    walk_at "toseq"
    walk_at "toseq"
    refine Z.viaS (fun σ' H' => H' = H ∧ ∃ e : Nat, k ≤ e ∧ e ≤ x.length ∧ ((Tx.tl x).drop k).takeWhile (fun c => decide (c ∈ Tx.tl ls)) = ((Tx.tl x).drop k).take (e - k) ∧ σ' = [some (.str x), some (.int (k : Int)), some (.str ls), some (.int (e : Int)), none]) (fun D' kk => ?_) ?_
    · refine Z.r_while ⟨fun m σ' H' => H' = H ∧ ∃ e : Nat, m = x.length - e ∧ k ≤ e ∧ e ≤ x.length ∧ (∀ c ∈ ((Tx.tl x).drop k).take (e - k), decide (c ∈ Tx.tl ls) = true) ∧ σ' = [some (.str x), some (.int (k : Int)), some (.str ls), some (.int (e : Int)), none], ⟨_, rfl, k, rfl, Nat.le_refl _, lk, ?_, rfl⟩, ?_⟩
      · rw [Nat.sub_self]; exact fun c hc => by cases hc
      rintro m σ' H' ⟨rfl, e, rfl, ke, el, all, rfl⟩
      walk_at "go"
      refine Z.r_lenSS lx ?_
      walk_at "go"
      refine Z.ways (fun c => ?_) (fun c => ?_)
      · have ce : e < (Tx.tl x).length := by omega
        have ge : (Tx.tl x)[e]? = some ((Tx.tl x)[e]'ce) := List.getElem?_eq_getElem ce
        have ge2 : ((Tx.tl x).drop k)[e - k]? = some ((Tx.tl x)[e]'ce) := by rw [hd, show k + (e - k) = e by omega, ge]
        walk_at "go"
        refine Z.r_ixS (c := (Tx.tl x)[e]'ce) (Nat.le_trans lx (by decide)) (atI_nat ge) ?_
        walk_at "go"
        refine Z.ways (fun c2 => ?_) (fun c2 => ?_)
        · refine Z.r_wN ?_
          walk_at "go"
          refine ⟨x.length - (e + 1), by omega, rfl, e + 1, rfl, by omega, by omega, ?_, rfl⟩
          rw [show e + 1 - k = (e - k) + 1 by omega, List.take_succ, ge2]
          intro d hd
          rcases List.mem_append.mp hd with h | h
          · exact all d h
          · rw [List.mem_singleton.mp h]
            exact decide_eq_true c2
        · exact kk _ _ ⟨rfl, e, ke, el, Tk.tw _ _ all (.inr ⟨_, ge2, decide_eq_false c2⟩), rfl⟩
      · walk_at "go"
        exact kk _ _ ⟨rfl, e, ke, el, Tk.tw _ _ all (.inl (by rw [ld]; omega)), rfl⟩
    rintro σ' H' ⟨rfl, e, ke, el, etw, rfl⟩
    walk_at "go"
    refine Z.ways (fun c => ?_) (fun c => ?_)
    · walk_at "go"
      refine Z.r_slSt lx ?_
      have et : Tx.tl (cutS x (some (k : Int)) (some (e : Int))) = ((Tx.tl x).drop k).take (e - k) := by
        show ((Tx.tl x).drop (HT.sIx x.length 0 (some (k : Int)))).take (HT.sIx x.length x.length (some (e : Int)) - HT.sIx x.length 0 (some (k : Int))) = _
        rw [HT.sIx_nat, HT.sIx_nat, Nat.min_eq_left lk, Nat.min_eq_left el]
      have ne : ((Tx.tl x).drop k).take (e - k) ≠ [] := by
        intro z
        have := congrArg List.length z
        rw [List.length_take, ld] at this
        simp at this
        omega
      have ta : Tk.tokAt (Tx.tl ls) ((Tx.tl x).drop k) = some (((Tx.tl x).drop k).take (e - k)) := by
        unfold Tk.tokAt
        rw [etw, if_pos ne]
      have z := q _ ta
      rw [← et, Tk.mk_tl] at z
      exact z
    · have e0 : e = k := by omega
      subst e0
      have ta : Tk.tokAt (Tx.tl ls) ((Tx.tl x).drop e) = (Tk.others.find? fun t => (Tx.tl t).isPrefixOf ((Tx.tl x).drop e)).map Tx.tl := by
        unfold Tk.tokAt
        rw [etw, Nat.sub_self, List.take_zero, if_neg (fun h => h rfl)]
      walk_at "go"
      refine Z.r_tup_by (T.wt_OTHER_TOKENS H') (fun i σ' H'' => H'' = H' ∧ (∀ t ∈ Tk.others.take i, (Tx.tl t).isPrefixOf ((Tx.tl x).drop e) = false) ∧ ∃ v, σ' = [some (.str x), some (.int (e : Int)), some (.str ls), some (.int (e : Int)), v]) ?_ ?_ ?_ ?_
      · exact ⟨rfl, (fun t h => by cases h), _, rfl⟩
      · rintro i σ' H'' ⟨rfl, _⟩
        exact T.wt_OTHER_TOKENS _
      · rintro i y σ' H'' hy ⟨rfl, no, v, rfl⟩
        have hy : (Tk.others.map V.str)[i]? = some y := hy
        rw [List.getElem?_map] at hy
        cases hu : Tk.others[i]? with
        | none => rw [hu] at hy; cases hy
        | some t =>
        rw [hu] at hy
        cases hy
        walk_at "go"
        rw [Tk.sw3 x t lk]
        cases hp : (Tx.tl t).isPrefixOf ((Tx.tl x).drop e) with
        | true =>
          walk_at "go"
          have z := q (Tx.tl t) (by rw [ta, Tk.find_at hu hp no]; rfl)
          rw [Tk.mk_tl] at z
          exact z
        | false =>
          walk_at "go"
          refine ⟨rfl, fun u hm => ?_, _, rfl⟩
          rw [List.take_succ, hu] at hm
          rcases List.mem_append.mp hm with h | h
          · exact no u h
          · rw [List.mem_singleton.mp h]; exact hp
      · rintro σ' H'' ⟨rfl, no, v, rfl⟩
        suffices zz : Tk.tokAt (Tx.tl ls) ((Tx.tl x).drop e) = none by rw [et0] at zz; cases zz
        rw [ta, List.find?_eq_none.mpr (fun t ht => by rw [no t (by rw [show ([V.str "+=", V.str "-=", V.str "<=", V.str ">=", V.str "==", V.str "!=", V.str "<", V.str ">", V.str "=", V.str "(", V.str ")", V.str ",", V.str "0", V.str "1"] : List V).length = Tk.others.length from rfl, List.take_length]; exact ht)]; exact Bool.false_ne_true)]; rfl
theorem k_token_at_n {x ls : Str} {k : Nat} {H : Hp} {Q : VK} {E : XK} {tk : List Nat} (lx : x.length ≤ 100000) (lk : k ≤ x.length) (et : Tk.tokAt (Tx.tl ls) ((Tx.tl x).drop k) = some tk) (q : Q (.str (Tk.mk tk)) H) :
    sp_token_at_n ([.str x, .int (k : Int), .str ls] ++ []) H Q E := ⟨x, ls, k, rfl, lx, lk, tk, et, q⟩
def sp_tokens_of_n : Sp := fun vs H Q _ => ∃ (x ls : Str), vs = [.str x, .str ls] ∧ x.length ≤ 100000 ∧
  ∃ ts, Tk.toks (Tx.tl ls) (Tx.tl x) = some ts ∧ ∀ p H', H p = none → Same H H' → H' p = some (.lst (ts.map fun t => V.str (Tk.mk t))) → Q (.ref p) H'
theorem ok_tokens_of_n (T : Top K mg w) : FnOk P w K mg base CX0 2 T.f_tokens_of T.fd_tokens_of ["line", "letters"] sp_tokens_of_n := by
  refine Z.okD T.F_tokens_of sc_tokens_of (fun vs H Q E h => ?_) (fun cdv A outer s H vs Q E hr h => ?_)
  · obtain ⟨x, ls, rfl, _⟩ := h
    rfl
  · obtain ⟨x, ls, rfl, lx, ts0, ets0, q0⟩ := h
    have q : ∀ ts, Tk.toks (Tx.tl ls) (Tx.tl x) = some ts → ∀ p H', H p = none → Same H H' → H' p = some (.lst (ts.map fun t => V.str (Tk.mk t))) → Q (.ref p) H' := fun ts e => by rw [ets0] at e; cases e; exact q0
    refine ⟨_, pss_cons (ps_set (i := 2) sc_tokens_of.nd rfl (.inl rfl) (pe_lst (pa_nil))) (pss_cons (ps_set (i := 3) sc_tokens_of.nd rfl (.inl rfl) (pe_int)) (pss_cons (ps_while PassesOwn.never (pt_cmpR op_lt (pv 3) (pe_callB Z.c_lenS (by rfl) T.z_len (by decide +kernel) (pa_cons (pv 0) (pa_nil))) (nomark _)) (pss_one (ps_if (pt_cmpR op_eq (pe_ix (Z.ix_seqG (K := K) rfl) (pv 0) (pv 3) (fun _ _ => rfl)) (pe_str) (nomark _)) (pss_one (ps_aug (i := 3) sc_tokens_of.nd rfl (.inl rfl) (pe_int) ip_add)) (pss_cons (ps_set (i := 4) sc_tokens_of.nd rfl (.inl rfl) (pe_call (ok_token_at_n T) (hr.mono (by decide)) (by rfl) T.mg_token_at T.F_token_at.kp T.B_token_at .nil pass0 (pa_cons (pv 0) (pa_cons (pv 3) (pa_cons (pv 1) (pa_nil)))))) (pss_cons (ps_expr (pe_bm PySem.F.plainAttrs_list PySem.F.slot_list_append PySem.F.type_list_append mt_append (pv 2) (pa_cons (pv 4) (pa_nil)))) (pss_one (ps_aug (i := 3) sc_tokens_of.nd rfl (.inl rfl) (pe_callB Z.c_lenS (by rfl) T.z_len (by decide +kernel) (pa_cons (pv 4) (pa_nil))) ip_add))))))) (pss_one (ps_ret (pv 2))))), ?_⟩
    refine Z.r_start (σ' := [some (.str x), some (.str ls), none, none, none]) rfl ?_
    have ll : x.length = (Tx.tl x).length := Tx.tl_len x
    walk_at "go"
    intro p H1 np s1 hp
    walk_at "toseq"
    walk_at "toseq"
    refine Z.r_while ⟨fun m σ' H' => ∃ (k : Nat) (acc : List (List Nat)) (v : Option V), m = x.length - k ∧ k ≤ x.length ∧ acc.length ≤ k ∧ Same H H' ∧ H' p = some (.lst (acc.map fun t => V.str (Tk.mk t))) ∧ Tk.toks (Tx.tl ls) (Tx.tl x) = (Tk.toks (Tx.tl ls) ((Tx.tl x).drop k)).map (acc ++ ·) ∧
      σ' = [some (.str x), some (.str ls), some (.ref p), some (.int (k : Int)), v], ⟨_, 0, [], _, rfl, Nat.zero_le _, Nat.le_refl _, s1, hp, ?_, rfl⟩, ?_⟩
    · rw [List.drop_zero]; simp
    rintro m σ' H2 ⟨k, acc, v, rfl, lk, la, s2, hp2, et, rfl⟩
    walk_at "go"
    refine Z.r_lenSS lx ?_
    walk_at "go"
    refine Z.ways (fun c => ?_) (fun c => ?_)
    · refine Z.r_wN ?_
      have ck : k < (Tx.tl x).length := by omega
      have gk : (Tx.tl x)[k]? = some ((Tx.tl x)[k]'ck) := List.getElem?_eq_getElem ck
      have dk : (Tx.tl x).drop k = (Tx.tl x)[k]'ck :: (Tx.tl x).drop (k + 1) := List.drop_eq_getElem_cons ck
      have e32 : (" " : Str) = ⟨#[32]⟩ := Tx.sign_text 32 " " (by decide +kernel)
      walk_at "go"
      refine Z.r_ixS (c := (Tx.tl x)[k]'ck) (Nat.le_trans lx (by decide)) (atI_nat gk) ?_
      walk_at "go"
      refine Z.ways (fun c2 => ?_) (fun c2 => ?_)
      · have c32 : (Tx.tl x)[k]'ck = 32 := by
          rw [e32] at c2
          have := congrArg (fun z : Str => z.cps.toList) c2
          simpa using this
        walk_at "go"
        refine ⟨x.length - (k + 1), by omega, k + 1, acc, v, rfl, by omega, by omega, s2, hp2, ?_, rfl⟩
        rw [et, dk, c32, Tk.toks_space]
      · have c32 : (Tx.tl x)[k]'ck ≠ 32 := fun h => c2 (by rw [h, e32])
        walk_at "go"
        cases h : Tk.tokAt (Tx.tl ls) ((Tx.tl x).drop k) with
        | none =>
          suffices zz : Tk.toks (Tx.tl ls) (Tx.tl x) = none by rw [ets0] at zz; cases zz
          rw [et, dk, Tk.toks_none c32 (by rw [← dk]; exact h)]; rfl
        | some t =>
          refine k_token_at_n lx lk h ?_
          have ne := Tk.tokAt_ne h
          have pre := (Tk.tokAt_pre h).length_le
          rw [List.length_drop, ← ll] at pre
          have lt : (Tk.mk t).length = t.length := Tx.tl_len _
          have l1 : 1 ≤ t.length := by cases t with
            | nil => exact absurd rfl ne
            | cons _ _ => exact Nat.succ_le_succ (Nat.zero_le _)
          walk_at "go"
          refine Z.r_app hp2 (by rw [List.length_map]; omega) fun H3 b3 h3 => ?_
          walk_at "go"
          refine Z.r_lenSS (by omega) ?_
          walk_at "go"
          refine ⟨x.length - (k + t.length), by omega, k + t.length, acc ++ [t], _, rfl, by omega, by rw [List.length_append]; show _ + 1 ≤ _; omega, Z.But.back s2 np b3, by rw [h3, List.map_append]; rfl, ?_, by rw [lt]; rfl⟩
          rw [et, dk, Tk.toks_some c32 (by rw [← dk]; exact h), ← dk, List.drop_drop]
          cases Tk.toks (Tx.tl ls) ((Tx.tl x).drop (k + t.length)) with
          | none => rfl
          | some z => simp
    · have ek : k = x.length := by omega
      have et2 : Tk.toks (Tx.tl ls) (Tx.tl x) = some acc := by
        rw [et, ek, ll, List.drop_length]
        show (some [] : Option (List (List Nat))).map (acc ++ ·) = _
        simp
      walk_at "go"
      exact q acc et2 p H2 np s2 hp2
theorem k_tokens_of_n {x ls : Str} {ts : List (List Nat)} {H : Hp} {Q : VK} {E : XK} (lx : x.length ≤ 100000) (e : Tk.toks (Tx.tl ls) (Tx.tl x) = some ts) (q : ∀ p H', H p = none → Same H H' → H' p = some (.lst (ts.map fun t => V.str (Tk.mk t))) → Q (.ref p) H') : sp_tokens_of_n [.str x, .str ls] H Q E := ⟨x, ls, rfl, lx, ts, e, q⟩

theorem sc_Program___init : FnScope ["self", "text", "draft", "answer", "line"] ["self", "text"] (defScope s_Program___init) := ⟨rfl, rfl, rfl, by decide +kernel, rfl, by decide +kernel, by decide +kernel⟩
def sp_Pr_init (C CD CS CA B TM : Addr) (K : PySem.W.Frag) : Sp := fun vs H Q E => ∃ (p dx : Addr) (x : V), vs = [.ref p, x] ∧ H p = some (.ins C dx []) ∧
  ((∃ z : Str, x = .str z ∧ TextOk z ∧ PrOut C CS CA B H z (fun g => ∀ H1, Z.But p H H1 → RaiseWh TM H1 g E) (fun a H' => a.p = p → Z.But p H H' → Q .non H') E) ∨ (∃ t, TyX K H x t ∧ PySem.W.kitOne K t (.type "str") = some false ∧ RaiseLn B H (-1) E))
theorem ok_Program___init (T : Top K mg w) : FnOk P w K mg base (L2.CX P w) 64 T.f_Program___init T.fd_Program___init ["self", "text"] (sp_Pr_init T.C_Program T.C_Draft T.C_Statement T.C_Answer T.C_BadProgram T.C_TooMany K) := by
  refine T.F_Program___init.okX sc_Program___init (fun vs H Q E h => ?_) (fun cdv A outer s H vs Q E hr h => ?_)
  · obtain ⟨p, dx, x, rfl, _⟩ := h
    rfl
  · obtain ⟨p, dx, x, rfl, hp, h⟩ := h
    refine ⟨_, pss_cons (ps_set (i := 2) sc_Program___init.nd rfl (.inl rfl) (pe_call (ok_draft_of T) (hr.mono (by decide)) (by rfl) T.mg_draft_of T.F_draft_of.kp T.B_draft_of .nil (passes_call (takes_of rfl rfl rfl rfl) fun _ _ _ _ h => h) (pa_cons (pv 1) (pa_nil)))) (pss_cons (ps_fld (pv 0) (pe_meth (pv 2) T.cl_Draft T.me_Draft_names_of (ok_Draft_names_of T) (hr.mono (by decide)) T.B_Draft_names_of .nil pass0 (pa_cons (pe_str) (pa_nil))) rfl) (pss_cons (ps_fld (pv 0) (pe_meth (pv 2) T.cl_Draft T.me_Draft_names_of (ok_Draft_names_of T) (hr.mono (by decide)) T.B_Draft_names_of .nil pass0 (pa_cons (pe_str) (pa_nil))) rfl) (pss_cons (ps_fld (pv 0) (pe_meth (pv 2) T.cl_Draft T.me_Draft_names_of (ok_Draft_names_of T) (hr.mono (by decide)) T.B_Draft_names_of .nil pass0 (pa_cons (pe_str) (pa_nil))) rfl) (pss_cons (ps_fld (pv 0) (pe_meth (pv 2) T.cl_Draft T.me_Draft_names_of (ok_Draft_names_of T) (hr.mono (by decide)) T.B_Draft_names_of .nil pass0 (pa_cons (pe_str) (pa_nil))) rfl) (pss_cons (ps_fld (pv 0) (pe_meth (pv 2) T.cl_Draft T.me_Draft_names_of (ok_Draft_names_of T) (hr.mono (by decide)) T.B_Draft_names_of .nil pass0 (pa_cons (pe_str) (pa_nil))) rfl) (pss_cons (ps_fld (pv 0) (pe_callTy Z.c_tupOf (by rfl) T.z_tuple (by decide +kernel) (pa_cons (pe_fld (pv 2) rfl) (pa_nil))) rfl) (pss_cons (ps_fld (pv 0) (pe_callTy Z.c_tupOf (by rfl) T.z_tuple (by decide +kernel) (pa_cons (pe_fld (pv 2) rfl) (pa_nil))) rfl) (pss_cons (ps_fld (pv 0) (pe_callTy Z.c_tupOf (by rfl) T.z_tuple (by decide +kernel) (pa_cons (pe_lc (own := [("answer", 3)]) (g := gName 3) (tt := tYes) rfl sc_Program___init.nd (pi_list (pe_fld (pv 2) rfl)) (blkOk_by (own := [("answer", 3)]) (N := ["self", "text", "draft", "answer", "line"]) (sc := defScope s_Program___init) (by decide +kernel)) (fun _ _ _ _ _ => pg_name (i := 3) sc_Program___init.nd rfl (.inl rfl)) (fun _ _ _ _ _ => pts_nil) (fun _ _ _ _ _ => Z.pe_fldQ (K := K) rfl (pv 3))) (pa_nil))) rfl) (pss_cons (ps_fld (pv 0) (pe_callTy Z.c_tupOf (by rfl) T.z_tuple (by decide +kernel) (pa_cons (pe_fld (pv 2) rfl) (pa_nil))) rfl) (pss_cons (ps_fld (pv 0) (pe_callTy Z.c_tupOf (by rfl) T.z_tuple (by decide +kernel) (pa_cons (pe_fld (pv 2) rfl) (pa_nil))) rfl) (pss_cons (ps_fld (pv 0) (pe_callTy Z.c_tupOf (by rfl) T.z_tuple (by decide +kernel) (pa_cons (pe_fld (pv 2) rfl) (pa_nil))) rfl) (pss_cons (ps_fld (pv 0) (pe_callTy Z.c_tupOf (by rfl) T.z_tuple (by decide +kernel) (pa_cons (pe_fld (pv 2) rfl) (pa_nil))) rfl) (pss_cons (ps_fld (pv 0) (pe_callB (cr_any rfl) (by rfl) T.z_any (by decide +kernel) (pa_cons (pe_lc (own := [("line", 4)]) (g := gName 4) (tt := tYes) rfl sc_Program___init.nd (pi_tup (pe_fld (pv 0) rfl)) (blkOk_by (own := [("line", 4)]) (N := ["self", "text", "draft", "answer", "line"]) (sc := defScope s_Program___init) (by decide +kernel)) (fun _ _ _ _ _ => pg_name (i := 4) sc_Program___init.nd rfl (.inl rfl)) (fun _ _ _ _ _ => pts_nil) (fun _ _ _ _ _ => pe_cmpR (Z.o_inK (K := K) rfl) (pe_str) (pe_call (ok_tokens_of_n T) (hr.mono (by decide)) (by rfl) T.mg_tokens_of T.F_tokens_of.kp (Classical.choose_spec T.BD_tokens_of).2 (Classical.choose_spec T.BD_tokens_of).1 pass0 (pa_cons (pv 4) (pa_nil))) rfl)) (pa_nil))) rfl) (pss_one (ps_expr (pe_meth0 (pv 0) T.cl_Program T.me_Program__check_limits (ok_Program__check_limits T) (hr.mono (by decide)) T.B_Program__check_limits .nil (passes_call (takes_of rfl rfl rfl rfl) fun _ _ _ _ h => h))))))))))))))))), ?_⟩
    refine Z.r_start (σ' := [some (.ref p), some (x), none, none, none]) rfl ?_
    walk_at "go"
    rcases h with ⟨z, rfl, tz, q⟩ | ⟨t, ty, k1, qr⟩
    · unfold PrOut at q
      refine ⟨_, rfl, .inl ⟨z, rfl, tz.len, tz.lines, tz.each, ?_⟩⟩
      cases er : rdDraft z with
      | out => rw [er] at q; exact q
      | bad k => rw [er] at q; exact q
      | ok s =>
      rw [er] at q
      intro a H0 nS s0 D0 sm
      have gl := rdDraft_sl er tz.each
      have lk := sm.a1
      have hn : (linesOf z).length ≤ 1000 := tz.lines
      have hp0 := s0 _ _ hp
      have b0 : Z.But p H0 H0 := Z.But.refl _
      have h0 := hp0
      dsimp only at q
      -- keeps
      have D1 := D0.butP hp0 b0
      obtain ⟨dx1, hd1⟩ := D1.dx
      walk_at "go"
      refine k_names D1 (by omega) fun k1 G1 n1 s1 e1 => ?_
      have g1 := s1 _ _ h0
      walk_at "go"
      intro H1 c1 h1
      have b1 : Z.But p H0 H1 := b0.trans ((Z.But.same s1).trans c1)
      have d1 : k1 ≠ p := (ne_of_none h0 n1).symm
      replace e1 := c1 _ _ d1 e1
      replace h1 := h1
      clear g1 hd1
      -- flags
      have D2 := D0.butP hp0 b1
      obtain ⟨dx2, hd2⟩ := D2.dx
      walk_at "go"
      refine k_names D2 (by omega) fun k2 G2 n2 s2 e2 => ?_
      have g2 := s2 _ _ h1
      walk_at "go"
      intro H2 c2 h2
      have b2 : Z.But p H0 H2 := b1.trans ((Z.But.same s2).trans c2)
      have d2 : k2 ≠ p := (ne_of_none h1 n2).symm
      replace e2 := c2 _ _ d2 e2
      replace e1 := c2 _ _ d1 (s2 _ _ e1)
      replace h2 := h2
      clear g2 hd2
      -- sums
      have D3 := D0.butP hp0 b2
      obtain ⟨dx3, hd3⟩ := D3.dx
      walk_at "go"
      refine k_names D3 (by omega) fun k3 G3 n3 s3 e3 => ?_
      have g3 := s3 _ _ h2
      walk_at "go"
      intro H3 c3 h3
      have b3 : Z.But p H0 H3 := b2.trans ((Z.But.same s3).trans c3)
      have d3 : k3 ≠ p := (ne_of_none h2 n3).symm
      replace e3 := c3 _ _ d3 e3
      replace e1 := c3 _ _ d1 (s3 _ _ e1)
      replace e2 := c3 _ _ d2 (s3 _ _ e2)
      replace h3 := h3
      clear g3 hd3
      -- counts
      have D4 := D0.butP hp0 b3
      obtain ⟨dx4, hd4⟩ := D4.dx
      walk_at "go"
      refine k_names D4 (by omega) fun k4 G4 n4 s4 e4 => ?_
      have g4 := s4 _ _ h3
      walk_at "go"
      intro H4 c4 h4
      have b4 : Z.But p H0 H4 := b3.trans ((Z.But.same s4).trans c4)
      have d4 : k4 ≠ p := (ne_of_none h3 n4).symm
      replace e4 := c4 _ _ d4 e4
      replace e1 := c4 _ _ d1 (s4 _ _ e1)
      replace e2 := c4 _ _ d2 (s4 _ _ e2)
      replace e3 := c4 _ _ d3 (s4 _ _ e3)
      replace h4 := h4
      clear g4 hd4
      -- places
      have D5 := D0.butP hp0 b4
      obtain ⟨dx5, hd5⟩ := D5.dx
      walk_at "go"
      refine k_names D5 (by omega) fun k5 G5 n5 s5 e5 => ?_
      have g5 := s5 _ _ h4
      walk_at "go"
      intro H5 c5 h5
      have b5 : Z.But p H0 H5 := b4.trans ((Z.But.same s5).trans c5)
      have d5 : k5 ≠ p := (ne_of_none h4 n5).symm
      replace e5 := c5 _ _ d5 e5
      replace e1 := c5 _ _ d1 (s5 _ _ e1)
      replace e2 := c5 _ _ d2 (s5 _ _ e2)
      replace e3 := c5 _ _ d3 (s5 _ _ e3)
      replace e4 := c5 _ _ d4 (s5 _ _ e4)
      replace h5 := h5
      clear g5 hd5
      -- steps
      have D6 := D0.butP hp0 b5
      obtain ⟨dx6, hd6⟩ := D6.dx
      have hl6 := D6.l2
      walk_at "go"
      intro k6 G6 n6 s6 e6
      have g6 := s6 _ _ h5
      walk_at "go"
      intro H6 c6 h6
      have b6 : Z.But p H0 H6 := b5.trans ((Z.But.same s6).trans c6)
      have d6 : k6 ≠ p := (ne_of_none h5 n6).symm
      replace e6 := c6 _ _ d6 e6
      replace e1 := c6 _ _ d1 (s6 _ _ e1)
      replace e2 := c6 _ _ d2 (s6 _ _ e2)
      replace e3 := c6 _ _ d3 (s6 _ _ e3)
      replace e4 := c6 _ _ d4 (s6 _ _ e4)
      replace e5 := c6 _ _ d5 (s6 _ _ e5)
      replace h6 := h6
      clear g6 hd6
      -- statements
      have D7 := D0.butP hp0 b6
      obtain ⟨dx7, hd7⟩ := D7.dx
      have hl7 := D7.l6
      walk_at "go"
      intro k7 G7 n7 s7 e7
      have g7 := s7 _ _ h6
      walk_at "go"
      intro H7 c7 h7
      have b7 : Z.But p H0 H7 := b6.trans ((Z.But.same s7).trans c7)
      have d7 : k7 ≠ p := (ne_of_none h6 n7).symm
      replace e7 := c7 _ _ d7 e7
      replace e1 := c7 _ _ d1 (s7 _ _ e1)
      replace e2 := c7 _ _ d2 (s7 _ _ e2)
      replace e3 := c7 _ _ d3 (s7 _ _ e3)
      replace e4 := c7 _ _ d4 (s7 _ _ e4)
      replace e5 := c7 _ _ d5 (s7 _ _ e5)
      replace e6 := c7 _ _ d6 (s7 _ _ e6)
      replace h7 := h7
      clear g7 hd7
      -- answers
      have D8 := D0.butP hp0 b7
      obtain ⟨dx8, hd8⟩ := D8.dx
      obtain ⟨v4, h4, p4⟩ := D8.l4
      have l4 := paired_len p4
      walk_at "go"
      refine Z.r_lcL (SqL.of h4) (fun _ => rfl) (fun L i H' => Same H7 H' ∧ H' L = some (.lst (((s.answers.take i).map (·.name)).map V.str))) ?_ ?_ ?_ ?_
      · intro L H2 nL s2 h2
        exact ⟨s2, h2⟩
      · rintro L i H2 nL ⟨s2, _⟩
        exact SqL.of (s2 _ _ h4)
      · rintro L i y H2 nL hy ⟨s2, hL⟩
        have li : i < s.answers.length := by rw [← l4]; exact (List.getElem?_eq_some_iff.mp hy).1
        have gi : s.answers[i]? = some (s.answers[i]'li) := List.getElem?_eq_getElem li
        obtain ⟨p', dx', vr', rfl, hp', _⟩ := AnAt.same s2 (paired_get p4 gi hy)
        have la := sm.a3
        walk_at "go"
        refine Z.r_ap hL (by rw [List.length_map, List.length_map, List.length_take]; omega) fun H3 b3 h3 => ⟨Z.But.back s2 nL b3, ?_⟩
        rw [h3, List.take_succ, gi]
        simp only [List.map_append]; rfl
      rintro L H2 nL ⟨s2, hL⟩
      rw [l4, List.take_length] at hL
      walk_at "go"
      intro k8 G8 n8' s8' e8
      have s8 : Same H7 G8 := s2.trans s8'
      have n8 : H7 k8 = none := by
        cases z : H7 k8 with
        | none => rfl
        | some o => rw [s2 _ _ z] at n8'; cases n8'
      have g8 := s8 _ _ h7
      walk_at "go"
      intro H8 c8 h8
      have b8 : Z.But p H0 H8 := b7.trans ((Z.But.same s8).trans c8)
      have d8 : k8 ≠ p := (ne_of_none h7 n8).symm
      replace e8 := c8 _ _ d8 e8
      replace e1 := c8 _ _ d1 (s8 _ _ e1)
      replace e2 := c8 _ _ d2 (s8 _ _ e2)
      replace e3 := c8 _ _ d3 (s8 _ _ e3)
      replace e4 := c8 _ _ d4 (s8 _ _ e4)
      replace e5 := c8 _ _ d5 (s8 _ _ e5)
      replace e6 := c8 _ _ d6 (s8 _ _ e6)
      replace e7 := c8 _ _ d7 (s8 _ _ e7)
      replace h8 := h8
      clear g8 hd8
      -- starts
      have D9 := D0.butP hp0 b8
      obtain ⟨dx9, hd9⟩ := D9.dx
      have hl9 := D9.l1
      walk_at "go"
      intro k9 G9 n9 s9 e9
      have g9 := s9 _ _ h8
      walk_at "go"
      intro H9 c9 h9
      have b9 : Z.But p H0 H9 := b8.trans ((Z.But.same s9).trans c9)
      have d9 : k9 ≠ p := (ne_of_none h8 n9).symm
      replace e9 := c9 _ _ d9 e9
      replace e1 := c9 _ _ d1 (s9 _ _ e1)
      replace e2 := c9 _ _ d2 (s9 _ _ e2)
      replace e3 := c9 _ _ d3 (s9 _ _ e3)
      replace e4 := c9 _ _ d4 (s9 _ _ e4)
      replace e5 := c9 _ _ d5 (s9 _ _ e5)
      replace e6 := c9 _ _ d6 (s9 _ _ e6)
      replace e7 := c9 _ _ d7 (s9 _ _ e7)
      replace e8 := c9 _ _ d8 (s9 _ _ e8)
      replace h9 := h9
      clear g9 hd9
      -- read_statements
      have D10 := D0.butP hp0 b9
      obtain ⟨dx10, hd10⟩ := D10.dx
      obtain ⟨w10, hs10, _⟩ := D0.l3
      have hl10 : H9 a.s3 = some (.lst w10) := b9 _ _ (fun e => by rw [e, hp0] at hs10; cases hs10) hs10
      walk_at "go"
      intro k10 G10 n10 s10 e10
      have g10 := s10 _ _ h9
      walk_at "go"
      intro H10 c10 h10
      have b10 : Z.But p H0 H10 := b9.trans ((Z.But.same s10).trans c10)
      have d10 : k10 ≠ p := (ne_of_none h9 n10).symm
      replace e10 := c10 _ _ d10 e10
      replace e1 := c10 _ _ d1 (s10 _ _ e1)
      replace e2 := c10 _ _ d2 (s10 _ _ e2)
      replace e3 := c10 _ _ d3 (s10 _ _ e3)
      replace e4 := c10 _ _ d4 (s10 _ _ e4)
      replace e5 := c10 _ _ d5 (s10 _ _ e5)
      replace e6 := c10 _ _ d6 (s10 _ _ e6)
      replace e7 := c10 _ _ d7 (s10 _ _ e7)
      replace e8 := c10 _ _ d8 (s10 _ _ e8)
      replace e9 := c10 _ _ d9 (s10 _ _ e9)
      replace h10 := h10
      clear g10 hd10
      -- read_answers
      have D11 := D0.butP hp0 b10
      obtain ⟨dx11, hd11⟩ := D11.dx
      obtain ⟨w11, hs11, _⟩ := D0.l4
      have hl11 : H10 a.s4 = some (.lst w11) := b10 _ _ (fun e => by rw [e, hp0] at hs11; cases hs11) hs11
      walk_at "go"
      intro k11 G11 n11 s11 e11
      have g11 := s11 _ _ h10
      walk_at "go"
      intro H11 c11 h11
      have b11 : Z.But p H0 H11 := b10.trans ((Z.But.same s11).trans c11)
      have d11 : k11 ≠ p := (ne_of_none h10 n11).symm
      replace e11 := c11 _ _ d11 e11
      replace e1 := c11 _ _ d1 (s11 _ _ e1)
      replace e2 := c11 _ _ d2 (s11 _ _ e2)
      replace e3 := c11 _ _ d3 (s11 _ _ e3)
      replace e4 := c11 _ _ d4 (s11 _ _ e4)
      replace e5 := c11 _ _ d5 (s11 _ _ e5)
      replace e6 := c11 _ _ d6 (s11 _ _ e6)
      replace e7 := c11 _ _ d7 (s11 _ _ e7)
      replace e8 := c11 _ _ d8 (s11 _ _ e8)
      replace e9 := c11 _ _ d9 (s11 _ _ e9)
      replace e10 := c11 _ _ d10 (s11 _ _ e10)
      replace h11 := h11
      clear g11 hd11
      -- lines
      have D12 := D0.butP hp0 b11
      obtain ⟨dx12, hd12⟩ := D12.dx
      have hl12 := D12.l5
      walk_at "go"
      intro k12 G12 n12 s12 e12
      have g12 := s12 _ _ h11
      walk_at "go"
      intro H12 c12 h12
      have b12 : Z.But p H0 H12 := b11.trans ((Z.But.same s12).trans c12)
      have d12 : k12 ≠ p := (ne_of_none h11 n12).symm
      replace e12 := c12 _ _ d12 e12
      replace e1 := c12 _ _ d1 (s12 _ _ e1)
      replace e2 := c12 _ _ d2 (s12 _ _ e2)
      replace e3 := c12 _ _ d3 (s12 _ _ e3)
      replace e4 := c12 _ _ d4 (s12 _ _ e4)
      replace e5 := c12 _ _ d5 (s12 _ _ e5)
      replace e6 := c12 _ _ d6 (s12 _ _ e6)
      replace e7 := c12 _ _ d7 (s12 _ _ e7)
      replace e8 := c12 _ _ d8 (s12 _ _ e8)
      replace e9 := c12 _ _ d9 (s12 _ _ e9)
      replace e10 := c12 _ _ d10 (s12 _ _ e10)
      replace e11 := c12 _ _ d11 (s12 _ _ e11)
      replace h12 := h12
      clear g12 hd12
      -- has_before
      have D13 := D0.butP hp0 b12
      obtain ⟨v10, h10, p10⟩ := D13.l3
      obtain ⟨v11, h11, p11⟩ := D13.l4
      walk_at "go"
      refine Z.r_lcT (SqT.of e7) (fun _ => rfl) (fun L i H' => Same H12 H' ∧ H' L = some (.lst (((s.slines.take i).map fun l => decide (("before" : Str) ∈ (toksS l).getD [])).map V.bl))) ?_ ?_ ?_ ?_
      · intro L H2 nL s2 h2
        exact ⟨s2, h2⟩
      · rintro L i H2 nL ⟨s2, _⟩
        exact SqT.of (s2 _ _ e7)
      · rintro L i y H2 nL hy ⟨s2, hL⟩
        rw [List.getElem?_map] at hy
        cases hu : s.slines[i]? with
        | none => rw [hu] at hy; cases hy
        | some l =>
        rw [hu] at hy
        cases hy
        obtain ⟨ll, ts, ets⟩ := gl l (List.mem_of_getElem? hu)
        have li := (List.getElem?_eq_some_iff.mp hu).1
        have la := sm.a6
        obtain ⟨us, eu, ru⟩ := Option.map_eq_some_iff.mp ets
        walk_at "go"
        refine k_tokens_of_n (ls := LET) (Nat.le_trans ll (by decide)) eu fun t0 H3 n3 s3 h3 => ?_
        have h3 : H3 t0 = some (.lst (ts.map V.str)) := by rw [h3, ← ru, List.map_map]; rfl
        have hL3 := s3 _ _ hL
        refine Z.r_inL (SqL.of h3) ?_
        refine Z.r_ap hL3 (by rw [List.length_map, List.length_map, List.length_take]; omega) fun H4 b4 h4 => ⟨Z.But.back (s2.trans s3) nL b4, ?_⟩
        rw [h4, List.take_succ, hu]
        simp only [Option.toList_some, List.map_append, List.map_cons, List.map_nil]
        rw [ets]; rfl
      rintro L H13 nL ⟨s13, hL⟩
      rw [List.length_map, List.take_length] at hL
      walk_at "go"
      refine Z.r_anyB (SqL.of hL) ?_
      have eb : ((s.slines.map fun l => decide (("before" : Str) ∈ (toksS l).getD [])).any id) = hasB s := by
        unfold hasB
        rw [List.any_map]; rfl
      rw [eb]
      have g13 := s13 _ _ h12
      walk_at "go"
      intro H14 c14 h14
      replace e1 := c14 _ _ d1 (s13 _ _ e1)
      replace e2 := c14 _ _ d2 (s13 _ _ e2)
      replace e3 := c14 _ _ d3 (s13 _ _ e3)
      replace e4 := c14 _ _ d4 (s13 _ _ e4)
      replace e5 := c14 _ _ d5 (s13 _ _ e5)
      replace e6 := c14 _ _ d6 (s13 _ _ e6)
      replace e7 := c14 _ _ d7 (s13 _ _ e7)
      replace e8 := c14 _ _ d8 (s13 _ _ e8)
      replace e9 := c14 _ _ d9 (s13 _ _ e9)
      replace e10 := c14 _ _ d10 (s13 _ _ e10)
      replace e11 := c14 _ _ d11 (s13 _ _ e11)
      replace e12 := c14 _ _ d12 (s13 _ _ e12)
      have b14 : Z.But p H0 H14 := b12.trans ((Z.But.same s13).trans c14)
      have D14 := D0.butP hp0 b14
      have P14 : PrAt T.C_Program T.C_Statement T.C_Answer H14 ⟨p, k1, k2, k3, k4, k5, k6, k7, k8, k9, k10, k11, k12⟩ s := by
        refine ⟨⟨dx, h14⟩, e1, e2, e3, e4, e5, e6, e7, e8, e9, ⟨_, e10, ?_⟩, ⟨_, e11, ?_⟩, e12⟩
        · obtain ⟨v, hv, pv⟩ := D14.l3
          obtain rfl : w10 = v := by
            have := b14 _ _ (fun e => by rw [e, hp0] at hs10; cases hs10) hs10
            rw [hv] at this
            cases this; rfl
          exact pv
        · obtain ⟨v, hv, pv⟩ := D14.l4
          obtain rfl : w11 = v := by
            have := b14 _ _ (fun e => by rw [e, hp0] at hs11; cases hs11) hs11
            rw [hv] at this
            cases this; rfl
          exact pv
      walk_at "go"
      refine ⟨p, dx, _, lensOf s, rfl, h14, ?_, ?_⟩
      · intro g hg
        unfold limKs at hg
        simp only [List.mem_cons, List.not_mem_nil, or_false] at hg
        rcases hg with rfl | rfl | rfl | rfl | rfl | rfl | rfl | rfl
        · exact ⟨k1, _, rfl, e1, by rw [List.length_map]; rfl⟩
        · exact ⟨k2, _, rfl, e2, by rw [List.length_map]; rfl⟩
        · exact ⟨k3, _, rfl, e3, by rw [List.length_map]; rfl⟩
        · exact ⟨k4, _, rfl, e4, by rw [List.length_map]; rfl⟩
        · exact ⟨k5, _, rfl, e5, by rw [List.length_map]; rfl⟩
        · exact ⟨k6, _, rfl, e6, by rw [List.length_map]; rfl⟩
        · exact ⟨k7, _, rfl, e7, by rw [List.length_map]; rfl⟩
        · exact ⟨k8, _, rfl, e8, by rw [List.length_map, List.length_map]; rfl⟩
      · cases eo : overAt (lensOf s) limKs with
        | none =>
          rw [eo] at q
          exact fun H15 s15 => q _ H15 (P14.same s15) rfl ((Z.But.same s0).trans (b14.trans (Z.But.same s15)))
        | some g =>
          rw [eo] at q
          dsimp only at q ⊢
          exact q _ ((Z.But.same s0).trans b14)
    · refine ⟨_, rfl, .inr ⟨t, ty, k1, qr⟩⟩

theorem sc_law_source : FnScope ["_law_script", "_law_place", "_law_number", "_law_size", "_law_seed"] ["_law_script", "_law_place"] (defScope s_law_source) := ⟨rfl, rfl, rfl, by decide +kernel, rfl, by decide +kernel, by decide +kernel⟩
def sp_source (K : PySem.W.Frag) : Sp := fun vs H Q _ => ∃ (a : Addr) (ns : List Int) (at_ : Nat), vs = [.ref a, .int at_] ∧ SqL K H a (ns.map V.int) ∧ at_ ≤ 1000 ∧
  ∀ p H', Same H H' → H p = none → Src H' p 0 → Q (.ref p) H'
theorem ok_law_source (T : Top K mg w) : FnOk P w K mg base CX0 1 T.f_law_source T.fd_law_source ["_law_script", "_law_place"] (sp_source K) := by
  refine T.F_law_source.ok sc_law_source (fun vs H Q E h => ?_) (fun cdv A outer s H vs Q E hr h => ?_)
  · obtain ⟨a, ns, at_, rfl, _⟩ := h
    rfl
  · obtain ⟨a, ns, at_, rfl, hS, hat, q⟩ := h
    refine ⟨_, pss_cons (ps_set (i := 2) sc_law_source.nd rfl (.inl rfl) (pe_ifExp (pt_cmpR op_lt (pv 1) (pe_callB Z.c_len (by rfl) T.z_len (by decide +kernel) (pa_cons (pv 0) (pa_nil))) (nomark _)) (pe_ix (Z.ix_seqG (K := K) rfl) (pv 0) (pv 1) (fun _ _ => rfl)) (pe_op op_sub (pe_un un_neg (pv 1)) (pe_int)))) (pss_cons (ps_set (i := 3) sc_law_source.nd rfl (.inl rfl) (pe_callB Z.c_abs (by rfl) T.z_abs (by decide +kernel) (pa_cons (pv 2) (pa_nil)))) (pss_cons (ps_set (i := 4) sc_law_source.nd rfl (.inl rfl) (pe_op op_add (pe_op op_mod (pe_callTy Z.c_int1 (by rfl) T.z_int (by decide +kernel) (pa_cons (pv 2) (pa_nil))) (pe_int)) (pe_op op_mul (pe_int) (pe_op op_add (pv 1) (pe_int))))) (pss_one (ps_ret (pe_disp (pps_cons (pe_str) (pe_ifExp (pt_cmpR op_ge (pv 3) (pe_op op_pow (pe_int) (pe_int)) (nomark _)) (pv 3) (pe_int)) (pps_cons (pe_str) (pv 4) (pps_cons (pe_str) (pe_int) (pps_nil)))) rfl rfl (fun z => by cases z) (by decide)))))), ?_⟩
    refine Z.r_start (σ' := [some (.ref a), some (.int at_), none, none, none]) rfl ?_
    walk_at "go"
    refine Z.join (fun v H' => (∃ c : Int, v = .int c) ∧ H' = H) (fun c M k => ?_) (fun c M k => ?_) (fun v H' hv => ?_)
    · obtain ⟨z, hz⟩ := Z.get_int (ns := ns) (i := at_) (by rw [List.length_map] at c; omega)
      refine' Z.r_op ?_
      walk_at "go"
      exact k _ _ ⟨⟨z, rfl⟩, rfl⟩
    · walk_at "go"
      exact k _ _ ⟨⟨_, rfl⟩, rfl⟩
    · obtain ⟨⟨z, rfl⟩, rfl⟩ := hv
      walk_at "go"
      intro p H1 np s1 hp
      walk_at "go"
      refine Z.join (fun v H'' => (∃ c : Int, v = .int c ∧ 0 ≤ c) ∧ H'' = H1) (fun c M k => ?_) (fun c M k => ?_) (fun v H'' hv => ?_)
      · walk_at "go"
        refine k _ _ ⟨⟨_, rfl, ?_⟩, rfl⟩
        split <;> omega
      · walk_at "go"
        exact k _ _ ⟨⟨0, rfl, Int.le_refl 0⟩, rfl⟩
      · obtain ⟨⟨y, rfl, hy⟩, rfl⟩ := hv
        walk_at "go"
        refine Z.r_dsp [(.inr "rest", .int y), (.inr "seed", .int _), (.inr "turn", .int 0)] hp rfl (Nat.le_of_ble_eq_true rfl) fun H2 b2 h2 => ?_
        walk_at "go"
        exact q _ _ (fun c o e => b2 c o (ne_of_none e np) (s1 _ _ e)) np ⟨_, _, _, h2, hy, by omega, by omega, Int.le_refl 0, Int.le_refl _⟩
theorem sc_law_pick : FnScope ["_law_source_here", "_law_many", "_law_turn", "_law_first", "_law_second", "_law_third", "_law_found"] ["_law_source_here", "_law_many"] (defScope s_law_pick) := ⟨rfl, rfl, rfl, by decide +kernel, rfl, by decide +kernel, by decide +kernel⟩
def sp_pick : Sp := fun vs H Q _ => ∃ (b : Addr) (m : Int) (n : Nat), vs = [.ref b, .int m] ∧ Src H b n ∧ 0 < m ∧ m < 1073741824 ∧ n < 1073741824 ∧
  ∀ r H', 0 ≤ r → r < m → Z.But b H H' → Src H' b (n + 1) → Q (.int r) H'
theorem ok_law_pick (T : Top K mg w) : FnOk P w K mg base CX0 1 T.f_law_pick T.fd_law_pick ["_law_source_here", "_law_many"] sp_pick := by
  refine T.F_law_pick.ok sc_law_pick (fun vs H Q E h => ?_) (fun cdv A outer s H vs Q E hr h => ?_)
  · obtain ⟨b, m, n, rfl, _⟩ := h
    rfl
  · obtain ⟨b, m, n, rfl, ⟨g, sd, k, hb, hg, hs0, hs1, hk0, hk1⟩, hm0, hm1, hn, q⟩ := h
    refine ⟨_, pss_cons (ps_if (pt_cmpR op_gt (pe_dget (hu_of hr) (pv 0) (pe_str) (fun _ _ => rfl)) (pe_int) (nomark _)) (pss_cons (ps_set (i := 6) sc_law_pick.nd rfl (.inl rfl) (pe_op op_mod (pe_callTy Z.c_int1 (by rfl) T.z_int (by decide +kernel) (pa_cons (pe_dget (hu_of hr) (pv 0) (pe_str) (fun _ _ => rfl)) (pa_nil))) (pv 1))) (pss_cons (ps_dput (hu_of hr) (pv 0) (pe_str) (pe_op op_fdiv (pe_dget (hu_of hr) (pv 0) (pe_str) (fun _ _ => rfl)) (pv 1)) rfl) (pss_one (ps_ret (pv 6))))) (pss_nil)) (pss_cons (ps_set (i := 2) sc_law_pick.nd rfl (.inl rfl) (pe_op op_add (pe_dget (hu_of hr) (pv 0) (pe_str) (fun _ _ => rfl)) (pe_int))) (pss_cons (ps_dput (hu_of hr) (pv 0) (pe_str) (pv 2) rfl) (pss_cons (ps_set (i := 3) sc_law_pick.nd rfl (.inl rfl) (pe_op op_mod (pe_callTy Z.c_int1 (by rfl) T.z_int (by decide +kernel) (pa_cons (pe_op op_add (pe_op op_add (pe_op op_mul (pe_dget (hu_of hr) (pv 0) (pe_str) (fun _ _ => rfl)) (pv 2)) (pe_op op_mul (pe_op op_mul (pe_int) (pv 2)) (pv 2))) (pe_int)) (pa_nil))) (pe_int))) (pss_cons (ps_set (i := 4) sc_law_pick.nd rfl (.inl rfl) (pe_op op_mod (pe_callTy Z.c_int1 (by rfl) T.z_int (by decide +kernel) (pa_cons (pe_op op_add (pe_op op_add (pe_op op_mul (pe_op op_mul (pv 3) (pv 3)) (pe_int)) (pe_dget (hu_of hr) (pv 0) (pe_str) (fun _ _ => rfl))) (pe_op op_fdiv (pv 3) (pe_int))) (pa_nil))) (pe_int))) (pss_cons (ps_set (i := 5) sc_law_pick.nd rfl (.inl rfl) (pe_op op_mod (pe_callTy Z.c_int1 (by rfl) T.z_int (by decide +kernel) (pa_cons (pe_op op_add (pe_op op_add (pe_op op_mul (pv 4) (pe_int)) (pe_op op_mul (pv 2) (pe_int))) (pv 3)) (pa_nil))) (pe_int))) (pss_one (ps_ret (pe_op op_mod (pe_callTy Z.c_int1 (by rfl) T.z_int (by decide +kernel) (pa_cons (pe_op op_add (pe_op op_mul (pv 5) (pe_int)) (pe_op op_fdiv (pv 4) (pe_int))) (pa_nil))) (pv 1))))))))), ?_⟩
    refine Z.r_start (σ' := [some (.ref b), some (.int m), none, none, none, none, none]) rfl ?_
    walk_at "go"
    refine Z.r_dgS hb rfl ?_
    walk_at "go"
    refine Z.ways (fun c => ?_) (fun c => ?_)
    · walk_at "go"
      walk_at "dgs"
      walk_at "dgs"
      refine Z.r_dpS hb (Nat.le_of_ble_eq_true rfl) fun H1 b1 h1 => ?_
      walk_at "go"
      refine q _ _ ?_ ?_ b1 ⟨_, _, _, h1, ?_, hs0, hs1, hk0, ?_⟩
      · exact Int.emod_nonneg _ (by omega)
      · exact Int.emod_lt_of_pos _ hm0
      · exact Int.ediv_nonneg hg (by omega)
      · omega
    · walk_at "go"
      walk_at "dgs"
      refine Z.r_dpS hb (Nat.le_of_ble_eq_true rfl) fun H1 b1 h1 => ?_
      replace h1 : H1 b = some (.dK [(.inr "rest", .int g), (.inr "seed", .int sd), (.inr "turn", .int (k + 1))]) := h1
      clear hb
      walk_at "go"
      walk_at "dgs"
      walk_at "dgs"
      refine q _ _ (Int.emod_nonneg _ (by omega)) (Int.emod_lt_of_pos _ hm0) b1 ⟨_, _, _, h1, hg, hs0, hs1, by omega, by omega⟩
theorem k_source {K : PySem.W.Frag} {a : Addr} {ns : List Int} {at_ : Nat} {H : Hp} {Q : VK} {E : XK} (hS : SqL K H a (ns.map V.int)) (h : at_ ≤ 1000) (q : ∀ p H', Same H H' → H p = none → Src H' p 0 → Q (.ref p) H') :
    sp_source K ([.ref a, .int at_] ++ []) H Q E := ⟨a, ns, at_, rfl, hS, h, q⟩
theorem k_turn {b : Addr} {m : Int} {n : Nat} {H : Hp} {Q : VK} {E : XK} (hb : Src H b n) (h0 : 0 < m) (h1 : m < 1073741824) (hn : n < 1073741824) (q : ∀ r H', 0 ≤ r → r < m → Z.But b H H' → Src H' b (n + 1) → Q (.int r) H') :
    sp_pick ([.ref b, .int m] ++ []) H Q E := ⟨b, m, n, rfl, hb, h0, h1, hn, q⟩
theorem sc_law_of : FnScope ["_law_source_here", "_law_some"] ["_law_source_here", "_law_some"] (defScope s_law_of) := ⟨rfl, rfl, rfl, by decide +kernel, rfl, by decide +kernel, by decide +kernel⟩
def sp_of : Sp := fun vs H Q _ => ∃ (b l : Addr) (xs : List V) (n : Nat), vs = [.ref b, .ref l] ∧ Src H b n ∧ n < 1073741824 ∧ H l = some (.lst xs) ∧ 1 ≤ xs.length ∧ xs.length ≤ 1000 ∧ ∀ x H', x ∈ xs → Z.But b H H' → Src H' b (n + 1) → Q x H'
theorem ok_law_of (T : Top K mg w) : FnOk P w K mg base CX0 2 T.f_law_of T.fd_law_of ["_law_source_here", "_law_some"] sp_of := by
  refine T.F_law_of.ok sc_law_of (fun vs H Q E h => ?_) (fun cdv A outer s H vs Q E hr h => ?_)
  · obtain ⟨b, l, xs, n, rfl, _⟩ := h
    rfl
  · obtain ⟨b, l, xs, n, rfl, hb, hn, hl, l1, l2, q⟩ := h
    refine ⟨_, pss_one (ps_ret (pe_ix (Z.ix_seqG (K := K) rfl) (pv 1) (pe_call (ok_law_pick T) (hr.mono (by decide)) (by rfl) T.mg_law_pick T.F_law_pick.kp T.B_law_pick .nil pass0 (pa_cons (pv 0) (pa_cons (pe_callB Z.c_len (by rfl) T.z_len (by decide +kernel) (pa_cons (pv 1) (pa_nil))) (pa_nil)))) (fun _ _ => rfl))), ?_⟩
    refine Z.r_start (σ' := [some (.ref b), some (.ref l)]) rfl ?_
    have nlb : l ≠ b := fun e => by
      obtain ⟨_, _, _, hb1, _⟩ := hb
      rw [e, hb1] at hl; cases hl
    walk_at "go"
    refine k_turn hb (by omega) (by omega) hn fun d H1 d0 d1 t1 g1 => ?_
    obtain ⟨k, rfl⟩ := Int.eq_ofNat_of_zero_le d0
    have hk : k < xs.length := by omega
    refine Z.r_ixL (v := xs[k]) (SqL.of (t1 _ _ nlb hl)) (atI_nat (List.getElem?_eq_getElem hk)) ?_
    exact q _ _ (List.getElem_mem hk) t1 g1
theorem k_of {b l : Addr} {xs : List V} {n : Nat} {H : Hp} {Q : VK} {E : XK} (hb : Src H b n) (hn : n < 1073741824) (hl : H l = some (.lst xs)) (l1 : 1 ≤ xs.length) (l2 : xs.length ≤ 1000) (q : ∀ x H', x ∈ xs → Z.But b H H' → Src H' b (n + 1) → Q x H') :
    sp_of ([.ref b, .ref l] ++ []) H Q E := ⟨b, l, xs, n, rfl, hb, hn, hl, l1, l2, q⟩

theorem sc_law_word : FnScope ["_law_source_here", "_law_size", "_law_turn"] ["_law_source_here"] (defScope s_law_word) := ⟨rfl, rfl, rfl, by decide +kernel, rfl, by decide +kernel, by decide +kernel⟩
def sp_word8 : Sp := fun vs H Q _ => ∃ (b : Addr) (n : Nat), vs = [.ref b] ∧ Src H b n ∧ n < 1073741000 ∧ ∀ (x : Str) (H' : Hp), Word x → Z.But b H H' → Src H' b (n + 9) → Q (.str x) H'
theorem ok_law_word (T : Top K mg w) : FnOk P w K mg base CX0 2 T.f_law_word T.fd_law_word ["_law_source_here"] sp_word8 := by
  refine T.F_law_word.ok sc_law_word (fun vs H Q E h => ?_) (fun cdv A outer s H vs Q E hr h => ?_)
  · obtain ⟨b, n, rfl, _⟩ := h
    rfl
  · obtain ⟨b, n, rfl, hb, hn, q⟩ := h
    refine ⟨_, pss_cons (ps_set (i := 1) sc_law_word.nd rfl (.inl rfl) (pe_op op_add (pe_int) (pe_call (ok_law_pick T) (hr.mono (by decide)) (by rfl) T.mg_law_pick T.F_law_pick.kp T.B_law_pick .nil pass0 (pa_cons (pv 0) (pa_cons (pe_int) (pa_nil)))))) (pss_one (ps_ret (pe_join (pe_str) (pe_lc (own := [("_law_turn", 2)]) (g := gName 2) (tt := tYes) rfl sc_law_word.nd (pi_range1 (by rfl) T.z_range (pa_cons (pv 1) (pa_nil))) (blkOk_by (own := [("_law_turn", 2)]) (N := ["_law_source_here", "_law_size", "_law_turn"]) (sc := defScope s_law_word) (by decide +kernel)) (fun _ _ _ _ _ => pg_name (i := 2) sc_law_word.nd rfl (.inl rfl)) (fun _ _ _ _ _ => pts_nil) (fun _ _ _ _ _ => pe_ix (Z.ix_seqG (K := K) rfl) (pe_str) (pe_call (ok_law_pick T) (hr.mono (by decide)) (by rfl) T.mg_law_pick T.F_law_pick.kp T.B_law_pick .nil pass0 (pa_cons (pv 0) (pa_cons (pe_int) (pa_nil)))) (fun _ _ => rfl)))))), ?_⟩
    refine Z.r_start (σ' := [some (.ref b), none, none]) rfl ?_
    walk_at "go"
    refine k_turn hb (by omega) (by omega) (by omega) fun j H1 j0 j1 t1 g1 => ?_
    walk_at "go"
    refine Z.r_lcR (by omega) (by omega) (fun _ => rfl) (fun D i H' => D ≠ b ∧ ∃ ys : List Str, H' D = some (.lst (ys.map V.str)) ∧ ys.length = i ∧ (∀ y ∈ ys, One y) ∧ Z.But b H H' ∧ Src H' b (n + 1 + i)) ?_ ?_ ?_
    · intro D H2 nD s2 h2
      exact ⟨g1.ne nD, [], h2, rfl, (fun y hy => by cases hy), t1.trans (Z.But.same s2), g1.same s2⟩
    · rintro D i H2 nD hi ⟨nDb, ys, h2, ly, oy, t2, g2⟩
      walk_at "go"
      refine k_turn g2 (by omega) (by omega) (by omega) fun d H3 d0 d1 t3 g3 => ?_
      obtain ⟨k, rfl⟩ := Int.eq_ofNat_of_zero_le d0
      have al : ∀ k, k < 26 → ("abcdefghijklmnopqrstuvwxyz" : Str).cps.toList[k]? = some (97 + k) := by decide +kernel
      have k26 : k < 26 := by omega
      refine Z.r_ixS (by decide +kernel) (atI_nat (al k k26)) ?_
      refine Z.r_ap (t3 _ _ nDb h2) (by rw [List.length_map]; omega) fun H4 t4 h4 => ?_
      refine ⟨nDb, ys ++ [⟨#[97 + k]⟩], by rw [h4, List.map_append]; rfl, by rw [List.length_append, ly]; rfl, (fun y hy => ?_), (fun b' o n e => t4 _ _ (ne_of_none (t1 _ _ n e) nD) (t3 _ _ n (t2 _ _ n e))), g3.but t4 nDb.symm⟩
      rcases List.mem_append.mp hy with hy | hy
      · exact oy y hy
      · exact ⟨97 + k, List.mem_singleton.mp hy, by omega, by omega⟩
    · rintro D H2 nD ⟨nDb, ys, h2, ly, oy, t2, g2⟩
      walk_at "go"
      obtain ⟨o1, o2, o3⟩ := one_join oy
      have l0 : ("" : Str).length = 0 := by decide +kernel
      refine ⟨_, D, ys, rfl, rfl, .inl (SqL.of h2), by rw [o1, l0]; omega, q _ _ ⟨?_, ?_, o3⟩ t2 (g2.mono (by omega))⟩
      · show 1 ≤ (Txt.join ("" : Str) ys).cps.size
        rw [← Array.length_toList, show (Txt.join ("" : Str) ys).cps.toList = TL.tl (Txt.join ("" : Str) ys) from rfl, o2]
        omega
      · show (Txt.join ("" : Str) ys).cps.size ≤ 8
        rw [← Array.length_toList, show (Txt.join ("" : Str) ys).cps.toList = TL.tl (Txt.join ("" : Str) ys) from rfl, o2]
        omega
theorem k_word8 {b : Addr} {n : Nat} {H : Hp} {Q : VK} {E : XK} (hb : Src H b n) (hn : n < 1073741000) (q : ∀ (x : Str) (H' : Hp), Word x → Z.But b H H' → Src H' b (n + 9) → Q (.str x) H') :
    sp_word8 ([.ref b] ++ []) H Q E := ⟨b, n, rfl, hb, hn, q⟩
theorem sc_law_reserved : FnScope ["_law_text"] [] (defScope s_law_reserved) := ⟨rfl, rfl, rfl, by decide +kernel, rfl, by decide +kernel, by decide +kernel⟩
def sp_res : Sp := fun vs H Q _ => vs = [] ∧ ∀ p H', Same H H' → H p = none → H' p = some (.lst (resWs.map V.str)) → Q (.ref p) H'
theorem ok_law_reserved (T : Top K mg w) : FnOk P w K mg base CX0 1 T.f_law_reserved T.fd_law_reserved [] sp_res := by
  refine T.F_law_reserved.ok sc_law_reserved (fun vs H Q E h => ?_) (fun cdv A outer s H vs Q E hr h => ?_)
  · obtain ⟨rfl, _⟩ := h
    rfl
  · obtain ⟨rfl, q⟩ := h
    refine ⟨_, pss_cons (ps_set (i := 0) sc_law_reserved.nd rfl (.inl rfl) (pe_str)) (pss_one (ps_ret (Z.pe_bmK (K := K) rfl PySem.F.plainAttrs_str PySem.F.slot_str_split PySem.F.type_str_split mt_split (pe_op Z.o_addS (pv 0) (pe_str)) (pa_cons (pe_str) (pa_nil))))), ?_⟩
    refine Z.r_start (σ' := [none]) rfl ?_
    walk_at "go"
    first
      | (refine Z.r_bmS ?_; walk_at "go")
      | skip
    refine ⟨_, _, rfl, rfl, by decide +kernel, ?_⟩
    first
      | (refine Z.r_tyS ?_; walk_at "go")
      | walk_at "go"
    refine ⟨_, _, rfl, rfl, by decide +kernel, by decide +kernel, fun p np => ?_⟩
    refine q p _ (Z.same_upd np) np ?_
    rw [L2.upd_same]
    have e : Txt.split ((("x before nothing here min max if else and or not in is told by skip leave set keep flag sum count place steps" : Str)) ++ (" drop fill hold shift answer" : Str)) (" " : Str) = resWs := by decide +kernel
    rw [e]

theorem sc_law_fate : FnScope ["_law_lines", "e"] ["_law_lines"] (defScope s_law_fate) := ⟨rfl, rfl, rfl, by decide +kernel, rfl, by decide +kernel, by decide +kernel⟩
def sp_fate : Sp := fun vs H Q _ => ∃ (l : Addr) (ls : List Str), vs = [.ref l] ∧ H l = some (.lst (ls.map V.str)) ∧ LinesOk ls ∧
  (match rdLs ls with | .out => False | .bad k => ∀ H', Same H H' → Q (.int (k : Int)) H' | .ok s => overAt (lensOf s) limKs = none ∧ ∀ H', Same H H' → Q (.int (-2)) H')
theorem ok_law_fate (T : Top K mg w) : FnOk P w K mg base CX0 66 T.f_law_fate T.fd_law_fate ["_law_lines"] sp_fate := by
  refine T.F_law_fate.ok sc_law_fate (fun vs H Q E h => ?_) (fun cdv A outer s H vs Q E hr h => ?_)
  · obtain ⟨l, ls, rfl, _⟩ := h
    rfl
  · obtain ⟨l, ls, rfl, hl, lo, q⟩ := h
    refine ⟨_, pss_cons (ps_try_as (i := 1) rfl rfl sc_law_fate.nd rfl rfl ⟨rfl, by decide, .inl T.mgC_BadProgram⟩ takes0 (fun W pn xe tk _ => pss_one (ps_expr (Z.pe_makeAt T.mk_Program (ok_Program___init T) (hr.mono (by decide)) (by rfl) T.mgC_Program T.B_Program___init (fun σ => passAt tk σ) (pa_cons (Z.pe_joinK (K := K) rfl (pe_str) (pv 0)) (pa_nil))))) (fun a oe cls d pn hz hf => pss_one (ps_ret (pe_xf ⟨T.ex_BadProgram.ga, T.ex_BadProgram.gt, T.ex_BadProgram.sb, T.ex_BadProgram.hd⟩ T.no_BadProgram_line hz hf (pv 1))))) (pss_one (ps_ret (pe_un un_neg (pe_int)))), ?_⟩
    refine Z.r_start (σ' := [some (.ref l), none]) rfl ?_
    refine Z.r_seq ?_
    dsimp only
    walk_at "go"
    have n10 : ("\n" : Str).length = 1 := by decide +kernel
    refine (Z.r_join (K := K) hl (by have := lo.sum; have := lo.n; rw [n10]; omega) ?_ : Z.jnR K _ _ _ _)
    walk_at "go"
    refine r_mkPr rfl lo.text ?_
    unfold PrOut
    rw [rdDraft_ls, lo.split]
    cases er : rdLs ls with
    | out => rw [er] at q; exact q
    | bad k =>
      rw [er] at q
      intro d H' n s' hd
      refine ⟨true, Z.exm_self T.ex_BadProgram, fun _ e ne => ?_, fun z => Bool.noConfusion z⟩
      dsimp only
      walk_at "go"
      exact q _ s'
    | ok st =>
      rw [er] at q
      obtain ⟨q1, q2⟩ := q
      dsimp only
      rw [q1]
      intro a H' P na s'
      walk_at "go"
      exact q2 _ s'
theorem k_fate {l : Addr} {ls : List Str} {H : Hp} {Q : VK} {E : XK} (hl : H l = some (.lst (ls.map V.str))) (lo : LinesOk ls) (q : match rdLs ls with | .out => False | .bad k => ∀ H', Same H H' → Q (.int (k : Int)) H' | .ok s => overAt (lensOf s) limKs = none ∧ ∀ H', Same H H' → Q (.int (-2)) H') :
    sp_fate ([.ref l] ++ []) H Q E := ⟨l, ls, rfl, hl, lo, q⟩
theorem k_fateB {l : Addr} {ls : List Str} {k : Nat} {H : Hp} {Q : VK} {E : XK} (hl : H l = some (.lst (ls.map V.str))) (lo : LinesOk ls) (e : rdLs ls = .bad k) (q : ∀ H', Same H H' → Q (.int (k : Int)) H') : sp_fate ([.ref l] ++ []) H Q E := k_fate hl lo (by rw [e]; exact q)
theorem k_fateO {l : Addr} {ls : List Str} {H : Hp} {Q : VK} {E : XK} (hl : H l = some (.lst (ls.map V.str))) (lo : LinesOk ls) (e : ∃ s, rdLs ls = .ok s ∧ overAt (lensOf s) limKs = none) (q : ∀ H', Same H H' → Q (.int (-2)) H') : sp_fate ([.ref l] ++ []) H Q E := by
  obtain ⟨s, e, o⟩ := e
  exact k_fate hl lo (by rw [e]; exact ⟨o, q⟩)
theorem k_res {H : Hp} {Q : VK} {E : XK} (q : ∀ p H', Same H H' → H p = none → H' p = some (.lst (resWs.map V.str)) → Q (.ref p) H') : sp_res [] H Q E := ⟨rfl, q⟩
theorem sc_law_free : FnScope ["_law_source_here", "_law_word_here"] ["_law_source_here"] (defScope s_law_free) := ⟨rfl, rfl, rfl, by decide +kernel, rfl, by decide +kernel, by decide +kernel⟩
theorem q_free : ∀ z ∈ resWs, (Tx.tl z).getLast? ≠ some 113 := by decide +kernel
theorem cut_to (x : Str) (n : Nat) : Tx.tl (cutS x none (some (n : Int))) = (Tx.tl x).take n := by
  show ((Tx.tl x).drop (HT.sIx x.length 0 none)).take (HT.sIx x.length x.length (some (n : Int)) - HT.sIx x.length 0 none) = _
  rw [HT.sIx_nat]
  show ((Tx.tl x).drop 0).take (min n x.length - 0) = _
  rw [List.drop_zero, Nat.sub_zero, Tx.tl_len]
  rw [List.take_eq_take_iff]; omega
theorem cut_from (x : Str) (n : Nat) : Tx.tl (cutS x (some (n : Int)) none) = (Tx.tl x).drop n := by
  show ((Tx.tl x).drop (HT.sIx x.length 0 (some (n : Int)))).take (x.length - HT.sIx x.length 0 (some (n : Int))) = _
  rw [HT.sIx_nat, List.take_of_length_le (by rw [List.length_drop, Tx.tl_len]; exact Nat.le_refl _)]
  by_cases c : n ≤ x.length
  · rw [Nat.min_eq_left c]
  · rw [Nat.min_eq_right (by omega), List.drop_of_length_le (by rw [Tx.tl_len]; exact Nat.le_refl _), List.drop_of_length_le (by rw [← Tx.tl_len]; omega)]
def sp_free : Sp := fun vs H Q _ => ∃ (b : Addr) (n : Nat), vs = [.ref b] ∧ Src H b n ∧ n < 1073740000 ∧ ∀ (x : Str) (H' : Hp), Word x → x ∉ resWs → Z.But b H H' → Src H' b (n + 9) → Q (.str x) H'
theorem ok_law_free (T : Top K mg w) : FnOk P w K mg base CX0 3 T.f_law_free T.fd_law_free ["_law_source_here"] sp_free := by
  refine T.F_law_free.ok sc_law_free (fun vs H Q E h => ?_) (fun cdv A outer s H vs Q E hr h => ?_)
  · obtain ⟨b, n, rfl, _⟩ := h
    rfl
  · obtain ⟨b, n, rfl, hb, hn, q⟩ := h
    refine ⟨_, pss_cons (ps_set (i := 1) sc_law_free.nd rfl (.inl rfl) (pe_call (ok_law_word T) (hr.mono (by decide)) (by rfl) T.mg_law_word T.F_law_word.kp T.B_law_word .nil pass0 (pa_cons (pv 0) (pa_nil)))) (pss_one (ps_ret (pe_ifExp (pt_cmpR op_notIn_seq (pv 1) (pe_call0 (ok_law_reserved T) (hr.mono (by decide)) (by rfl) T.mg_law_reserved T.F_law_reserved.kp T.B_law_reserved .nil pass0) rfl) (pv 1) (pe_op Z.o_addS (pe_slice sl_str (pv 1) po_none (po_some (pe_int))) (pe_str))))), ?_⟩
    refine Z.r_start (σ' := [some (.ref b), none]) rfl ?_
    walk_at "go"
    refine k_word8 hb (by omega) fun x H1 hx b1 g1 => ?_
    walk_at "go"
    refine k_res fun p H2 s2 np hp => ?_
    refine Z.r_ninL (SqL.of hp) ?_
    have b2 := b1.trans (Z.But.same s2)
    have g2 := g1.same s2
    walk_at "go"
    refine Z.waysN (fun c => ?_) (fun c => ?_)
    · walk_at "go"
      exact q x H2 hx c b2 g2
    · walk_at "go"
      refine Z.r_slSt (Nat.le_trans hx.2.1 (by decide)) ?_
      walk_at "go"
      have ec := cut_to x 4
      have l4 : (cutS x none (some (4 : Int))).length ≤ 4 := by
        rw [Tx.tl_len]
        show (Tx.tl (cutS x none (some ((4 : Nat) : Int)))).length ≤ 4
        rw [ec, List.length_take]; omega
      have lq : ("q" : Str).length = 1 := by decide +kernel
      have eq : Tx.tl ("q" : Str) = [113] := by decide +kernel
      refine Z.r_addS (Z.szle (by rw [lq]; omega)) ?_
      refine q _ H2 ⟨?_, ?_, ?_⟩ ?_ b2 g2
      · rw [Tx.tl_len, tl_app, eq, List.length_append]; show 1 ≤ _ + 1; omega
      · rw [Tx.tl_len, tl_app, eq, List.length_append, ← Tx.tl_len]; show _ + 1 ≤ 8; omega
      · intro c hc
        have hc : c ∈ Tx.tl (cutS x none (some ((4 : Nat) : Int)) ++ ("q" : Str)) := hc
        rw [tl_app, ec, eq] at hc
        rcases List.mem_append.mp hc with hc | hc
        · exact hx.2.2 c (List.mem_of_mem_take hc)
        · rw [List.mem_singleton.mp hc]; omega
      · intro m
        refine q_free _ m ?_
        rw [tl_app, eq, List.getLast?_append]; rfl
theorem k_free {b : Addr} {n : Nat} {H : Hp} {Q : VK} {E : XK} (hb : Src H b n) (hn : n < 1073740000) (q : ∀ (x : Str) (H' : Hp), Word x → x ∉ resWs → Z.But b H H' → Src H' b (n + 9) → Q (.str x) H') : sp_free ([.ref b] ++ []) H Q E := ⟨b, n, rfl, hb, hn, q⟩
theorem sc_law_wrong : FnScope ["_law_source_here", "_law_word_here", "_law_way", "_law_at"] ["_law_source_here", "_law_word_here"] (defScope s_law_wrong) := ⟨rfl, rfl, rfl, by decide +kernel, rfl, by decide +kernel, by decide +kernel⟩
def sp_wrong : Sp := fun vs H Q _ => ∃ (b : Addr) (n : Nat) (w : Str), vs = [.ref b, .str w] ∧ Src H b n ∧ n < 1073740000 ∧ Word w ∧ w ∉ resWs ∧ ∀ (x : Str) (H' : Hp), Wrong x → Z.But b H H' → Src H' b (n + 9) → Q (.str x) H'
theorem z_reps (m : Nat) : Tx.tl (Z.repS ("z" : Str) m) = List.replicate m 122 := by
  have ez : ("z" : Str).cps.toList = [122] := by decide +kernel
  show (Z.repS ("z" : Str) m).cps.toList = _
  rw [Z.repS_tl, ez]
  induction m with
  | zero => rfl
  | succ k ih => rw [List.replicate_succ, List.flatten_cons, ih]; rfl
theorem res_wrong : ∀ z ∈ resWs, Wrong z := by
  intro z hz
  have h : ∀ z ∈ resWs, Tx.tl z ≠ [] ∧ (∀ c ∈ Tx.tl z, 97 ≤ c ∧ c ≤ 122) ∧ z.length ≤ 40 := by decide +kernel
  obtain ⟨h1, h2, h3⟩ := h z hz
  refine .inl ⟨h1, h2, ?_, h3⟩
  unfold isName
  rw [res_eq, decide_eq_false (fun n => n hz), Bool.and_false]
theorem ok_law_wrong (T : Top K mg w) : FnOk P w K mg base CX0 3 T.f_law_wrong T.fd_law_wrong ["_law_source_here", "_law_word_here"] sp_wrong := by
  refine T.F_law_wrong.ok sc_law_wrong (fun vs H Q E h => ?_) (fun cdv A outer s H vs Q E hr h => ?_)
  · obtain ⟨b, n, w, rfl, _⟩ := h
    rfl
  · obtain ⟨b, n, w, rfl, hb, hn, hw, hr0, q⟩ := h
    refine ⟨_, pss_cons (ps_set (i := 2) sc_law_wrong.nd rfl (.inl rfl) (pe_call (ok_law_pick T) (hr.mono (by decide)) (by rfl) T.mg_law_pick T.F_law_pick.kp T.B_law_pick .nil pass0 (pa_cons (pv 0) (pa_cons (pe_int) (pa_nil))))) (pss_cons (ps_if (pt_cmpR op_eq (pv 2) (pe_int) (nomark _)) (pss_one (ps_ret (pe_call (ok_law_of T) (hr.mono (by decide)) (by rfl) T.mg_law_of T.F_law_of.kp T.B_law_of .nil pass0 (pa_cons (pv 0) (pa_cons (pe_call0 (ok_law_reserved T) (hr.mono (by decide)) (by rfl) T.mg_law_reserved T.F_law_reserved.kp T.B_law_reserved .nil pass0) (pa_nil)))))) (pss_nil)) (pss_cons (ps_if (pt_cmpR op_eq (pv 2) (pe_int) (nomark _)) (pss_one (ps_ret (pe_op Z.o_addS (pe_op Z.o_addS (pv 1) (pe_str)) (pe_op Z.op_repA (pe_str) (pe_call (ok_law_pick T) (hr.mono (by decide)) (by rfl) T.mg_law_pick T.F_law_pick.kp T.B_law_pick .nil pass0 (pa_cons (pv 0) (pa_cons (pe_int) (pa_nil)))))))) (pss_nil)) (pss_cons (ps_set (i := 3) sc_law_wrong.nd rfl (.inl rfl) (pe_op op_add (pe_int) (pe_call (ok_law_pick T) (hr.mono (by decide)) (by rfl) T.mg_law_pick T.F_law_pick.kp T.B_law_pick .nil pass0 (pa_cons (pv 0) (pa_cons (pe_callB Z.c_lenS (by rfl) T.z_len (by decide +kernel) (pa_cons (pv 1) (pa_nil))) (pa_nil)))))) (pss_one (ps_ret (pe_op Z.o_addS (pe_op Z.o_addS (pe_op Z.o_addS (pe_slice sl_str (pv 1) po_none (po_some (pv 3))) (pe_call (ok_law_of T) (hr.mono (by decide)) (by rfl) T.mg_law_of T.F_law_of.kp T.B_law_of .nil pass0 (pa_cons (pv 0) (pa_cons (pe_lst (pa_cons (pe_str) (pa_cons (pe_str) (pa_cons (pe_str) (pa_cons (pe_str) (pa_cons (pe_str) (pa_cons (pe_str) (pa_cons (pe_str) (pa_cons (pe_str) (pa_nil)))))))))) (pa_nil))))) (pe_slice sl_str (pv 1) (po_some (pv 3)) po_none)) (pe_str))))))), ?_⟩
    refine Z.r_start (σ' := [some (.ref b), some (.str w), none, none]) rfl ?_
    have lw := hw.2.1
    walk_at "go"
    refine k_turn hb (by omega) (by omega) (by omega) fun j H1 j0 j1 t1 g1 => ?_
    walk_at "go"
    refine Z.ways (fun c => ?_) (fun c => ?_)
    · walk_at "go"
      refine k_res fun p H2 s2 np hp => ?_
      walk_at "go"
      refine k_of (g1.same s2) (by omega) hp (by decide) (by decide) fun x H3 hx t3 g3 => ?_
      obtain ⟨z, hz, rfl⟩ := List.mem_map.mp hx
      exact q z H3 (res_wrong z hz) (t1.trans ((Z.But.same s2).trans t3)) (g3.mono (by omega))
    · walk_at "go"
      refine Z.ways (fun c2 => ?_) (fun c2 => ?_)
      · have l8 : ("abcdefgh" : Str).length = 8 := by decide +kernel
        have lz : ("z" : Str).length = 1 := by decide +kernel
        have ez : ("z" : Str).cps.toList = [122] := by decide +kernel
        walk_at "go"
        refine Z.r_addS (Z.szle (by omega)) ?_
        walk_at "go"
        refine k_turn g1 (by omega) (by omega) (by omega) fun i H2 i0 i1 t2 g2 => ?_
        obtain ⟨m, rfl⟩ := Int.eq_ofNat_of_zero_le i0
        refine Z.r_repA rfl (by omega) lz ?_
        walk_at "go"
        have e1 : Tx.tl ((w ++ ("abcdefgh" : Str)) ++ Z.repS ("z" : Str) m) = Tx.tl w ++ Tx.tl ("abcdefgh" : Str) ++ List.replicate m 122 := by
          rw [tl_app, tl_app]
          rw [z_reps]
        have e8 : Tx.tl ("abcdefgh" : Str) = [97, 98, 99, 100, 101, 102, 103, 104] := by decide +kernel
        have lw1 := hw.1
        rw [Tx.tl_len] at lw lw1
        have le : ((w ++ ("abcdefgh" : Str)) ++ Z.repS ("z" : Str) m).length = (Tx.tl w).length + 8 + m := by
          rw [Tx.tl_len, e1, List.length_append, List.length_append, e8, List.length_replicate]; rfl
        refine Z.r_addS (Z.szle ?_) ?_
        · have e2 : (w ++ ("abcdefgh" : Str)).length = (Tx.tl w).length + 8 := by rw [Tx.tl_len, tl_app, List.length_append, e8]; rfl
          rw [e2, Z.repS_len, lz]; omega
        · refine q _ H2 (.inl ⟨?_, ?_, ?_, by rw [le]; omega⟩) (t1.trans t2) (g2.mono (by omega))
          · intro e
            rw [e1, e8] at e
            simp at e
          · rw [e1, e8]
            intro x hx
            rcases List.mem_append.mp hx with hx | hx
            · rcases List.mem_append.mp hx with hx | hx
              · exact hw.2.2 x hx
              · have h8 : ∀ x ∈ ([97, 98, 99, 100, 101, 102, 103, 104] : List Nat), 97 ≤ x ∧ x ≤ 122 := by decide
                exact h8 x hx
            · rw [(List.mem_replicate.mp hx).2]; omega
          · unfold isName
            cases z : Tx.isWordB ((w ++ ("abcdefgh" : Str)) ++ Z.repS ("z" : Str) m) with
            | false => rfl
            | true =>
              have := ((Tx.isWord_iff _).mp z).2.1
              rw [le] at this
              omega
      · walk_at "go"
        refine Z.r_lenSS (by omega) ?_
        walk_at "go"
        have lw1 := hw.1
        refine k_turn g1 (by omega) (by omega) (by omega) fun i H2 i0 i1 t2 g2 => ?_
        obtain ⟨m, rfl⟩ := Int.eq_ofNat_of_zero_le i0
        walk_at "go"
        refine Z.r_slSt (by omega) ?_
        walk_at "go"
        intro p H3 np s3 hp
        walk_at "go"
        refine k_of (xs := (["0", "1", "7", "_", "-", "A", ".", " "] : List Str).map V.str) (g2.same s3) (by omega) hp (by decide) (by decide) fun x H4 hx t4 g4 => ?_
        obtain ⟨z, hz, rfl⟩ := List.mem_map.mp hx
        walk_at "go"
        have hz2 : ∀ z ∈ (["0", "1", "7", "_", "-", "A", ".", " "] : List Str), z.length = 1 ∧ ∃ c ∈ ([48, 49, 55, 95, 45, 65, 46, 32] : List Nat), Tx.tl z = [c] := by decide +kernel
        obtain ⟨z1, c0, hc0, ez⟩ := hz2 z hz
        have em : (1 : Int) + (m : Int) = ((m + 1 : Nat) : Int) := by omega
        rw [em]
        have ea := cut_to w (m + 1)
        have eb := cut_from w (m + 1)
        have la : (cutS w none (some ((m + 1 : Nat) : Int))).length ≤ 8 := by rw [Tx.tl_len, ea, List.length_take, ← Tx.tl_len]; omega
        have lb : (cutS w (some ((m + 1 : Nat) : Int)) none).length ≤ 8 := by rw [Tx.tl_len, eb, List.length_drop, ← Tx.tl_len]; omega
        have ladd : ∀ a b : Str, (a ++ b).length = a.length + b.length := fun a b => by rw [Tx.tl_len, tl_app, List.length_append, ← Tx.tl_len, ← Tx.tl_len]
        refine Z.r_addS (Z.szle (by omega)) ?_
        walk_at "go"
        refine Z.r_slSt (by omega) ?_
        walk_at "go"
        refine Z.r_addS (Z.szle (by rw [ladd]; omega)) ?_
        walk_at "go"
        have l1 : ("b" : Str).length = 1 := by decide +kernel
        have e1 : Tx.tl ("b" : Str) = [98] := by decide +kernel
        refine Z.r_addS (Z.szle (by rw [ladd, ladd, l1]; omega)) ?_
        refine q _ H4 (.inr ⟨(Tx.tl w).take (m + 1), (Tx.tl w).drop (m + 1) ++ [98], c0, ?_, ?_, ?_, ?_, ?_, hc0, by rw [ladd, ladd, ladd, l1]; omega⟩) (t1.trans (t2.trans ((Z.But.same s3).trans t4))) (g4.mono (by omega))
        · rw [tl_app, tl_app, tl_app, ea, eb, ez, e1]; simp
        · intro e
          have := congrArg List.length e
          rw [List.length_take, ← Tx.tl_len] at this
          simp at this
          omega
        · simp
        · exact fun x hx => hw.2.2 x (List.mem_of_mem_take hx)
        · intro x hx
          rcases List.mem_append.mp hx with hx | hx
          · exact hw.2.2 x (List.mem_of_mem_drop hx)
          · rw [List.mem_singleton.mp hx]; omega
theorem k_wrong {b : Addr} {n : Nat} {w : Str} {H : Hp} {Q : VK} {E : XK} (hb : Src H b n) (hn : n < 1073740000) (hw : Word w) (hr : w ∉ resWs) (q : ∀ (x : Str) (H' : Hp), Wrong x → Z.But b H H' → Src H' b (n + 9) → Q (.str x) H') : sp_wrong ([.ref b, .str w] ++ []) H Q E := ⟨b, n, w, rfl, hb, hn, hw, hr, q⟩

theorem sc_law : FnScope ["_law_script", "_law_place", "_law_source_here", "_law_sorts", "_law_longer", "_law_both", "_law_tables", "_law_word_here", "_law_sort", "_law_other", "_law_wrong_here", "_law_last", "_law_one"] ["_law_script"] (defScope s_law) := ⟨rfl, rfl, rfl, by decide +kernel, rfl, by decide +kernel, by decide +kernel⟩
def sp_law (K : PySem.W.Frag) : Sp := fun vs H Q _ => ∃ (a : Addr) (ns : List Int), vs = [.ref a] ∧ SqL K H a (ns.map V.int) ∧ ns.length ≤ 63 ∧ ∀ H', Q (.bl true) H'
theorem ok_law (T : Top K mg w) : FnOk P w K mg base CX0 67 T.f_law T.fd_law ["_law_script"] (sp_law K) := by
  refine T.F_law.ok sc_law (fun vs H Q E h => ?_) (fun cdv A outer s H vs Q E hr h => ?_)
  · obtain ⟨a, ns, rfl, _⟩ := h
    rfl
  · obtain ⟨a, ns, rfl, hS, hlen, q⟩ := h
    refine ⟨_, pss_cons (ps_for PassesOwn.never rfl (pi_range1 (by rfl) T.z_range (pa_cons (pe_callB (Z.c_max2 rfl) (by rfl) T.z_max (by decide +kernel) (pa_cons (pe_int) (pa_cons (pe_callB (Z.c_min2 rfl) (by rfl) T.z_min (by decide +kernel) (pa_cons (pe_int) (pa_cons (pe_callB Z.c_len (by rfl) T.z_len (by decide +kernel) (pa_cons (pv 0) (pa_nil))) (pa_nil)))) (pa_nil)))) (pa_nil))) (pg_name (i := 1) sc_law.nd rfl (.inl rfl)) (pss_cons (ps_set (i := 2) sc_law.nd rfl (.inl rfl) (pe_call (ok_law_source T) (hr.mono (by decide)) (by rfl) T.mg_law_source T.F_law_source.kp T.B_law_source .nil pass0 (pa_cons (pv 0) (pa_cons (pv 1) (pa_nil))))) (pss_cons (ps_set (i := 3) sc_law.nd rfl (.inl rfl) (pe_lst (pa_cons (pe_str) (pa_cons (pe_str) (pa_cons (pe_str) (pa_cons (pe_str) (pa_cons (pe_str) (pa_nil)))))))) (pss_cons (ps_par3 (i := 7) (j := 8) (l := 9) rfl sc_law.nd rfl rfl rfl (by decide) (by decide) (by decide) rfl rfl rfl (pa_cons (pe_call (ok_law_free T) (hr.mono (by decide)) (by rfl) T.mg_law_free T.F_law_free.kp T.B_law_free .nil pass0 (pa_cons (pv 2) (pa_nil))) (pa_cons (pe_call (ok_law_of T) (hr.mono (by decide)) (by rfl) T.mg_law_of T.F_law_of.kp T.B_law_of .nil pass0 (pa_cons (pv 2) (pa_cons (pv 3) (pa_nil)))) (pa_cons (pe_call (ok_law_of T) (hr.mono (by decide)) (by rfl) T.mg_law_of T.F_law_of.kp T.B_law_of .nil pass0 (pa_cons (pv 2) (pa_cons (pv 3) (pa_nil)))) (pa_nil)))) (by rfl)) (pss_cons (ps_par (i := 10) (j := 11) rfl sc_law.nd rfl rfl (by decide) rfl rfl (pa_cons (pe_call (ok_law_wrong T) (hr.mono (by decide)) (by rfl) T.mg_law_wrong T.F_law_wrong.kp T.B_law_wrong .nil pass0 (pa_cons (pv 2) (pa_cons (pv 7) (pa_nil)))) (pa_cons (pe_lst (pa_cons (pe_op Z.o_addS (pe_op Z.o_addS (pe_str) (pe_call (ok_law_free T) (hr.mono (by decide)) (by rfl) T.mg_law_free T.F_law_free.kp T.B_law_free .nil pass0 (pa_cons (pv 2) (pa_nil)))) (pe_str)) (pa_nil))) (pa_nil))) (by rfl)) (pss_cons (ps_set (i := 4) sc_law.nd rfl (.inl rfl) (pe_ifExp (pt_cmpR op_lt (pe_callB Z.c_lenS (by rfl) T.z_len (by decide +kernel) (pa_cons (pv 7) (pa_nil))) (pe_int) (nomark _)) (pe_op Z.o_addS (pv 7) (pe_str)) (pe_slice sl_str (pv 7) po_none (po_some (pe_int))))) (pss_cons (ps_if (pt_cmpR op_in_seq (pv 4) (pe_call0 (ok_law_reserved T) (hr.mono (by decide)) (by rfl) T.mg_law_reserved T.F_law_reserved.kp T.B_law_reserved .nil pass0) rfl) (pss_one (ps_set (i := 4) sc_law.nd rfl (.inl rfl) (pe_str))) (pss_nil)) (pss_cons (ps_if ((pw_or (pt_cmpR op_ne (pe_call (ok_law_fate T) (hr.mono (by decide)) (by rfl) T.mg_law_fate T.F_law_fate.kp T.B_law_fate .nil pass0 (pa_cons (pe_op op_cat (pe_lst (pa_cons (pe_op Z.o_addS (pe_op Z.o_addS (pv 8) (pe_str)) (pv 10)) (pa_nil))) (pv 11)) (pa_nil))) (pe_int) (nomark _)) (pw_or1 (pt_cmpR op_ne (pe_call (ok_law_fate T) (hr.mono (by decide)) (by rfl) T.mg_law_fate T.F_law_fate.kp T.B_law_fate .nil pass0 (pa_cons (pe_lst (pa_cons (pe_op Z.o_addS (pe_op Z.o_addS (pe_str) (pv 10)) (pe_str)) (pa_nil))) (pa_nil))) (pe_int) (nomark _)))).pt) (pss_one (ps_ret (pe_bl))) (pss_nil)) (pss_cons (ps_if ((pw_or (pt_cmpR op_ne (pe_call (ok_law_fate T) (hr.mono (by decide)) (by rfl) T.mg_law_fate T.F_law_fate.kp T.B_law_fate .nil pass0 (pa_cons (pe_op op_cat (pe_lst (pa_cons (pe_op Z.o_addS (pe_op Z.o_addS (pe_str) (pv 10)) (pe_str)) (pa_nil))) (pv 11)) (pa_nil))) (pe_int) (nomark _)) (pw_or1 (pt_cmpR op_ne (pe_call (ok_law_fate T) (hr.mono (by decide)) (by rfl) T.mg_law_fate T.F_law_fate.kp T.B_law_fate .nil pass0 (pa_cons (pe_op op_cat (pe_lst (pa_cons (pe_op Z.o_addS (pe_op Z.o_addS (pv 8) (pe_str)) (pv 7)) (pa_cons (pe_op Z.o_addS (pe_op Z.o_addS (pv 9) (pe_str)) (pv 7)) (pa_nil)))) (pv 11)) (pa_nil))) (pe_int) (nomark _)))).pt) (pss_one (ps_ret (pe_bl))) (pss_nil)) (pss_cons (ps_if (pt_cmpR op_ne (pe_call (ok_law_fate T) (hr.mono (by decide)) (by rfl) T.mg_law_fate T.F_law_fate.kp T.B_law_fate .nil pass0 (pa_cons (pe_op op_cat (pe_lst (pa_cons (pe_op Z.o_addS (pe_op Z.o_addS (pe_str) (pv 7)) (pe_str)) (pa_cons (pe_op Z.o_addS (pe_op Z.o_addS (pv 9) (pe_str)) (pv 7)) (pa_nil)))) (pv 11)) (pa_nil))) (pe_int) (nomark _)) (pss_one (ps_ret (pe_bl))) (pss_nil)) (pss_cons (ps_if ((pw_and (pt_cmpR op_ne (pv 4) (pv 7) (nomark _)) (pw_and1 (pt_cmpR op_ne (pe_call (ok_law_fate T) (hr.mono (by decide)) (by rfl) T.mg_law_fate T.F_law_fate.kp T.B_law_fate .nil pass0 (pa_cons (pe_op op_cat (pe_lst (pa_cons (pe_op Z.o_addS (pe_op Z.o_addS (pv 8) (pe_str)) (pv 7)) (pa_cons (pe_op Z.o_addS (pe_op Z.o_addS (pv 9) (pe_str)) (pv 4)) (pa_nil)))) (pv 11)) (pa_nil))) (pe_un un_neg (pe_int)) (nomark _)))).pt) (pss_one (ps_ret (pe_bl))) (pss_nil)) (pss_cons (ps_set (i := 5) sc_law.nd rfl (.inl rfl) (pe_make T.mk_Program (ok_Program___init T) (hr.mono (by decide)) (by rfl) T.mgC_Program T.B_Program___init .nil (E := E0) (passes_call takes0 fun _ _ _ _ h => h) (pa_cons (pe_join (pe_str) (pe_lst (pa_cons (pe_op Z.o_addS (pe_op Z.o_addS (pv 8) (pe_str)) (pv 7)) (pa_cons (pe_op Z.o_addS (pe_op Z.o_addS (pe_str) (pv 7)) (pe_str)) (pa_nil))))) (pa_nil)))) (pss_cons (ps_set (i := 6) sc_law.nd rfl (.inl rfl) (pe_lst (pa_cons (pe_fld (pv 5) rfl) (pa_cons (pe_fld (pv 5) rfl) (pa_cons (pe_fld (pv 5) rfl) (pa_cons (pe_fld (pv 5) rfl) (pa_cons (pe_fld (pv 5) rfl) (pa_nil)))))))) (pss_cons (ps_if ((pw_or (pt_cmpR (op_neD hr.units) (pe_fld (pv 5) rfl) (pe_tup (pa_cons (pv 7) (pa_nil))) (nomark _)) (pw_or (pt_cmpR (op_neD hr.units) (pe_ix (Z.ix_seqG (K := K) rfl) (pv 6) (pe_bm PySem.F.plainAttrs_list PySem.F.slot_list_index PySem.F.type_list_index (mt_indexD (Z.hu65 hr)) (pv 3) (pa_cons (pv 8) (pa_nil))) (fun _ _ => rfl)) (pe_tup (pa_cons (pv 7) (pa_nil))) (nomark _)) (pw_or1 (pt_cmpR op_ne (pe_callB (cr_sum rfl) (by rfl) T.z_sum (by decide +kernel) (pa_cons (pe_lc (own := [("_law_one", 12)]) (g := gName 12) (tt := tYes) rfl sc_law.nd (pi_list (pv 6)) (blkOk_by (own := [("_law_one", 12)]) (N := ["_law_script", "_law_place", "_law_source_here", "_law_sorts", "_law_longer", "_law_both", "_law_tables", "_law_word_here", "_law_sort", "_law_other", "_law_wrong_here", "_law_last", "_law_one"]) (sc := defScope s_law) (by decide +kernel)) (fun _ _ _ _ _ => pg_name (i := 12) sc_law.nd rfl (.inl rfl)) (fun _ _ _ _ _ => pts_nil) (fun _ _ _ _ _ => pe_callB (Z.c_lenK' (K := K) rfl) (by rfl) T.z_len (by decide +kernel) (pa_cons (pv 12) (pa_nil)))) (pa_nil))) (pe_int) (nomark _))))).pt) (pss_one (ps_ret (pe_bl))) (pss_nil)) (pss_one (ps_if (pt_cmpR op_lt (pe_call (ok_law_fate T) (hr.mono (by decide)) (by rfl) T.mg_law_fate T.F_law_fate.kp T.B_law_fate .nil pass0 (pa_cons (pe_op op_cat (pv 11) (pe_lst (pa_cons (pe_op Z.o_addS (pe_op Z.o_addS (pe_str) (pv 7)) (pe_str)) (pa_cons (pe_op Z.o_addS (pe_op Z.o_addS (pe_str) (pv 7)) (pe_str)) (pa_nil))))) (pa_nil))) (pe_int) (nomark _)) (pss_one (ps_ret (pe_bl))) (pss_nil))))))))))))))))) (pss_one (ps_ret (pe_bl))), ?_⟩
    refine Z.r_start (σ' := [some (.ref a), none, none, none, none, none, none, none, none, none, none, none, none]) rfl ?_
    have c1 : (" " : Str).length = 1 := by decide +kernel
    have c7 : ("answer " : Str).length = 7 := by decide +kernel
    have c5 : ("keep " : Str).length = 5 := by decide +kernel
    have c4 : (" = 0" : Str).length = 4 := by decide +kernel
    have c10 : (" = nothing" : Str).length = 10 := by decide +kernel
    have cq : ("q" : Str).length = 1 := by decide +kernel
    walk_at "goA"
    refine Z.r_rng (Z.turns _ 8 (by decide) (by decide)).1 (Z.turns _ 8 (by decide) (by decide)).2 (fun i σ' H' => Same H H' ∧ ∃ v1 v2 v3 v4 v5 v6 v7 v8 v9 v10 v11 v12, σ' = [some (.ref a), v1, v2, v3, v4, v5, v6, v7, v8, v9, v10, v11, v12]) ?_ ?_ ?_
    · exact ⟨Same.refl H, _, _, _, _, _, _, _, _, _, _, _, _, rfl⟩
    · rintro i σ' H0 hi ⟨s0, v1, v2, v3, v4, v5, v6, v7, v8, v9, v10, v11, v12, rfl⟩
      have hi8 := Int.lt_of_lt_of_le hi (Z.turns_le _ 8 (by decide))
      walk_at "goA"
      refine k_source (s0.seq hS) (by omega) fun b H1 s1 nb g1 => ?_
      walk_at "goA"
      intro so H2 nso s2 hso
      have g2 := g1.same s2
      have nsob : so ≠ b := g1.ne nso
      walk_at "goA"
      refine k_free g2 (by omega) fun w H3 hw hwr t3 g3 => ?_
      have hso := t3 _ _ nsob hso
      walk_at "goA"
      refine k_of (xs := KND.map V.str) g3 (by omega) hso (by decide) (by decide) fun x H4 hx t4 g4 => ?_
      obtain ⟨g, hg, rfl⟩ := List.mem_map.mp hx
      have hso := t4 _ _ nsob hso
      walk_at "goA"
      refine k_of (xs := KND.map V.str) g4 (by omega) hso (by decide) (by decide) fun x H5 hx t5 g5 => ?_
      obtain ⟨o, ho, rfl⟩ := List.mem_map.mp hx
      have hso := t5 _ _ nsob hso
      have lw := hw.2.1
      have lg := (Pc.sort hg).1
      have lo := (Pc.sort ho).1
      walk_at "goA"
      refine k_wrong g5 (by omega) hw hwr fun x H6 hx t6 g6 => ?_
      have hso := t6 _ _ nsob hso
      have lx := hx.len
      walk_at "goA"
      refine k_free g6 (by omega) fun n H7 hn hnr t7 g7 => ?_
      have hso := t7 _ _ nsob hso
      have ln := hn.2.1
      walk_at "goA"
      intro la H8 nla s8 hla
      have hso := s8 _ _ hso
      have s08 : Same H H8 := by
        have nbH : H b = none := by
          cases z : H b with
          | none => rfl
          | some o => rw [s0 _ _ z] at nb; cases nb
        have u2 : Same H H2 := s0.trans (s1.trans s2)
        exact (Z.But.back u2 nbH (t3.trans (t4.trans (t5.trans (t6.trans t7))))).trans s8
      walk_at "toseq"
      refine Z.r_asg (Z.via (R := fun v H' => H8 = H' ∧ ∃ y : Str, v = .str y ∧ Word y) (fun M k => ?_) ?_)
      · walk_at "goA"
        refine Z.r_lenSS (by omega) ?_
        walk_at "goA"
        refine Z.ways (fun c => ?_) (fun c => ?_)
        · walk_at "goA"
          exact k _ _ ⟨rfl, _, rfl, word_q hw (by omega)⟩
        · walk_at "goA"
          refine Z.r_slSt (by omega) ?_
          exact k _ _ ⟨rfl, _, rfl, word_7 hw (cut_to w 7)⟩
      rintro _ _ ⟨rfl, y, rfl, hy⟩
      walk_at "toseq"
      refine Z.viaS (fun σ' H' => Same H8 H' ∧ ∃ y : Str, Word y ∧ y ∉ resWs ∧ σ' = [some (.ref a), some (.int i), some (.ref b), some (.ref so), some (.str y), v5, v6, some (.str w), some (.str g), some (.str o), some (.str x), some (.ref la), v12]) (fun D' kk => ?_) ?_
      · walk_at "goA"
        refine k_res fun p H9 s9 np hp => ?_
        refine Z.r_inL (SqL.of hp) ?_
        walk_at "goA"
        refine Z.ways (fun c => ?_) (fun c => ?_)
        · walk_at "goA"
          exact kk _ _ ⟨s9, _, word_qqqq.1, word_qqqq.2, rfl⟩
        · walk_at "goA"
          exact kk _ _ ⟨s9, y, hy, c, rfl⟩
      rintro σ' H9 ⟨s9, y, hy, hyr, rfl⟩
      have hla := s9 _ _ hla
      have hso := s9 _ _ hso
      have s09 := s08.trans s9
      have ly := hy.2.1
      have lol : LinesOk [("answer " : Str) ++ n ++ (" = 0" : Str)] := lo1 ((Pc.ans.app (Pc.word hn)).app Pc.e0) (by decide)
      -- a wrong name of a register
      walk_at "goA"
      intro p1 H10 n1 s10 hp1
      have hla := s10 _ _ hla
      walk_at "goA"
      intro p2 H11 n2 s11 hp2
      walk_at "goA"
      refine k_fateB (ls := [g ++ (" " : Str) ++ x, ("answer " : Str) ++ n ++ (" = 0" : Str)]) hp2 (lo_cons (((Pc.sort hg).app Pc.sp).app (Pc.wrong hx)) (by decide) lol (by show 1 ≤ 59; decide)) (rdLs_bad0 (wrong_reg hg rfl hx (t := []) (ts := []) (.inl ⟨rfl, rfl⟩) (by rw [sp_tl, List.append_nil]))) fun H12 s12 => ?_
      have s912 := s10.trans (s11.trans s12)
      have hla := s12 _ _ (s11 _ _ hla)
      have hso := s912 _ _ hso
      walk_at "goA"
      -- of an answer
      intro p3 H13 n3 s13 hp3
      walk_at "goA"
      refine k_fateB (ls := [("answer " : Str) ++ x ++ (" = 0" : Str)]) hp3 (lo1 ((Pc.ans.app (Pc.wrong hx)).app Pc.e0) (by decide)) (rdLs_bad0 (wrong_ans hx)) fun H14 s14 => ?_
      have s914 := s912.trans (s13.trans s14)
      have hla := s14 _ _ (s13 _ _ hla)
      have hso := s14 _ _ (s13 _ _ hso)
      walk_at "goA"
      -- of a keep that begins with 0
      intro p4 H15 n4 s15 hp4
      have hla := s15 _ _ hla
      walk_at "goA"
      intro p5 H16 n5 s16 hp5
      walk_at "goA"
      refine k_fateB (ls := [("keep " : Str) ++ x ++ (" = 0" : Str), ("answer " : Str) ++ n ++ (" = 0" : Str)]) hp5 (lo_cons ((Pc.kp.app (Pc.wrong hx)).app Pc.e0) (by decide) lol (by show 1 ≤ 59; decide)) (rdLs_bad0 (wrong_reg (g := "keep") (by decide) rfl hx (.inr ⟨rfl, rfl⟩) (keep_tl x))) fun H17 s17 => ?_
      have s917 := s914.trans (s15.trans (s16.trans s17))
      have hla := s17 _ _ (s16 _ _ hla)
      have hso := s17 _ _ (s16 _ _ (s15 _ _ hso))
      walk_at "goA"
      -- a name twice
      intro p6 H18 n6 s18 hp6
      have hla := s18 _ _ hla
      walk_at "goA"
      intro p7 H19 n7 s19 hp7
      walk_at "goA"
      refine k_fateB (ls := [g ++ (" " : Str) ++ w, o ++ (" " : Str) ++ w, ("answer " : Str) ++ n ++ (" = 0" : Str)]) hp7 (lo_cons (((Pc.sort hg).app Pc.sp).app (Pc.word hw)) (by decide) (lo_cons (((Pc.sort ho).app Pc.sp).app (Pc.word hw)) (by decide) lol (by show 1 ≤ 59; decide)) (by show 2 ≤ 59; decide)) (f_twice hg ho hw hwr) fun H20 s20 => ?_
      have s920 := s917.trans (s18.trans (s19.trans s20))
      have hla := s20 _ _ (s19 _ _ hla)
      have hso := s20 _ _ (s19 _ _ (s18 _ _ hso))
      walk_at "goA"
      intro p8 H21 n8 s21 hp8
      have hla := s21 _ _ hla
      walk_at "goA"
      intro p9 H22 n9 s22 hp9
      walk_at "goA"
      refine k_fateB (ls := [("keep " : Str) ++ w ++ (" = 0" : Str), o ++ (" " : Str) ++ w, ("answer " : Str) ++ n ++ (" = 0" : Str)]) hp9 (lo_cons ((Pc.kp.app (Pc.word hw)).app Pc.e0) (by decide) (lo_cons (((Pc.sort ho).app Pc.sp).app (Pc.word hw)) (by decide) lol (by show 1 ≤ 59; decide)) (by show 2 ≤ 59; decide)) (f_keep ho hw hwr) fun H23 s23 => ?_
      have s923 := s920.trans (s21.trans (s22.trans s23))
      have hla := s23 _ _ (s22 _ _ hla)
      have hso := s23 _ _ (s22 _ _ (s21 _ _ hso))
      walk_at "toseq"
      -- a name beside another
      refine Z.viaS (fun σ' H' => Same H23 H' ∧ σ' = [some (.ref a), some (.int i), some (.ref b), some (.ref so), some (.str y), v5, v6, some (.str w), some (.str g), some (.str o), some (.str x), some (.ref la), v12]) (fun D' kk => ?_) ?_
      · walk_at "goA"
        refine Z.waysN (fun c => ?_) (fun c => ?_)
        · walk_at "goA"
          intro p1 H24 n1 s24 hp1
          have hla := s24 _ _ hla
          walk_at "goA"
          intro p2 H25 n2 s25 hp2
          walk_at "goA"
          refine k_fateO (ls := [g ++ (" " : Str) ++ w, o ++ (" " : Str) ++ y, ("answer " : Str) ++ n ++ (" = 0" : Str)]) hp2 (lo_cons (((Pc.sort hg).app Pc.sp).app (Pc.word hw)) (by decide) (lo_cons (((Pc.sort ho).app Pc.sp).app (Pc.word hy)) (by decide) lol (by show 1 ≤ 59; decide)) (by show 2 ≤ 59; decide)) (f_two hg ho hw hwr hy hyr c hn hnr) fun H26 s26 => ?_
          walk_at "goA"
          exact kk _ _ ⟨s24.trans (s25.trans s26), rfl⟩
        · walk_at "goA"
          exact kk _ _ ⟨Same.refl _, rfl⟩
      rintro σ' H24 ⟨s24, rfl⟩
      have hla := s24 _ _ hla
      have hso := s24 _ _ hso
      have s924 := s923.trans s24
      -- what the program tells
      walk_at "goA"
      intro p10 H25 n10 s25 hp10
      walk_at "goA"
      have lob : LinesOk [g ++ (" " : Str) ++ w, ("answer " : Str) ++ w ++ (" = 0" : Str)] := lo_cons (((Pc.sort hg).app Pc.sp).app (Pc.word hw)) (by decide) (lo1 ((Pc.ans.app (Pc.word hw)).app Pc.e0) (by decide)) (by show 1 ≤ 59; decide)
      have n10l : ("\n" : Str).length = 1 := by decide +kernel
      refine ⟨_, _, [g ++ (" " : Str) ++ w, ("answer " : Str) ++ w ++ (" = 0" : Str)], rfl, rfl, .inl (SqL.of hp10), by have := lob.sum; have := lob.n; rw [n10l]; omega, ?_⟩
      walk_at "goA"
      obtain ⟨s, es, eo, ek, ea⟩ := f_both hg hw hwr
      refine r_mkPrI rfl lob.text ?_
      unfold PrOut
      rw [rdDraft_ls, lob.split, es]
      dsimp only
      rw [eo]
      intro pa H26 P npa s26
      obtain ⟨⟨dx, h0⟩, h1, h2, h3, h4, h5, h6, h7, h8, _⟩ := P
      rw [ea] at h8
      walk_at "goA"
      intro tb H27 ntb s27 htb
      have h0 := s27 _ _ h0
      have h1 := s27 _ _ h1
      have h2 := s27 _ _ h2
      have h3 := s27 _ _ h3
      have h4 := s27 _ _ h4
      have h5 := s27 _ _ h5
      have h8 := s27 _ _ h8
      have hla := s27 _ _ (s26 _ _ (s25 _ _ hla))
      have hso := s27 _ _ (s26 _ _ (s25 _ _ hso))
      walk_at "goA"
      intro tw H28 ntw s28 htw
      have h1 := s28 _ _ h1
      have h2 := s28 _ _ h2
      have h3 := s28 _ _ h3
      have h4 := s28 _ _ h4
      have h5 := s28 _ _ h5
      have hla := s28 _ _ hla
      have hso := s28 _ _ hso
      have htb := s28 _ _ htb
      refine neStr hw (s28 _ _ h8) htw ?_
      walk_at "goA"
      obtain ⟨j, j5, hj, hno⟩ := k17_idx hg
      refine r_idxK (SqL.of hso) hg hj hno ?_
      walk_at "goA"
      have cell : ∃ k : Addr, ([pa.k1, pa.k2, pa.k3, pa.k4, pa.k5].map V.ref)[j]? = some (.ref k) ∧ H28 k = some (.tup ((namesOf s g).map V.str)) := by
        match j, j5, hj with
        | 0, _, hj => cases hj; exact ⟨_, rfl, h1⟩
        | 1, _, hj => cases hj; exact ⟨_, rfl, h2⟩
        | 2, _, hj => cases hj; exact ⟨_, rfl, h3⟩
        | 3, _, hj => cases hj; exact ⟨_, rfl, h4⟩
        | 4, _, hj => cases hj; exact ⟨_, rfl, h5⟩
      obtain ⟨kc, hkc, hcell⟩ := cell
      rw [k17_name ek] at hcell
      refine Z.r_ixL (v := .ref kc) (SqL.of htb) (atI_nat hkc) ?_
      walk_at "goA"
      intro tv H29 ntv s29 htv
      have htb := s29 _ _ htb
      have hla := s29 _ _ hla
      refine neStr hw (s29 _ _ hcell) htv ?_
      have h1 := s29 _ _ h1
      have h2 := s29 _ _ h2
      have h3 := s29 _ _ h3
      have h4 := s29 _ _ h4
      have h5 := s29 _ _ h5
      walk_at "goA"
      refine Z.r_lcL (SqL.of htb) (fun _ => rfl) (fun L i H' => Same H29 H' ∧ H' L = some (.lst ((([((namesOf s "keep").length : Int), (namesOf s "flag").length, (namesOf s "sum").length, (namesOf s "count").length, (namesOf s "place").length] : List Int).take i).map V.int))) ?_ ?_ ?_ ?_
      · intro L H2 nL s2 h2
        exact ⟨s2, h2⟩
      · rintro L i H2 nL ⟨s2, _⟩
        exact SqL.of (s2 _ _ htb)
      · rintro L i u H2 nL hu ⟨s2, hL⟩
        have hu5 : ∃ (k : Addr) (ns : List Str), u = .ref k ∧ H2 k = some (.tup (ns.map V.str)) ∧ ([((namesOf s "keep").length : Int), (namesOf s "flag").length, (namesOf s "sum").length, (namesOf s "count").length, (namesOf s "place").length] : List Int)[i]? = some (ns.length : Int) := by
          have li := (List.getElem?_eq_some_iff.mp hu).1
          have li : i < 5 := li
          match i, li, hu with
          | 0, _, hu => cases hu; exact ⟨_, _, rfl, s2 _ _ h1, rfl⟩
          | 1, _, hu => cases hu; exact ⟨_, _, rfl, s2 _ _ h2, rfl⟩
          | 2, _, hu => cases hu; exact ⟨_, _, rfl, s2 _ _ h3, rfl⟩
          | 3, _, hu => cases hu; exact ⟨_, _, rfl, s2 _ _ h4, rfl⟩
          | 4, _, hu => cases hu; exact ⟨_, _, rfl, s2 _ _ h5, rfl⟩
        obtain ⟨k, ns, rfl, hk, hi⟩ := hu5
        walk_at "goA"
        refine Z.r_ap hL (by rw [List.length_map, List.length_take]; show _ ≤ _; simp; omega) fun H3 b3 h3 => ⟨Z.But.back s2 nL b3, ?_⟩
        rw [h3, List.length_map, List.take_succ, hi, List.map_append]; rfl
      rintro L H30 nL ⟨s30, hL⟩
      have hL : H30 L = some (.lst (([((namesOf s "keep").length : Int), (namesOf s "flag").length, (namesOf s "sum").length, (namesOf s "count").length, (namesOf s "place").length] : List Int).map V.int)) := hL
      have hla := s30 _ _ hla
      walk_at "goA"
      refine Z.r_sumI' (SqL.of hL) ?_
      rw [k17_sum hg ek]
      walk_at "goA"
      intro p11 H31 n11 s31 hp11
      have hla := s31 _ _ hla
      walk_at "goA"
      intro p12 H32 n12 s32 hp12
      walk_at "goA"
      obtain ⟨kb, kb1, ekb⟩ := f_again hw hwr hn hnr
      refine k_fateB (ls := [("answer " : Str) ++ n ++ (" = 0" : Str), ("answer " : Str) ++ w ++ (" = 0" : Str), ("answer " : Str) ++ w ++ (" = nothing" : Str)]) hp12 (lo_cons ((Pc.ans.app (Pc.word hn)).app Pc.e0) (by decide) (lo_cons ((Pc.ans.app (Pc.word hw)).app Pc.e0) (by decide) (lo1 ((Pc.ans.app (Pc.word hw)).app Pc.eN) (by decide)) (by show 1 ≤ 59; decide)) (by show 2 ≤ 59; decide)) ekb fun H33 s33 => ?_
      walk_at "goA"
      refine Z.ways (fun c => absurd c (by omega)) (fun c => ?_)
      walk_at "goA"
      exact ⟨s09.trans (s924.trans (s25.trans (s26.trans (s27.trans (s28.trans (s29.trans (s30.trans (s31.trans (s32.trans s33))))))))), _, _, _, _, _, _, _, _, _, _, _, _, rfl⟩
    · rintro σ' H0 ⟨s0, v1, v2, v3, v4, v5, v6, v7, v8, v9, v10, v11, v12, rfl⟩
      walk_at "goA"
      exact q _

end
theorem all_mk {l : PySem.W.OpenLaw} {w : World} {K : PySem.W.Frag} {h : Heap} {mg : Str → Option Value} {fa : Addr} (X : K.In h) (G : h.Ns mainGlobals mg) (hfa : mg "law" = some (.ref fa)) {C_Answer C_BadProgram C_Draft C_Program C_Reader C_Statement C_TooMany C_WrongLine f_is_word f_token_at f_tokens_of f_Reader___init f_Reader_peek f_Reader_take f_Reader_skip_if f_Reader_expect f_Reader_expect_end f_Reader_kind_of f_Reader_read_name f_Reader_read_term f_Reader__sum_atom f_Reader__terms_in_brackets f_Reader__term_atom f_Reader__part f_Reader__atom f_Reader_read_test f_Statement___init f_Answer___init f_place_action f_sum_action f_action f_statement f_read_statement f_result f_read_answer f_are_apart f_written f_is_name f_step f_Draft__enter_part f_Draft__read_register f_Draft__read_steps f_Draft__read_answer f_Draft_read_line f_Draft___init f_Draft_names_of f_BadProgram___init f_draft_of f_TooMany___init f_Program__check_limits f_Program___init f_law_source f_law_pick f_law_of f_law_word f_law_reserved f_law_fate f_law_free f_law_wrong f_law : Addr}
    {od_is_word an_is_word : Option Addr} {sl_is_word : Array (Option Value)} {oc_is_word kV_is_word dc_is_word pm_is_word cd_is_word ct_is_word : Value}
    {od_token_at an_token_at : Option Addr} {sl_token_at : Array (Option Value)} {oc_token_at kV_token_at dc_token_at pm_token_at cd_token_at ct_token_at : Value}
    {od_tokens_of an_tokens_of : Option Addr} {sl_tokens_of : Array (Option Value)} {oc_tokens_of kV_tokens_of dc_tokens_of pm_tokens_of cd_tokens_of ct_tokens_of : Value}
    {dT_tokens_of : Addr} {do_tokens_of : Value} {dd_tokens_of : Option Addr} {dn_tokens_of : Nat} {ds_tokens_of : Array (Option Value)} {dt_tokens_of_0 : Tok}
    {od_Reader___init an_Reader___init : Option Addr} {sl_Reader___init : Array (Option Value)} {oc_Reader___init kV_Reader___init dc_Reader___init pm_Reader___init cd_Reader___init ct_Reader___init : Value}
    {od_Reader_peek an_Reader_peek : Option Addr} {sl_Reader_peek : Array (Option Value)} {oc_Reader_peek kV_Reader_peek dc_Reader_peek pm_Reader_peek cd_Reader_peek ct_Reader_peek : Value}
    {od_Reader_take an_Reader_take : Option Addr} {sl_Reader_take : Array (Option Value)} {oc_Reader_take kV_Reader_take dc_Reader_take pm_Reader_take cd_Reader_take ct_Reader_take : Value}
    {od_Reader_skip_if an_Reader_skip_if : Option Addr} {sl_Reader_skip_if : Array (Option Value)} {oc_Reader_skip_if kV_Reader_skip_if dc_Reader_skip_if pm_Reader_skip_if cd_Reader_skip_if ct_Reader_skip_if : Value}
    {od_Reader_expect an_Reader_expect : Option Addr} {sl_Reader_expect : Array (Option Value)} {oc_Reader_expect kV_Reader_expect dc_Reader_expect pm_Reader_expect cd_Reader_expect ct_Reader_expect : Value}
    {od_Reader_expect_end an_Reader_expect_end : Option Addr} {sl_Reader_expect_end : Array (Option Value)} {oc_Reader_expect_end kV_Reader_expect_end dc_Reader_expect_end pm_Reader_expect_end cd_Reader_expect_end ct_Reader_expect_end : Value}
    {od_Reader_kind_of an_Reader_kind_of : Option Addr} {sl_Reader_kind_of : Array (Option Value)} {oc_Reader_kind_of kV_Reader_kind_of dc_Reader_kind_of pm_Reader_kind_of cd_Reader_kind_of ct_Reader_kind_of : Value}
    {od_Reader_read_name an_Reader_read_name : Option Addr} {sl_Reader_read_name : Array (Option Value)} {oc_Reader_read_name kV_Reader_read_name dc_Reader_read_name pm_Reader_read_name cd_Reader_read_name ct_Reader_read_name : Value}
    {od_Reader_read_term an_Reader_read_term : Option Addr} {sl_Reader_read_term : Array (Option Value)} {oc_Reader_read_term kV_Reader_read_term dc_Reader_read_term pm_Reader_read_term cd_Reader_read_term ct_Reader_read_term : Value}
    {od_Reader__sum_atom an_Reader__sum_atom : Option Addr} {sl_Reader__sum_atom : Array (Option Value)} {oc_Reader__sum_atom kV_Reader__sum_atom dc_Reader__sum_atom pm_Reader__sum_atom cd_Reader__sum_atom ct_Reader__sum_atom : Value}
    {od_Reader__terms_in_brackets an_Reader__terms_in_brackets : Option Addr} {sl_Reader__terms_in_brackets : Array (Option Value)} {oc_Reader__terms_in_brackets kV_Reader__terms_in_brackets dc_Reader__terms_in_brackets pm_Reader__terms_in_brackets cd_Reader__terms_in_brackets ct_Reader__terms_in_brackets : Value}
    {od_Reader__term_atom an_Reader__term_atom : Option Addr} {sl_Reader__term_atom : Array (Option Value)} {oc_Reader__term_atom kV_Reader__term_atom dc_Reader__term_atom pm_Reader__term_atom cd_Reader__term_atom ct_Reader__term_atom : Value}
    {od_Reader__part an_Reader__part : Option Addr} {sl_Reader__part : Array (Option Value)} {oc_Reader__part kV_Reader__part dc_Reader__part pm_Reader__part cd_Reader__part ct_Reader__part : Value}
    {od_Reader__atom an_Reader__atom : Option Addr} {sl_Reader__atom : Array (Option Value)} {oc_Reader__atom kV_Reader__atom dc_Reader__atom pm_Reader__atom cd_Reader__atom ct_Reader__atom : Value}
    {od_Reader_read_test an_Reader_read_test : Option Addr} {sl_Reader_read_test : Array (Option Value)} {oc_Reader_read_test kV_Reader_read_test dc_Reader_read_test pm_Reader_read_test cd_Reader_read_test ct_Reader_read_test : Value}
    {od_Statement___init an_Statement___init : Option Addr} {sl_Statement___init : Array (Option Value)} {oc_Statement___init kV_Statement___init dc_Statement___init pm_Statement___init cd_Statement___init ct_Statement___init : Value}
    {od_Answer___init an_Answer___init : Option Addr} {sl_Answer___init : Array (Option Value)} {oc_Answer___init kV_Answer___init dc_Answer___init pm_Answer___init cd_Answer___init ct_Answer___init : Value}
    {od_place_action an_place_action : Option Addr} {sl_place_action : Array (Option Value)} {oc_place_action kV_place_action dc_place_action pm_place_action cd_place_action ct_place_action : Value}
    {od_sum_action an_sum_action : Option Addr} {sl_sum_action : Array (Option Value)} {oc_sum_action kV_sum_action dc_sum_action pm_sum_action cd_sum_action ct_sum_action : Value}
    {od_action an_action : Option Addr} {sl_action : Array (Option Value)} {oc_action kV_action dc_action pm_action cd_action ct_action : Value}
    {od_statement an_statement : Option Addr} {sl_statement : Array (Option Value)} {oc_statement kV_statement dc_statement pm_statement cd_statement ct_statement : Value}
    {od_read_statement an_read_statement : Option Addr} {sl_read_statement : Array (Option Value)} {oc_read_statement kV_read_statement dc_read_statement pm_read_statement cd_read_statement ct_read_statement : Value}
    {od_result an_result : Option Addr} {sl_result : Array (Option Value)} {oc_result kV_result dc_result pm_result cd_result ct_result : Value}
    {od_read_answer an_read_answer : Option Addr} {sl_read_answer : Array (Option Value)} {oc_read_answer kV_read_answer dc_read_answer pm_read_answer cd_read_answer ct_read_answer : Value}
    {od_are_apart an_are_apart : Option Addr} {sl_are_apart : Array (Option Value)} {oc_are_apart kV_are_apart dc_are_apart pm_are_apart cd_are_apart ct_are_apart : Value}
    {od_written an_written : Option Addr} {sl_written : Array (Option Value)} {oc_written kV_written dc_written pm_written cd_written ct_written : Value}
    {od_is_name an_is_name : Option Addr} {sl_is_name : Array (Option Value)} {oc_is_name kV_is_name dc_is_name pm_is_name cd_is_name ct_is_name : Value}
    {od_step an_step : Option Addr} {sl_step : Array (Option Value)} {oc_step kV_step dc_step pm_step cd_step ct_step : Value}
    {od_Draft__enter_part an_Draft__enter_part : Option Addr} {sl_Draft__enter_part : Array (Option Value)} {oc_Draft__enter_part kV_Draft__enter_part dc_Draft__enter_part pm_Draft__enter_part cd_Draft__enter_part ct_Draft__enter_part : Value}
    {od_Draft__read_register an_Draft__read_register : Option Addr} {sl_Draft__read_register : Array (Option Value)} {oc_Draft__read_register kV_Draft__read_register dc_Draft__read_register pm_Draft__read_register cd_Draft__read_register ct_Draft__read_register : Value}
    {od_Draft__read_steps an_Draft__read_steps : Option Addr} {sl_Draft__read_steps : Array (Option Value)} {oc_Draft__read_steps kV_Draft__read_steps dc_Draft__read_steps pm_Draft__read_steps cd_Draft__read_steps ct_Draft__read_steps : Value}
    {od_Draft__read_answer an_Draft__read_answer : Option Addr} {sl_Draft__read_answer : Array (Option Value)} {oc_Draft__read_answer kV_Draft__read_answer dc_Draft__read_answer pm_Draft__read_answer cd_Draft__read_answer ct_Draft__read_answer : Value}
    {od_Draft_read_line an_Draft_read_line : Option Addr} {sl_Draft_read_line : Array (Option Value)} {oc_Draft_read_line kV_Draft_read_line dc_Draft_read_line pm_Draft_read_line cd_Draft_read_line ct_Draft_read_line : Value}
    {od_Draft___init an_Draft___init : Option Addr} {sl_Draft___init : Array (Option Value)} {oc_Draft___init kV_Draft___init dc_Draft___init pm_Draft___init cd_Draft___init ct_Draft___init : Value}
    {od_Draft_names_of an_Draft_names_of : Option Addr} {sl_Draft_names_of : Array (Option Value)} {oc_Draft_names_of kV_Draft_names_of dc_Draft_names_of pm_Draft_names_of cd_Draft_names_of ct_Draft_names_of : Value}
    {od_BadProgram___init an_BadProgram___init : Option Addr} {sl_BadProgram___init : Array (Option Value)} {oc_BadProgram___init kV_BadProgram___init dc_BadProgram___init pm_BadProgram___init cd_BadProgram___init ct_BadProgram___init : Value}
    {od_draft_of an_draft_of : Option Addr} {sl_draft_of : Array (Option Value)} {oc_draft_of kV_draft_of dc_draft_of pm_draft_of cd_draft_of ct_draft_of : Value}
    {od_TooMany___init an_TooMany___init : Option Addr} {sl_TooMany___init : Array (Option Value)} {oc_TooMany___init kV_TooMany___init dc_TooMany___init pm_TooMany___init cd_TooMany___init ct_TooMany___init : Value}
    {od_Program__check_limits an_Program__check_limits : Option Addr} {sl_Program__check_limits : Array (Option Value)} {oc_Program__check_limits kV_Program__check_limits dc_Program__check_limits pm_Program__check_limits cd_Program__check_limits ct_Program__check_limits : Value}
    {od_Program___init an_Program___init : Option Addr} {sl_Program___init : Array (Option Value)} {oc_Program___init kV_Program___init dc_Program___init pm_Program___init cd_Program___init ct_Program___init : Value}
    {od_law_source an_law_source : Option Addr} {sl_law_source : Array (Option Value)} {oc_law_source kV_law_source dc_law_source pm_law_source cd_law_source ct_law_source : Value}
    {od_law_pick an_law_pick : Option Addr} {sl_law_pick : Array (Option Value)} {oc_law_pick kV_law_pick dc_law_pick pm_law_pick cd_law_pick ct_law_pick : Value}
    {od_law_of an_law_of : Option Addr} {sl_law_of : Array (Option Value)} {oc_law_of kV_law_of dc_law_of pm_law_of cd_law_of ct_law_of : Value}
    {od_law_word an_law_word : Option Addr} {sl_law_word : Array (Option Value)} {oc_law_word kV_law_word dc_law_word pm_law_word cd_law_word ct_law_word : Value}
    {od_law_reserved an_law_reserved : Option Addr} {sl_law_reserved : Array (Option Value)} {oc_law_reserved kV_law_reserved dc_law_reserved pm_law_reserved cd_law_reserved ct_law_reserved : Value}
    {od_law_fate an_law_fate : Option Addr} {sl_law_fate : Array (Option Value)} {oc_law_fate kV_law_fate dc_law_fate pm_law_fate cd_law_fate ct_law_fate : Value}
    {od_law_free an_law_free : Option Addr} {sl_law_free : Array (Option Value)} {oc_law_free kV_law_free dc_law_free pm_law_free cd_law_free ct_law_free : Value}
    {od_law_wrong an_law_wrong : Option Addr} {sl_law_wrong : Array (Option Value)} {oc_law_wrong kV_law_wrong dc_law_wrong pm_law_wrong cd_law_wrong ct_law_wrong : Value}
    {od_law an_law : Option Addr} {sl_law : Array (Option Value)} {oc_law kV_law dc_law pm_law cd_law ct_law : Value}
    {onm_BadProgram oqn_BadProgram : Str} {ons_BadProgram : Addr} {obs_BadProgram obm_BadProgram osub_BadProgram : List Value} {osn_BadProgram : List Str} {oab_BadProgram : Bool} {ocol_BadProgram : Option Bool} {odd_BadProgram : Option Addr} {ok0_BadProgram ok1_BadProgram ok2_BadProgram ok3_BadProgram ok5_BadProgram : Option Value}
    {A_COMPARISONS : Addr} {wd_COMPARISONS : Option Addr} {wn_COMPARISONS : Nat} {wl_COMPARISONS : Array (Option Value)} {wk_COMPARISONS_0 wk_COMPARISONS_1 wk_COMPARISONS_2 wk_COMPARISONS_3 wk_COMPARISONS_4 wk_COMPARISONS_5 : Tok}
    {A_KINDS : Addr} {wd_KINDS : Option Addr} {wn_KINDS : Nat} {wl_KINDS : Array (Option Value)} {wk_KINDS_0 wk_KINDS_1 wk_KINDS_2 wk_KINDS_3 wk_KINDS_4 : Tok}
    {A_LIMITS : Addr} {es_LIMITS : Array DictEntry} {en_LIMITS : Nat}
    {A_OTHER_TOKENS : Addr} {wd_OTHER_TOKENS : Option Addr} {wn_OTHER_TOKENS : Nat} {wl_OTHER_TOKENS : Array (Option Value)} {wk_OTHER_TOKENS_0 wk_OTHER_TOKENS_1 wk_OTHER_TOKENS_2 wk_OTHER_TOKENS_3 wk_OTHER_TOKENS_4 wk_OTHER_TOKENS_5 wk_OTHER_TOKENS_6 wk_OTHER_TOKENS_7 wk_OTHER_TOKENS_8 wk_OTHER_TOKENS_9 wk_OTHER_TOKENS_10 wk_OTHER_TOKENS_11 wk_OTHER_TOKENS_12 wk_OTHER_TOKENS_13 : Tok}
    {A_PARTS : Addr} {es_PARTS : Array DictEntry} {en_PARTS : Nat}
    {A_RESERVED : Addr} {wd_RESERVED : Option Addr} {wn_RESERVED : Nat} {wl_RESERVED : Array (Option Value)} {wk_RESERVED_0 wk_RESERVED_1 wk_RESERVED_2 wk_RESERVED_3 wk_RESERVED_4 wk_RESERVED_5 wk_RESERVED_6 wk_RESERVED_7 wk_RESERVED_8 wk_RESERVED_9 wk_RESERVED_10 wk_RESERVED_11 wk_RESERVED_12 wk_RESERVED_13 wk_RESERVED_14 wk_RESERVED_15 wk_RESERVED_16 wk_RESERVED_17 wk_RESERVED_18 wk_RESERVED_19 wk_RESERVED_20 wk_RESERVED_21 wk_RESERVED_22 wk_RESERVED_23 wk_RESERVED_24 wk_RESERVED_25 wk_RESERVED_26 wk_RESERVED_27 wk_RESERVED_28 : Tok}
    {A_RESULT_KINDS : Addr} {es_RESULT_KINDS : Array DictEntry} {en_RESULT_KINDS : Nat}
    {tk_STATEMENT_PART : Tok}
    {A_STEPS : Addr} {wd_STEPS : Option Addr} {wn_STEPS : Nat} {wl_STEPS : Array (Option Value)} {wk_STEPS_0 wk_STEPS_1 wk_STEPS_2 wk_STEPS_3 : Tok}
    (aC_Answer : PySem.W.nsIn K mainGlobals "Answer" = some (some (.ref C_Answer)))
    (aC_BadProgram : PySem.W.nsIn K mainGlobals "BadProgram" = some (some (.ref C_BadProgram)))
    (aC_Draft : PySem.W.nsIn K mainGlobals "Draft" = some (some (.ref C_Draft)))
    (aC_Program : PySem.W.nsIn K mainGlobals "Program" = some (some (.ref C_Program)))
    (aC_Reader : PySem.W.nsIn K mainGlobals "Reader" = some (some (.ref C_Reader)))
    (aC_Statement : PySem.W.nsIn K mainGlobals "Statement" = some (some (.ref C_Statement)))
    (aC_TooMany : PySem.W.nsIn K mainGlobals "TooMany" = some (some (.ref C_TooMany)))
    (aC_WrongLine : PySem.W.nsIn K mainGlobals "WrongLine" = some (some (.ref C_WrongLine)))
    (a_is_word : PySem.W.nsIn K mainGlobals "is_word" = some (some (.ref f_is_word)))
    (l_is_word : K.lookup f_is_word = some ⟨oc_is_word, od_is_word, .func (PySem.W.fnOf "is_word" "is_word" (defArgs s_is_word) (defBody s_is_word) (defScope s_is_word) .none kV_is_word dc_is_word pm_is_word an_is_word cd_is_word ct_is_word), sl_is_word⟩)
    (c_is_word : PySem.W.codeIn K cd_is_word "is_word" = true)
    (k_is_word : PySem.W.keepIn K (.ref f_is_word) = true)
    (a_token_at : PySem.W.nsIn K mainGlobals "_token_at" = some (some (.ref f_token_at)))
    (l_token_at : K.lookup f_token_at = some ⟨oc_token_at, od_token_at, .func (PySem.W.fnOf "_token_at" "_token_at" (defArgs s_token_at) (defBody s_token_at) (defScope s_token_at) .none kV_token_at dc_token_at pm_token_at an_token_at cd_token_at ct_token_at), sl_token_at⟩)
    (c_token_at : PySem.W.codeIn K cd_token_at "_token_at" = true)
    (k_token_at : PySem.W.keepIn K (.ref f_token_at) = true)
    (a_tokens_of : PySem.W.nsIn K mainGlobals "tokens_of" = some (some (.ref f_tokens_of)))
    (l_tokens_of : K.lookup f_tokens_of = some ⟨oc_tokens_of, od_tokens_of, .func (PySem.W.fnOf "tokens_of" "tokens_of" (defArgs s_tokens_of) (defBody s_tokens_of) (defScope s_tokens_of) (.ref dT_tokens_of) kV_tokens_of dc_tokens_of pm_tokens_of an_tokens_of cd_tokens_of ct_tokens_of), sl_tokens_of⟩)
    (dl_tokens_of : K.lookup dT_tokens_of = some ⟨do_tokens_of, dd_tokens_of, .seq #[.str "abcdefghijklmnopqrstuvwxyz" dt_tokens_of_0] dn_tokens_of, ds_tokens_of⟩)
    (c_tokens_of : PySem.W.codeIn K cd_tokens_of "tokens_of" = true)
    (k_tokens_of : PySem.W.keepIn K (.ref f_tokens_of) = true)
    (a_Reader___init : PySem.W.findIn K (.ref C_Reader) "__init__" = some (some (.ref f_Reader___init)))
    (i_Reader___init : PySem.W.isFn K (.ref f_Reader___init) = true)
    (l_Reader___init : K.lookup f_Reader___init = some ⟨oc_Reader___init, od_Reader___init, .func (PySem.W.fnOf "__init__" "Reader.__init__" (defArgs s_Reader___init) (defBody s_Reader___init) (defScope s_Reader___init) .none kV_Reader___init dc_Reader___init pm_Reader___init an_Reader___init cd_Reader___init ct_Reader___init), sl_Reader___init⟩)
    (c_Reader___init : PySem.W.codeIn K cd_Reader___init "Reader.__init__" = true)
    (k_Reader___init : PySem.W.keepIn K (.ref f_Reader___init) = true)
    (a_Reader_peek : PySem.W.findIn K (.ref C_Reader) "peek" = some (some (.ref f_Reader_peek)))
    (i_Reader_peek : PySem.W.isFn K (.ref f_Reader_peek) = true)
    (l_Reader_peek : K.lookup f_Reader_peek = some ⟨oc_Reader_peek, od_Reader_peek, .func (PySem.W.fnOf "peek" "Reader.peek" (defArgs s_Reader_peek) (defBody s_Reader_peek) (defScope s_Reader_peek) .none kV_Reader_peek dc_Reader_peek pm_Reader_peek an_Reader_peek cd_Reader_peek ct_Reader_peek), sl_Reader_peek⟩)
    (c_Reader_peek : PySem.W.codeIn K cd_Reader_peek "Reader.peek" = true)
    (k_Reader_peek : PySem.W.keepIn K (.ref f_Reader_peek) = true)
    (a_Reader_take : PySem.W.findIn K (.ref C_Reader) "take" = some (some (.ref f_Reader_take)))
    (i_Reader_take : PySem.W.isFn K (.ref f_Reader_take) = true)
    (l_Reader_take : K.lookup f_Reader_take = some ⟨oc_Reader_take, od_Reader_take, .func (PySem.W.fnOf "take" "Reader.take" (defArgs s_Reader_take) (defBody s_Reader_take) (defScope s_Reader_take) .none kV_Reader_take dc_Reader_take pm_Reader_take an_Reader_take cd_Reader_take ct_Reader_take), sl_Reader_take⟩)
    (c_Reader_take : PySem.W.codeIn K cd_Reader_take "Reader.take" = true)
    (k_Reader_take : PySem.W.keepIn K (.ref f_Reader_take) = true)
    (a_Reader_skip_if : PySem.W.findIn K (.ref C_Reader) "skip_if" = some (some (.ref f_Reader_skip_if)))
    (i_Reader_skip_if : PySem.W.isFn K (.ref f_Reader_skip_if) = true)
    (l_Reader_skip_if : K.lookup f_Reader_skip_if = some ⟨oc_Reader_skip_if, od_Reader_skip_if, .func (PySem.W.fnOf "skip_if" "Reader.skip_if" (defArgs s_Reader_skip_if) (defBody s_Reader_skip_if) (defScope s_Reader_skip_if) .none kV_Reader_skip_if dc_Reader_skip_if pm_Reader_skip_if an_Reader_skip_if cd_Reader_skip_if ct_Reader_skip_if), sl_Reader_skip_if⟩)
    (c_Reader_skip_if : PySem.W.codeIn K cd_Reader_skip_if "Reader.skip_if" = true)
    (k_Reader_skip_if : PySem.W.keepIn K (.ref f_Reader_skip_if) = true)
    (a_Reader_expect : PySem.W.findIn K (.ref C_Reader) "expect" = some (some (.ref f_Reader_expect)))
    (i_Reader_expect : PySem.W.isFn K (.ref f_Reader_expect) = true)
    (l_Reader_expect : K.lookup f_Reader_expect = some ⟨oc_Reader_expect, od_Reader_expect, .func (PySem.W.fnOf "expect" "Reader.expect" (defArgs s_Reader_expect) (defBody s_Reader_expect) (defScope s_Reader_expect) .none kV_Reader_expect dc_Reader_expect pm_Reader_expect an_Reader_expect cd_Reader_expect ct_Reader_expect), sl_Reader_expect⟩)
    (c_Reader_expect : PySem.W.codeIn K cd_Reader_expect "Reader.expect" = true)
    (k_Reader_expect : PySem.W.keepIn K (.ref f_Reader_expect) = true)
    (a_Reader_expect_end : PySem.W.findIn K (.ref C_Reader) "expect_end" = some (some (.ref f_Reader_expect_end)))
    (i_Reader_expect_end : PySem.W.isFn K (.ref f_Reader_expect_end) = true)
    (l_Reader_expect_end : K.lookup f_Reader_expect_end = some ⟨oc_Reader_expect_end, od_Reader_expect_end, .func (PySem.W.fnOf "expect_end" "Reader.expect_end" (defArgs s_Reader_expect_end) (defBody s_Reader_expect_end) (defScope s_Reader_expect_end) .none kV_Reader_expect_end dc_Reader_expect_end pm_Reader_expect_end an_Reader_expect_end cd_Reader_expect_end ct_Reader_expect_end), sl_Reader_expect_end⟩)
    (c_Reader_expect_end : PySem.W.codeIn K cd_Reader_expect_end "Reader.expect_end" = true)
    (k_Reader_expect_end : PySem.W.keepIn K (.ref f_Reader_expect_end) = true)
    (a_Reader_kind_of : PySem.W.findIn K (.ref C_Reader) "kind_of" = some (some (.ref f_Reader_kind_of)))
    (i_Reader_kind_of : PySem.W.isFn K (.ref f_Reader_kind_of) = true)
    (l_Reader_kind_of : K.lookup f_Reader_kind_of = some ⟨oc_Reader_kind_of, od_Reader_kind_of, .func (PySem.W.fnOf "kind_of" "Reader.kind_of" (defArgs s_Reader_kind_of) (defBody s_Reader_kind_of) (defScope s_Reader_kind_of) .none kV_Reader_kind_of dc_Reader_kind_of pm_Reader_kind_of an_Reader_kind_of cd_Reader_kind_of ct_Reader_kind_of), sl_Reader_kind_of⟩)
    (c_Reader_kind_of : PySem.W.codeIn K cd_Reader_kind_of "Reader.kind_of" = true)
    (k_Reader_kind_of : PySem.W.keepIn K (.ref f_Reader_kind_of) = true)
    (a_Reader_read_name : PySem.W.findIn K (.ref C_Reader) "read_name" = some (some (.ref f_Reader_read_name)))
    (i_Reader_read_name : PySem.W.isFn K (.ref f_Reader_read_name) = true)
    (l_Reader_read_name : K.lookup f_Reader_read_name = some ⟨oc_Reader_read_name, od_Reader_read_name, .func (PySem.W.fnOf "read_name" "Reader.read_name" (defArgs s_Reader_read_name) (defBody s_Reader_read_name) (defScope s_Reader_read_name) .none kV_Reader_read_name dc_Reader_read_name pm_Reader_read_name an_Reader_read_name cd_Reader_read_name ct_Reader_read_name), sl_Reader_read_name⟩)
    (c_Reader_read_name : PySem.W.codeIn K cd_Reader_read_name "Reader.read_name" = true)
    (k_Reader_read_name : PySem.W.keepIn K (.ref f_Reader_read_name) = true)
    (a_Reader_read_term : PySem.W.findIn K (.ref C_Reader) "read_term" = some (some (.ref f_Reader_read_term)))
    (i_Reader_read_term : PySem.W.isFn K (.ref f_Reader_read_term) = true)
    (l_Reader_read_term : K.lookup f_Reader_read_term = some ⟨oc_Reader_read_term, od_Reader_read_term, .func (PySem.W.fnOf "read_term" "Reader.read_term" (defArgs s_Reader_read_term) (defBody s_Reader_read_term) (defScope s_Reader_read_term) .none kV_Reader_read_term dc_Reader_read_term pm_Reader_read_term an_Reader_read_term cd_Reader_read_term ct_Reader_read_term), sl_Reader_read_term⟩)
    (c_Reader_read_term : PySem.W.codeIn K cd_Reader_read_term "Reader.read_term" = true)
    (k_Reader_read_term : PySem.W.keepIn K (.ref f_Reader_read_term) = true)
    (a_Reader__sum_atom : PySem.W.findIn K (.ref C_Reader) "_sum_atom" = some (some (.ref f_Reader__sum_atom)))
    (i_Reader__sum_atom : PySem.W.isFn K (.ref f_Reader__sum_atom) = true)
    (l_Reader__sum_atom : K.lookup f_Reader__sum_atom = some ⟨oc_Reader__sum_atom, od_Reader__sum_atom, .func (PySem.W.fnOf "_sum_atom" "Reader._sum_atom" (defArgs s_Reader__sum_atom) (defBody s_Reader__sum_atom) (defScope s_Reader__sum_atom) .none kV_Reader__sum_atom dc_Reader__sum_atom pm_Reader__sum_atom an_Reader__sum_atom cd_Reader__sum_atom ct_Reader__sum_atom), sl_Reader__sum_atom⟩)
    (c_Reader__sum_atom : PySem.W.codeIn K cd_Reader__sum_atom "Reader._sum_atom" = true)
    (k_Reader__sum_atom : PySem.W.keepIn K (.ref f_Reader__sum_atom) = true)
    (a_Reader__terms_in_brackets : PySem.W.findIn K (.ref C_Reader) "_terms_in_brackets" = some (some (.ref f_Reader__terms_in_brackets)))
    (i_Reader__terms_in_brackets : PySem.W.isFn K (.ref f_Reader__terms_in_brackets) = true)
    (l_Reader__terms_in_brackets : K.lookup f_Reader__terms_in_brackets = some ⟨oc_Reader__terms_in_brackets, od_Reader__terms_in_brackets, .func (PySem.W.fnOf "_terms_in_brackets" "Reader._terms_in_brackets" (defArgs s_Reader__terms_in_brackets) (defBody s_Reader__terms_in_brackets) (defScope s_Reader__terms_in_brackets) .none kV_Reader__terms_in_brackets dc_Reader__terms_in_brackets pm_Reader__terms_in_brackets an_Reader__terms_in_brackets cd_Reader__terms_in_brackets ct_Reader__terms_in_brackets), sl_Reader__terms_in_brackets⟩)
    (c_Reader__terms_in_brackets : PySem.W.codeIn K cd_Reader__terms_in_brackets "Reader._terms_in_brackets" = true)
    (k_Reader__terms_in_brackets : PySem.W.keepIn K (.ref f_Reader__terms_in_brackets) = true)
    (a_Reader__term_atom : PySem.W.findIn K (.ref C_Reader) "_term_atom" = some (some (.ref f_Reader__term_atom)))
    (i_Reader__term_atom : PySem.W.isFn K (.ref f_Reader__term_atom) = true)
    (l_Reader__term_atom : K.lookup f_Reader__term_atom = some ⟨oc_Reader__term_atom, od_Reader__term_atom, .func (PySem.W.fnOf "_term_atom" "Reader._term_atom" (defArgs s_Reader__term_atom) (defBody s_Reader__term_atom) (defScope s_Reader__term_atom) .none kV_Reader__term_atom dc_Reader__term_atom pm_Reader__term_atom an_Reader__term_atom cd_Reader__term_atom ct_Reader__term_atom), sl_Reader__term_atom⟩)
    (c_Reader__term_atom : PySem.W.codeIn K cd_Reader__term_atom "Reader._term_atom" = true)
    (k_Reader__term_atom : PySem.W.keepIn K (.ref f_Reader__term_atom) = true)
    (a_Reader__part : PySem.W.findIn K (.ref C_Reader) "_part" = some (some (.ref f_Reader__part)))
    (i_Reader__part : PySem.W.isFn K (.ref f_Reader__part) = true)
    (l_Reader__part : K.lookup f_Reader__part = some ⟨oc_Reader__part, od_Reader__part, .func (PySem.W.fnOf "_part" "Reader._part" (defArgs s_Reader__part) (defBody s_Reader__part) (defScope s_Reader__part) .none kV_Reader__part dc_Reader__part pm_Reader__part an_Reader__part cd_Reader__part ct_Reader__part), sl_Reader__part⟩)
    (c_Reader__part : PySem.W.codeIn K cd_Reader__part "Reader._part" = true)
    (k_Reader__part : PySem.W.keepIn K (.ref f_Reader__part) = true)
    (a_Reader__atom : PySem.W.findIn K (.ref C_Reader) "_atom" = some (some (.ref f_Reader__atom)))
    (i_Reader__atom : PySem.W.isFn K (.ref f_Reader__atom) = true)
    (l_Reader__atom : K.lookup f_Reader__atom = some ⟨oc_Reader__atom, od_Reader__atom, .func (PySem.W.fnOf "_atom" "Reader._atom" (defArgs s_Reader__atom) (defBody s_Reader__atom) (defScope s_Reader__atom) .none kV_Reader__atom dc_Reader__atom pm_Reader__atom an_Reader__atom cd_Reader__atom ct_Reader__atom), sl_Reader__atom⟩)
    (c_Reader__atom : PySem.W.codeIn K cd_Reader__atom "Reader._atom" = true)
    (k_Reader__atom : PySem.W.keepIn K (.ref f_Reader__atom) = true)
    (a_Reader_read_test : PySem.W.findIn K (.ref C_Reader) "read_test" = some (some (.ref f_Reader_read_test)))
    (i_Reader_read_test : PySem.W.isFn K (.ref f_Reader_read_test) = true)
    (l_Reader_read_test : K.lookup f_Reader_read_test = some ⟨oc_Reader_read_test, od_Reader_read_test, .func (PySem.W.fnOf "read_test" "Reader.read_test" (defArgs s_Reader_read_test) (defBody s_Reader_read_test) (defScope s_Reader_read_test) .none kV_Reader_read_test dc_Reader_read_test pm_Reader_read_test an_Reader_read_test cd_Reader_read_test ct_Reader_read_test), sl_Reader_read_test⟩)
    (c_Reader_read_test : PySem.W.codeIn K cd_Reader_read_test "Reader.read_test" = true)
    (k_Reader_read_test : PySem.W.keepIn K (.ref f_Reader_read_test) = true)
    (a_Statement___init : PySem.W.findIn K (.ref C_Statement) "__init__" = some (some (.ref f_Statement___init)))
    (i_Statement___init : PySem.W.isFn K (.ref f_Statement___init) = true)
    (l_Statement___init : K.lookup f_Statement___init = some ⟨oc_Statement___init, od_Statement___init, .func (PySem.W.fnOf "__init__" "Statement.__init__" (defArgs s_Statement___init) (defBody s_Statement___init) (defScope s_Statement___init) .none kV_Statement___init dc_Statement___init pm_Statement___init an_Statement___init cd_Statement___init ct_Statement___init), sl_Statement___init⟩)
    (c_Statement___init : PySem.W.codeIn K cd_Statement___init "Statement.__init__" = true)
    (k_Statement___init : PySem.W.keepIn K (.ref f_Statement___init) = true)
    (a_Answer___init : PySem.W.findIn K (.ref C_Answer) "__init__" = some (some (.ref f_Answer___init)))
    (i_Answer___init : PySem.W.isFn K (.ref f_Answer___init) = true)
    (l_Answer___init : K.lookup f_Answer___init = some ⟨oc_Answer___init, od_Answer___init, .func (PySem.W.fnOf "__init__" "Answer.__init__" (defArgs s_Answer___init) (defBody s_Answer___init) (defScope s_Answer___init) .none kV_Answer___init dc_Answer___init pm_Answer___init an_Answer___init cd_Answer___init ct_Answer___init), sl_Answer___init⟩)
    (c_Answer___init : PySem.W.codeIn K cd_Answer___init "Answer.__init__" = true)
    (k_Answer___init : PySem.W.keepIn K (.ref f_Answer___init) = true)
    (a_place_action : PySem.W.nsIn K mainGlobals "_place_action" = some (some (.ref f_place_action)))
    (l_place_action : K.lookup f_place_action = some ⟨oc_place_action, od_place_action, .func (PySem.W.fnOf "_place_action" "_place_action" (defArgs s_place_action) (defBody s_place_action) (defScope s_place_action) .none kV_place_action dc_place_action pm_place_action an_place_action cd_place_action ct_place_action), sl_place_action⟩)
    (c_place_action : PySem.W.codeIn K cd_place_action "_place_action" = true)
    (k_place_action : PySem.W.keepIn K (.ref f_place_action) = true)
    (a_sum_action : PySem.W.nsIn K mainGlobals "_sum_action" = some (some (.ref f_sum_action)))
    (l_sum_action : K.lookup f_sum_action = some ⟨oc_sum_action, od_sum_action, .func (PySem.W.fnOf "_sum_action" "_sum_action" (defArgs s_sum_action) (defBody s_sum_action) (defScope s_sum_action) .none kV_sum_action dc_sum_action pm_sum_action an_sum_action cd_sum_action ct_sum_action), sl_sum_action⟩)
    (c_sum_action : PySem.W.codeIn K cd_sum_action "_sum_action" = true)
    (k_sum_action : PySem.W.keepIn K (.ref f_sum_action) = true)
    (a_action : PySem.W.nsIn K mainGlobals "_action" = some (some (.ref f_action)))
    (l_action : K.lookup f_action = some ⟨oc_action, od_action, .func (PySem.W.fnOf "_action" "_action" (defArgs s_action) (defBody s_action) (defScope s_action) .none kV_action dc_action pm_action an_action cd_action ct_action), sl_action⟩)
    (c_action : PySem.W.codeIn K cd_action "_action" = true)
    (k_action : PySem.W.keepIn K (.ref f_action) = true)
    (a_statement : PySem.W.nsIn K mainGlobals "_statement" = some (some (.ref f_statement)))
    (l_statement : K.lookup f_statement = some ⟨oc_statement, od_statement, .func (PySem.W.fnOf "_statement" "_statement" (defArgs s_statement) (defBody s_statement) (defScope s_statement) .none kV_statement dc_statement pm_statement an_statement cd_statement ct_statement), sl_statement⟩)
    (c_statement : PySem.W.codeIn K cd_statement "_statement" = true)
    (k_statement : PySem.W.keepIn K (.ref f_statement) = true)
    (a_read_statement : PySem.W.nsIn K mainGlobals "read_statement" = some (some (.ref f_read_statement)))
    (l_read_statement : K.lookup f_read_statement = some ⟨oc_read_statement, od_read_statement, .func (PySem.W.fnOf "read_statement" "read_statement" (defArgs s_read_statement) (defBody s_read_statement) (defScope s_read_statement) .none kV_read_statement dc_read_statement pm_read_statement an_read_statement cd_read_statement ct_read_statement), sl_read_statement⟩)
    (c_read_statement : PySem.W.codeIn K cd_read_statement "read_statement" = true)
    (k_read_statement : PySem.W.keepIn K (.ref f_read_statement) = true)
    (a_result : PySem.W.nsIn K mainGlobals "_result" = some (some (.ref f_result)))
    (l_result : K.lookup f_result = some ⟨oc_result, od_result, .func (PySem.W.fnOf "_result" "_result" (defArgs s_result) (defBody s_result) (defScope s_result) .none kV_result dc_result pm_result an_result cd_result ct_result), sl_result⟩)
    (c_result : PySem.W.codeIn K cd_result "_result" = true)
    (k_result : PySem.W.keepIn K (.ref f_result) = true)
    (a_read_answer : PySem.W.nsIn K mainGlobals "read_answer" = some (some (.ref f_read_answer)))
    (l_read_answer : K.lookup f_read_answer = some ⟨oc_read_answer, od_read_answer, .func (PySem.W.fnOf "read_answer" "read_answer" (defArgs s_read_answer) (defBody s_read_answer) (defScope s_read_answer) .none kV_read_answer dc_read_answer pm_read_answer an_read_answer cd_read_answer ct_read_answer), sl_read_answer⟩)
    (c_read_answer : PySem.W.codeIn K cd_read_answer "read_answer" = true)
    (k_read_answer : PySem.W.keepIn K (.ref f_read_answer) = true)
    (a_are_apart : PySem.W.nsIn K mainGlobals "_are_apart" = some (some (.ref f_are_apart)))
    (l_are_apart : K.lookup f_are_apart = some ⟨oc_are_apart, od_are_apart, .func (PySem.W.fnOf "_are_apart" "_are_apart" (defArgs s_are_apart) (defBody s_are_apart) (defScope s_are_apart) .none kV_are_apart dc_are_apart pm_are_apart an_are_apart cd_are_apart ct_are_apart), sl_are_apart⟩)
    (c_are_apart : PySem.W.codeIn K cd_are_apart "_are_apart" = true)
    (k_are_apart : PySem.W.keepIn K (.ref f_are_apart) = true)
    (a_written : PySem.W.nsIn K mainGlobals "written" = some (some (.ref f_written)))
    (l_written : K.lookup f_written = some ⟨oc_written, od_written, .func (PySem.W.fnOf "written" "written" (defArgs s_written) (defBody s_written) (defScope s_written) .none kV_written dc_written pm_written an_written cd_written ct_written), sl_written⟩)
    (c_written : PySem.W.codeIn K cd_written "written" = true)
    (k_written : PySem.W.keepIn K (.ref f_written) = true)
    (a_is_name : PySem.W.nsIn K mainGlobals "_is_name" = some (some (.ref f_is_name)))
    (l_is_name : K.lookup f_is_name = some ⟨oc_is_name, od_is_name, .func (PySem.W.fnOf "_is_name" "_is_name" (defArgs s_is_name) (defBody s_is_name) (defScope s_is_name) .none kV_is_name dc_is_name pm_is_name an_is_name cd_is_name ct_is_name), sl_is_name⟩)
    (c_is_name : PySem.W.codeIn K cd_is_name "_is_name" = true)
    (k_is_name : PySem.W.keepIn K (.ref f_is_name) = true)
    (a_step : PySem.W.nsIn K mainGlobals "_step" = some (some (.ref f_step)))
    (l_step : K.lookup f_step = some ⟨oc_step, od_step, .func (PySem.W.fnOf "_step" "_step" (defArgs s_step) (defBody s_step) (defScope s_step) .none kV_step dc_step pm_step an_step cd_step ct_step), sl_step⟩)
    (c_step : PySem.W.codeIn K cd_step "_step" = true)
    (k_step : PySem.W.keepIn K (.ref f_step) = true)
    (a_Draft__enter_part : PySem.W.findIn K (.ref C_Draft) "_enter_part" = some (some (.ref f_Draft__enter_part)))
    (i_Draft__enter_part : PySem.W.isFn K (.ref f_Draft__enter_part) = true)
    (l_Draft__enter_part : K.lookup f_Draft__enter_part = some ⟨oc_Draft__enter_part, od_Draft__enter_part, .func (PySem.W.fnOf "_enter_part" "Draft._enter_part" (defArgs s_Draft__enter_part) (defBody s_Draft__enter_part) (defScope s_Draft__enter_part) .none kV_Draft__enter_part dc_Draft__enter_part pm_Draft__enter_part an_Draft__enter_part cd_Draft__enter_part ct_Draft__enter_part), sl_Draft__enter_part⟩)
    (c_Draft__enter_part : PySem.W.codeIn K cd_Draft__enter_part "Draft._enter_part" = true)
    (k_Draft__enter_part : PySem.W.keepIn K (.ref f_Draft__enter_part) = true)
    (a_Draft__read_register : PySem.W.findIn K (.ref C_Draft) "_read_register" = some (some (.ref f_Draft__read_register)))
    (i_Draft__read_register : PySem.W.isFn K (.ref f_Draft__read_register) = true)
    (l_Draft__read_register : K.lookup f_Draft__read_register = some ⟨oc_Draft__read_register, od_Draft__read_register, .func (PySem.W.fnOf "_read_register" "Draft._read_register" (defArgs s_Draft__read_register) (defBody s_Draft__read_register) (defScope s_Draft__read_register) .none kV_Draft__read_register dc_Draft__read_register pm_Draft__read_register an_Draft__read_register cd_Draft__read_register ct_Draft__read_register), sl_Draft__read_register⟩)
    (c_Draft__read_register : PySem.W.codeIn K cd_Draft__read_register "Draft._read_register" = true)
    (k_Draft__read_register : PySem.W.keepIn K (.ref f_Draft__read_register) = true)
    (a_Draft__read_steps : PySem.W.findIn K (.ref C_Draft) "_read_steps" = some (some (.ref f_Draft__read_steps)))
    (i_Draft__read_steps : PySem.W.isFn K (.ref f_Draft__read_steps) = true)
    (l_Draft__read_steps : K.lookup f_Draft__read_steps = some ⟨oc_Draft__read_steps, od_Draft__read_steps, .func (PySem.W.fnOf "_read_steps" "Draft._read_steps" (defArgs s_Draft__read_steps) (defBody s_Draft__read_steps) (defScope s_Draft__read_steps) .none kV_Draft__read_steps dc_Draft__read_steps pm_Draft__read_steps an_Draft__read_steps cd_Draft__read_steps ct_Draft__read_steps), sl_Draft__read_steps⟩)
    (c_Draft__read_steps : PySem.W.codeIn K cd_Draft__read_steps "Draft._read_steps" = true)
    (k_Draft__read_steps : PySem.W.keepIn K (.ref f_Draft__read_steps) = true)
    (a_Draft__read_answer : PySem.W.findIn K (.ref C_Draft) "_read_answer" = some (some (.ref f_Draft__read_answer)))
    (i_Draft__read_answer : PySem.W.isFn K (.ref f_Draft__read_answer) = true)
    (l_Draft__read_answer : K.lookup f_Draft__read_answer = some ⟨oc_Draft__read_answer, od_Draft__read_answer, .func (PySem.W.fnOf "_read_answer" "Draft._read_answer" (defArgs s_Draft__read_answer) (defBody s_Draft__read_answer) (defScope s_Draft__read_answer) .none kV_Draft__read_answer dc_Draft__read_answer pm_Draft__read_answer an_Draft__read_answer cd_Draft__read_answer ct_Draft__read_answer), sl_Draft__read_answer⟩)
    (c_Draft__read_answer : PySem.W.codeIn K cd_Draft__read_answer "Draft._read_answer" = true)
    (k_Draft__read_answer : PySem.W.keepIn K (.ref f_Draft__read_answer) = true)
    (a_Draft_read_line : PySem.W.findIn K (.ref C_Draft) "read_line" = some (some (.ref f_Draft_read_line)))
    (i_Draft_read_line : PySem.W.isFn K (.ref f_Draft_read_line) = true)
    (l_Draft_read_line : K.lookup f_Draft_read_line = some ⟨oc_Draft_read_line, od_Draft_read_line, .func (PySem.W.fnOf "read_line" "Draft.read_line" (defArgs s_Draft_read_line) (defBody s_Draft_read_line) (defScope s_Draft_read_line) .none kV_Draft_read_line dc_Draft_read_line pm_Draft_read_line an_Draft_read_line cd_Draft_read_line ct_Draft_read_line), sl_Draft_read_line⟩)
    (c_Draft_read_line : PySem.W.codeIn K cd_Draft_read_line "Draft.read_line" = true)
    (k_Draft_read_line : PySem.W.keepIn K (.ref f_Draft_read_line) = true)
    (a_Draft___init : PySem.W.findIn K (.ref C_Draft) "__init__" = some (some (.ref f_Draft___init)))
    (i_Draft___init : PySem.W.isFn K (.ref f_Draft___init) = true)
    (l_Draft___init : K.lookup f_Draft___init = some ⟨oc_Draft___init, od_Draft___init, .func (PySem.W.fnOf "__init__" "Draft.__init__" (defArgs s_Draft___init) (defBody s_Draft___init) (defScope s_Draft___init) .none kV_Draft___init dc_Draft___init pm_Draft___init an_Draft___init cd_Draft___init ct_Draft___init), sl_Draft___init⟩)
    (c_Draft___init : PySem.W.codeIn K cd_Draft___init "Draft.__init__" = true)
    (k_Draft___init : PySem.W.keepIn K (.ref f_Draft___init) = true)
    (a_Draft_names_of : PySem.W.findIn K (.ref C_Draft) "names_of" = some (some (.ref f_Draft_names_of)))
    (i_Draft_names_of : PySem.W.isFn K (.ref f_Draft_names_of) = true)
    (l_Draft_names_of : K.lookup f_Draft_names_of = some ⟨oc_Draft_names_of, od_Draft_names_of, .func (PySem.W.fnOf "names_of" "Draft.names_of" (defArgs s_Draft_names_of) (defBody s_Draft_names_of) (defScope s_Draft_names_of) .none kV_Draft_names_of dc_Draft_names_of pm_Draft_names_of an_Draft_names_of cd_Draft_names_of ct_Draft_names_of), sl_Draft_names_of⟩)
    (c_Draft_names_of : PySem.W.codeIn K cd_Draft_names_of "Draft.names_of" = true)
    (k_Draft_names_of : PySem.W.keepIn K (.ref f_Draft_names_of) = true)
    (a_BadProgram___init : PySem.W.findIn K (.ref C_BadProgram) "__init__" = some (some (.ref f_BadProgram___init)))
    (i_BadProgram___init : PySem.W.isFn K (.ref f_BadProgram___init) = true)
    (l_BadProgram___init : K.lookup f_BadProgram___init = some ⟨oc_BadProgram___init, od_BadProgram___init, .func (PySem.W.fnOf "__init__" "BadProgram.__init__" (defArgs s_BadProgram___init) (defBody s_BadProgram___init) (defScope s_BadProgram___init) .none kV_BadProgram___init dc_BadProgram___init pm_BadProgram___init an_BadProgram___init cd_BadProgram___init ct_BadProgram___init), sl_BadProgram___init⟩)
    (c_BadProgram___init : PySem.W.codeIn K cd_BadProgram___init "BadProgram.__init__" = true)
    (k_BadProgram___init : PySem.W.keepIn K (.ref f_BadProgram___init) = true)
    (a_draft_of : PySem.W.nsIn K mainGlobals "_draft_of" = some (some (.ref f_draft_of)))
    (l_draft_of : K.lookup f_draft_of = some ⟨oc_draft_of, od_draft_of, .func (PySem.W.fnOf "_draft_of" "_draft_of" (defArgs s_draft_of) (defBody s_draft_of) (defScope s_draft_of) .none kV_draft_of dc_draft_of pm_draft_of an_draft_of cd_draft_of ct_draft_of), sl_draft_of⟩)
    (c_draft_of : PySem.W.codeIn K cd_draft_of "_draft_of" = true)
    (k_draft_of : PySem.W.keepIn K (.ref f_draft_of) = true)
    (a_TooMany___init : PySem.W.findIn K (.ref C_TooMany) "__init__" = some (some (.ref f_TooMany___init)))
    (i_TooMany___init : PySem.W.isFn K (.ref f_TooMany___init) = true)
    (l_TooMany___init : K.lookup f_TooMany___init = some ⟨oc_TooMany___init, od_TooMany___init, .func (PySem.W.fnOf "__init__" "TooMany.__init__" (defArgs s_TooMany___init) (defBody s_TooMany___init) (defScope s_TooMany___init) .none kV_TooMany___init dc_TooMany___init pm_TooMany___init an_TooMany___init cd_TooMany___init ct_TooMany___init), sl_TooMany___init⟩)
    (c_TooMany___init : PySem.W.codeIn K cd_TooMany___init "TooMany.__init__" = true)
    (k_TooMany___init : PySem.W.keepIn K (.ref f_TooMany___init) = true)
    (a_Program__check_limits : PySem.W.findIn K (.ref C_Program) "_check_limits" = some (some (.ref f_Program__check_limits)))
    (i_Program__check_limits : PySem.W.isFn K (.ref f_Program__check_limits) = true)
    (l_Program__check_limits : K.lookup f_Program__check_limits = some ⟨oc_Program__check_limits, od_Program__check_limits, .func (PySem.W.fnOf "_check_limits" "Program._check_limits" (defArgs s_Program__check_limits) (defBody s_Program__check_limits) (defScope s_Program__check_limits) .none kV_Program__check_limits dc_Program__check_limits pm_Program__check_limits an_Program__check_limits cd_Program__check_limits ct_Program__check_limits), sl_Program__check_limits⟩)
    (c_Program__check_limits : PySem.W.codeIn K cd_Program__check_limits "Program._check_limits" = true)
    (k_Program__check_limits : PySem.W.keepIn K (.ref f_Program__check_limits) = true)
    (a_Program___init : PySem.W.findIn K (.ref C_Program) "__init__" = some (some (.ref f_Program___init)))
    (i_Program___init : PySem.W.isFn K (.ref f_Program___init) = true)
    (l_Program___init : K.lookup f_Program___init = some ⟨oc_Program___init, od_Program___init, .func (PySem.W.fnOf "__init__" "Program.__init__" (defArgs s_Program___init) (defBody s_Program___init) (defScope s_Program___init) .none kV_Program___init dc_Program___init pm_Program___init an_Program___init cd_Program___init ct_Program___init), sl_Program___init⟩)
    (c_Program___init : PySem.W.codeIn K cd_Program___init "Program.__init__" = true)
    (k_Program___init : PySem.W.keepIn K (.ref f_Program___init) = true)
    (a_law_source : PySem.W.nsIn K mainGlobals "_law_source" = some (some (.ref f_law_source)))
    (l_law_source : K.lookup f_law_source = some ⟨oc_law_source, od_law_source, .func (PySem.W.fnOf "_law_source" "_law_source" (defArgs s_law_source) (defBody s_law_source) (defScope s_law_source) .none kV_law_source dc_law_source pm_law_source an_law_source cd_law_source ct_law_source), sl_law_source⟩)
    (c_law_source : PySem.W.codeIn K cd_law_source "_law_source" = true)
    (k_law_source : PySem.W.keepIn K (.ref f_law_source) = true)
    (a_law_pick : PySem.W.nsIn K mainGlobals "_law_pick" = some (some (.ref f_law_pick)))
    (l_law_pick : K.lookup f_law_pick = some ⟨oc_law_pick, od_law_pick, .func (PySem.W.fnOf "_law_pick" "_law_pick" (defArgs s_law_pick) (defBody s_law_pick) (defScope s_law_pick) .none kV_law_pick dc_law_pick pm_law_pick an_law_pick cd_law_pick ct_law_pick), sl_law_pick⟩)
    (c_law_pick : PySem.W.codeIn K cd_law_pick "_law_pick" = true)
    (k_law_pick : PySem.W.keepIn K (.ref f_law_pick) = true)
    (a_law_of : PySem.W.nsIn K mainGlobals "_law_of" = some (some (.ref f_law_of)))
    (l_law_of : K.lookup f_law_of = some ⟨oc_law_of, od_law_of, .func (PySem.W.fnOf "_law_of" "_law_of" (defArgs s_law_of) (defBody s_law_of) (defScope s_law_of) .none kV_law_of dc_law_of pm_law_of an_law_of cd_law_of ct_law_of), sl_law_of⟩)
    (c_law_of : PySem.W.codeIn K cd_law_of "_law_of" = true)
    (k_law_of : PySem.W.keepIn K (.ref f_law_of) = true)
    (a_law_word : PySem.W.nsIn K mainGlobals "_law_word" = some (some (.ref f_law_word)))
    (l_law_word : K.lookup f_law_word = some ⟨oc_law_word, od_law_word, .func (PySem.W.fnOf "_law_word" "_law_word" (defArgs s_law_word) (defBody s_law_word) (defScope s_law_word) .none kV_law_word dc_law_word pm_law_word an_law_word cd_law_word ct_law_word), sl_law_word⟩)
    (c_law_word : PySem.W.codeIn K cd_law_word "_law_word" = true)
    (k_law_word : PySem.W.keepIn K (.ref f_law_word) = true)
    (a_law_reserved : PySem.W.nsIn K mainGlobals "_law_reserved" = some (some (.ref f_law_reserved)))
    (l_law_reserved : K.lookup f_law_reserved = some ⟨oc_law_reserved, od_law_reserved, .func (PySem.W.fnOf "_law_reserved" "_law_reserved" (defArgs s_law_reserved) (defBody s_law_reserved) (defScope s_law_reserved) .none kV_law_reserved dc_law_reserved pm_law_reserved an_law_reserved cd_law_reserved ct_law_reserved), sl_law_reserved⟩)
    (c_law_reserved : PySem.W.codeIn K cd_law_reserved "_law_reserved" = true)
    (k_law_reserved : PySem.W.keepIn K (.ref f_law_reserved) = true)
    (a_law_fate : PySem.W.nsIn K mainGlobals "_law_fate" = some (some (.ref f_law_fate)))
    (l_law_fate : K.lookup f_law_fate = some ⟨oc_law_fate, od_law_fate, .func (PySem.W.fnOf "_law_fate" "_law_fate" (defArgs s_law_fate) (defBody s_law_fate) (defScope s_law_fate) .none kV_law_fate dc_law_fate pm_law_fate an_law_fate cd_law_fate ct_law_fate), sl_law_fate⟩)
    (c_law_fate : PySem.W.codeIn K cd_law_fate "_law_fate" = true)
    (k_law_fate : PySem.W.keepIn K (.ref f_law_fate) = true)
    (a_law_free : PySem.W.nsIn K mainGlobals "_law_free" = some (some (.ref f_law_free)))
    (l_law_free : K.lookup f_law_free = some ⟨oc_law_free, od_law_free, .func (PySem.W.fnOf "_law_free" "_law_free" (defArgs s_law_free) (defBody s_law_free) (defScope s_law_free) .none kV_law_free dc_law_free pm_law_free an_law_free cd_law_free ct_law_free), sl_law_free⟩)
    (c_law_free : PySem.W.codeIn K cd_law_free "_law_free" = true)
    (k_law_free : PySem.W.keepIn K (.ref f_law_free) = true)
    (a_law_wrong : PySem.W.nsIn K mainGlobals "_law_wrong" = some (some (.ref f_law_wrong)))
    (l_law_wrong : K.lookup f_law_wrong = some ⟨oc_law_wrong, od_law_wrong, .func (PySem.W.fnOf "_law_wrong" "_law_wrong" (defArgs s_law_wrong) (defBody s_law_wrong) (defScope s_law_wrong) .none kV_law_wrong dc_law_wrong pm_law_wrong an_law_wrong cd_law_wrong ct_law_wrong), sl_law_wrong⟩)
    (c_law_wrong : PySem.W.codeIn K cd_law_wrong "_law_wrong" = true)
    (k_law_wrong : PySem.W.keepIn K (.ref f_law_wrong) = true)
    (a_law : PySem.W.nsIn K mainGlobals "law" = some (some (.ref f_law)))
    (l_law : K.lookup f_law = some ⟨oc_law, od_law, .func (PySem.W.fnOf "law" "law" (defArgs s_law) (defBody s_law) (defScope s_law) .none kV_law dc_law pm_law an_law cd_law ct_law), sl_law⟩)
    (c_law : PySem.W.codeIn K cd_law "law" = true)
    (k_law : PySem.W.keepIn K (.ref f_law) = true)
    (pg_Answer : PySem.W.plainGet K C_Answer Str.empty = true)
    (hd_Answer : PySem.W.hasDictIn K C_Answer = true)
    (po_Answer : PySem.W.plainOver K C_Answer = true)
    (sa_Answer : PySem.W.findIn K (.ref C_Answer) "__setattr__" = some (some (.builtin "object.__setattr__")))
    (ca_Answer : PySem.W.findIn K (.ref C_Answer) "__class__" = some (some (.builtin "object.__class__")))
    (cm_Answer : PySem.W.mroIn K C_Answer (.type "object") = some true)
    (mk_Answer : PySem.W.makesIn K C_Answer = true)
    (kc_Answer : PySem.W.keepIn K (.ref C_Answer) = true)
    (xi_BadProgram : PySem.W.excInitIn K C_BadProgram [.type "ValueError", .type "Exception", .type "BaseException", .type "object"] "ValueError.__new__" = true)
    (xo_BadProgram : PySem.W.excOver K C_BadProgram [.type "ValueError", .type "Exception", .type "BaseException", .type "object"] = true)
    (xs_BadProgram : PySem.W.findIn K (.ref C_BadProgram) "__setattr__" = some (some (.builtin "object.__setattr__")))
    (xh_BadProgram : PySem.W.hasDictIn K C_BadProgram = true)
    (xg_BadProgram : PySem.W.findIn K (.ref C_BadProgram) "__getattribute__" = some (some (.builtin "BaseException.__getattribute__")))
    (xt_BadProgram : PySem.W.findIn K (.ref C_BadProgram) "__getattr__" = some none)
    (xb_BadProgram : PySem.W.subIn K (.ref C_BadProgram) (.type "BaseException") = some true)
    (xz_BadProgram : PySem.W.subIn K (.ref C_BadProgram) (.ref C_BadProgram) = some true)
    (xy_BadProgram : PySem.W.typeIn K (.ref C_BadProgram) = some (.type "type"))
    (xk_BadProgram : PySem.W.keepIn K (.ref C_BadProgram) = true)
    (xc_BadProgram : PySem.W.findIn K (.ref C_BadProgram) "__class__" = some (some (.builtin "object.__class__")))
    (xm_BadProgram : PySem.W.mroIn K C_BadProgram (.type "object") = some true)
    (oxl_BadProgram : K.lookup C_BadProgram = some (excClassObj onm_BadProgram oqn_BadProgram C_BadProgram ons_BadProgram obs_BadProgram obm_BadProgram true osn_BadProgram osub_BadProgram oab_BadProgram ocol_BadProgram odd_BadProgram ok0_BadProgram ok1_BadProgram ok2_BadProgram ok3_BadProgram ok5_BadProgram "ValueError.__new__"))
    (oxr_BadProgram : PySem.HandSPX.refsVE obm_BadProgram = true)
    (oty_BadProgram : PySem.W.typeIn K (.ref f_BadProgram___init) = some (.type "function"))
    (pg_Draft : PySem.W.plainGet K C_Draft Str.empty = true)
    (hd_Draft : PySem.W.hasDictIn K C_Draft = true)
    (po_Draft : PySem.W.plainOver K C_Draft = true)
    (sa_Draft : PySem.W.findIn K (.ref C_Draft) "__setattr__" = some (some (.builtin "object.__setattr__")))
    (ca_Draft : PySem.W.findIn K (.ref C_Draft) "__class__" = some (some (.builtin "object.__class__")))
    (cm_Draft : PySem.W.mroIn K C_Draft (.type "object") = some true)
    (mk_Draft : PySem.W.makesIn K C_Draft = true)
    (kc_Draft : PySem.W.keepIn K (.ref C_Draft) = true)
    (pg_Program : PySem.W.plainGet K C_Program Str.empty = true)
    (hd_Program : PySem.W.hasDictIn K C_Program = true)
    (po_Program : PySem.W.plainOver K C_Program = true)
    (sa_Program : PySem.W.findIn K (.ref C_Program) "__setattr__" = some (some (.builtin "object.__setattr__")))
    (ca_Program : PySem.W.findIn K (.ref C_Program) "__class__" = some (some (.builtin "object.__class__")))
    (cm_Program : PySem.W.mroIn K C_Program (.type "object") = some true)
    (mk_Program : PySem.W.makesIn K C_Program = true)
    (kc_Program : PySem.W.keepIn K (.ref C_Program) = true)
    (pg_Reader : PySem.W.plainGet K C_Reader Str.empty = true)
    (hd_Reader : PySem.W.hasDictIn K C_Reader = true)
    (po_Reader : PySem.W.plainOver K C_Reader = true)
    (sa_Reader : PySem.W.findIn K (.ref C_Reader) "__setattr__" = some (some (.builtin "object.__setattr__")))
    (ca_Reader : PySem.W.findIn K (.ref C_Reader) "__class__" = some (some (.builtin "object.__class__")))
    (cm_Reader : PySem.W.mroIn K C_Reader (.type "object") = some true)
    (mk_Reader : PySem.W.makesIn K C_Reader = true)
    (kc_Reader : PySem.W.keepIn K (.ref C_Reader) = true)
    (pg_Statement : PySem.W.plainGet K C_Statement Str.empty = true)
    (hd_Statement : PySem.W.hasDictIn K C_Statement = true)
    (po_Statement : PySem.W.plainOver K C_Statement = true)
    (sa_Statement : PySem.W.findIn K (.ref C_Statement) "__setattr__" = some (some (.builtin "object.__setattr__")))
    (ca_Statement : PySem.W.findIn K (.ref C_Statement) "__class__" = some (some (.builtin "object.__class__")))
    (cm_Statement : PySem.W.mroIn K C_Statement (.type "object") = some true)
    (mk_Statement : PySem.W.makesIn K C_Statement = true)
    (kc_Statement : PySem.W.keepIn K (.ref C_Statement) = true)
    (xi_TooMany : PySem.W.excInitIn K C_TooMany [.type "ValueError", .type "Exception", .type "BaseException", .type "object"] "ValueError.__new__" = true)
    (xo_TooMany : PySem.W.excOver K C_TooMany [.type "ValueError", .type "Exception", .type "BaseException", .type "object"] = true)
    (xs_TooMany : PySem.W.findIn K (.ref C_TooMany) "__setattr__" = some (some (.builtin "object.__setattr__")))
    (xh_TooMany : PySem.W.hasDictIn K C_TooMany = true)
    (xg_TooMany : PySem.W.findIn K (.ref C_TooMany) "__getattribute__" = some (some (.builtin "BaseException.__getattribute__")))
    (xt_TooMany : PySem.W.findIn K (.ref C_TooMany) "__getattr__" = some none)
    (xb_TooMany : PySem.W.subIn K (.ref C_TooMany) (.type "BaseException") = some true)
    (xz_TooMany : PySem.W.subIn K (.ref C_TooMany) (.ref C_TooMany) = some true)
    (xy_TooMany : PySem.W.typeIn K (.ref C_TooMany) = some (.type "type"))
    (xk_TooMany : PySem.W.keepIn K (.ref C_TooMany) = true)
    (xc_TooMany : PySem.W.findIn K (.ref C_TooMany) "__class__" = some (some (.builtin "object.__class__")))
    (xm_TooMany : PySem.W.mroIn K C_TooMany (.type "object") = some true)
    (xe_WrongLine : PySem.W.excIn K C_WrongLine [.type "ValueError", .type "Exception", .type "BaseException", .type "object"] "ValueError.__new__" = true)
    (xk_WrongLine : PySem.W.keepIn K (.ref C_WrongLine) = true)
    (xb_WrongLine : PySem.W.subIn K (.ref C_WrongLine) (.type "BaseException") = some true)
    (xy_WrongLine : PySem.W.typeIn K (.ref C_WrongLine) = some (.type "type"))
    (xh_WrongLine : PySem.W.hasDictIn K C_WrongLine = true)
    (xz_WrongLine : PySem.W.subIn K (.ref C_WrongLine) (.ref C_WrongLine) = some true)
    (gK_COMPARISONS : PySem.W.nsIn K mainGlobals "COMPARISONS" = some (some (.ref A_COMPARISONS)))
    (gL_COMPARISONS : K.lookup A_COMPARISONS = some ⟨.type "tuple", wd_COMPARISONS, .seq #[.str "<" wk_COMPARISONS_0, .str "<=" wk_COMPARISONS_1, .str ">" wk_COMPARISONS_2, .str ">=" wk_COMPARISONS_3, .str "==" wk_COMPARISONS_4, .str "!=" wk_COMPARISONS_5] wn_COMPARISONS, wl_COMPARISONS⟩)
    (gK_KINDS : PySem.W.nsIn K mainGlobals "KINDS" = some (some (.ref A_KINDS)))
    (gL_KINDS : K.lookup A_KINDS = some ⟨.type "tuple", wd_KINDS, .seq #[.str "keep" wk_KINDS_0, .str "flag" wk_KINDS_1, .str "sum" wk_KINDS_2, .str "count" wk_KINDS_3, .str "place" wk_KINDS_4] wn_KINDS, wl_KINDS⟩)
    (gK_LIMITS : PySem.W.nsIn K mainGlobals "LIMITS" = some (some (.ref A_LIMITS)))
    (gL_LIMITS : K.lookup A_LIMITS = some ⟨.type "dict", none, .dict es_LIMITS en_LIMITS, #[]⟩)
    (gY_LIMITS : PySem.W.KeysLit w.params es_LIMITS.toList)
    (gP_LIMITS : Paired (fun (e : DictEntry) (kv : Str × V) => (∃ t, e.key = .str kv.1 t) ∧ RelV kv.2 e.val) es_LIMITS.toList [("keeps", .int 3), ("flags", .int 2), ("sums", .int 2), ("counts", .int 2), ("places", .int 2), ("steps", .int 3), ("statements", .int 10), ("answers", .int 4)])
    (gO_LIMITS : (A_LIMITS == sysModules) = false)
    (gK_OTHER_TOKENS : PySem.W.nsIn K mainGlobals "OTHER_TOKENS" = some (some (.ref A_OTHER_TOKENS)))
    (gL_OTHER_TOKENS : K.lookup A_OTHER_TOKENS = some ⟨.type "tuple", wd_OTHER_TOKENS, .seq #[.str "+=" wk_OTHER_TOKENS_0, .str "-=" wk_OTHER_TOKENS_1, .str "<=" wk_OTHER_TOKENS_2, .str ">=" wk_OTHER_TOKENS_3, .str "==" wk_OTHER_TOKENS_4, .str "!=" wk_OTHER_TOKENS_5, .str "<" wk_OTHER_TOKENS_6, .str ">" wk_OTHER_TOKENS_7, .str "=" wk_OTHER_TOKENS_8, .str "(" wk_OTHER_TOKENS_9, .str ")" wk_OTHER_TOKENS_10, .str "," wk_OTHER_TOKENS_11, .str "0" wk_OTHER_TOKENS_12, .str "1" wk_OTHER_TOKENS_13] wn_OTHER_TOKENS, wl_OTHER_TOKENS⟩)
    (gK_PARTS : PySem.W.nsIn K mainGlobals "PARTS" = some (some (.ref A_PARTS)))
    (gL_PARTS : K.lookup A_PARTS = some ⟨.type "dict", none, .dict es_PARTS en_PARTS, #[]⟩)
    (gY_PARTS : PySem.W.KeysLit w.params es_PARTS.toList)
    (gP_PARTS : Paired (fun (e : DictEntry) (kv : Str × V) => (∃ t, e.key = .str kv.1 t) ∧ RelV kv.2 e.val) es_PARTS.toList [("keep", .int 0), ("flag", .int 0), ("sum", .int 0), ("count", .int 0), ("place", .int 0), ("steps", .int 1), ("answer", .int 3)])
    (gO_PARTS : (A_PARTS == sysModules) = false)
    (gK_RESERVED : PySem.W.nsIn K mainGlobals "RESERVED" = some (some (.ref A_RESERVED)))
    (gL_RESERVED : K.lookup A_RESERVED = some ⟨.type "tuple", wd_RESERVED, .seq #[.str "x" wk_RESERVED_0, .str "before" wk_RESERVED_1, .str "nothing" wk_RESERVED_2, .str "here" wk_RESERVED_3, .str "min" wk_RESERVED_4, .str "max" wk_RESERVED_5, .str "if" wk_RESERVED_6, .str "else" wk_RESERVED_7, .str "and" wk_RESERVED_8, .str "or" wk_RESERVED_9, .str "not" wk_RESERVED_10, .str "in" wk_RESERVED_11, .str "is" wk_RESERVED_12, .str "told" wk_RESERVED_13, .str "by" wk_RESERVED_14, .str "skip" wk_RESERVED_15, .str "leave" wk_RESERVED_16, .str "set" wk_RESERVED_17, .str "keep" wk_RESERVED_18, .str "flag" wk_RESERVED_19, .str "sum" wk_RESERVED_20, .str "count" wk_RESERVED_21, .str "place" wk_RESERVED_22, .str "steps" wk_RESERVED_23, .str "drop" wk_RESERVED_24, .str "fill" wk_RESERVED_25, .str "hold" wk_RESERVED_26, .str "shift" wk_RESERVED_27, .str "answer" wk_RESERVED_28] wn_RESERVED, wl_RESERVED⟩)
    (gK_RESULT_KINDS : PySem.W.nsIn K mainGlobals "RESULT_KINDS" = some (some (.ref A_RESULT_KINDS)))
    (gL_RESULT_KINDS : K.lookup A_RESULT_KINDS = some ⟨.type "dict", none, .dict es_RESULT_KINDS en_RESULT_KINDS, #[]⟩)
    (gY_RESULT_KINDS : PySem.W.KeysLit w.params es_RESULT_KINDS.toList)
    (gP_RESULT_KINDS : Paired (fun (e : DictEntry) (kv : Str × V) => (∃ t, e.key = .str kv.1 t) ∧ RelV kv.2 e.val) es_RESULT_KINDS.toList [("flag", .str "truth"), ("sum", .str "sum"), ("count", .str "count"), ("place", .str "place")])
    (gO_RESULT_KINDS : (A_RESULT_KINDS == sysModules) = false)
    (gK_STATEMENT_PART : PySem.W.nsIn K mainGlobals "STATEMENT_PART" = some (some (.int 2 tk_STATEMENT_PART)))
    (gK_STEPS : PySem.W.nsIn K mainGlobals "STEPS" = some (some (.ref A_STEPS)))
    (gL_STEPS : K.lookup A_STEPS = some ⟨.type "tuple", wd_STEPS, .seq #[.str "drop" wk_STEPS_0, .str "fill" wk_STEPS_1, .str "hold" wk_STEPS_2, .str "shift" wk_STEPS_3] wn_STEPS, wl_STEPS⟩)
    (ocn : PySem.W.specialIn K (.builtin "object.__class__") "__get__" = some (some (.builtin "getset_descriptor.__get__")))
    (oct : PySem.W.takesIn K (.builtin "object.__class__") = some true)
    (no_Answer_flag : PySem.W.findIn K (.ref C_Answer) "flag" = some none)
    (no_Answer_name : PySem.W.findIn K (.ref C_Answer) "name" = some none)
    (no_Answer_place : PySem.W.findIn K (.ref C_Answer) "place" = some none)
    (no_Answer_result : PySem.W.findIn K (.ref C_Answer) "result" = some none)
    (no_BadProgram_line : PySem.W.findIn K (.ref C_BadProgram) "line" = some none)
    (no_Draft_answers : PySem.W.findIn K (.ref C_Draft) "answers" = some none)
    (no_Draft_kinds : PySem.W.findIn K (.ref C_Draft) "kinds" = some none)
    (no_Draft_lines : PySem.W.findIn K (.ref C_Draft) "lines" = some none)
    (no_Draft_part : PySem.W.findIn K (.ref C_Draft) "part" = some none)
    (no_Draft_starts : PySem.W.findIn K (.ref C_Draft) "starts" = some none)
    (no_Draft_statement_lines : PySem.W.findIn K (.ref C_Draft) "statement_lines" = some none)
    (no_Draft_statements : PySem.W.findIn K (.ref C_Draft) "statements" = some none)
    (no_Draft_steps : PySem.W.findIn K (.ref C_Draft) "steps" = some none)
    (no_Program_answers : PySem.W.findIn K (.ref C_Program) "answers" = some none)
    (no_Program_counts : PySem.W.findIn K (.ref C_Program) "counts" = some none)
    (no_Program_flags : PySem.W.findIn K (.ref C_Program) "flags" = some none)
    (no_Program_has_before : PySem.W.findIn K (.ref C_Program) "has_before" = some none)
    (no_Program_keeps : PySem.W.findIn K (.ref C_Program) "keeps" = some none)
    (no_Program_lines : PySem.W.findIn K (.ref C_Program) "lines" = some none)
    (no_Program_places : PySem.W.findIn K (.ref C_Program) "places" = some none)
    (no_Program_read_answers : PySem.W.findIn K (.ref C_Program) "read_answers" = some none)
    (no_Program_read_statements : PySem.W.findIn K (.ref C_Program) "read_statements" = some none)
    (no_Program_starts : PySem.W.findIn K (.ref C_Program) "starts" = some none)
    (no_Program_statements : PySem.W.findIn K (.ref C_Program) "statements" = some none)
    (no_Program_steps : PySem.W.findIn K (.ref C_Program) "steps" = some none)
    (no_Program_sums : PySem.W.findIn K (.ref C_Program) "sums" = some none)
    (no_Reader_at : PySem.W.findIn K (.ref C_Reader) "at" = some none)
    (no_Reader_is_in_run : PySem.W.findIn K (.ref C_Reader) "is_in_run" = some none)
    (no_Reader_kinds : PySem.W.findIn K (.ref C_Reader) "kinds" = some none)
    (no_Reader_tokens : PySem.W.findIn K (.ref C_Reader) "tokens" = some none)
    (no_Statement_action : PySem.W.findIn K (.ref C_Statement) "action" = some none)
    (no_Statement_test : PySem.W.findIn K (.ref C_Statement) "test" = some none)
    (no_TooMany_what : PySem.W.findIn K (.ref C_TooMany) "what" = some none)
    (z_abs : PySem.W.nsIn K mainGlobals "abs" = some none)
    (z_any : PySem.W.nsIn K mainGlobals "any" = some none)
    (z_dict : PySem.W.nsIn K mainGlobals "dict" = some none)
    (z_enumerate : PySem.W.nsIn K mainGlobals "enumerate" = some none)
    (z_int : PySem.W.nsIn K mainGlobals "int" = some none)
    (z_isinstance : PySem.W.nsIn K mainGlobals "isinstance" = some none)
    (z_len : PySem.W.nsIn K mainGlobals "len" = some none)
    (z_list : PySem.W.nsIn K mainGlobals "list" = some none)
    (z_max : PySem.W.nsIn K mainGlobals "max" = some none)
    (z_min : PySem.W.nsIn K mainGlobals "min" = some none)
    (z_range : PySem.W.nsIn K mainGlobals "range" = some none)
    (z_str : PySem.W.nsIn K mainGlobals "str" = some none)
    (z_sum : PySem.W.nsIn K mainGlobals "sum" = some none)
    (z_tuple : PySem.W.nsIn K mainGlobals "tuple" = some none)
    (ki_Answer_str : PySem.W.kitOne K (.ref C_Answer) (.type "str") = some false)
    (ki_Draft_str : PySem.W.kitOne K (.ref C_Draft) (.type "str") = some false)
    (ki_Program_str : PySem.W.kitOne K (.ref C_Program) (.type "str") = some false)
    (ki_Reader_str : PySem.W.kitOne K (.ref C_Reader) (.type "str") = some false)
    (ki_Statement_str : PySem.W.kitOne K (.ref C_Statement) (.type "str") = some false)
    : ∃ fd : FuncData, (∀ (s : Shared) (v : Value), BindsTo s fd ⟨[v], []⟩ [("_law_script", v)]) ∧ ∀ base : Heap, K.In base → base.Ns mainGlobals mg → FnOk l.prog w K mg base CX0 67 fa fd ["_law_script"] (sp_law K) := by
  have e := hfa.symm.trans (PySem.W.mg_of X G a_law)
  cases e
  have F_is_word := fun_mk (st := s_is_word) l_is_word c_is_word k_is_word
  have B_is_word := F_is_word.binds (ps := ["text"]) fun _ _ _ _ _ _ us hl => match us, hl with | [_], _ => rfl
  have F_token_at := fun_mk (st := s_token_at) l_token_at c_token_at k_token_at
  have B_token_at := F_token_at.binds (ps := ["line", "at", "letters"]) fun _ _ _ _ _ _ us hl => match us, hl with | [_, _, _], _ => rfl
  have F_tokens_of : FunD K "tokens_of" "tokens_of" (defArgs s_tokens_of) (defBody s_tokens_of) (defScope s_tokens_of) [.str "abcdefghijklmnopqrstuvwxyz"] [] f_tokens_of (PySem.W.fnOf "tokens_of" "tokens_of" (defArgs s_tokens_of) (defBody s_tokens_of) (defScope s_tokens_of) (.ref dT_tokens_of) kV_tokens_of dc_tokens_of pm_tokens_of an_tokens_of cd_tokens_of ct_tokens_of) := ⟨⟨_, _, _, _, _, _, _, _, _, _, rfl, l_tokens_of, c_tokens_of, .inr ⟨by simp, _, _, [.str "abcdefghijklmnopqrstuvwxyz" dt_tokens_of_0], _, rfl, dl_tokens_of, rfl, .cons ⟨_, rfl⟩ (.nil)⟩, .inl rfl⟩, k_tokens_of⟩
  have BD_tokens_of : ∃ ds, Vals [.str "abcdefghijklmnopqrstuvwxyz"] ds ∧ Binds K (PySem.W.fnOf "tokens_of" "tokens_of" (defArgs s_tokens_of) (defBody s_tokens_of) (defScope s_tokens_of) (.ref dT_tokens_of) kV_tokens_of dc_tokens_of pm_tokens_of an_tokens_of cd_tokens_of ct_tokens_of) ["line", "letters"] ds := F_tokens_of.binds1 1 0 (by simp) rfl (fun _ _ _ _ _ _ _ us its h1 h2 => match us, its, h1, h2 with | [_], [_], _, _ => ⟨_, rfl, rfl⟩)
  have BE_tokens_of : ∃ ds, Vals [] ds ∧ Binds K (PySem.W.fnOf "tokens_of" "tokens_of" (defArgs s_tokens_of) (defBody s_tokens_of) (defScope s_tokens_of) (.ref dT_tokens_of) kV_tokens_of dc_tokens_of pm_tokens_of an_tokens_of cd_tokens_of ct_tokens_of) ["line", "letters"] ds := F_tokens_of.binds1 2 1 (by simp) rfl (fun _ _ _ _ _ _ _ us its h1 h2 => match us, its, h1, h2 with | [_, _], [_], _, _ => ⟨_, rfl, rfl⟩)
  have B_tokens_of : Binds K (PySem.W.fnOf "tokens_of" "tokens_of" (defArgs s_tokens_of) (defBody s_tokens_of) (defScope s_tokens_of) (.ref dT_tokens_of) kV_tokens_of dc_tokens_of pm_tokens_of an_tokens_of cd_tokens_of ct_tokens_of) ["line", "letters"] [] := by obtain ⟨ds, h, b⟩ := BE_tokens_of; cases h; exact b
  have F_Reader___init := fun_mk (st := s_Reader___init) l_Reader___init c_Reader___init k_Reader___init
  have B_Reader___init := F_Reader___init.binds (ps := ["self", "tokens", "kinds", "is_in_run"]) fun _ _ _ _ _ _ us hl => match us, hl with | [_, _, _, _], _ => rfl
  have F_Reader_peek := fun_mk (st := s_Reader_peek) l_Reader_peek c_Reader_peek k_Reader_peek
  have B_Reader_peek := F_Reader_peek.binds (ps := ["self"]) fun _ _ _ _ _ _ us hl => match us, hl with | [_], _ => rfl
  have F_Reader_take := fun_mk (st := s_Reader_take) l_Reader_take c_Reader_take k_Reader_take
  have B_Reader_take := F_Reader_take.binds (ps := ["self"]) fun _ _ _ _ _ _ us hl => match us, hl with | [_], _ => rfl
  have F_Reader_skip_if := fun_mk (st := s_Reader_skip_if) l_Reader_skip_if c_Reader_skip_if k_Reader_skip_if
  have B_Reader_skip_if := F_Reader_skip_if.binds (ps := ["self", "token"]) fun _ _ _ _ _ _ us hl => match us, hl with | [_, _], _ => rfl
  have F_Reader_expect := fun_mk (st := s_Reader_expect) l_Reader_expect c_Reader_expect k_Reader_expect
  have B_Reader_expect := F_Reader_expect.binds (ps := ["self", "token"]) fun _ _ _ _ _ _ us hl => match us, hl with | [_, _], _ => rfl
  have F_Reader_expect_end := fun_mk (st := s_Reader_expect_end) l_Reader_expect_end c_Reader_expect_end k_Reader_expect_end
  have B_Reader_expect_end := F_Reader_expect_end.binds (ps := ["self"]) fun _ _ _ _ _ _ us hl => match us, hl with | [_], _ => rfl
  have F_Reader_kind_of := fun_mk (st := s_Reader_kind_of) l_Reader_kind_of c_Reader_kind_of k_Reader_kind_of
  have B_Reader_kind_of := F_Reader_kind_of.binds (ps := ["self", "token"]) fun _ _ _ _ _ _ us hl => match us, hl with | [_, _], _ => rfl
  have F_Reader_read_name := fun_mk (st := s_Reader_read_name) l_Reader_read_name c_Reader_read_name k_Reader_read_name
  have B_Reader_read_name := F_Reader_read_name.binds (ps := ["self", "kind"]) fun _ _ _ _ _ _ us hl => match us, hl with | [_, _], _ => rfl
  have F_Reader_read_term := fun_mk (st := s_Reader_read_term) l_Reader_read_term c_Reader_read_term k_Reader_read_term
  have B_Reader_read_term := F_Reader_read_term.binds (ps := ["self"]) fun _ _ _ _ _ _ us hl => match us, hl with | [_], _ => rfl
  have F_Reader__sum_atom := fun_mk (st := s_Reader__sum_atom) l_Reader__sum_atom c_Reader__sum_atom k_Reader__sum_atom
  have B_Reader__sum_atom := F_Reader__sum_atom.binds (ps := ["self"]) fun _ _ _ _ _ _ us hl => match us, hl with | [_], _ => rfl
  have F_Reader__terms_in_brackets := fun_mk (st := s_Reader__terms_in_brackets) l_Reader__terms_in_brackets c_Reader__terms_in_brackets k_Reader__terms_in_brackets
  have B_Reader__terms_in_brackets := F_Reader__terms_in_brackets.binds (ps := ["self"]) fun _ _ _ _ _ _ us hl => match us, hl with | [_], _ => rfl
  have F_Reader__term_atom := fun_mk (st := s_Reader__term_atom) l_Reader__term_atom c_Reader__term_atom k_Reader__term_atom
  have B_Reader__term_atom := F_Reader__term_atom.binds (ps := ["self"]) fun _ _ _ _ _ _ us hl => match us, hl with | [_], _ => rfl
  have F_Reader__part := fun_mk (st := s_Reader__part) l_Reader__part c_Reader__part k_Reader__part
  have B_Reader__part := F_Reader__part.binds (ps := ["self"]) fun _ _ _ _ _ _ us hl => match us, hl with | [_], _ => rfl
  have F_Reader__atom := fun_mk (st := s_Reader__atom) l_Reader__atom c_Reader__atom k_Reader__atom
  have B_Reader__atom := F_Reader__atom.binds (ps := ["self"]) fun _ _ _ _ _ _ us hl => match us, hl with | [_], _ => rfl
  have F_Reader_read_test := fun_mk (st := s_Reader_read_test) l_Reader_read_test c_Reader_read_test k_Reader_read_test
  have B_Reader_read_test := F_Reader_read_test.binds (ps := ["self"]) fun _ _ _ _ _ _ us hl => match us, hl with | [_], _ => rfl
  have F_Statement___init := fun_mk (st := s_Statement___init) l_Statement___init c_Statement___init k_Statement___init
  have B_Statement___init := F_Statement___init.binds (ps := ["self", "action", "test"]) fun _ _ _ _ _ _ us hl => match us, hl with | [_, _, _], _ => rfl
  have F_Answer___init := fun_mk (st := s_Answer___init) l_Answer___init c_Answer___init k_Answer___init
  have B_Answer___init := F_Answer___init.binds (ps := ["self", "name", "flag", "place", "result"]) fun _ _ _ _ _ _ us hl => match us, hl with | [_, _, _, _, _], _ => rfl
  have F_place_action := fun_mk (st := s_place_action) l_place_action c_place_action k_place_action
  have B_place_action := F_place_action.binds (ps := ["name", "reader"]) fun _ _ _ _ _ _ us hl => match us, hl with | [_, _], _ => rfl
  have F_sum_action := fun_mk (st := s_sum_action) l_sum_action c_sum_action k_sum_action
  have B_sum_action := F_sum_action.binds (ps := ["name", "reader"]) fun _ _ _ _ _ _ us hl => match us, hl with | [_, _], _ => rfl
  have F_action := fun_mk (st := s_action) l_action c_action k_action
  have B_action := F_action.binds (ps := ["reader"]) fun _ _ _ _ _ _ us hl => match us, hl with | [_], _ => rfl
  have F_statement := fun_mk (st := s_statement) l_statement c_statement k_statement
  have B_statement := F_statement.binds (ps := ["reader"]) fun _ _ _ _ _ _ us hl => match us, hl with | [_], _ => rfl
  have F_read_statement := fun_mk (st := s_read_statement) l_read_statement c_read_statement k_read_statement
  have B_read_statement := F_read_statement.binds (ps := ["tokens", "kinds"]) fun _ _ _ _ _ _ us hl => match us, hl with | [_, _], _ => rfl
  have F_result := fun_mk (st := s_result) l_result c_result k_result
  have B_result := F_result.binds (ps := ["reader"]) fun _ _ _ _ _ _ us hl => match us, hl with | [_], _ => rfl
  have F_read_answer := fun_mk (st := s_read_answer) l_read_answer c_read_answer k_read_answer
  have B_read_answer := F_read_answer.binds (ps := ["tokens", "kinds"]) fun _ _ _ _ _ _ us hl => match us, hl with | [_, _], _ => rfl
  have F_are_apart := fun_mk (st := s_are_apart) l_are_apart c_are_apart k_are_apart
  have B_are_apart := F_are_apart.binds (ps := ["one", "other"]) fun _ _ _ _ _ _ us hl => match us, hl with | [_, _], _ => rfl
  have F_written := fun_mk (st := s_written) l_written c_written k_written
  have B_written := F_written.binds (ps := ["tokens"]) fun _ _ _ _ _ _ us hl => match us, hl with | [_], _ => rfl
  have F_is_name := fun_mk (st := s_is_name) l_is_name c_is_name k_is_name
  have B_is_name := F_is_name.binds (ps := ["token"]) fun _ _ _ _ _ _ us hl => match us, hl with | [_], _ => rfl
  have F_step := fun_mk (st := s_step) l_step c_step k_step
  have B_step := F_step.binds (ps := ["reader"]) fun _ _ _ _ _ _ us hl => match us, hl with | [_], _ => rfl
  have F_Draft__enter_part := fun_mk (st := s_Draft__enter_part) l_Draft__enter_part c_Draft__enter_part k_Draft__enter_part
  have B_Draft__enter_part := F_Draft__enter_part.binds (ps := ["self", "first"]) fun _ _ _ _ _ _ us hl => match us, hl with | [_, _], _ => rfl
  have F_Draft__read_register := fun_mk (st := s_Draft__read_register) l_Draft__read_register c_Draft__read_register k_Draft__read_register
  have B_Draft__read_register := F_Draft__read_register.binds (ps := ["self", "tokens"]) fun _ _ _ _ _ _ us hl => match us, hl with | [_, _], _ => rfl
  have F_Draft__read_steps := fun_mk (st := s_Draft__read_steps) l_Draft__read_steps c_Draft__read_steps k_Draft__read_steps
  have B_Draft__read_steps := F_Draft__read_steps.binds (ps := ["self", "tokens"]) fun _ _ _ _ _ _ us hl => match us, hl with | [_, _], _ => rfl
  have F_Draft__read_answer := fun_mk (st := s_Draft__read_answer) l_Draft__read_answer c_Draft__read_answer k_Draft__read_answer
  have B_Draft__read_answer := F_Draft__read_answer.binds (ps := ["self", "tokens"]) fun _ _ _ _ _ _ us hl => match us, hl with | [_, _], _ => rfl
  have F_Draft_read_line := fun_mk (st := s_Draft_read_line) l_Draft_read_line c_Draft_read_line k_Draft_read_line
  have B_Draft_read_line := F_Draft_read_line.binds (ps := ["self", "line"]) fun _ _ _ _ _ _ us hl => match us, hl with | [_, _], _ => rfl
  have F_Draft___init := fun_mk (st := s_Draft___init) l_Draft___init c_Draft___init k_Draft___init
  have B_Draft___init := F_Draft___init.binds (ps := ["self"]) fun _ _ _ _ _ _ us hl => match us, hl with | [_], _ => rfl
  have F_Draft_names_of := fun_mk (st := s_Draft_names_of) l_Draft_names_of c_Draft_names_of k_Draft_names_of
  have B_Draft_names_of := F_Draft_names_of.binds (ps := ["self", "kind"]) fun _ _ _ _ _ _ us hl => match us, hl with | [_, _], _ => rfl
  have F_BadProgram___init := fun_mk (st := s_BadProgram___init) l_BadProgram___init c_BadProgram___init k_BadProgram___init
  have B_BadProgram___init := F_BadProgram___init.binds (ps := ["self", "line"]) fun _ _ _ _ _ _ us hl => match us, hl with | [_, _], _ => rfl
  have F_draft_of := fun_mk (st := s_draft_of) l_draft_of c_draft_of k_draft_of
  have B_draft_of := F_draft_of.binds (ps := ["text"]) fun _ _ _ _ _ _ us hl => match us, hl with | [_], _ => rfl
  have F_TooMany___init := fun_mk (st := s_TooMany___init) l_TooMany___init c_TooMany___init k_TooMany___init
  have B_TooMany___init := F_TooMany___init.binds (ps := ["self", "what"]) fun _ _ _ _ _ _ us hl => match us, hl with | [_, _], _ => rfl
  have F_Program__check_limits := fun_mk (st := s_Program__check_limits) l_Program__check_limits c_Program__check_limits k_Program__check_limits
  have B_Program__check_limits := F_Program__check_limits.binds (ps := ["self"]) fun _ _ _ _ _ _ us hl => match us, hl with | [_], _ => rfl
  have F_Program___init := fun_mk (st := s_Program___init) l_Program___init c_Program___init k_Program___init
  have B_Program___init := F_Program___init.binds (ps := ["self", "text"]) fun _ _ _ _ _ _ us hl => match us, hl with | [_, _], _ => rfl
  have F_law_source := fun_mk (st := s_law_source) l_law_source c_law_source k_law_source
  have B_law_source := F_law_source.binds (ps := ["_law_script", "_law_place"]) fun _ _ _ _ _ _ us hl => match us, hl with | [_, _], _ => rfl
  have F_law_pick := fun_mk (st := s_law_pick) l_law_pick c_law_pick k_law_pick
  have B_law_pick := F_law_pick.binds (ps := ["_law_source_here", "_law_many"]) fun _ _ _ _ _ _ us hl => match us, hl with | [_, _], _ => rfl
  have F_law_of := fun_mk (st := s_law_of) l_law_of c_law_of k_law_of
  have B_law_of := F_law_of.binds (ps := ["_law_source_here", "_law_some"]) fun _ _ _ _ _ _ us hl => match us, hl with | [_, _], _ => rfl
  have F_law_word := fun_mk (st := s_law_word) l_law_word c_law_word k_law_word
  have B_law_word := F_law_word.binds (ps := ["_law_source_here"]) fun _ _ _ _ _ _ us hl => match us, hl with | [_], _ => rfl
  have F_law_reserved := fun_mk (st := s_law_reserved) l_law_reserved c_law_reserved k_law_reserved
  have B_law_reserved := F_law_reserved.binds (ps := []) fun _ _ _ _ _ _ us hl => match us, hl with | [], _ => rfl
  have F_law_fate := fun_mk (st := s_law_fate) l_law_fate c_law_fate k_law_fate
  have B_law_fate := F_law_fate.binds (ps := ["_law_lines"]) fun _ _ _ _ _ _ us hl => match us, hl with | [_], _ => rfl
  have F_law_free := fun_mk (st := s_law_free) l_law_free c_law_free k_law_free
  have B_law_free := F_law_free.binds (ps := ["_law_source_here"]) fun _ _ _ _ _ _ us hl => match us, hl with | [_], _ => rfl
  have F_law_wrong := fun_mk (st := s_law_wrong) l_law_wrong c_law_wrong k_law_wrong
  have B_law_wrong := F_law_wrong.binds (ps := ["_law_source_here", "_law_word_here"]) fun _ _ _ _ _ _ us hl => match us, hl with | [_, _], _ => rfl
  have F_law := fun_mk (st := s_law) l_law c_law k_law
  have B_law := F_law.binds (ps := ["_law_script"]) fun _ _ _ _ _ _ us hl => match us, hl with | [_], _ => rfl
  let T : Top K mg w := { C_Answer := C_Answer, C_BadProgram := C_BadProgram, C_Draft := C_Draft, C_Program := C_Program, C_Reader := C_Reader, C_Statement := C_Statement, C_TooMany := C_TooMany, C_WrongLine := C_WrongLine, f_is_word := f_is_word, fd_is_word := _, F_is_word := F_is_word, B_is_word := B_is_word, mg_is_word := PySem.W.mg_of X G a_is_word, f_token_at := f_token_at, fd_token_at := _, F_token_at := F_token_at, B_token_at := B_token_at, mg_token_at := PySem.W.mg_of X G a_token_at, f_tokens_of := f_tokens_of, fd_tokens_of := _, F_tokens_of := F_tokens_of, B_tokens_of := B_tokens_of, BD_tokens_of := BD_tokens_of, mg_tokens_of := PySem.W.mg_of X G a_tokens_of, f_Reader___init := f_Reader___init, fd_Reader___init := _, F_Reader___init := F_Reader___init, B_Reader___init := B_Reader___init, f_Reader_peek := f_Reader_peek, fd_Reader_peek := _, F_Reader_peek := F_Reader_peek, B_Reader_peek := B_Reader_peek, f_Reader_take := f_Reader_take, fd_Reader_take := _, F_Reader_take := F_Reader_take, B_Reader_take := B_Reader_take, f_Reader_skip_if := f_Reader_skip_if, fd_Reader_skip_if := _, F_Reader_skip_if := F_Reader_skip_if, B_Reader_skip_if := B_Reader_skip_if, f_Reader_expect := f_Reader_expect, fd_Reader_expect := _, F_Reader_expect := F_Reader_expect, B_Reader_expect := B_Reader_expect, f_Reader_expect_end := f_Reader_expect_end, fd_Reader_expect_end := _, F_Reader_expect_end := F_Reader_expect_end, B_Reader_expect_end := B_Reader_expect_end, f_Reader_kind_of := f_Reader_kind_of, fd_Reader_kind_of := _, F_Reader_kind_of := F_Reader_kind_of, B_Reader_kind_of := B_Reader_kind_of, f_Reader_read_name := f_Reader_read_name, fd_Reader_read_name := _, F_Reader_read_name := F_Reader_read_name, B_Reader_read_name := B_Reader_read_name, f_Reader_read_term := f_Reader_read_term, fd_Reader_read_term := _, F_Reader_read_term := F_Reader_read_term, B_Reader_read_term := B_Reader_read_term, f_Reader__sum_atom := f_Reader__sum_atom, fd_Reader__sum_atom := _, F_Reader__sum_atom := F_Reader__sum_atom, B_Reader__sum_atom := B_Reader__sum_atom, f_Reader__terms_in_brackets := f_Reader__terms_in_brackets, fd_Reader__terms_in_brackets := _, F_Reader__terms_in_brackets := F_Reader__terms_in_brackets, B_Reader__terms_in_brackets := B_Reader__terms_in_brackets, f_Reader__term_atom := f_Reader__term_atom, fd_Reader__term_atom := _, F_Reader__term_atom := F_Reader__term_atom, B_Reader__term_atom := B_Reader__term_atom, f_Reader__part := f_Reader__part, fd_Reader__part := _, F_Reader__part := F_Reader__part, B_Reader__part := B_Reader__part, f_Reader__atom := f_Reader__atom, fd_Reader__atom := _, F_Reader__atom := F_Reader__atom, B_Reader__atom := B_Reader__atom, f_Reader_read_test := f_Reader_read_test, fd_Reader_read_test := _, F_Reader_read_test := F_Reader_read_test, B_Reader_read_test := B_Reader_read_test, f_Statement___init := f_Statement___init, fd_Statement___init := _, F_Statement___init := F_Statement___init, B_Statement___init := B_Statement___init, f_Answer___init := f_Answer___init, fd_Answer___init := _, F_Answer___init := F_Answer___init, B_Answer___init := B_Answer___init, f_place_action := f_place_action, fd_place_action := _, F_place_action := F_place_action, B_place_action := B_place_action, mg_place_action := PySem.W.mg_of X G a_place_action, f_sum_action := f_sum_action, fd_sum_action := _, F_sum_action := F_sum_action, B_sum_action := B_sum_action, mg_sum_action := PySem.W.mg_of X G a_sum_action, f_action := f_action, fd_action := _, F_action := F_action, B_action := B_action, mg_action := PySem.W.mg_of X G a_action, f_statement := f_statement, fd_statement := _, F_statement := F_statement, B_statement := B_statement, mg_statement := PySem.W.mg_of X G a_statement, f_read_statement := f_read_statement, fd_read_statement := _, F_read_statement := F_read_statement, B_read_statement := B_read_statement, mg_read_statement := PySem.W.mg_of X G a_read_statement, f_result := f_result, fd_result := _, F_result := F_result, B_result := B_result, mg_result := PySem.W.mg_of X G a_result, f_read_answer := f_read_answer, fd_read_answer := _, F_read_answer := F_read_answer, B_read_answer := B_read_answer, mg_read_answer := PySem.W.mg_of X G a_read_answer, f_are_apart := f_are_apart, fd_are_apart := _, F_are_apart := F_are_apart, B_are_apart := B_are_apart, mg_are_apart := PySem.W.mg_of X G a_are_apart, f_written := f_written, fd_written := _, F_written := F_written, B_written := B_written, mg_written := PySem.W.mg_of X G a_written, f_is_name := f_is_name, fd_is_name := _, F_is_name := F_is_name, B_is_name := B_is_name, mg_is_name := PySem.W.mg_of X G a_is_name, f_step := f_step, fd_step := _, F_step := F_step, B_step := B_step, mg_step := PySem.W.mg_of X G a_step, f_Draft__enter_part := f_Draft__enter_part, fd_Draft__enter_part := _, F_Draft__enter_part := F_Draft__enter_part, B_Draft__enter_part := B_Draft__enter_part, f_Draft__read_register := f_Draft__read_register, fd_Draft__read_register := _, F_Draft__read_register := F_Draft__read_register, B_Draft__read_register := B_Draft__read_register, f_Draft__read_steps := f_Draft__read_steps, fd_Draft__read_steps := _, F_Draft__read_steps := F_Draft__read_steps, B_Draft__read_steps := B_Draft__read_steps, f_Draft__read_answer := f_Draft__read_answer, fd_Draft__read_answer := _, F_Draft__read_answer := F_Draft__read_answer, B_Draft__read_answer := B_Draft__read_answer, f_Draft_read_line := f_Draft_read_line, fd_Draft_read_line := _, F_Draft_read_line := F_Draft_read_line, B_Draft_read_line := B_Draft_read_line, f_Draft___init := f_Draft___init, fd_Draft___init := _, F_Draft___init := F_Draft___init, B_Draft___init := B_Draft___init, f_Draft_names_of := f_Draft_names_of, fd_Draft_names_of := _, F_Draft_names_of := F_Draft_names_of, B_Draft_names_of := B_Draft_names_of, f_BadProgram___init := f_BadProgram___init, fd_BadProgram___init := _, F_BadProgram___init := F_BadProgram___init, B_BadProgram___init := B_BadProgram___init, f_draft_of := f_draft_of, fd_draft_of := _, F_draft_of := F_draft_of, B_draft_of := B_draft_of, mg_draft_of := PySem.W.mg_of X G a_draft_of, f_TooMany___init := f_TooMany___init, fd_TooMany___init := _, F_TooMany___init := F_TooMany___init, B_TooMany___init := B_TooMany___init, f_Program__check_limits := f_Program__check_limits, fd_Program__check_limits := _, F_Program__check_limits := F_Program__check_limits, B_Program__check_limits := B_Program__check_limits, f_Program___init := f_Program___init, fd_Program___init := _, F_Program___init := F_Program___init, B_Program___init := B_Program___init, f_law_source := f_law_source, fd_law_source := _, F_law_source := F_law_source, B_law_source := B_law_source, mg_law_source := PySem.W.mg_of X G a_law_source, f_law_pick := f_law_pick, fd_law_pick := _, F_law_pick := F_law_pick, B_law_pick := B_law_pick, mg_law_pick := PySem.W.mg_of X G a_law_pick, f_law_of := f_law_of, fd_law_of := _, F_law_of := F_law_of, B_law_of := B_law_of, mg_law_of := PySem.W.mg_of X G a_law_of, f_law_word := f_law_word, fd_law_word := _, F_law_word := F_law_word, B_law_word := B_law_word, mg_law_word := PySem.W.mg_of X G a_law_word, f_law_reserved := f_law_reserved, fd_law_reserved := _, F_law_reserved := F_law_reserved, B_law_reserved := B_law_reserved, mg_law_reserved := PySem.W.mg_of X G a_law_reserved, f_law_fate := f_law_fate, fd_law_fate := _, F_law_fate := F_law_fate, B_law_fate := B_law_fate, mg_law_fate := PySem.W.mg_of X G a_law_fate, f_law_free := f_law_free, fd_law_free := _, F_law_free := F_law_free, B_law_free := B_law_free, mg_law_free := PySem.W.mg_of X G a_law_free, f_law_wrong := f_law_wrong, fd_law_wrong := _, F_law_wrong := F_law_wrong, B_law_wrong := B_law_wrong, mg_law_wrong := PySem.W.mg_of X G a_law_wrong, f_law := fa, fd_law := _, F_law := F_law, B_law := B_law, mg_law := PySem.W.mg_of X G a_law, mgC_Answer := PySem.W.mg_of X G aC_Answer, cl_Answer := ⟨pg_Answer, hd_Answer, po_Answer, sa_Answer⟩, in_Answer := ⟨ca_Answer, cm_Answer, ocn, oct⟩, mk_Answer := ⟨mk_Answer, a_Answer___init, i_Answer___init, kc_Answer⟩, mgC_BadProgram := PySem.W.mg_of X G aC_BadProgram, ex_BadProgram := ⟨⟨_, _, _, _, PySem.F.excBase_ValueError, xi_BadProgram⟩, ⟨_, _, PySem.F.store_ValueError, xo_BadProgram⟩, a_BadProgram___init, i_BadProgram___init, xs_BadProgram, xh_BadProgram, xg_BadProgram, xt_BadProgram, xb_BadProgram, xz_BadProgram, xy_BadProgram, xk_BadProgram, xc_BadProgram, xm_BadProgram, ocn, oct⟩, oex_BadProgram := ⟨⟨_, _, _, _, _, _, _, _, _, _, _, _, _, _, _, oxl_BadProgram, oxr_BadProgram⟩, xs_BadProgram, xb_BadProgram, xy_BadProgram, xk_BadProgram⟩, oty_BadProgram := oty_BadProgram, mgC_Draft := PySem.W.mg_of X G aC_Draft, cl_Draft := ⟨pg_Draft, hd_Draft, po_Draft, sa_Draft⟩, in_Draft := ⟨ca_Draft, cm_Draft, ocn, oct⟩, mk_Draft := ⟨mk_Draft, a_Draft___init, i_Draft___init, kc_Draft⟩, mgC_Program := PySem.W.mg_of X G aC_Program, cl_Program := ⟨pg_Program, hd_Program, po_Program, sa_Program⟩, in_Program := ⟨ca_Program, cm_Program, ocn, oct⟩, mk_Program := ⟨mk_Program, a_Program___init, i_Program___init, kc_Program⟩, mgC_Reader := PySem.W.mg_of X G aC_Reader, cl_Reader := ⟨pg_Reader, hd_Reader, po_Reader, sa_Reader⟩, in_Reader := ⟨ca_Reader, cm_Reader, ocn, oct⟩, mk_Reader := ⟨mk_Reader, a_Reader___init, i_Reader___init, kc_Reader⟩, mgC_Statement := PySem.W.mg_of X G aC_Statement, cl_Statement := ⟨pg_Statement, hd_Statement, po_Statement, sa_Statement⟩, in_Statement := ⟨ca_Statement, cm_Statement, ocn, oct⟩, mk_Statement := ⟨mk_Statement, a_Statement___init, i_Statement___init, kc_Statement⟩, mgC_TooMany := PySem.W.mg_of X G aC_TooMany, ex_TooMany := ⟨⟨_, _, _, _, PySem.F.excBase_ValueError, xi_TooMany⟩, ⟨_, _, PySem.F.store_ValueError, xo_TooMany⟩, a_TooMany___init, i_TooMany___init, xs_TooMany, xh_TooMany, xg_TooMany, xt_TooMany, xb_TooMany, xz_TooMany, xy_TooMany, xk_TooMany, xc_TooMany, xm_TooMany, ocn, oct⟩, mgC_WrongLine := PySem.W.mg_of X G aC_WrongLine, xp_WrongLine := ⟨⟨_, _, _, _, PySem.F.excBase_ValueError, xe_WrongLine⟩, xk_WrongLine, xb_WrongLine, xy_WrongLine, xh_WrongLine, xz_WrongLine⟩, me_Draft__enter_part := ⟨a_Draft__enter_part, i_Draft__enter_part, k_Draft__enter_part⟩, me_Draft__read_answer := ⟨a_Draft__read_answer, i_Draft__read_answer, k_Draft__read_answer⟩, me_Draft__read_register := ⟨a_Draft__read_register, i_Draft__read_register, k_Draft__read_register⟩, me_Draft__read_steps := ⟨a_Draft__read_steps, i_Draft__read_steps, k_Draft__read_steps⟩, me_Draft_names_of := ⟨a_Draft_names_of, i_Draft_names_of, k_Draft_names_of⟩, me_Draft_read_line := ⟨a_Draft_read_line, i_Draft_read_line, k_Draft_read_line⟩, me_Program__check_limits := ⟨a_Program__check_limits, i_Program__check_limits, k_Program__check_limits⟩, me_Reader__atom := ⟨a_Reader__atom, i_Reader__atom, k_Reader__atom⟩, me_Reader__part := ⟨a_Reader__part, i_Reader__part, k_Reader__part⟩, me_Reader__sum_atom := ⟨a_Reader__sum_atom, i_Reader__sum_atom, k_Reader__sum_atom⟩, me_Reader__term_atom := ⟨a_Reader__term_atom, i_Reader__term_atom, k_Reader__term_atom⟩, me_Reader__terms_in_brackets := ⟨a_Reader__terms_in_brackets, i_Reader__terms_in_brackets, k_Reader__terms_in_brackets⟩, me_Reader_expect := ⟨a_Reader_expect, i_Reader_expect, k_Reader_expect⟩, me_Reader_expect_end := ⟨a_Reader_expect_end, i_Reader_expect_end, k_Reader_expect_end⟩, me_Reader_kind_of := ⟨a_Reader_kind_of, i_Reader_kind_of, k_Reader_kind_of⟩, me_Reader_peek := ⟨a_Reader_peek, i_Reader_peek, k_Reader_peek⟩, me_Reader_read_name := ⟨a_Reader_read_name, i_Reader_read_name, k_Reader_read_name⟩, me_Reader_read_term := ⟨a_Reader_read_term, i_Reader_read_term, k_Reader_read_term⟩, me_Reader_read_test := ⟨a_Reader_read_test, i_Reader_read_test, k_Reader_read_test⟩, me_Reader_skip_if := ⟨a_Reader_skip_if, i_Reader_skip_if, k_Reader_skip_if⟩, me_Reader_take := ⟨a_Reader_take, i_Reader_take, k_Reader_take⟩, A_COMPARISONS := A_COMPARISONS, mgK_COMPARISONS := PySem.W.mg_of X G gK_COMPARISONS, wt_COMPARISONS := fun H => .inr ⟨_, _, _, gL_COMPARISONS, rfl, rfl, (by show 6 ≤ _; decide), .cons ⟨_, rfl⟩ (.cons ⟨_, rfl⟩ (.cons ⟨_, rfl⟩ (.cons ⟨_, rfl⟩ (.cons ⟨_, rfl⟩ (.cons ⟨_, rfl⟩ (.nil))))))⟩, A_KINDS := A_KINDS, mgK_KINDS := PySem.W.mg_of X G gK_KINDS, wt_KINDS := fun H => .inr ⟨_, _, _, gL_KINDS, rfl, rfl, (by show 5 ≤ _; decide), .cons ⟨_, rfl⟩ (.cons ⟨_, rfl⟩ (.cons ⟨_, rfl⟩ (.cons ⟨_, rfl⟩ (.cons ⟨_, rfl⟩ (.nil)))))⟩, A_LIMITS := A_LIMITS, mgK_LIMITS := PySem.W.mg_of X G gK_LIMITS, kd_LIMITS := ⟨⟨_, _, gL_LIMITS, gY_LIMITS, gP_LIMITS⟩, gO_LIMITS⟩, A_OTHER_TOKENS := A_OTHER_TOKENS, mgK_OTHER_TOKENS := PySem.W.mg_of X G gK_OTHER_TOKENS, wt_OTHER_TOKENS := fun H => .inr ⟨_, _, _, gL_OTHER_TOKENS, rfl, rfl, (by show 14 ≤ _; decide), .cons ⟨_, rfl⟩ (.cons ⟨_, rfl⟩ (.cons ⟨_, rfl⟩ (.cons ⟨_, rfl⟩ (.cons ⟨_, rfl⟩ (.cons ⟨_, rfl⟩ (.cons ⟨_, rfl⟩ (.cons ⟨_, rfl⟩ (.cons ⟨_, rfl⟩ (.cons ⟨_, rfl⟩ (.cons ⟨_, rfl⟩ (.cons ⟨_, rfl⟩ (.cons ⟨_, rfl⟩ (.cons ⟨_, rfl⟩ (.nil))))))))))))))⟩, A_PARTS := A_PARTS, mgK_PARTS := PySem.W.mg_of X G gK_PARTS, kd_PARTS := ⟨⟨_, _, gL_PARTS, gY_PARTS, gP_PARTS⟩, gO_PARTS⟩, A_RESERVED := A_RESERVED, mgK_RESERVED := PySem.W.mg_of X G gK_RESERVED, wt_RESERVED := fun H => .inr ⟨_, _, _, gL_RESERVED, rfl, rfl, (by show 29 ≤ _; decide), .cons ⟨_, rfl⟩ (.cons ⟨_, rfl⟩ (.cons ⟨_, rfl⟩ (.cons ⟨_, rfl⟩ (.cons ⟨_, rfl⟩ (.cons ⟨_, rfl⟩ (.cons ⟨_, rfl⟩ (.cons ⟨_, rfl⟩ (.cons ⟨_, rfl⟩ (.cons ⟨_, rfl⟩ (.cons ⟨_, rfl⟩ (.cons ⟨_, rfl⟩ (.cons ⟨_, rfl⟩ (.cons ⟨_, rfl⟩ (.cons ⟨_, rfl⟩ (.cons ⟨_, rfl⟩ (.cons ⟨_, rfl⟩ (.cons ⟨_, rfl⟩ (.cons ⟨_, rfl⟩ (.cons ⟨_, rfl⟩ (.cons ⟨_, rfl⟩ (.cons ⟨_, rfl⟩ (.cons ⟨_, rfl⟩ (.cons ⟨_, rfl⟩ (.cons ⟨_, rfl⟩ (.cons ⟨_, rfl⟩ (.cons ⟨_, rfl⟩ (.cons ⟨_, rfl⟩ (.cons ⟨_, rfl⟩ (.nil)))))))))))))))))))))))))))))⟩, A_RESULT_KINDS := A_RESULT_KINDS, mgK_RESULT_KINDS := PySem.W.mg_of X G gK_RESULT_KINDS, kd_RESULT_KINDS := ⟨⟨_, _, gL_RESULT_KINDS, gY_RESULT_KINDS, gP_RESULT_KINDS⟩, gO_RESULT_KINDS⟩, tk_STATEMENT_PART := tk_STATEMENT_PART, mgK_STATEMENT_PART := PySem.W.mg_of X G gK_STATEMENT_PART, A_STEPS := A_STEPS, mgK_STEPS := PySem.W.mg_of X G gK_STEPS, wt_STEPS := fun H => .inr ⟨_, _, _, gL_STEPS, rfl, rfl, (by show 4 ≤ _; decide), .cons ⟨_, rfl⟩ (.cons ⟨_, rfl⟩ (.cons ⟨_, rfl⟩ (.cons ⟨_, rfl⟩ (.nil))))⟩, no_Answer_flag := no_Answer_flag, no_Answer_name := no_Answer_name, no_Answer_place := no_Answer_place, no_Answer_result := no_Answer_result, no_BadProgram_line := no_BadProgram_line, no_Draft_answers := no_Draft_answers, no_Draft_kinds := no_Draft_kinds, no_Draft_lines := no_Draft_lines, no_Draft_part := no_Draft_part, no_Draft_starts := no_Draft_starts, no_Draft_statement_lines := no_Draft_statement_lines, no_Draft_statements := no_Draft_statements, no_Draft_steps := no_Draft_steps, no_Program_answers := no_Program_answers, no_Program_counts := no_Program_counts, no_Program_flags := no_Program_flags, no_Program_has_before := no_Program_has_before, no_Program_keeps := no_Program_keeps, no_Program_lines := no_Program_lines, no_Program_places := no_Program_places, no_Program_read_answers := no_Program_read_answers, no_Program_read_statements := no_Program_read_statements, no_Program_starts := no_Program_starts, no_Program_statements := no_Program_statements, no_Program_steps := no_Program_steps, no_Program_sums := no_Program_sums, no_Reader_at := no_Reader_at, no_Reader_is_in_run := no_Reader_is_in_run, no_Reader_kinds := no_Reader_kinds, no_Reader_tokens := no_Reader_tokens, no_Statement_action := no_Statement_action, no_Statement_test := no_Statement_test, no_TooMany_what := no_TooMany_what, z_abs := PySem.W.mg_none_of X G z_abs, z_any := PySem.W.mg_none_of X G z_any, z_dict := PySem.W.mg_none_of X G z_dict, z_enumerate := PySem.W.mg_none_of X G z_enumerate, z_int := PySem.W.mg_none_of X G z_int, z_isinstance := PySem.W.mg_none_of X G z_isinstance, z_len := PySem.W.mg_none_of X G z_len, z_list := PySem.W.mg_none_of X G z_list, z_max := PySem.W.mg_none_of X G z_max, z_min := PySem.W.mg_none_of X G z_min, z_range := PySem.W.mg_none_of X G z_range, z_str := PySem.W.mg_none_of X G z_str, z_sum := PySem.W.mg_none_of X G z_sum, z_tuple := PySem.W.mg_none_of X G z_tuple, ki_Answer_str := ki_Answer_str, ki_Draft_str := ki_Draft_str, ki_Program_str := ki_Program_str, ki_Reader_str := ki_Reader_str, ki_Statement_str := ki_Statement_str }
  exact ⟨PySem.W.fnOf "law" "law" (defArgs s_law) (defBody s_law) (defScope s_law) .none kV_law dc_law pm_law an_law cd_law ct_law, fun s v => .of_eq rfl, fun base _ _ => ok_law T⟩
theorem walk {l : PySem.W.OpenLaw} {q : Program} {loose : List Str} {XP : (Str → Option Value) → Heap → Prop} {YP : World → Heap → Prop} {d : DefRec} {K : Params → PySem.W.Frag} (hn : l.most = some 63) (hdf : d.params.defaults = [])
    (hY : ∀ (w : World) (h : Heap), YP w h → (K w.params).In h)
    (F : ∀ (w : World) (mg : Str → Option Value) (fa : Addr) (h : Heap), (K w.params).In h → h.Ns mainGlobals mg → mg d.name = some (.ref fa) →
      ∃ fd : FuncData, (∀ (s : Shared) (u : Value), BindsTo s fd ⟨[u], []⟩ [("_law_script", u)]) ∧ ∀ base : Heap, (K w.params).In base → base.Ns mainGlobals mg → FnOk l.prog w (K w.params) mg base CX0 67 fa fd ["_law_script"] (sp_law (K w.params))) :
    PySem.W.WalkO q loose XP YP l.row.toRowW d [] (fun f vs => PySem.call f vs) :=
  L2.walk_of (n := 63) (k := 67) (x := "_law_script") (CX := fun _ => CX0) (sp := fun w => sp_law (K w.params)) hn (by decide) hdf ⟨rfl, by decide, by decide⟩ hY F (fun _ _ a ns hl _ hS => ⟨a, ns, rfl, hS, hl, fun _ => rfl⟩) fun _ _ _ _ _ z => z
end My

open PySem PySem.W PyProof.Rows in
set_option maxRecDepth 100000 in
set_option maxHeartbeats 0 in
theorem PySem.Challenge.cw_unnumbered_k17_names_of_registers_holds : PySem.Challenge.rw_unnumbered_k17_names_of_registers.Holds := by
  w_on; o_law; k_head; (case hw => w_witness2)
  k_fill
  refine My.walk (l := PySem.Challenge.rw_unnumbered_k17_names_of_registers) rfl rfl (fun w h Y => PySem.W.kIn_of Y) ?F
  case F =>
    intro w mg fa h KX G hmg
    refine' My.all_mk KX G hmg ?aC_Answer ?aC_BadProgram ?aC_Draft ?aC_Program ?aC_Reader ?aC_Statement ?aC_TooMany ?aC_WrongLine ?a_is_word ?l_is_word ?c_is_word ?k_is_word ?a_token_at ?l_token_at ?c_token_at ?k_token_at ?a_tokens_of ?l_tokens_of ?dl_tokens_of ?c_tokens_of ?k_tokens_of ?a_Reader___init ?i_Reader___init ?l_Reader___init ?c_Reader___init ?k_Reader___init ?a_Reader_peek ?i_Reader_peek ?l_Reader_peek ?c_Reader_peek ?k_Reader_peek ?a_Reader_take ?i_Reader_take ?l_Reader_take ?c_Reader_take ?k_Reader_take ?a_Reader_skip_if ?i_Reader_skip_if ?l_Reader_skip_if ?c_Reader_skip_if ?k_Reader_skip_if ?a_Reader_expect ?i_Reader_expect ?l_Reader_expect ?c_Reader_expect ?k_Reader_expect ?a_Reader_expect_end ?i_Reader_expect_end ?l_Reader_expect_end ?c_Reader_expect_end ?k_Reader_expect_end ?a_Reader_kind_of ?i_Reader_kind_of ?l_Reader_kind_of ?c_Reader_kind_of ?k_Reader_kind_of ?a_Reader_read_name ?i_Reader_read_name ?l_Reader_read_name ?c_Reader_read_name ?k_Reader_read_name ?a_Reader_read_term ?i_Reader_read_term ?l_Reader_read_term ?c_Reader_read_term ?k_Reader_read_term ?a_Reader__sum_atom ?i_Reader__sum_atom ?l_Reader__sum_atom ?c_Reader__sum_atom ?k_Reader__sum_atom ?a_Reader__terms_in_brackets ?i_Reader__terms_in_brackets ?l_Reader__terms_in_brackets ?c_Reader__terms_in_brackets ?k_Reader__terms_in_brackets ?a_Reader__term_atom ?i_Reader__term_atom ?l_Reader__term_atom ?c_Reader__term_atom ?k_Reader__term_atom ?a_Reader__part ?i_Reader__part ?l_Reader__part ?c_Reader__part ?k_Reader__part ?a_Reader__atom ?i_Reader__atom ?l_Reader__atom ?c_Reader__atom ?k_Reader__atom ?a_Reader_read_test ?i_Reader_read_test ?l_Reader_read_test ?c_Reader_read_test ?k_Reader_read_test ?a_Statement___init ?i_Statement___init ?l_Statement___init ?c_Statement___init ?k_Statement___init ?a_Answer___init ?i_Answer___init ?l_Answer___init ?c_Answer___init ?k_Answer___init ?a_place_action ?l_place_action ?c_place_action ?k_place_action ?a_sum_action ?l_sum_action ?c_sum_action ?k_sum_action ?a_action ?l_action ?c_action ?k_action ?a_statement ?l_statement ?c_statement ?k_statement ?a_read_statement ?l_read_statement ?c_read_statement ?k_read_statement ?a_result ?l_result ?c_result ?k_result ?a_read_answer ?l_read_answer ?c_read_answer ?k_read_answer ?a_are_apart ?l_are_apart ?c_are_apart ?k_are_apart ?a_written ?l_written ?c_written ?k_written ?a_is_name ?l_is_name ?c_is_name ?k_is_name ?a_step ?l_step ?c_step ?k_step ?a_Draft__enter_part ?i_Draft__enter_part ?l_Draft__enter_part ?c_Draft__enter_part ?k_Draft__enter_part ?a_Draft__read_register ?i_Draft__read_register ?l_Draft__read_register ?c_Draft__read_register ?k_Draft__read_register ?a_Draft__read_steps ?i_Draft__read_steps ?l_Draft__read_steps ?c_Draft__read_steps ?k_Draft__read_steps ?a_Draft__read_answer ?i_Draft__read_answer ?l_Draft__read_answer ?c_Draft__read_answer ?k_Draft__read_answer ?a_Draft_read_line ?i_Draft_read_line ?l_Draft_read_line ?c_Draft_read_line ?k_Draft_read_line ?a_Draft___init ?i_Draft___init ?l_Draft___init ?c_Draft___init ?k_Draft___init ?a_Draft_names_of ?i_Draft_names_of ?l_Draft_names_of ?c_Draft_names_of ?k_Draft_names_of ?a_BadProgram___init ?i_BadProgram___init ?l_BadProgram___init ?c_BadProgram___init ?k_BadProgram___init ?a_draft_of ?l_draft_of ?c_draft_of ?k_draft_of ?a_TooMany___init ?i_TooMany___init ?l_TooMany___init ?c_TooMany___init ?k_TooMany___init ?a_Program__check_limits ?i_Program__check_limits ?l_Program__check_limits ?c_Program__check_limits ?k_Program__check_limits ?a_Program___init ?i_Program___init ?l_Program___init ?c_Program___init ?k_Program___init ?a_law_source ?l_law_source ?c_law_source ?k_law_source ?a_law_pick ?l_law_pick ?c_law_pick ?k_law_pick ?a_law_of ?l_law_of ?c_law_of ?k_law_of ?a_law_word ?l_law_word ?c_law_word ?k_law_word ?a_law_reserved ?l_law_reserved ?c_law_reserved ?k_law_reserved ?a_law_fate ?l_law_fate ?c_law_fate ?k_law_fate ?a_law_free ?l_law_free ?c_law_free ?k_law_free ?a_law_wrong ?l_law_wrong ?c_law_wrong ?k_law_wrong ?a_law ?l_law ?c_law ?k_law ?pg_Answer ?hd_Answer ?po_Answer ?sa_Answer ?ca_Answer ?cm_Answer ?mk_Answer ?kc_Answer ?xi_BadProgram ?xo_BadProgram ?xs_BadProgram ?xh_BadProgram ?xg_BadProgram ?xt_BadProgram ?xb_BadProgram ?xz_BadProgram ?xy_BadProgram ?xk_BadProgram ?xc_BadProgram ?xm_BadProgram ?oxl_BadProgram ?oxr_BadProgram ?oty_BadProgram ?pg_Draft ?hd_Draft ?po_Draft ?sa_Draft ?ca_Draft ?cm_Draft ?mk_Draft ?kc_Draft ?pg_Program ?hd_Program ?po_Program ?sa_Program ?ca_Program ?cm_Program ?mk_Program ?kc_Program ?pg_Reader ?hd_Reader ?po_Reader ?sa_Reader ?ca_Reader ?cm_Reader ?mk_Reader ?kc_Reader ?pg_Statement ?hd_Statement ?po_Statement ?sa_Statement ?ca_Statement ?cm_Statement ?mk_Statement ?kc_Statement ?xi_TooMany ?xo_TooMany ?xs_TooMany ?xh_TooMany ?xg_TooMany ?xt_TooMany ?xb_TooMany ?xz_TooMany ?xy_TooMany ?xk_TooMany ?xc_TooMany ?xm_TooMany ?xe_WrongLine ?xk_WrongLine ?xb_WrongLine ?xy_WrongLine ?xh_WrongLine ?xz_WrongLine ?gK_COMPARISONS ?gL_COMPARISONS ?gK_KINDS ?gL_KINDS ?gK_LIMITS ?gL_LIMITS ?gY_LIMITS ?gP_LIMITS ?gO_LIMITS ?gK_OTHER_TOKENS ?gL_OTHER_TOKENS ?gK_PARTS ?gL_PARTS ?gY_PARTS ?gP_PARTS ?gO_PARTS ?gK_RESERVED ?gL_RESERVED ?gK_RESULT_KINDS ?gL_RESULT_KINDS ?gY_RESULT_KINDS ?gP_RESULT_KINDS ?gO_RESULT_KINDS ?gK_STATEMENT_PART ?gK_STEPS ?gL_STEPS ?ocn ?oct ?no_Answer_flag ?no_Answer_name ?no_Answer_place ?no_Answer_result ?no_BadProgram_line ?no_Draft_answers ?no_Draft_kinds ?no_Draft_lines ?no_Draft_part ?no_Draft_starts ?no_Draft_statement_lines ?no_Draft_statements ?no_Draft_steps ?no_Program_answers ?no_Program_counts ?no_Program_flags ?no_Program_has_before ?no_Program_keeps ?no_Program_lines ?no_Program_places ?no_Program_read_answers ?no_Program_read_statements ?no_Program_starts ?no_Program_statements ?no_Program_steps ?no_Program_sums ?no_Reader_at ?no_Reader_is_in_run ?no_Reader_kinds ?no_Reader_tokens ?no_Statement_action ?no_Statement_test ?no_TooMany_what ?z_abs ?z_any ?z_dict ?z_enumerate ?z_int ?z_isinstance ?z_len ?z_list ?z_max ?z_min ?z_range ?z_str ?z_sum ?z_tuple ?ki_Answer_str ?ki_Draft_str ?ki_Program_str ?ki_Reader_str ?ki_Statement_str
    (case aC_Answer => k_is)
    (case aC_BadProgram => k_is)
    (case aC_Draft => k_is)
    (case aC_Program => k_is)
    (case aC_Reader => k_is)
    (case aC_Statement => k_is)
    (case aC_TooMany => k_is)
    (case aC_WrongLine => k_is)
    (case a_is_word => k_is)
    (case l_is_word => k_is)
    (case c_is_word => k_is)
    (case k_is_word => k_is)
    (case a_token_at => k_is)
    (case l_token_at => k_is)
    (case c_token_at => k_is)
    (case k_token_at => k_is)
    (case a_tokens_of => k_is)
    (case l_tokens_of => k_is)
    (case dl_tokens_of => k_is)
    (case c_tokens_of => k_is)
    (case k_tokens_of => k_is)
    (case a_Reader___init => k_is)
    (case i_Reader___init => k_is)
    (case l_Reader___init => k_is)
    (case c_Reader___init => k_is)
    (case k_Reader___init => k_is)
    (case a_Reader_peek => k_is)
    (case i_Reader_peek => k_is)
    (case l_Reader_peek => k_is)
    (case c_Reader_peek => k_is)
    (case k_Reader_peek => k_is)
    (case a_Reader_take => k_is)
    (case i_Reader_take => k_is)
    (case l_Reader_take => k_is)
    (case c_Reader_take => k_is)
    (case k_Reader_take => k_is)
    (case a_Reader_skip_if => k_is)
    (case i_Reader_skip_if => k_is)
    (case l_Reader_skip_if => k_is)
    (case c_Reader_skip_if => k_is)
    (case k_Reader_skip_if => k_is)
    (case a_Reader_expect => k_is)
    (case i_Reader_expect => k_is)
    (case l_Reader_expect => k_is)
    (case c_Reader_expect => k_is)
    (case k_Reader_expect => k_is)
    (case a_Reader_expect_end => k_is)
    (case i_Reader_expect_end => k_is)
    (case l_Reader_expect_end => k_is)
    (case c_Reader_expect_end => k_is)
    (case k_Reader_expect_end => k_is)
    (case a_Reader_kind_of => k_is)
    (case i_Reader_kind_of => k_is)
    (case l_Reader_kind_of => k_is)
    (case c_Reader_kind_of => k_is)
    (case k_Reader_kind_of => k_is)
    (case a_Reader_read_name => k_is)
    (case i_Reader_read_name => k_is)
    (case l_Reader_read_name => k_is)
    (case c_Reader_read_name => k_is)
    (case k_Reader_read_name => k_is)
    (case a_Reader_read_term => k_is)
    (case i_Reader_read_term => k_is)
    (case l_Reader_read_term => k_is)
    (case c_Reader_read_term => k_is)
    (case k_Reader_read_term => k_is)
    (case a_Reader__sum_atom => k_is)
    (case i_Reader__sum_atom => k_is)
    (case l_Reader__sum_atom => k_is)
    (case c_Reader__sum_atom => k_is)
    (case k_Reader__sum_atom => k_is)
    (case a_Reader__terms_in_brackets => k_is)
    (case i_Reader__terms_in_brackets => k_is)
    (case l_Reader__terms_in_brackets => k_is)
    (case c_Reader__terms_in_brackets => k_is)
    (case k_Reader__terms_in_brackets => k_is)
    (case a_Reader__term_atom => k_is)
    (case i_Reader__term_atom => k_is)
    (case l_Reader__term_atom => k_is)
    (case c_Reader__term_atom => k_is)
    (case k_Reader__term_atom => k_is)
    (case a_Reader__part => k_is)
    (case i_Reader__part => k_is)
    (case l_Reader__part => k_is)
    (case c_Reader__part => k_is)
    (case k_Reader__part => k_is)
    (case a_Reader__atom => k_is)
    (case i_Reader__atom => k_is)
    (case l_Reader__atom => k_is)
    (case c_Reader__atom => k_is)
    (case k_Reader__atom => k_is)
    (case a_Reader_read_test => k_is)
    (case i_Reader_read_test => k_is)
    (case l_Reader_read_test => k_is)
    (case c_Reader_read_test => k_is)
    (case k_Reader_read_test => k_is)
    (case a_Statement___init => k_is)
    (case i_Statement___init => k_is)
    (case l_Statement___init => k_is)
    (case c_Statement___init => k_is)
    (case k_Statement___init => k_is)
    (case a_Answer___init => k_is)
    (case i_Answer___init => k_is)
    (case l_Answer___init => k_is)
    (case c_Answer___init => k_is)
    (case k_Answer___init => k_is)
    (case a_place_action => k_is)
    (case l_place_action => k_is)
    (case c_place_action => k_is)
    (case k_place_action => k_is)
    (case a_sum_action => k_is)
    (case l_sum_action => k_is)
    (case c_sum_action => k_is)
    (case k_sum_action => k_is)
    (case a_action => k_is)
    (case l_action => k_is)
    (case c_action => k_is)
    (case k_action => k_is)
    (case a_statement => k_is)
    (case l_statement => k_is)
    (case c_statement => k_is)
    (case k_statement => k_is)
    (case a_read_statement => k_is)
    (case l_read_statement => k_is)
    (case c_read_statement => k_is)
    (case k_read_statement => k_is)
    (case a_result => k_is)
    (case l_result => k_is)
    (case c_result => k_is)
    (case k_result => k_is)
    (case a_read_answer => k_is)
    (case l_read_answer => k_is)
    (case c_read_answer => k_is)
    (case k_read_answer => k_is)
    (case a_are_apart => k_is)
    (case l_are_apart => k_is)
    (case c_are_apart => k_is)
    (case k_are_apart => k_is)
    (case a_written => k_is)
    (case l_written => k_is)
    (case c_written => k_is)
    (case k_written => k_is)
    (case a_is_name => k_is)
    (case l_is_name => k_is)
    (case c_is_name => k_is)
    (case k_is_name => k_is)
    (case a_step => k_is)
    (case l_step => k_is)
    (case c_step => k_is)
    (case k_step => k_is)
    (case a_Draft__enter_part => k_is)
    (case i_Draft__enter_part => k_is)
    (case l_Draft__enter_part => k_is)
    (case c_Draft__enter_part => k_is)
    (case k_Draft__enter_part => k_is)
    (case a_Draft__read_register => k_is)
    (case i_Draft__read_register => k_is)
    (case l_Draft__read_register => k_is)
    (case c_Draft__read_register => k_is)
    (case k_Draft__read_register => k_is)
    (case a_Draft__read_steps => k_is)
    (case i_Draft__read_steps => k_is)
    (case l_Draft__read_steps => k_is)
    (case c_Draft__read_steps => k_is)
    (case k_Draft__read_steps => k_is)
    (case a_Draft__read_answer => k_is)
    (case i_Draft__read_answer => k_is)
    (case l_Draft__read_answer => k_is)
    (case c_Draft__read_answer => k_is)
    (case k_Draft__read_answer => k_is)
    (case a_Draft_read_line => k_is)
    (case i_Draft_read_line => k_is)
    (case l_Draft_read_line => k_is)
    (case c_Draft_read_line => k_is)
    (case k_Draft_read_line => k_is)
    (case a_Draft___init => k_is)
    (case i_Draft___init => k_is)
    (case l_Draft___init => k_is)
    (case c_Draft___init => k_is)
    (case k_Draft___init => k_is)
    (case a_Draft_names_of => k_is)
    (case i_Draft_names_of => k_is)
    (case l_Draft_names_of => k_is)
    (case c_Draft_names_of => k_is)
    (case k_Draft_names_of => k_is)
    (case a_BadProgram___init => k_is)
    (case i_BadProgram___init => k_is)
    (case l_BadProgram___init => k_is)
    (case c_BadProgram___init => k_is)
    (case k_BadProgram___init => k_is)
    (case a_draft_of => k_is)
    (case l_draft_of => k_is)
    (case c_draft_of => k_is)
    (case k_draft_of => k_is)
    (case a_TooMany___init => k_is)
    (case i_TooMany___init => k_is)
    (case l_TooMany___init => k_is)
    (case c_TooMany___init => k_is)
    (case k_TooMany___init => k_is)
    (case a_Program__check_limits => k_is)
    (case i_Program__check_limits => k_is)
    (case l_Program__check_limits => k_is)
    (case c_Program__check_limits => k_is)
    (case k_Program__check_limits => k_is)
    (case a_Program___init => k_is)
    (case i_Program___init => k_is)
    (case l_Program___init => k_is)
    (case c_Program___init => k_is)
    (case k_Program___init => k_is)
    (case a_law_source => k_is)
    (case l_law_source => k_is)
    (case c_law_source => k_is)
    (case k_law_source => k_is)
    (case a_law_pick => k_is)
    (case l_law_pick => k_is)
    (case c_law_pick => k_is)
    (case k_law_pick => k_is)
    (case a_law_of => k_is)
    (case l_law_of => k_is)
    (case c_law_of => k_is)
    (case k_law_of => k_is)
    (case a_law_word => k_is)
    (case l_law_word => k_is)
    (case c_law_word => k_is)
    (case k_law_word => k_is)
    (case a_law_reserved => k_is)
    (case l_law_reserved => k_is)
    (case c_law_reserved => k_is)
    (case k_law_reserved => k_is)
    (case a_law_fate => k_is)
    (case l_law_fate => k_is)
    (case c_law_fate => k_is)
    (case k_law_fate => k_is)
    (case a_law_free => k_is)
    (case l_law_free => k_is)
    (case c_law_free => k_is)
    (case k_law_free => k_is)
    (case a_law_wrong => k_is)
    (case l_law_wrong => k_is)
    (case c_law_wrong => k_is)
    (case k_law_wrong => k_is)
    (case a_law => k_is)
    (case l_law => k_is)
    (case c_law => k_is)
    (case k_law => k_is)
    (case pg_Answer => k_is)
    (case hd_Answer => k_is)
    (case po_Answer => k_is)
    (case sa_Answer => k_is)
    (case ca_Answer => k_is)
    (case cm_Answer => k_is)
    (case mk_Answer => k_is)
    (case kc_Answer => k_is)
    (case xi_BadProgram => kx_is)
    (case xo_BadProgram => kx_is)
    (case xs_BadProgram => k_is)
    (case xh_BadProgram => k_is)
    (case xg_BadProgram => k_is)
    (case xt_BadProgram => k_is)
    (case xb_BadProgram => k_is)
    (case xz_BadProgram => k_is)
    (case xy_BadProgram => k_is)
    (case xk_BadProgram => k_is)
    (case xc_BadProgram => k_is)
    (case xm_BadProgram => k_is)
    (case oxl_BadProgram => k_is)
    (case oxr_BadProgram => rfl)
    (case oty_BadProgram => k_is)
    (case pg_Draft => k_is)
    (case hd_Draft => k_is)
    (case po_Draft => k_is)
    (case sa_Draft => k_is)
    (case ca_Draft => k_is)
    (case cm_Draft => k_is)
    (case mk_Draft => k_is)
    (case kc_Draft => k_is)
    (case pg_Program => k_is)
    (case hd_Program => k_is)
    (case po_Program => k_is)
    (case sa_Program => k_is)
    (case ca_Program => k_is)
    (case cm_Program => k_is)
    (case mk_Program => k_is)
    (case kc_Program => k_is)
    (case pg_Reader => k_is)
    (case hd_Reader => k_is)
    (case po_Reader => k_is)
    (case sa_Reader => k_is)
    (case ca_Reader => k_is)
    (case cm_Reader => k_is)
    (case mk_Reader => k_is)
    (case kc_Reader => k_is)
    (case pg_Statement => k_is)
    (case hd_Statement => k_is)
    (case po_Statement => k_is)
    (case sa_Statement => k_is)
    (case ca_Statement => k_is)
    (case cm_Statement => k_is)
    (case mk_Statement => k_is)
    (case kc_Statement => k_is)
    (case xi_TooMany => kx_is)
    (case xo_TooMany => kx_is)
    (case xs_TooMany => k_is)
    (case xh_TooMany => k_is)
    (case xg_TooMany => k_is)
    (case xt_TooMany => k_is)
    (case xb_TooMany => k_is)
    (case xz_TooMany => k_is)
    (case xy_TooMany => k_is)
    (case xk_TooMany => k_is)
    (case xc_TooMany => k_is)
    (case xm_TooMany => k_is)
    (case xe_WrongLine => k_exc)
    (case xk_WrongLine => k_is)
    (case xb_WrongLine => k_is)
    (case xy_WrongLine => k_is)
    (case xh_WrongLine => k_is)
    (case xz_WrongLine => k_is)
    (case gK_COMPARISONS => k_is)
    (case gL_COMPARISONS => k_is)
    (case gK_KINDS => k_is)
    (case gL_KINDS => k_is)
    (case gK_LIMITS => k_is)
    (case gL_LIMITS => k_is)
    (case gY_LIMITS => k_keys)
    (case gP_LIMITS => repeat (first | exact .nil | refine .cons ⟨⟨_, rfl⟩, ⟨_, rfl⟩⟩ ?_))
    (case gO_LIMITS => rfl)
    (case gK_OTHER_TOKENS => k_is)
    (case gL_OTHER_TOKENS => k_is)
    (case gK_PARTS => k_is)
    (case gL_PARTS => k_is)
    (case gY_PARTS => k_keys)
    (case gP_PARTS => repeat (first | exact .nil | refine .cons ⟨⟨_, rfl⟩, ⟨_, rfl⟩⟩ ?_))
    (case gO_PARTS => rfl)
    (case gK_RESERVED => k_is)
    (case gL_RESERVED => k_is)
    (case gK_RESULT_KINDS => k_is)
    (case gL_RESULT_KINDS => k_is)
    (case gY_RESULT_KINDS => k_keys)
    (case gP_RESULT_KINDS => repeat (first | exact .nil | refine .cons ⟨⟨_, rfl⟩, ⟨_, rfl⟩⟩ ?_))
    (case gO_RESULT_KINDS => rfl)
    (case gK_STATEMENT_PART => k_is)
    (case gK_STEPS => k_is)
    (case gL_STEPS => k_is)
    (case ocn => k_is)
    (case oct => k_is)
    (case no_Answer_flag => k_is)
    (case no_Answer_name => k_is)
    (case no_Answer_place => k_is)
    (case no_Answer_result => k_is)
    (case no_BadProgram_line => k_is)
    (case no_Draft_answers => k_is)
    (case no_Draft_kinds => k_is)
    (case no_Draft_lines => k_is)
    (case no_Draft_part => k_is)
    (case no_Draft_starts => k_is)
    (case no_Draft_statement_lines => k_is)
    (case no_Draft_statements => k_is)
    (case no_Draft_steps => k_is)
    (case no_Program_answers => k_is)
    (case no_Program_counts => k_is)
    (case no_Program_flags => k_is)
    (case no_Program_has_before => k_is)
    (case no_Program_keeps => k_is)
    (case no_Program_lines => k_is)
    (case no_Program_places => k_is)
    (case no_Program_read_answers => k_is)
    (case no_Program_read_statements => k_is)
    (case no_Program_starts => k_is)
    (case no_Program_statements => k_is)
    (case no_Program_steps => k_is)
    (case no_Program_sums => k_is)
    (case no_Reader_at => k_is)
    (case no_Reader_is_in_run => k_is)
    (case no_Reader_kinds => k_is)
    (case no_Reader_tokens => k_is)
    (case no_Statement_action => k_is)
    (case no_Statement_test => k_is)
    (case no_TooMany_what => k_is)
    (case z_abs => k_is)
    (case z_any => k_is)
    (case z_dict => k_is)
    (case z_enumerate => k_is)
    (case z_int => k_is)
    (case z_isinstance => k_is)
    (case z_len => k_is)
    (case z_list => k_is)
    (case z_max => k_is)
    (case z_min => k_is)
    (case z_range => k_is)
    (case z_str => k_is)
    (case z_sum => k_is)
    (case z_tuple => k_is)
    (case ki_Answer_str => kit_is)
    (case ki_Draft_str => kit_is)
    (case ki_Program_str => kit_is)
    (case ki_Reader_str => kit_is)
    (case ki_Statement_str => kit_is)
#print axioms PySem.Challenge.cw_unnumbered_k17_names_of_registers_holds
