import PyProof.Rows.All
import Wide.All
import OpenK.AllK
import Wide.FinOn
import HandS.ForMost
import HandS.Wide
import HandS.Gcd
import HandS.Property
import HandS.IsInst
import HandS.Codes
import HandS.TupAny
import HandS.Style
import HandS.RaiseMore
import HandS.SortInts
import HandS.StrMore
import HandS.Conv
import HandS.Zip
import HandS.Rev
import HandS.FStr
import KE.KExcInit
import HandS.ExcInit
import HandS.ExcField
import HandS.ExcOwn
import HandS.Lambda
import HandS.EndTab
import KE.KNestM
import HandS.TryMany
import KE.GoesEnum
import PyProof.ListStr
import PyProof.StrOps2
import HandS.Iter
import HandS.Walk
import PySem.Challenge.RW_slantways_k07_turned_words_and_their_lev
set_option Elab.async false
set_option linter.all false
set_option maxRecDepth 100000
set_option maxHeartbeats 4000000
/-! Sx: small steps over readings, heaps that only grow, dice. -/
namespace Sx
open PySem PySem.Spec PyProof.Rows L2

/-! ### the built-ins by name -/
theorem bt_len : bootBuiltins "len" = some (.builtin "len") := by decide +kernel
theorem bt_abs : bootBuiltins "abs" = some (.builtin "abs") := by decide +kernel
theorem bt_max : bootBuiltins "max" = some (.builtin "max") := by decide +kernel
theorem bt_min : bootBuiltins "min" = some (.builtin "min") := by decide +kernel
theorem bt_sum : bootBuiltins "sum" = some (.builtin "sum") := by decide +kernel
theorem bt_any : bootBuiltins "any" = some (.builtin "any") := by decide +kernel
theorem bt_all : bootBuiltins "all" = some (.builtin "all") := by decide +kernel
theorem bt_sorted : bootBuiltins "sorted" = some (.builtin "sorted") := by decide +kernel
theorem bt_isinstance : bootBuiltins "isinstance" = some (.builtin "isinstance") := by decide +kernel
theorem bt_ord : bootBuiltins "ord" = some (.builtin "ord") := by decide +kernel
theorem bt_chr : bootBuiltins "chr" = some (.builtin "chr") := by decide +kernel
theorem bt_repr : bootBuiltins "repr" = some (.builtin "repr") := by decide +kernel
theorem bt_int : bootBuiltins "int" = some (.type "int") := by decide +kernel
theorem bt_str : bootBuiltins "str" = some (.type "str") := by decide +kernel
theorem bt_bool : bootBuiltins "bool" = some (.type "bool") := by decide +kernel
theorem bt_list : bootBuiltins "list" = some (.type "list") := by decide +kernel
theorem bt_tuple : bootBuiltins "tuple" = some (.type "tuple") := by decide +kernel
theorem bt_range : bootBuiltins "range" = some (.type "range") := by decide +kernel

/-! ### steps: one lemma for each head of a reading -/
section
variable {σ : L2.St} {H : Hp} {nx bk ct : L2.St → Hp → Prop} {rt Q : VK} {ta tb tc te : TE} {tt uu : TT} {t u : TS} {tl : TA} {x y v : V} {r : R2}
theorem r_st {t : TS} {D : Ends} {σ σ' : L2.St} {H : Hp} (e : σ = σ') (h : t D σ' H) : t D σ H := by rw [e]; exact h
theorem r_seq (h : t ⟨u ⟨nx, rt, bk, ct⟩, rt, bk, ct⟩ σ H) : tSeq t u ⟨nx, rt, bk, ct⟩ σ H := h
theorem r_next (h : nx σ H) : tNext ⟨nx, rt, bk, ct⟩ σ H := h
theorem r_break (h : bk σ H) : tBreak ⟨nx, rt, bk, ct⟩ σ H := h
theorem r_cont (h : ct σ H) : tCont ⟨nx, rt, bk, ct⟩ σ H := h
theorem r_asg {g : TG} (h : te σ H fun x H1 => g x σ H1 nx) : tAsg te g ⟨nx, rt, bk, ct⟩ σ H := h
theorem r_name {i : Nat} {k : L2.St → Hp → Prop} (h : k (σ.set i (some v)) H) : gName i v σ H k := h
theorem r_ret (h : te σ H rt) : tRet te ⟨nx, rt, bk, ct⟩ σ H := h
theorem r_retN (h : rt .non H) : tRetN ⟨nx, rt, bk, ct⟩ σ H := h
theorem r_drop (h : te σ H fun _ H1 => nx σ H1) : tDrop te ⟨nx, rt, bk, ct⟩ σ H := h
theorem r_ifs (h : tt σ H fun b H1 => if b = true then t ⟨nx, rt, bk, ct⟩ σ H1 else u ⟨nx, rt, bk, ct⟩ σ H1) : tIfS tt t u ⟨nx, rt, bk, ct⟩ σ H := h
theorem r_par {i j : Nat} (h : tl σ H fun vs H1 => ∃ v w, vs = [v, w] ∧ nx ((σ.set i (some v)).set j (some w)) H1) : tPar i j tl ⟨nx, rt, bk, ct⟩ σ H := h
theorem r_par3 {i j l : Nat} (h : tl σ H fun vs H1 => ∃ u v w, vs = [u, v, w] ∧ nx (((σ.set i (some u)).set j (some v)).set l (some w)) H1) : tPar3 i j l tl ⟨nx, rt, bk, ct⟩ σ H := h
theorem r_two {P : V → V → Prop} {a b : V} (h : P a b) : ∃ v w, [a, b] = [v, w] ∧ P v w := ⟨a, b, rfl, h⟩
theorem r_three {P : V → V → V → Prop} {a b c : V} (h : P a b c) : ∃ u v w, [a, b, c] = [u, v, w] ∧ P u v w := ⟨a, b, c, rfl, h⟩
theorem r_var {i : Nat} (e : σ[i]? = some (some v)) (h : Q v H) : tVar i σ H Q := ⟨v, e, h⟩
theorem r_c (h : Q v H) : tC v σ H Q := h
theorem r_op (h : ta σ H fun x H1 => tb σ H1 fun y H2 => r x y H2 Q) : tOp r ta tb σ H Q := h
theorem r_un {f : V → Hp → VK → Prop} (h : ta σ H fun x H1 => f x H1 Q) : tUn f ta σ H Q := h
theorem r_I0 {g : Int → Int → V} {i j : Int} (h : Q (g i j) H) : rI0 g (.int i) (.int j) H Q := ⟨i, j, rfl, rfl, h⟩
theorem r_I {C : Int → Int → Prop} {g : Int → Int → V} {i j : Int} (hc : C i j) (h : Q (g i j) H) : rI C g (.int i) (.int j) H Q := ⟨i, j, rfl, rfl, hc, h⟩
theorem r_U {g : Int → V} {i : Int} (h : Q (g i) H) : rU g (.int i) H Q := ⟨i, rfl, h⟩
theorem dI {i j : Int} : decide (V.int i = V.int j) = decide (i = j) := by simp
theorem dS {i j : Str} : decide (V.str i = V.str j) = decide (i = j) := by simp
theorem dB {i j : Bool} : decide (V.bl i = V.bl j) = decide (i = j) := by simp
theorem r_eqI {i j : Int} (h : Q (.bl (decide (i = j))) H) : rEq (.int i) (.int j) H Q := ⟨rfl, by rw [dI]; exact h⟩
theorem r_neI {i j : Int} (h : Q (.bl (!decide (i = j))) H) : rNe (.int i) (.int j) H Q := ⟨rfl, by rw [dI]; exact h⟩
theorem r_eqS {i j : Str} (h : Q (.bl (decide (i = j))) H) : rEq (.str i) (.str j) H Q := ⟨rfl, by rw [dS]; exact h⟩
theorem r_neS {i j : Str} (h : Q (.bl (!decide (i = j))) H) : rNe (.str i) (.str j) H Q := ⟨rfl, by rw [dS]; exact h⟩
theorem r_eqB {i j : Bool} (h : Q (.bl (decide (i = j))) H) : rEq (.bl i) (.bl j) H Q := ⟨rfl, by rw [dB]; exact h⟩
theorem r_neB {i j : Bool} (h : Q (.bl (!decide (i = j))) H) : rNe (.bl i) (.bl j) H Q := ⟨rfl, by rw [dB]; exact h⟩
theorem r_test {Q : Bool → Hp → Prop} (h : ta σ H fun x H1 => ∃ k, x = .bl k ∧ Q k H1) : tTest ta σ H Q := h
theorem r_B {Q : Bool → Hp → Prop} (h : ta σ H fun x H1 => ∃ k, x = .bl k ∧ Q k H1) : tB ta σ H Q := h
theorem r_bl {P : Bool → Prop} {b : Bool} (h : P b) : ∃ k, V.bl b = .bl k ∧ P k := ⟨b, rfl, h⟩
theorem r_and {Q : Bool → Hp → Prop} (h : tt σ H fun c H1 => if c = true then uu σ H1 Q else Q false H1) : tAnd tt uu σ H Q := h
theorem r_or {Q : Bool → Hp → Prop} (h : tt σ H fun c H1 => if c = true then Q true H1 else uu σ H1 Q) : tOr tt uu σ H Q := h
theorem r_not {Q : Bool → Hp → Prop} (h : tt σ H fun c H1 => Q (!c) H1) : tNot tt σ H Q := h
theorem r_andV (h : ta σ H fun x H1 => ∃ c, x = .bl c ∧ if c = true then tb σ H1 Q else Q (.bl false) H1) : tAndV ta tb σ H Q := h
theorem r_orV (h : ta σ H fun x H1 => ∃ c, x = .bl c ∧ if c = true then Q (.bl true) H1 else tb σ H1 Q) : tOrV ta tb σ H Q := h
theorem r_notV (h : ta σ H fun x H1 => ∃ c, x = .bl c ∧ Q (.bl (!c)) H1) : tNotV ta σ H Q := h
theorem r_ifE (h : tt σ H fun c H1 => if c = true then ta σ H1 Q else tb σ H1 Q) : tIf tt ta tb σ H Q := h
theorem r_chain {r r' : R2} (h : ta σ H fun x H1 => tb σ H1 fun y H2 => r x y H2 fun z H3 => ∃ k, z = .bl k ∧ (if k = true then tc σ H3 fun w' H4 => r' y w' H4 Q else Q (.bl false) H3)) : tChain r r' ta tb tc σ H Q := h
theorem r_nil {Q : List V → Hp → Prop} (h : Q [] H) : tNil σ H Q := h
theorem r_cons {Q : List V → Hp → Prop} (h : ta σ H fun x H1 => tl σ H1 fun xs H2 => Q (x :: xs) H2) : tCons ta tl σ H Q := h
theorem r_call {sp : Sp} {E : XK} (h : tl σ H fun vs H1 => sp (vs ++ []) H1 Q E) : tCall sp [] E tl σ H Q := h
theorem r_cb {f : List V → Hp → VK → Prop} (h : tl σ H fun vs H1 => f vs H1 Q) : tCB f tl σ H Q := h
def MakeP (C : Addr) (sp : Sp) (E : XK) (vs : List V) (H1 : Hp) (Q : VK) : Prop := ∀ x dx, H1 x = none → H1 dx = none → dx ≠ x → sp (.ref x :: (vs ++ [])) (upd (upd H1 dx (.own x)) x (.ins C dx [])) (fun v H2 => v = .non ∧ Q (.ref x) H2) E
theorem r_make {C : Addr} {sp : Sp} {E : XK} (h : tl σ H fun vs H1 => MakeP C sp E vs H1 Q) : tMake C sp [] E tl σ H Q := h
theorem r_tup (h : tl σ H fun xs H1 => xs.length ≤ sizeLine ∧ ∀ p, H1 p = none → Q (.ref p) (upd H1 p (.tup xs))) : tTup tl σ H Q := h
theorem r_lst (h : tl σ H fun xs H1 => xs.length ≤ sizeLine ∧ ∀ p, H1 p = none → Q (.ref p) (upd H1 p (.lst xs))) : tLst tl σ H Q := h
theorem r_prop {C : Addr} {sp : Sp} {E : XK} {dx a : Addr} {fs : List (Str × V)} (e : H a = some (.ins C dx fs)) (h : sp [.ref a] H Q E) : ∃ a' dx fs, V.ref a = .ref a' ∧ H a' = some (.ins C dx fs) ∧ sp (.ref a' :: []) H Q E := ⟨a, dx, fs, rfl, e, h⟩
theorem r_tprop {C : Addr} {sp : Sp} {E : XK} (h : ta σ H fun x H1 => ∃ a dx fs, x = .ref a ∧ H1 a = some (.ins C dx fs) ∧ sp (.ref a :: []) H1 Q E) : tProp C sp [] E ta σ H Q := h
theorem r_meth {C : Addr} {m : Str} {sp : Sp} {E : XK} (h : ta σ H fun x H1 => ∃ a dx fs, x = .ref a ∧ H1 a = some (.ins C dx fs) ∧ fs.lookup m = none ∧ tl σ H1 fun vs H2 => sp (x :: (vs ++ [])) H2 Q E) : tMeth C m sp [] E ta tl σ H Q := h
theorem r_getSp {C : Addr} {f : Str} {E : XK} {a dx : Addr} {fs : List (Str × V)} (e : H a = some (.ins C dx fs)) (l : fs.lookup f = some v) (h : Q v H) : getSp C f [.ref a] H Q E := ⟨a, dx, fs, v, rfl, e, l, h⟩
theorem r_fld {K : PySem.W.Frag} {f : Str} (h : ta σ H fun x H1 => ∃ a C dx fs v, x = .ref a ∧ H1 a = some (.ins C dx fs) ∧ Cls K C ∧ NoAttr K C f ∧ fs.lookup f = some v ∧ Q v H1) : tFld K ta f σ H Q := h
theorem r_BM {K : PySem.W.Frag} {T : String} {f : V → List V → Hp → VK → Prop} (h : ta σ H fun x H1 => tyV K T x H1 ∧ tl σ H1 fun xs H2 => f x xs H2 Q) : tBM K T f ta tl σ H Q := h
theorem r_BM0 {K : PySem.W.Frag} {T : String} {f : V → List V → Hp → VK → Prop} (h : ta σ H fun x H1 => tyV K T x H1 ∧ f x [] H1 Q) : tBM0 K T f ta σ H Q := h
theorem r_sub {ti : TE} {s : TSet} {k : L2.St → Hp → Prop} (h : ta σ H fun o H1 => ti σ H1 fun i H2 => s o i v H2 fun H3 => k σ H3) : gSub ta ti s v σ H k := h
theorem r_sl {f : V → Option Int → Option Int → Hp → VK → Prop} {t1 t2 : TO} (h : te σ H fun x H1 => t1 σ H1 fun l H2 => t2 σ H2 fun u H3 => f x l u H3 Q) : tSl f te t1 t2 σ H Q := h
theorem r_noPart {Q : Option Int → Hp → Prop} (h : Q none H) : tNoPart σ H Q := h
theorem r_part {Q : Option Int → Hp → Prop} (h : te σ H fun x H1 => ∃ i, x = .int i ∧ Q (some i) H1) : tPart te σ H Q := h
theorem r_int {P : Int → Prop} {i : Int} (h : P i) : ∃ j, V.int i = .int j ∧ P j := ⟨i, rfl, h⟩
theorem iteNT {A B : Prop} {i : Decidable ((!true) = true)} (h : B) : @ite Prop ((!true) = true) i A B := by
  rw [if_neg (fun z => nomatch z)]; exact h
theorem iteNF {A B : Prop} {i : Decidable ((!false) = true)} (h : A) : @ite Prop ((!false) = true) i A B := by
  rw [if_pos (show (!false) = true from rfl)]; exact h
theorem iteT' {A B : Prop} {i : Decidable (true = true)} (h : A) : @ite Prop (true = true) i A B := by
  rw [if_pos rfl]; exact h
theorem iteF' {A B : Prop} {i : Decidable (false = true)} (h : B) : @ite Prop (false = true) i A B := by
  rw [if_neg Bool.false_ne_true]; exact h
theorem r_cutQ {t : TE} (S : V → Hp → Prop) (h : ∀ Q' : VK, (∀ v H1, S v H1 → Q' v H1) → t σ H Q') (k : ∀ v H1, S v H1 → Q v H1) : t σ H Q := h Q k
theorem r_cutS {t : TS} (S : L2.St → Hp → Prop) (h : ∀ nx', (∀ σ H, S σ H → nx' σ H) → t ⟨nx', rt, bk, ct⟩ σ H) (k : ∀ σ H, S σ H → nx σ H) : t ⟨nx, rt, bk, ct⟩ σ H := h nx k
theorem ite_d {p A B : Prop} {j : Decidable p} {i : Decidable (@decide p j = true)} (h1 : p → A) (h2 : ¬ p → B) : @ite Prop (@decide p j = true) i A B := by
  by_cases h : p
  · rw [if_pos (decide_eq_true h)]; exact h1 h
  · rw [if_neg (by rw [decide_eq_false h]; exact Bool.false_ne_true)]; exact h2 h
theorem ite_nd {p A B : Prop} {j : Decidable p} {i : Decidable ((!@decide p j) = true)} (h1 : ¬ p → A) (h2 : p → B) : @ite Prop ((!@decide p j) = true) i A B := by
  by_cases h : p
  · rw [if_neg (by rw [decide_eq_true h]; exact Bool.false_ne_true)]; exact h2 h
  · rw [if_pos (by rw [decide_eq_false h]; rfl)]; exact h1 h
theorem ite_b {b : Bool} {A B : Prop} {i : Decidable (b = true)} (h1 : b = true → A) (h2 : b = false → B) : @ite Prop (b = true) i A B := by
  cases b with
  | true => rw [if_pos rfl]; exact h1 rfl
  | false => rw [if_neg Bool.false_ne_true]; exact h2 rfl
end

/-! ### more steps -/
section
variable {σ : L2.St} {H : Hp} {Q : VK} {v x y : V} {K : PySem.W.Frag}
theorem r_isi_int_bool {i : Int} (h : Q (.bl false) H) : rIsi K [.int i, .ty "bool"] H Q := ⟨_, _, _, _, false, rfl, .ty _, .base (.int i), kit_ty (by decide +kernel), h⟩
theorem r_isi_int_int {i : Int} (h : Q (.bl true) H) : rIsi K [.int i, .ty "int"] H Q := ⟨_, _, _, _, true, rfl, .ty _, .base (.int i), kit_ty (by decide +kernel), h⟩
theorem r_isi_str_str {i : Str} (h : Q (.bl true) H) : rIsi K [.str i, .ty "str"] H Q := ⟨_, _, _, _, true, rfl, .ty _, .base (.str i), kit_ty (by decide +kernel), h⟩
theorem r_isi_own {a C dx : Addr} {fs : List (Str × V)} {b : Bool} {D : Addr} (e : H a = some (.ins C dx fs)) (cl : Cls K C) (ha : PySem.W.findIn K (.ref C) "__class__" = some (some (.builtin "object.__class__")))
    (hn : PySem.W.specialIn K (.builtin "object.__class__") "__get__" = some (some (.builtin "getset_descriptor.__get__"))) (htk : PySem.W.takesIn K (.builtin "object.__class__") = some true) (hm : PySem.W.mroIn K C (.type "object") = some true)
    (ks : PySem.W.kitOne K (.ref C) (.ref D) = some b) (h : Q (.bl b) H) : rIsi K [.ref a, .ref D] H Q := ⟨_, _, _, _, b, rfl, .own D, .base (.ins e cl ha hn htk hm), ks, h⟩
theorem r_Ih {C : Int → Int → Prop} {g : Int → Int → V} {i j : Int} (h : Q (g i j) H) (hc : C i j) : rI C g (.int i) (.int j) H Q := ⟨i, j, rfl, rfl, hc, h⟩
theorem r_ixL {p : Addr} {xs : List V} {i : Int} (hp : H p = some (.lst xs)) (a : atI xs i = some v) (h : Q v H) : rIxL K (.ref p) (.int i) H Q := ⟨p, xs, i, v, rfl, rfl, SqL.of hp, a, h⟩
theorem r_ixT {p : Addr} {xs : List V} {i : Int} (hp : H p = some (.tup xs)) (a : atI xs i = some v) (h : Q v H) : rIxT K (.ref p) (.int i) H Q := ⟨p, xs, i, v, rfl, rfl, SqT.of hp, a, h⟩
theorem r_sFld {K : PySem.W.Frag} {f : Str} {ta tv : TE} {σ : L2.St} {nx bk ct : L2.St → Hp → Prop} {rt : VK} (h : tv σ H fun y H1 => ta σ H1 fun x H2 => ∃ a C dx fs, x = .ref a ∧ H2 a = some (.ins C dx fs) ∧ Cls K C ∧ NoAttr K C f ∧ fs.length < 1000 ∧ nx σ (upd H2 a (.ins C dx (putF f y fs)))) : sFld K ta tv f ⟨nx, rt, bk, ct⟩ σ H := h
theorem len1 {f : Str} {v : V} : (putF f v []).length < 1000 := Nat.lt_of_le_of_lt (length_putF f v []) (by decide)
theorem len2 {f g : Str} {v w : V} : (putF f v (putF g w [])).length < 1000 := Nat.lt_of_le_of_lt (Nat.le_trans (length_putF f v _) (Nat.succ_le_succ (length_putF g w []))) (by decide)
theorem len3 {f g k : Str} {v w u : V} : (putF f v (putF g w (putF k u []))).length < 1000 := Nat.lt_of_le_of_lt (Nat.le_trans (length_putF f v _) (Nat.succ_le_succ (Nat.le_trans (length_putF g w _) (Nat.succ_le_succ (length_putF k u []))))) (by decide)
theorem len4 {f g k j : Str} {v w u t : V} : (putF f v (putF g w (putF k u (putF j t [])))).length < 1000 := Nat.lt_of_le_of_lt (Nat.le_trans (length_putF f v _) (Nat.succ_le_succ (Nat.le_trans (length_putF g w _) (Nat.succ_le_succ (Nat.le_trans (length_putF k u _) (Nat.succ_le_succ (length_putF j t []))))))) (by decide)
theorem r_insput {K : PySem.W.Frag} {f : Str} {y : V} {nx : L2.St → Hp → Prop} {σ : L2.St} {a C dx : Addr} {fs : List (Str × V)} (e : H a = some (.ins C dx fs)) (cl : Cls K C) (na : NoAttr K C f) (hl : fs.length < 1000) (h : nx σ (upd H a (.ins C dx (putF f y fs)))) :
    ∃ a' C dx fs, V.ref a = .ref a' ∧ H a' = some (.ins C dx fs) ∧ Cls K C ∧ NoAttr K C f ∧ fs.length < 1000 ∧ nx σ (upd H a' (.ins C dx (putF f y fs))) := ⟨a, C, dx, fs, rfl, e, cl, na, hl, h⟩
theorem r_setL {p : Addr} {xs : List V} {i : Int} {j : Nat} {Q : Hp → Prop} (hp : H p = some (.lst xs)) (a : ixN xs.length i = some j) (h : Q (upd H p (.lst (xs.set j v)))) : rSetL (.ref p) (.int i) v H Q := ⟨p, xs, i, j, rfl, rfl, hp, a, h⟩
theorem tyL {l : Addr} {xs : List V} (h : H l = some (.lst xs)) : tyV K "list" (.ref l) H := .inl ⟨rfl, xs, SqL.of h⟩
theorem r_app {l : Addr} {xs : List V} (hp : H l = some (.lst xs)) (h : Q .non (upd H l (.lst (xs ++ [v])))) (hl : xs.length < sizeLine) : rAppend (.ref l) [v] H Q := ⟨l, xs, v, rfl, rfl, hp, hl, h⟩
theorem r_gcd {a b : Int} (h : Q (.int ((Nat.gcd a.natAbs b.natAbs : Nat) : Int)) H) : rGcd [.int a, .int b] H Q := ⟨a, b, rfl, h⟩
theorem sz (n : Nat) (h : n ≤ 100000) : n ≤ sizeLine := Nat.le_trans h (by decide)
theorem sz' (n : Nat) (h : n < 100000) : n < sizeLine := Nat.lt_of_lt_of_le h (by decide)
theorem cmulw {i j : Int} {a b : Nat} (ha : i.natAbs < 2 ^ a) (hb : j.natAbs < 2 ^ b) (h : a + b ≤ 100000) (h0 : 0 < a := by decide) (h1 : 0 < b := by decide) : CMulW i j := wide_mul ha hb h0 h1 (by omega)
theorem cdivw {i j : Int} {b : Nat} (h : 0 < j) (hb : j.natAbs < 2 ^ b) (h9 : b ≤ 9000) (h0 : 0 < b := by decide) : CDivW i j := wide_div h hb h0 h9
/-- * of two ints, one of them small, or both not too great -/
def CMulA (i j : Int) : Prop := CMul i j ∨ CMulW i j
theorem op_mulA {X : Cx} : OpR X (binaryOp .Mult) (rI CMulA fun i j => .int (i * j)) := opI fun _ _ _ _ _ _ _ hc q => mul_int q (by
  rcases hc with h | h
  · exact h.ok
  · exact h.ok)
theorem cmA_l {i j : Int} (h : -(2 ^ 64) < i ∧ i < 2 ^ 64) : CMulA i j := .inl (.inl h)
theorem cmA_r {i j : Int} (h : -(2 ^ 64) < j ∧ j < 2 ^ 64) : CMulA i j := .inl (.inr h)
theorem cmA_w {i j : Int} (h : CMulW i j) : CMulA i j := .inr h
/-- comb, perm -/
theorem r_gtup {p : Addr} {xs : List V} {n : Nat} {t : TGs} {k : L2.St → Hp → Prop} (hp : H p = some (.tup xs)) (hl : xs.length = n) (h : t xs σ H k) : gTup K n t (.ref p) σ H k := ⟨p, xs, rfl, SqT.of hp, hl, h⟩
theorem r_gcons {t : TG} {u : TGs} {r : List V} {k : L2.St → Hp → Prop} (h : t v σ H fun σ' H' => u r σ' H' k) : gCons t u (v :: r) σ H k := ⟨v, r, rfl, h⟩
theorem r_gnil {k : L2.St → Hp → Prop} (h : k σ H) : gNil [] σ H k := ⟨rfl, h⟩
def rComb : List V → Hp → VK → Prop := fun vs H Q => ∃ a b : Int, vs = [.int a, .int b] ∧ 0 ≤ a ∧ 0 ≤ b ∧ a ≤ 18000 ∧ Q (.int (PySem.W.mcComb a b)) H
theorem cr_comb {X : Cx} : CallR X (.builtin "math.comb") rComb := by
  intro pins s σ H vs us Q I r h
  obtain ⟨a, b, rfl, ha, hb, h8, q⟩ := h
  obtain ⟨t, u, rfl⟩ := Vals.int2 r
  exact PySem.W.mc_comb ha hb (by omega) (.inr h8) fun _ => ⟨.int _, H, I.tok _, ⟨_, rfl⟩, q⟩
theorem r_comb {a b : Int} (h : Q (.int (PySem.W.mcComb a b)) H) (ha : 0 ≤ a) (hb : 0 ≤ b) (h8 : a ≤ 18000) : rComb [.int a, .int b] H Q := ⟨a, b, rfl, ha, hb, h8, h⟩
end

/-! ### readings by names -/
section
variable {X : Cx} {σ : L2.St} {H : Hp} {Q : VK} {K : PySem.W.Frag}
def qInt : List V → Hp → VK → Prop := fun xs H Q => (∃ i, xs = [.int i] ∧ Q (.int i) H) ∨ ∃ k, xs = [.bl k] ∧ Q (.int (if k then 1 else 0)) H
theorem c_int : CallR X (.type "int") qInt := call_int1
theorem r_int1 {i : Int} (h : Q (.int i) H) : qInt [.int i] H Q := .inl ⟨i, rfl, h⟩
theorem r_intB {k : Bool} (h : Q (.int (if k then 1 else 0)) H) : qInt [.bl k] H Q := .inr ⟨k, rfl, h⟩
def qAbs : List V → Hp → VK → Prop := fun xs H Q => ∃ i, xs = [.int i] ∧ Q (.int (if i < 0 then -i else i)) H
theorem c_abs : CallR X (.builtin "abs") qAbs := call_abs
theorem r_abs {i : Int} (h : Q (.int (if i < 0 then -i else i)) H) : qAbs [.int i] H Q := ⟨i, rfl, h⟩
def qMax : List V → Hp → VK → Prop := fun xs H Q => ∃ i j, xs = [.int i, .int j] ∧ Q (.int (if j > i then j else i)) H
theorem c_max (hc : X.calm = true) : CallR X (.builtin "max") qMax := call_max2 hc
theorem r_max {i j : Int} (h : Q (.int (if j > i then j else i)) H) : qMax [.int i, .int j] H Q := ⟨i, j, rfl, h⟩
def qMin : List V → Hp → VK → Prop := fun xs H Q => ∃ i j, xs = [.int i, .int j] ∧ Q (.int (if j < i then j else i)) H
theorem c_min (hc : X.calm = true) : CallR X (.builtin "min") qMin := call_min2 hc
theorem r_min {i j : Int} (h : Q (.int (if j < i then j else i)) H) : qMin [.int i, .int j] H Q := ⟨i, j, rfl, h⟩
def qLen (K : PySem.W.Frag) : List V → Hp → VK → Prop := fun xs H Q => ∃ p ys, xs = [.ref p] ∧ (SqL K H p ys ∨ SqT K H p ys) ∧ Q (.int ys.length) H
theorem c_len : CallR X (.builtin "len") (qLen X.K) := call_len_seq
theorem r_lenL {p : Addr} {ys : List V} (q : SqL K H p ys) (h : Q (.int ys.length) H) : qLen K [.ref p] H Q := ⟨p, ys, rfl, .inl q, h⟩
theorem r_lenT {p : Addr} {ys : List V} (q : SqT K H p ys) (h : Q (.int ys.length) H) : qLen K [.ref p] H Q := ⟨p, ys, rfl, .inr q, h⟩
def qLenS : List V → Hp → VK → Prop := fun xs H Q => ∃ z, xs = [.str z] ∧ z.length ≤ sizeLine ∧ Q (.int z.length) H
theorem c_lenS : CallR X (.builtin "len") qLenS := call_len_str
theorem r_lenS {z : Str} (h : Q (.int z.length) H) (hz : z.length ≤ sizeLine) : qLenS [.str z] H Q := ⟨z, rfl, hz, h⟩
def qLstOf (K : PySem.W.Frag) : List V → Hp → VK → Prop := fun xs H Q => ∃ p ys, xs = [.ref p] ∧ (SqL K H p ys ∨ SqT K H p ys) ∧ ∀ l, H l = none → Q (.ref l) (upd H l (.lst ys))
theorem c_lstOf : CallR X (.type "list") (qLstOf X.K) := call_list_of
theorem r_lstOfL {p : Addr} {ys : List V} (q : SqL K H p ys) (h : ∀ l, H l = none → Q (.ref l) (upd H l (.lst ys))) : qLstOf K [.ref p] H Q := ⟨p, ys, rfl, .inl q, h⟩
theorem r_lstOfT {p : Addr} {ys : List V} (q : SqT K H p ys) (h : ∀ l, H l = none → Q (.ref l) (upd H l (.lst ys))) : qLstOf K [.ref p] H Q := ⟨p, ys, rfl, .inr q, h⟩
def qTupOf (K : PySem.W.Frag) : List V → Hp → VK → Prop := fun xs H Q => ∃ p ys, xs = [.ref p] ∧ ((SqL K H p ys ∧ ∀ l, H l = none → Q (.ref l) (upd H l (.tup ys))) ∨ (SqT K H p ys ∧ Q (.ref p) H))
theorem c_tupOf : CallR X (.type "tuple") (qTupOf X.K) := call_tuple_of
theorem r_tupOfL {p : Addr} {ys : List V} (q : SqL K H p ys) (h : ∀ l, H l = none → Q (.ref l) (upd H l (.tup ys))) : qTupOf K [.ref p] H Q := ⟨p, ys, rfl, .inl ⟨q, h⟩⟩
theorem r_tupOfT {p : Addr} {ys : List V} (q : SqT K H p ys) (h : Q (.ref p) H) : qTupOf K [.ref p] H Q := ⟨p, ys, rfl, .inr ⟨q, h⟩⟩
def qStrI : List V → Hp → VK → Prop := fun xs H Q => ∃ i, xs = [.int i] ∧ i.natAbs.log2 < 1920 ∧ Q (.str (toString i)) H
theorem c_strI : CallR X (.type "str") qStrI := call_str_int
theorem r_strI {i : Int} (h : Q (.str (toString i)) H) (hi : i.natAbs.log2 < 1920) : qStrI [.int i] H Q := ⟨i, rfl, hi, h⟩
def qStrS : List V → Hp → VK → Prop := fun xs H Q => ∃ a, xs = [.str a] ∧ Q (.str a) H
theorem c_strS : CallR X (.type "str") qStrS := SkE.call_str_str
theorem r_strS {a : Str} (h : Q (.str a) H) : qStrS [.str a] H Q := ⟨a, rfl, h⟩
def qAddS : R2 := fun x y H Q => ∃ i j, x = .str i ∧ y = .str j ∧ i.length + j.length ≤ sizeLine ∧ Q (.str (i ++ j)) H
theorem o_addS : OpR X (binaryOp .Add) qAddS := op_add_str
theorem r_addS {i j : Str} (h : Q (.str (i ++ j)) H) (hz : i.length + j.length ≤ sizeLine) : qAddS (.str i) (.str j) H Q := ⟨i, j, rfl, rfl, hz, h⟩
def qLtS : R2 := fun x y H Q => ∃ i j, x = .str i ∧ y = .str j ∧ Q (.bl (decide (i.cps.toList < j.cps.toList))) H
theorem o_ltS : OpR X (compareOp .Lt) qLtS := op_lt_str
theorem r_ltS {i j : Str} (h : Q (.bl (decide (i.cps.toList < j.cps.toList))) H) : qLtS (.str i) (.str j) H Q := ⟨i, j, rfl, rfl, h⟩
def qAddIB : R2 := fun x y H Q => ∃ i k, x = .int i ∧ y = .bl k ∧ Q (.int (i + b2i k)) H
theorem o_addIB : OpR X (binaryOp .Add) qAddIB := op_add_ib
def qIsN : R2 := fun x y H Q => y = .non ∧ Q (.bl (decide (x = .non))) H
theorem o_isN : OpR X (compareOp .Is) qIsN := op_isN
def qNotN : R2 := fun x y H Q => y = .non ∧ Q (.bl (!decide (x = .non))) H
theorem o_notN : OpR X (compareOp .IsNot) qNotN := op_notN
def qCntS : V → List V → Hp → VK → Prop := fun x xs H Q => ∃ a b, x = .str a ∧ xs = [.str b] ∧ Q (.int (Txt.count a b)) H
theorem m_cntS : MtR X "str.count" qCntS := mt_count
theorem r_cntS {a b : Str} (h : Q (.int (Txt.count a b)) H) : qCntS (.str a) [.str b] H Q := ⟨a, b, rfl, rfl, h⟩
def qFindS : V → List V → Hp → VK → Prop := fun x xs H Q => ∃ a b, x = .str a ∧ xs = [.str b] ∧ Q (.int (Txt.find a b)) H
theorem m_findS : MtR X "str.find" qFindS := mt_find
theorem r_findS {a b : Str} (h : Q (.int (Txt.find a b)) H) : qFindS (.str a) [.str b] H Q := ⟨a, b, rfl, rfl, h⟩
def qFind3 : V → List V → Hp → VK → Prop := fun x xs H Q => ∃ (a b : Str) (i : Int), x = .str a ∧ xs = [.str b, .int i] ∧ Q (.int (Txt.find3 a b i)) H
theorem m_find3 : MtR X "str.find" qFind3 := mt_find3
theorem r_find3 {a b : Str} {i : Int} (h : Q (.int (Txt.find3 a b i)) H) : qFind3 (.str a) [.str b, .int i] H Q := ⟨a, b, i, rfl, rfl, h⟩
def qSplit : V → List V → Hp → VK → Prop := fun x xs H Q => ∃ a b, x = .str a ∧ xs = [.str b] ∧ (b.length == 0) = false ∧ a.length + 2 ≤ sizeLine ∧ rNewStrs (Txt.split a b) H Q
theorem m_split : MtR X "str.split" qSplit := mt_split
def qJoin (K : PySem.W.Frag) : V → List V → Hp → VK → Prop := fun x xs H Q => ∃ a p, ∃ ys : List Str, x = .str a ∧ xs = [.ref p] ∧ (SqL K H p (ys.map V.str) ∨ SqT K H p (ys.map V.str)) ∧ (ys.map (·.length)).sum + ys.length * a.length ≤ 16777216 ∧ Q (.str (Txt.join a ys)) H
theorem m_join : MtR X "str.join" (qJoin X.K) := mt_join
theorem r_joinL {a : Str} {p : Addr} {ys : List Str} (q : SqL K H p (ys.map V.str)) (h : Q (.str (Txt.join a ys)) H) (hz : (ys.map (·.length)).sum + ys.length * a.length ≤ 16777216) : qJoin K (.str a) [.ref p] H Q := ⟨a, p, ys, rfl, rfl, .inl q, hz, h⟩
theorem tyS {a : Str} : tyV K "str" (.str a) H := rfl
end
/-! ### loops -/
section
variable {σ : L2.St} {H : Hp} {nx bk ct : L2.St → Hp → Prop} {rt Q : VK} {ta te : TE} {tt : TT} {tb : TS} {tl : TA} {g : TG} {K : PySem.W.Frag}
def FR (J : It) (g : TG) (tb : TS) (D : Ends) (σ : L2.St) (H1 : Hp) : Prop := ∃ W : Nat → Nat → L2.St → Hp → Prop, (∃ m, W 0 m σ H1) ∧ ∀ i m σ H, W i m σ H →
  (J.stop i H ∧ D.nx σ H) ∨ (J.go i H ∧ ∃ N : L2.St → Hp → Prop, (∀ σ' H', N σ' H' → ∃ m', m' < m ∧ W (i + 1) m' σ' H') ∧ ∀ x H', J.yld i H x H' → g x σ H' fun σ2 H2 => tb { D with nx := N, ct := N, bk := D.nx } σ2 H2)
theorem r_for1 {D : Ends} (h : tl σ H fun vs H1 => ∃ j : Int, vs = [.int j] ∧ -(2 ^ 62) ≤ j ∧ j < 2 ^ 62 ∧ FR (Itr 0 j.toNat) g tb D σ H1) : tFor (iRng1 tl) g tb D σ H := h
theorem r_for2 {D : Ends} (h : tl σ H fun vs H1 => ∃ i j : Int, vs = [.int i, .int j] ∧ (-(2 ^ 62) ≤ i ∧ i < 2 ^ 62 ∧ -(2 ^ 62) ≤ j ∧ j < 2 ^ 62) ∧ FR (Itr i (j - i).toNat) g tb D σ H1) : tFor (iRng2 tl) g tb D σ H := h
theorem r_forL {D : Ends} (h : te σ H fun x H1 => ∃ a, x = .ref a ∧ (∃ xs, SqL K H1 a xs) ∧ FR (Itl K a) g tb D σ H1) : tFor (iList K te) g tb D σ H := h
theorem r_forT {D : Ends} (h : te σ H fun x H1 => ∃ a, x = .ref a ∧ (∃ xs, SqT K H1 a xs) ∧ FR (Itt K a) g tb D σ H1) : tFor (iTup K te) g tb D σ H := h
theorem r_forS {D : Ends} (h : te σ H fun v H1 => ∃ x, v = .str x ∧ FR (Its x) g tb D σ H1) : tFor (iStr te) g tb D σ H := h
theorem r_rng1 {P : Int → Prop} {x : Int} (h : P x) (h1 : -(2 ^ 62) ≤ x) (h2 : x < 2 ^ 62) : ∃ j : Int, [V.int x] = [.int j] ∧ -(2 ^ 62) ≤ j ∧ j < 2 ^ 62 ∧ P j := ⟨x, rfl, h1, h2, h⟩
theorem r_rng2 {P : Int → Int → Prop} {x y : Int} (h : P x y) (h1 : -(2 ^ 62) ≤ x ∧ x < 2 ^ 62 ∧ -(2 ^ 62) ≤ y ∧ y < 2 ^ 62) : ∃ i j : Int, [V.int x, V.int y] = [.int i, .int j] ∧ (-(2 ^ 62) ≤ i ∧ i < 2 ^ 62 ∧ -(2 ^ 62) ≤ j ∧ j < 2 ^ 62) ∧ P i j := ⟨x, y, rfl, h1, h⟩
theorem r_seqL {P : Addr → Prop} {a : Addr} {xs : List V} (q : SqL K H a xs) (h : P a) : ∃ b, V.ref a = .ref b ∧ (∃ xs, SqL K H b xs) ∧ P b := ⟨a, rfl, ⟨xs, q⟩, h⟩
theorem r_seqT {P : Addr → Prop} {a : Addr} {xs : List V} (q : SqT K H a xs) (h : P a) : ∃ b, V.ref a = .ref b ∧ (∃ xs, SqT K H b xs) ∧ P b := ⟨a, rfl, ⟨xs, q⟩, h⟩
theorem r_seqS {P : Str → Prop} {x : Str} (h : P x) : ∃ y, V.str x = .str y ∧ P y := ⟨x, rfl, h⟩
theorem fr_range {lo : Int} {n : Nat} (Pv : Nat → L2.St → Hp → Prop) (h0 : Pv 0 σ H) (hs : ∀ i σ H, i < n → Pv i σ H → g (.int (lo + i)) σ H fun σ2 H2 => tb ⟨Pv (i + 1), rt, nx, Pv (i + 1)⟩ σ2 H2)
    (hd : ∀ σ H, Pv n σ H → nx σ H) : FR (Itr lo n) g tb ⟨nx, rt, bk, ct⟩ σ H := for_range Pv h0 hs hd
theorem fr_list {a : Addr} {xs : List V} (Pv : Nat → L2.St → Hp → Prop) (h0 : Pv 0 σ H) (hl : ∀ i σ H, i ≤ xs.length → Pv i σ H → SqL K H a xs) (hs : ∀ i x σ H, xs[i]? = some x → Pv i σ H → g x σ H fun σ2 H2 => tb ⟨Pv (i + 1), rt, nx, Pv (i + 1)⟩ σ2 H2)
    (hd : ∀ σ H, Pv xs.length σ H → nx σ H) : FR (Itl K a) g tb ⟨nx, rt, bk, ct⟩ σ H := for_list Pv h0 hl hs hd
theorem fr_tup {a : Addr} {xs : List V} (Pv : Nat → L2.St → Hp → Prop) (h0 : Pv 0 σ H) (hl : ∀ i σ H, i ≤ xs.length → Pv i σ H → SqT K H a xs) (hs : ∀ i x σ H, xs[i]? = some x → Pv i σ H → g x σ H fun σ2 H2 => tb ⟨Pv (i + 1), rt, nx, Pv (i + 1)⟩ σ2 H2)
    (hd : ∀ σ H, Pv xs.length σ H → nx σ H) : FR (Itt K a) g tb ⟨nx, rt, bk, ct⟩ σ H := for_tup Pv h0 hl hs hd
theorem fr_str {x : Str} (Pv : Nat → L2.St → Hp → Prop) (h0 : Pv 0 σ H) (hs : ∀ i c σ H, x.cps[i]? = some c → Pv i σ H → g (.str ⟨#[c]⟩) σ H fun σ2 H2 => tb ⟨Pv (i + 1), rt, nx, Pv (i + 1)⟩ σ2 H2)
    (hd : ∀ σ H, Pv x.cps.size σ H → nx σ H) : FR (Its x) g tb ⟨nx, rt, bk, ct⟩ σ H := by
  refine ⟨fun i m σ H => m = x.cps.size - i ∧ i ≤ x.cps.size ∧ Pv i σ H, ⟨x.cps.size, by simp, Nat.zero_le _, h0⟩, ?_⟩
  rintro i m σ H ⟨rfl, hi, p⟩
  by_cases hlt : i < x.cps.size
  · refine .inr ⟨hlt, Pv (i + 1), fun σ' H' p' => ⟨x.cps.size - (i + 1), by omega, rfl, hlt, p'⟩, fun y H' z => ?_⟩
    obtain ⟨e, c, hc, e2⟩ := z
    subst e e2
    exact hs i c σ _ hc p
  · have e : i = x.cps.size := by omega
    subst e
    exact .inl ⟨Nat.le_refl _, hd σ H p⟩
def LCW (J : It) (g : TG) (tt : TT) (te : TE) (vs : List Nat) (σ : L2.St) (H1 : Hp) (Q : VK) : Prop := ∀ D, H1 D = none → ∃ W : Nat → Nat → Hp → Prop, (∃ m, W 0 m (upd H1 D (.lst []))) ∧ ∀ i m H, W i m H →
  (J.stop i H ∧ Q (.ref D) H) ∨ (J.go i H ∧ ∃ Nx : Hp → Prop, (∀ H', Nx H' → ∃ m', m' < m ∧ W (i + 1) m' H') ∧ ∀ x H', J.yld i H x H' → g x (wipe σ vs) H' fun σ2 H2 => wipe σ2 vs = wipe σ vs ∧ tt σ2 H2 fun b H3 =>
    if b = true then te σ2 H3 fun y H4 => ∃ acc, H4 D = some (.lst acc) ∧ acc.length < sizeLine ∧ Nx (upd H4 D (.lst (acc ++ [y]))) else Nx H3)
variable {vs : List Nat}
theorem r_lc1 (h : tl σ H fun us H1 => ∃ j : Int, us = [.int j] ∧ -(2 ^ 62) ≤ j ∧ j < 2 ^ 62 ∧ LCW (Itr 0 j.toNat) g tt te vs σ H1 Q) : tLc (iRng1 tl) g tt te vs σ H Q := h
theorem r_lc2 (h : tl σ H fun us H1 => ∃ i j : Int, us = [.int i, .int j] ∧ (-(2 ^ 62) ≤ i ∧ i < 2 ^ 62 ∧ -(2 ^ 62) ≤ j ∧ j < 2 ^ 62) ∧ LCW (Itr i (j - i).toNat) g tt te vs σ H1 Q) : tLc (iRng2 tl) g tt te vs σ H Q := h
theorem r_lcL (h : ta σ H fun x H1 => ∃ a, x = .ref a ∧ (∃ xs, SqL K H1 a xs) ∧ LCW (Itl K a) g tt te vs σ H1 Q) : tLc (iList K ta) g tt te vs σ H Q := h
theorem r_lcT (h : ta σ H fun x H1 => ∃ a, x = .ref a ∧ (∃ xs, SqT K H1 a xs) ∧ LCW (Itt K a) g tt te vs σ H1 Q) : tLc (iTup K ta) g tt te vs σ H Q := h
theorem r_lcS (h : ta σ H fun v H1 => ∃ x, v = .str x ∧ LCW (Its x) g tt te vs σ H1 Q) : tLc (iStr ta) g tt te vs σ H Q := h
theorem lw_range {lo : Int} {n : Nat} (Pv : Addr → Nat → Hp → Prop) (h0 : ∀ D, H D = none → Pv D 0 (upd H D (.lst [])))
    (hs : ∀ D, H D = none → ∀ i H, i < n → Pv D i H → g (.int (lo + i)) (wipe σ vs) H fun σ2 H2 => wipe σ2 vs = wipe σ vs ∧ tt σ2 H2 fun b H3 =>
      if b = true then te σ2 H3 fun y H4 => ∃ acc, H4 D = some (.lst acc) ∧ acc.length < sizeLine ∧ Pv D (i + 1) (upd H4 D (.lst (acc ++ [y]))) else Pv D (i + 1) H3) (hd : ∀ D, H D = none → ∀ H, Pv D n H → Q (.ref D) H) : LCW (Itr lo n) g tt te vs σ H Q :=
  fun D hD => lc_range (Pv D) (h0 D hD) (hs D hD) (hd D hD)
theorem lw_list {a : Addr} {xs : List V} (Pv : Addr → Nat → Hp → Prop) (h0 : ∀ D, H D = none → Pv D 0 (upd H D (.lst []))) (hl : ∀ D, H D = none → ∀ i H, i ≤ xs.length → Pv D i H → SqL K H a xs)
    (hs : ∀ D, H D = none → ∀ i x H, xs[i]? = some x → Pv D i H → g x (wipe σ vs) H fun σ2 H2 => wipe σ2 vs = wipe σ vs ∧ tt σ2 H2 fun b H3 =>
      if b = true then te σ2 H3 fun y H4 => ∃ acc, H4 D = some (.lst acc) ∧ acc.length < sizeLine ∧ Pv D (i + 1) (upd H4 D (.lst (acc ++ [y]))) else Pv D (i + 1) H3) (hd : ∀ D, H D = none → ∀ H, Pv D xs.length H → Q (.ref D) H) : LCW (Itl K a) g tt te vs σ H Q :=
  fun D hD => lc_list (Pv D) (h0 D hD) (hl D hD) (hs D hD) (hd D hD)
theorem lw_tup {a : Addr} {xs : List V} (Pv : Addr → Nat → Hp → Prop) (h0 : ∀ D, H D = none → Pv D 0 (upd H D (.lst []))) (hl : ∀ D, H D = none → ∀ i H, i ≤ xs.length → Pv D i H → SqT K H a xs)
    (hs : ∀ D, H D = none → ∀ i x H, xs[i]? = some x → Pv D i H → g x (wipe σ vs) H fun σ2 H2 => wipe σ2 vs = wipe σ vs ∧ tt σ2 H2 fun b H3 =>
      if b = true then te σ2 H3 fun y H4 => ∃ acc, H4 D = some (.lst acc) ∧ acc.length < sizeLine ∧ Pv D (i + 1) (upd H4 D (.lst (acc ++ [y]))) else Pv D (i + 1) H3) (hd : ∀ D, H D = none → ∀ H, Pv D xs.length H → Q (.ref D) H) : LCW (Itt K a) g tt te vs σ H Q :=
  fun D hD => lc_tup (Pv D) (h0 D hD) (hl D hD) (hs D hD) (hd D hD)
theorem r_while {c : TT} (W : Nat → L2.St → Hp → Prop) (m : Nat) (w0 : W m σ H) (hs : ∀ m σ H, W m σ H → c σ H fun b H1 => if b = true then ∃ N : L2.St → Hp → Prop, (∀ σ' H', N σ' H' → ∃ m', m' < m ∧ W m' σ' H') ∧ tb ⟨N, rt, nx, N⟩ σ H1 else nx σ H1) : tWhile c tb ⟨nx, rt, bk, ct⟩ σ H := ⟨W, ⟨m, w0⟩, hs⟩
theorem r_yes {Q : Bool → Hp → Prop} (h : Q true H) : tYes σ H Q := h
theorem r_wh {c : TT} {D : Ends} (h : tWhile c tb D σ H) : tWhile c tb D σ H := h
end
/-! ### heaps -/
theorem same_new {H : Hp} {p : Addr} {o : HO} (h : H p = none) : Same H (upd H p o) := fun b x e => by
  rw [upd_ne (ne_of_none e h)]; exact e
theorem same_mut {H H' : Hp} {p : Addr} {o : HO} (s : Same H H') (h : H p = none) : Same H (upd H' p o) := fun b x e => by
  rw [upd_ne (ne_of_none e h)]; exact s b x e
theorem same_tup {H H' : Hp} {p : Addr} {o : HO} (s : Same H H') (e : H p = some o) : H' p = some o := s p o e

/-- lists of ints, as data -/
theorem dpI {K : PySem.W.Frag} {H : Hp} : ∀ ns : List Int, DpAll K H (ns.map V.int) (ns.map PyData.int)
  | [] => .nil
  | n :: ns => .cons (.int n) (dpI ns)
theorem dpS {K : PySem.W.Frag} {H : Hp} : ∀ ns : List Str, DpAll K H (ns.map V.str) (ns.map PyData.str)
  | [] => .nil
  | n :: ns => .cons (.str n) (dpS ns)
theorem r_eqD {K : PySem.W.Frag} {H : Hp} {Q : VK} {x y : V} {d e : PyData} (hx : Dp K H x d) (hy : Dp K H y e) (h1 : SeqAt.shaped d = true) (h2 : SeqAt.shaped e = true) (h : Q (.bl (PyData.eqv d e)) H) : rEqD K x y H Q := ⟨d, e, hx, hy, h1, h2, h⟩
theorem r_neD {K : PySem.W.Frag} {H : Hp} {Q : VK} {x y : V} {d e : PyData} (hx : Dp K H x d) (hy : Dp K H y e) (h1 : SeqAt.shaped d = true) (h2 : SeqAt.shaped e = true) (h : Q (.bl (!PyData.eqv d e)) H) : rNeD K x y H Q := ⟨d, e, hx, hy, h1, h2, h⟩
theorem kit_self {K : PySem.W.Frag} {t : Value} : PySem.W.kitOne K t t = some true := if_pos (beq_self_eq_true t)
/-- a list of three ints -/
def Dice (H : Hp) (d : Addr) : Prop := ∃ x y z : Int, H d = some (.lst [.int x, .int y, .int z])
/-- all but the dice at d stands as it stood -/
structure Kp (d : Addr) (H H' : Hp) : Prop where
  k : ∀ b o, b ≠ d → H b = some o → H' b = some o
  d0 : Dice H d
  d1 : Dice H' d
theorem Kp.refl {d : Addr} {H : Hp} (h : Dice H d) : Kp d H H := ⟨fun _ _ _ e => e, h, h⟩
theorem Kp.trans {d : Addr} {H H1 H2 : Hp} (a : Kp d H H1) (b : Kp d H1 H2) : Kp d H H2 := ⟨fun c o n e => b.k c o n (a.k c o n e), a.d0, b.d1⟩
theorem Kp.same {d : Addr} {H H1 H2 : Hp} (a : Kp d H H1) (b : Same H1 H2) : Kp d H H2 := ⟨fun c o n e => b c o (a.k c o n e), a.d0, let ⟨x, y, z, h⟩ := a.d1; ⟨x, y, z, b _ _ h⟩⟩
theorem Kp.of {d : Addr} {H H1 : Hp} (h : Dice H d) (b : Same H H1) : Kp d H H1 := (Kp.refl h).same b
theorem Kp.put {d : Addr} {H : Hp} {x y z : Int} (h : Dice H d) : Kp d H (upd H d (.lst [.int x, .int y, .int z])) := ⟨fun b o n e => by rw [upd_ne n]; exact e, h, ⟨x, y, z, upd_same⟩⟩
theorem Kp.put' {d : Addr} {H H1 : Hp} {x y z : Int} (a : Kp d H H1) : Kp d H (upd H1 d (.lst [.int x, .int y, .int z])) := a.trans (Kp.put a.d1)
theorem Kp.tup {d : Addr} {H H1 : Hp} (a : Kp d H H1) {p : Addr} {xs : List V} (e : H p = some (.tup xs)) : H1 p = some (.tup xs) := a.k p _ (by
  obtain ⟨x, y, z, h⟩ := a.d0
  exact ne_of e h (fun q => nomatch q)) e
theorem Kp.ins {d : Addr} {H H1 : Hp} (a : Kp d H H1) {p C dx : Addr} {fs : List (Str × V)} (e : H p = some (.ins C dx fs)) : H1 p = some (.ins C dx fs) := a.k p _ (by
  obtain ⟨x, y, z, h⟩ := a.d0
  exact ne_of e h (fun q => nomatch q)) e
theorem Kp.free {d : Addr} {H H1 : Hp} (a : Kp d H H1) {p : Addr} (e : H1 p = none) : H p = none := by
  cases q : H p with
  | none => rfl
  | some o =>
    by_cases h : p = d
    · obtain ⟨x, y, z, h'⟩ := a.d1
      rw [h, h'] at e; cases e
    · rw [a.k p o h q] at e; cases e
theorem Kp.new {d : Addr} {H H1 : Hp} (a : Kp d H H1) {p : Addr} {o : HO} (e : H1 p = none) : Kp d H (upd H1 p o) := a.same (same_new e)
theorem Kp.mut {d : Addr} {H H1 : Hp} (a : Kp d H H1) {p : Addr} {o : HO} (e : H p = none) : Kp d H (upd H1 p o) := ⟨fun b x n q => by
    rw [upd_ne (ne_of_none q e)]; exact a.k b x n q, a.d0, by
    obtain ⟨x, y, z, h⟩ := a.d0
    obtain ⟨x', y', z', h'⟩ := a.d1
    exact ⟨x', y', z', by rw [upd_ne (ne_of_none h e)]; exact h'⟩⟩
end Sx

/-! Er: error classes over any built-in one, whose own __init__ keeps one value. -/
namespace Er
open PySem PySem.Spec PyProof.Rows L2 Sx PySem.Builtin.ObjectAttr
/-- the class at C, its __init__ a def at fI, the mro of its built-in base bmB, made by nw -/
structure Own (K : PySem.W.Frag) (C fI : Addr) (bmB : List Value) (nw : String) : Prop where
  made : PySem.W.excInitIn K C bmB nw = true
  over : PySem.W.excOver K C bmB = true
  dict : PySem.W.hasDictIn K C = true
  sets : PySem.W.findIn K (.ref C) "__setattr__" = some (some (.builtin "object.__setattr__"))
  init : PySem.W.findIn K (.ref C) "__init__" = some (some (.ref fI))
  fn : PySem.W.isFn K (.ref fI) = true
  kept : PySem.W.keepIn K (.ref C) = true
  exc : PySem.W.subIn K (.ref C) (.type "BaseException") = some true
  ty : PySem.W.typeIn K (.ref C) = some (.type "type")
  gets : PySem.W.findIn K (.ref C) "__getattribute__" = some (some (.builtin "BaseException.__getattribute__"))
  none' : PySem.W.findIn K (.ref C) "__getattr__" = some none
theorem Own.raises {X : Cx} {C fI : Addr} {bm : List Value} {nw : String} (T : Own X.K C fI bm nw) : Raises X (.ref C) := raises_own T.exc T.ty
theorem Own.field {K : PySem.W.Frag} {C fI : Addr} {bm : List Value} {nw : String} (T : Own K C fI bm nw) : XfC K C := ⟨T.gets, T.none', T.exc, T.dict⟩
section
variable {X : Cx} {pins : List (Addr × Obj)} {σ : L2.St} {H : Hp} {s : Shared} {C fI : Addr} {bm : List Value} {nw B : String}
/-- the first field of a fresh error -/
theorem first_field {a : Addr} {f : Str} {y : V} {u : Value} {Q : Unit → Shared → Prop} {E : Value → Shared → Prop} {A : Around} (T : Own X.K C fI bm nw) (SF : StoreFacts B bm "object.__setattr__" "object")
    (no : PySem.W.findIn X.K (.ref C) f = some none) (I : Inv X pins σ H s) (ha : H a = some (exo a C none)) (r : RelV y u)
    (go : ∀ dx s', H dx = none → dx ≠ a → Inv X pins σ (upd (upd H dx (exd dx [(f, y)])) a (exo a C (some dx))) s' → Q () s') : wpAny (model X.prog X.w) A (setAttr (.ref a) f u) Q E s := by
  obtain ⟨t1, at0⟩ := exo_at I.hok ha
  obtain ⟨cd, hcd, hdict⟩ : ∃ cd, PySem.W.clsIn X.K C = some cd ∧ cd.hasDict = true := PySem.W.any_some T.dict
  obtain ⟨hp, gs, dr, tk, os⟩ := s
  have inst : PySem.W.InstAt hp a { cls := .ref C, dict := none, data := .fields #[.ref t1, .none, .none, .none, .bool false, .none] } C none := ⟨at0, rfl, rfl, trivial⟩
  refine PySem.W.set_plain I.kIn inst T.sets ?_
  have taker : PySem.W.takerIn X.K C f = some none := by unfold PySem.W.takerIn; rw [no]; rfl
  refine PySem.W.osa_openX SF I.kIn inst T.over taker fun bb => ?_
  have know : PySem.W.Looks (model X.prog X.w) hp (classData C) cd := PySem.W.looks_clsIn I.kIn hcd
  have apart : hp.objs.size ≠ a := fun z => Nat.lt_irrefl _ (by have q := Heap.lt_size at0; rw [← z] at q; exact q)
  show wpAny _ _ (storeInOwnDict (.ref a) (.ref C) (.str f tk) f u bb) _ _ _
  obtain ⟨nm, bs, mro, ns, qn, hd, sn, sb, ab, col, dl⟩ := cd
  dsimp only at hdict
  subst hdict
  unfold storeInOwnDict ownDictForStores
  repeat (first | with_reducible refine HandSPX.store_in_new ?_ ?_ | with_reducible refine wpAny_loadPart_at at0 ?_ | with_reducible refine know.at ?_ | wp_step)
  · refine ⟨_, #[], _, (Heap.get?_update_ne _ _ _ _ apart).trans (Heap.get?_push_at rfl rfl), rfl, ?_, fun _ => rfl⟩
    intro z hz
    exact absurd hz (by simp)
  · intro h3 t3 named same
    have at1 : (hp.push { cls := .type "dict", data := .dict #[] }).get? a = some _ := Heap.get?_push_of_some _ at0
    have old : ∀ b o, b ≠ a → hp.get? b = some o → h3.get? b = some o := fun b o hb e => (same.2 b (Nat.ne_of_lt (Heap.lt_size e))).trans ((Heap.get?_update_ne _ _ _ _ hb).trans (Heap.get?_push_of_some _ e))
    have at3 : h3.get? a = some { cls := .ref C, dict := some hp.objs.size, data := .fields #[.ref t1, .none, .none, .none, .bool false, .none] } := (same.2 a (Ne.symm apart)).trans (Heap.get?_update_self _ at1 rfl)
    have newD : H hp.objs.size = none := I.hok.fresh (Nat.le_refl _)
    -- in two steps: the dict beside the error as it was, then the error
    have back : (h3.update a fun _ => { cls := .ref C, dict := none, data := .fields #[.ref t1, .none, .none, .none, .bool false, .none] }).get? a = some { cls := .ref C, dict := none, data := .fields #[.ref t1, .none, .none, .none, .bool false, .none] } := Heap.get?_update_self _ at3 rfl
    have beside : ∀ b, b ≠ a → (h3.update a fun _ => { cls := .ref C, dict := none, data := .fields #[.ref t1, .none, .none, .none, .bool false, .none] }).get? b = h3.get? b := fun b hb => Heap.get?_update_ne _ _ _ _ hb
    have I1 : Inv X pins σ (upd H hp.objs.size (exd hp.objs.size [(f, y)])) ⟨h3.update a fun _ => { cls := .ref C, dict := none, data := .fields #[.ref t1, .none, .none, .none, .bool false, .none] }, gs, dr, t3, os⟩ := by
      refine I.laid (t' := t3) (fun b o e => ?_) (Nat.le_refl _) (exd_ok (named.at fun o q => (beside _ apart).trans q) (relO_put (fs := []) r fun g => True.intro))
      by_cases hb : b = a
      · subst hb; rw [at0] at e; cases e; exact back
      · rw [beside b hb]; exact old b o hb e
    have ha1 : upd H hp.objs.size (exd hp.objs.size [(f, y)]) a = some (exo a C none) := by rw [upd_ne (Ne.symm apart)]; exact ha
    have I2 := I1.write (t' := t3) (h' := h3) (x := a) (e := a) (o := exo a C (some hp.objs.size)) (by rw [ha1]; exact True.intro) (.inl rfl) (fun b o hb e => by rw [beside b hb] at e; exact e) ⟨_, at3⟩ (exo_ok at3)
    exact go _ _ newD apart I2
/-- self.f = e in such an __init__ -/
def tSelf (C : Addr) (f : Str) (to te : TE) : TS := fun D σ H => te σ H fun y H1 => to σ H1 fun x H2 => ∃ a : Addr, x = .ref a ∧ H2 a = some (exo a C none) ∧
  ∀ dx, H2 dx = none → dx ≠ a → D.nx σ (upd (upd H2 dx (exd dx [(f, y)])) a (exo a C (some dx)))
theorem ps_self {o e : Expr} {f : Str} {p1 pos : Pos} {to te : TE} (T : Own X.K C fI bm nw) (SF : StoreFacts B bm "object.__setattr__" "object") (no : PySem.W.findIn X.K (.ref C) f = some none) (ho : PE X o to) (he : PE X e te)
    (sw : swapsWith e (some (.Attribute o f p1)) pos.line X.env = pure false := by rfl) : PS X (.Assign [.Attribute o f p1] e pos) (tSelf C f to te) := by
  constructor
  intro pn s σ H D I now
  refine plainObj_wpAny_Assign_Attribute (thn (he.run pn s σ H _ I now) ?_) sw
  rintro v s1 ⟨y, H1, I1, r1, now1⟩
  refine thn (ho.run pn s1 σ H1 _ I1 now1) ?_
  rintro z s2 ⟨x, H2, I2, r2, a, rfl, ha, go⟩
  obtain rfl : z = Value.ref a := r2
  exact first_field T SF no I2 ha r1 fun dx s' n ne J => ⟨σ, _, J, go dx n ne⟩
end
/-- what __init__ promises -/
def spInit (C : Addr) (f : Str) : Sp := fun vs H Q _ => ∃ (a : Addr) (v : V), vs = [.ref a, v] ∧ H a = some (exo a C none) ∧ ∀ dx, H dx = none → dx ≠ a → Q .non (upd (upd H dx (exd dx [(f, v)])) a (exo a C (some dx)))
theorem r_self {C a : Addr} {f : Str} {to te : TE} {nx bk ct : L2.St → Hp → Prop} {rt : VK} {σ : L2.St} {H : Hp}
    (h : te σ H fun y H1 => to σ H1 fun x H2 => ∃ a : Addr, x = .ref a ∧ H2 a = some (exo a C none) ∧ ∀ dx, H2 dx = none → dx ≠ a → nx σ (upd (upd H2 dx (exd dx [(f, y)])) a (exo a C (some dx)))) : tSelf C f to te ⟨nx, rt, bk, ct⟩ σ H := h
/-- C(e) -/
def tErr (C : Addr) (f : Str) (ta : TA) : L2.St → Hp → XK → Prop := fun σ H Q => ta σ H fun vs H1 => ∃ v, vs = [v] ∧ ∀ d, H1 d = none → Q (.ref C) (some d) (upd H1 d (.xd [(f, v)]))
theorem pmk_err {X : Cx} {x f : Str} {C fI : Addr} {bm : List Value} {nw B ini : String} {k : Nat} {fd : FuncData} {ps : List Str} {e : Expr} {ta : TA} {p pos : Pos} (T : Own X.K C fI bm nw) (F : ExcBaseFacts B nw ini bm)
    (F1 : FnOk X.prog X.w X.K X.mg X.base C8.CX0 k fI fd ps (spInit C f)) (hr : Room (k + 1) X.A) (hb : Binds X.K fd ps []) (hg : Gl X x) (hm : X.mg x = some (.ref C)) (ha : PA X [e] ta)
    (nd : (x == ("__debug__" : Str)) = false := by decide) (he : starEach (e :: []) X.env = (false, eval e X.env) :: starEach [] X.env := by rfl) (hpl : (backTo pos (starEach [] X.env)).any (·.1) = false := by rfl) :
    PMk X (.Call (.Name x p) [e] [] pos) (tErr C f ta) := by
  intro pins s σ H Q I now
  refine wpAny_Call_Name_kw (ld_glob I hg hm ?_ nd)
  refine PySem.W.callWith_K (h₀ := X.base) I.ok.mod.kin T.kept (thn (ha.run pos pins s σ H _ I now) ?_) he hpl
  rintro us s1 ⟨vs, H1, I1, r1, v, rfl, go⟩
  refine ⟨I1.kIn, ?_⟩
  show wpAny _ _ (call (.ref C) us) _ _ _
  obtain ⟨nm, N', qn, bs, bm', hdct, sn, sub, ab, col, dd, k0, k1, k2, k3, k5, hC, tail⟩ := PySem.W.excInit_of I1.kIn T.made
  obtain ⟨hp, g, dr, tk, os⟩ := s1
  cases r1 with
  | @cons _ v' _ us' rv rest =>
    cases rest
    have grow : hp.objs.size ≤ hp.objs.size + 1 := Nat.le_succ _
    have fresh : H1 (hp.objs.size + 1) = none := I1.hok.fresh grow
    have kept : ∀ b o, hp.get? b = some o → ((hp.push (PySem.W.kdv_tup [v'])).push (PySem.HandSPX.excO C hp.objs.size)).get? b = some o := fun b o z => Heap.get?_push_of_some _ (Heap.get?_push_of_some _ z)
    have there : ((hp.push (PySem.W.kdv_tup [v'])).push (PySem.HandSPX.excO C hp.objs.size)).get? (hp.objs.size + 1) = some (PySem.HandSPX.excO C hp.objs.size) := by heap_get
    have I2 : Inv X pins σ (upd H1 (hp.objs.size + 1) (exo (hp.objs.size + 1) C none)) ⟨(hp.push (PySem.W.kdv_tup [v'])).push (PySem.HandSPX.excO C hp.objs.size), g, dr, tk, os⟩ := I1.laid (t' := tk) kept grow (exo_ok there)
    have wish : spInit C f [.ref (hp.objs.size + 1), v] (upd H1 (hp.objs.size + 1) (exo (hp.objs.size + 1) C none))
        (fun w H2 => w = .non ∧ ∃ d : Addr, H2 (hp.objs.size + 1) = some (exo (hp.objs.size + 1) C (some d)) ∧ H2 d = some (exd d [(f, v)]) ∧ H1 d = none ∧ Q (.ref C) (some d) (upd (del H2 (hp.objs.size + 1)) d (.xd [(f, v)]))) (fun _ _ _ => False) := by
      refine ⟨_, v, rfl, upd_same, fun dx n ne => ⟨rfl, dx, upd_same, by rw [upd_ne ne, upd_same], by rw [upd_ne ne] at n; exact n, ?_⟩⟩
      have n1 : H1 dx = none := by rw [upd_ne ne] at n; exact n
      have same : upd (del (upd (upd (upd H1 (hp.objs.size + 1) (exo (hp.objs.size + 1) C none)) dx (exd dx [(f, v)])) (hp.objs.size + 1) (exo (hp.objs.size + 1) C (some dx))) (hp.objs.size + 1)) dx (.xd [(f, v)]) = upd H1 dx (.xd [(f, v)]) := by
        funext b
        by_cases h1 : b = dx
        · subst h1; rw [upd_same, upd_same]
        · rw [upd_ne h1, upd_ne h1]
          by_cases h2 : b = hp.objs.size + 1
          · subst h2; rw [del_same, fresh]
          · rw [del_ne h2, upd_ne h2, upd_ne h1, upd_ne h2]
      rw [same]
      exact go dx n1
    have args : Vals [V.ref (hp.objs.size + 1), v] [Value.ref (hp.objs.size + 1), v'] := .cons rfl (.cons rv .nil)
    have len : ([Value.ref (hp.objs.size + 1), v'] : List Value).length = ps.length := by have z := F1.len _ _ _ _ wish; exact z ▸ rfl
    have isf : PySem.W.typeIn X.K (.ref fI) = some (.type "function") := by
      have z := T.fn
      unfold PySem.W.isFn at z
      exact beq_iff_eq.mp z
    refine wpAny_call (PySem.HandSPX.call_own F tail hC (PySem.W.looks_findIn I1.kIn T.init) (fun self => PySem.W.bind_fn I1.kIn self isf) (by rw [sizeLine_eq]; exact (by decide : (1 : Nat) ≤ 16777216)) ?_)
    refine codeAny_mono (F1.run _ X.stack _ _ ⟨[Value.ref (hp.objs.size + 1), v'], []⟩ [Value.ref (hp.objs.size + 1), v'] _ _ (fun _ _ _ => False) (hr.make C _ []) (I2.env0.make C _ []) ?_ args wish) ?_
    · have z := hb ⟨(hp.push (PySem.W.kdv_tup [v'])).push (PySem.HandSPX.excO C hp.objs.size), g, dr, tk, os⟩ [Value.ref (hp.objs.size + 1), v'] I2.kIn
      rw [List.append_nil] at z
      exact z len
    · intro res s' got
      cases res with
      | error er => exact (show False from got).elim
      | ok fl =>
        cases fl with
        | next => exact False.elim got
        | brk => exact False.elim got
        | cont => exact False.elim got
        | ret u =>
          obtain ⟨w', H2, os2, bare2, un2, hok2, rw', ew, d, ea, ed, hd1, q2⟩ := got
          subst ew
          obtain ⟨h2, g2, d2, t2, os'⟩ := s'
          exact ⟨rw', mk_end T.raises I1 grow kept un2 hok2 os2 bare2 ea ed hd1 q2⟩
theorem ps_err {X : Cx} {W : WX} {x f : Str} {C fI : Addr} {bm : List Value} {nw B ini : String} {k : Nat} {fd : FuncData} {ps : List Str} {e : Expr} {ta : TA} {p pos pos2 : Pos} (hc : X.calm = true) (tk : Takes X W) (T : Own X.K C fI bm nw) (F : ExcBaseFacts B nw ini bm)
    (F1 : FnOk X.prog X.w X.K X.mg X.base C8.CX0 k fI fd ps (spInit C f)) (hr : Room (k + 1) X.A) (hb : Binds X.K fd ps []) (hg : Gl X x) (hm : X.mg x = some (.ref C)) (ha : PA X [e] ta)
    (nd : (x == ("__debug__" : Str)) = false := by decide) (he : starEach (e :: []) X.env = (false, eval e X.env) :: starEach [] X.env := by rfl) (hpl : (backTo pos (starEach [] X.env)).any (·.1) = false := by rfl) :
    PS X (.Raise (some (.Call (.Name x p) [e] [] pos)) none pos2) (fun _ σ H => tErr C f ta σ H fun cls d H' => W cls d σ H') :=
  ps_raise hc tk (pmk_err T F F1 hr hb hg hm ha nd he hpl)
/-- raise C(e), raise C('m'): what comes out -/
def tRaise (C : Addr) (f : Str) (E : XK) (ta : TA) : TS := fun _ σ H => tErr C f ta σ H fun cls d H' => E cls d H'
def tRaise0 (C : Addr) (E : XK) : TS := fun _ _ H => E (.ref C) none H
theorem ps_raise1 {X : Cx} {E : XK} {x f : Str} {C fI : Addr} {bm : List Value} {nw B ini : String} {k : Nat} {fd : FuncData} {ps : List Str} {e : Expr} {ta : TA} {p pos pos2 : Pos} (hc : X.calm = true) (tk : Takes X (fun cls d _ H => E cls d H)) (T : Own X.K C fI bm nw) (F : ExcBaseFacts B nw ini bm)
    (F1 : FnOk X.prog X.w X.K X.mg X.base C8.CX0 k fI fd ps (spInit C f)) (hr : Room (k + 1) X.A) (hb : Binds X.K fd ps []) (hg : Gl X x) (hm : X.mg x = some (.ref C)) (ha : PA X [e] ta)
    (nd : (x == ("__debug__" : Str)) = false := by decide) (he : starEach (e :: []) X.env = (false, eval e X.env) :: starEach [] X.env := by rfl) (hpl : (backTo pos (starEach [] X.env)).any (·.1) = false := by rfl) :
    PS X (.Raise (some (.Call (.Name x p) [e] [] pos)) none pos2) (tRaise C f E ta) := ps_err hc tk T F F1 hr hb hg hm ha nd he hpl
theorem ps_raise0 {X : Cx} {E : XK} {x m : Str} {C : Addr} {bm : List Value} {nw B ini : String} {j : Nat} {p p2 pos pos2 : Pos} (hc : X.calm = true) (tk : Takes X (fun cls d _ H => E cls d H)) (F : ExcBaseFacts B nw ini bm)
    (q : PySem.W.excIn X.K C bm nw = true) (hm : X.mg x = some (.ref C)) (kp : PySem.W.keepIn X.K (.ref C) = true) (ex : PySem.W.subIn X.K (.ref C) (.type "BaseException") = some true) (ty : PySem.W.typeIn X.K (.ref C) = some (.type "type")) (hg : Gl X x)
    (nd : (x == ("__debug__" : Str)) = false := by decide) : PS X (.Raise (some (.Call (.Name x p) [.Constant (.str m) j p2] [] pos)) none pos2) (tRaise0 C E) := ps_raise hc tk (pmk_own F q hm kp (raises_own ex ty) hg nd)
theorem r_raise {C : Addr} {f : Str} {E : XK} {ta : TA} {D : Ends} {σ : L2.St} {H : Hp} (h : ta σ H fun vs H1 => ∃ v, vs = [v] ∧ ∀ d, H1 d = none → E (.ref C) (some d) (upd H1 d (.xd [(f, v)]))) : tRaise C f E ta D σ H := h
theorem r_raise0 {C : Addr} {E : XK} {D : Ends} {σ : L2.St} {H : Hp} (h : E (.ref C) none H) : tRaise0 C E D σ H := h
/-! ### the built-in classes above -/
abbrev bmValueError : List Value := [.type "ValueError", .type "Exception", .type "BaseException", .type "object"]
abbrev bmIndexError : List Value := [.type "IndexError", .type "LookupError", .type "Exception", .type "BaseException", .type "object"]
abbrev bmArithmeticError : List Value := [.type "ArithmeticError", .type "Exception", .type "BaseException", .type "object"]
abbrev bmOverflowError : List Value := [.type "OverflowError", .type "ArithmeticError", .type "Exception", .type "BaseException", .type "object"]
abbrev bmLookupError : List Value := [.type "LookupError", .type "Exception", .type "BaseException", .type "object"]
/-- which class an error is of, for an except clause -/
theorem exm {K : PySem.W.Frag} {R C : Addr} {b : Bool} (h1 : PySem.W.subIn K (.ref R) (.type "BaseException") = some true) (c1 : PySem.W.subIn K (.ref C) (.type "BaseException") = some true) (h2 : PySem.W.isClsIn K C = true) (h3 : PySem.W.typeIn K (.ref C) = some (.type "type")) (h4 : PySem.W.subIn K (.ref R) (.ref C) = some b) :
    PySem.W.exmOne K (.ref R) (.ref C) = some b := by
  have z1 : (PySem.W.subIn K (.ref C) (.type "BaseException") == some true) = true := by rw [c1] <;> rfl
  have z2 : ((PySem.W.clsIn K C).isSome && PySem.W.typeIn K (.ref C) == some (.type "type")) = true := by
    have h2' : (PySem.W.clsIn K C).isSome = true := h2
    rw [h2', h3] <;> rfl
  show (if (PySem.W.subIn K (.ref C) (.type "BaseException") == some true) = true then (if ((PySem.W.clsIn K C).isSome && PySem.W.typeIn K (.ref C) == some (.type "type")) = true then PySem.W.subIn K (.ref R) (.ref C) else none) else none) = some b
  rw [if_pos z1, if_pos z2]
  exact h4
end Er

/-! En: functions that are run where nothing is being shown (repr of a list asks for it), calls of them, and the end of a law with tables. -/
namespace En
open PySem PySem.Spec PyProof.Rows L2 LamX
/-- as FnOk, but only where the guards are known to be none -/
structure FnG (P : Program) (w : World) (K : PySem.W.Frag) (mg : Str → Option Value) (base : Heap) (CX : CXT) (k : Nat) (f : Addr) (fd : FuncData) (ps : List Str) (sp : Sp) : Prop where
  many : ∀ vs H Q E, sp vs H Q E → vs.length = ps.length
  goes : ∀ (A : Around) (outer : List Env) (s : Shared) (H : Hp) (args : Args) (us : List Value) (vs : List V) (Q : VK) (E : XK), A.guards = some [] → Room k A → Env0 P w K mg base A outer s H → BindsTo s fd args (ps.zip us) → Vals vs us → sp vs H Q E →
    codeAny (model P w) A (.call (.ref f) args) (CR CX outer P w H s Q E) s
section
variable {P : Program} {w : World} {K : PySem.W.Frag} {mg : Str → Option Value} {base : Heap} {k : Nat} {f : Addr} {fd : FuncData} {ps : List Str} {sp : Sp}
theorem fnG {x qual : Str} {st : Stmt} {N : List Str} (F : Fun K x qual st f fd) (S : FnScope N ps (defScope st)) (many : ∀ vs H Q E, sp vs H Q E → vs.length = ps.length)
    (go : ∀ (cdv : Value) (A : Around) (outer : List Env) (s : Shared) (H : Hp) (vs : List V) (Q : VK) (E : XK), fd.code = cdv → (A.deeper (envOfC qual (defScope st) s.heap.objs.size f cdv)).guards = some [] → Room k (A.deeper (envOfC qual (defScope st) s.heap.objs.size f cdv)) → sp vs H Q E →
      ∃ t, PSs (cxOf CX0 P w K mg base N qual (defScope st) f cdv A outer s H E).nox (defBody st) t ∧ t { nx := fun _ H' => Q .non H', rt := Q } (start N vs) H) : FnG P w K mg base CX0 (k + 1) f fd ps sp := by
  obtain ⟨oc, od, kV, doc, pm, an, cdv, ct, osl, rfl, lk, code⟩ := F.ex
  refine ⟨many, ?_⟩
  intro A outer s H args us vs Q E clear room e0 binds args' wish
  exact run_ofS lk code S room e0 binds args' (many _ _ _ _ wish) fun room' => (go cdv A outer s H vs Q E rfl clear room' wish).imp fun t z => ⟨z.1.nox, z.2⟩
end
section
variable {X : Cx} {CX : CXT} {k : Nat} {f : Addr} {fd : FuncData} {ps : List Str} {sp : Sp} {E : XK} {x : Str} {p pos : Pos} {e : Expr} {es : List Expr} {t : TA}
/-- a call of such a function, from one of its kind -/
theorem pe_callG (clear : X.A.guards = some []) (F : FnG X.prog X.w X.K X.mg X.base CX k f fd ps sp) (room : Room k X.A) (hg : Gl X x) (hm : X.mg x = some (.ref f)) (hk : PySem.W.keepIn X.K (.ref f) = true) (hb : Binds X.K fd ps []) (pass : Passes CX X E) (ha : PA X (e :: es) t)
    (nd : (x == ("__debug__" : Str)) = false := by decide) (he : starEach (e :: es) X.env = (false, eval e X.env) :: starEach es X.env := by rfl) (hpl : (backTo pos (starEach es X.env)).any (·.1) = false := by rfl) :
    PE X (.Call (.Name x p) (e :: es) [] pos) (tCall sp [] E t) := by
  constructor
  intro pins s σ H Q I now
  refine wpAny_Call_Name_kw (ld_glob I hg hm ?_ nd)
  refine PySem.W.callWith_K (h₀ := X.base) I.ok.mod.kin hk (thn (ha.run pos pins s σ H _ I now) ?_) he hpl
  rintro us s1 ⟨vs, H1, I1, r, wish⟩
  refine ⟨I1.kIn, ?_⟩
  rw [List.append_nil] at wish
  have len : us.length = ps.length := by rw [← r.length]; exact F.many _ _ _ _ wish
  have b := hb s1 us I1.kIn (by rw [List.append_nil]; exact len)
  rw [List.append_nil] at b
  refine wpAny_call (codeAny_mono (F.goes X.A X.stack s1 H1 ⟨us, []⟩ us vs Q E clear room I1.env0 b r wish) ?_)
  intro res s' got
  cases res with
  | error er => exact pass pins σ H1 s1 er s' I1 got
  | ok fl =>
    cases fl with
    | ret u => exact I1.after got
    | next => exact False.elim got
    | brk => exact False.elim got
    | cont => exact False.elim got
end
/-- nothing comes out where nothing may -/
theorem passN {X : Cx} : Passes (L2.CX X.prog X.w) X (fun _ _ _ => False) := fun _ _ _ _ _ _ _ c => by
  obtain ⟨_, _, _, _, _, _, _, _, _, _, _, _, _, _, z⟩ := c

/-- f(lambda: body), told by f's own facts -/
theorem pe_lam {X : Cx} {T : List (Addr × Str)} {TT : (XK → Hp → VK → Prop) → Hp → VK → Prop} {x a : Str} {st : Stmt} {g c P : Addr} {fd : FuncData} {k : Nat} {Ng : List Str} {params : Arguments} {body : Expr} {scope : Scope} {t : XK → TE} {p lpos pos : Pos}
    (F : Fun X.K x x st g fd) (hm : X.mg x = some (.ref g)) (hb : L2.Binds X.K fd [a] []) (Sg : FnScope Ng [a] (defScope st)) (gives : ∀ cdv, GivesTo X Ng x (defScope st) g cdv (defBody st) a (X.env.qual ++ "<lambda>") TT)
    (TB : TabB X.base X.mg c P) (code : X.env.code = .ref c) (hmT : (P, X.env.qual ++ "<lambda>") ∈ T) (hu : ∀ p ∈ T, p.1 = P → p.2 = X.env.qual ++ "<lambda>") (room : Room (k + 2) X.A) (L : LamS X.env.scope scope)
    (run : ∀ (A : Around) (outer : List Env) (s : Shared) (H : Hp) (E : XK) (f c' : Addr), Room k (A.deeper (lamEnv X scope s.heap.objs.size f c')) → PE (lamCx X A outer s H E scope f c') body (t E))
    (hNg : Ng[0]? = some a := by rfl) (hva : Vis (defScope st) a := by exact .inl rfl) (hg : Gl X x := by rfl) (hdef : defaultsOf params X.env = ([], []) := by rfl) (hbind : ∀ (q : Str) (cl : List (Str × Addr)) (pm cv ctv : Value), bindArgs (PySem.W.kla_fn "<lambda>" q params body scope cl pm cv ctv) ⟨[], []⟩ = pure [] := by intros; rfl)
    (hdb : (x == ("__debug__" : Str)) = false := by decide) (hd : (a == ("__debug__" : Str)) = false := by decide) (hcd : (a == ("__classdict__" : Str)) = false := by decide) :
    PE X (.Call (.Name x p) [.Lambda params body scope lpos] [] pos) (tLam T TT t) := by
  obtain ⟨oc, od, kV, doc, pm, an, cdv, ct, osl, rfl, lk, codeF⟩ := F.ex
  exact pe_lamcall hg hm F.kp lk codeF hb Sg hNg hva (gives cdv) TB code hmT hu room L hdef hbind run hdb hd hcd
/-! ### values that are no integers -/
theorem TyOf_mono {K : PySem.W.Frag} {H H' : Hp} (s : ∀ b o, H b = some o → H' b = some o) {x : V} {t : Value} (h : TyOf K H x t) : TyOf K H' x t := by
  cases h with
  | non => exact .non
  | bl x => exact .bl x
  | int i => exact .int i
  | str x => exact .str x
  | flt x => exact .flt x
  | lst e => exact .lst (s _ _ e)
  | frz e => exact .frz (s _ _ e)
  | tup e => exact .tup (s _ _ e)
  | dK e => exact .dK (s _ _ e)
  | dT e => exact .dT (s _ _ e)
  | ins e cl ha hn hk hm => exact .ins (s _ _ e) cl ha hn hk hm
theorem TyX_mono {K : PySem.W.Frag} {H H' : Hp} (s : ∀ b o, H b = some o → H' b = some o) {x : V} {t : Value} (h : TyX K H x t) : TyX K H' x t := by
  cases h with
  | base h => exact .base (TyOf_mono s h)
  | byt b => exact .byt b
  | set e => exact .set (s _ _ e)
  | kList e c => exact .kList e c
  | kTuple e c => exact .kTuple e c
  | kDict e c => exact .kDict e c
  | fTuple e => exact .fTuple (s _ _ e)
  | fDict e => exact .fDict (s _ _ e)
def NoNum (K : PySem.W.Frag) (H : Hp) (v : V) : Prop := ∃ t b1 b2, TyX K H v t ∧ PySem.W.kitOne K t (.type "int") = some b1 ∧ PySem.W.kitOne K t (.type "bool") = some b2 ∧ (b1 && !b2) = false
theorem NoNum.mono {K : PySem.W.Frag} {H H' : Hp} {v : V} (h : NoNum K H v) (s : ∀ b o, H b = some o → H' b = some o) : NoNum K H' v := by
  obtain ⟨t, b1, b2, h1, h2, h3, h4⟩ := h
  exact ⟨t, b1, b2, TyX_mono s h1, h2, h3, h4⟩
theorem noNum_none {K : PySem.W.Frag} {H : Hp} : NoNum K H .non := ⟨_, false, false, .base .non, by rfl, by rfl, rfl⟩
theorem noNum_bl {K : PySem.W.Frag} {H : Hp} (b : Bool) : NoNum K H (.bl b) := ⟨_, true, true, .base (.bl b), by rfl, by rfl, rfl⟩
theorem noNum_str {K : PySem.W.Frag} {H : Hp} (z : Str) : NoNum K H (.str z) := ⟨_, false, false, .base (.str z), by rfl, by rfl, rfl⟩
theorem noNum_lst {K : PySem.W.Frag} {H : Hp} {a : Addr} {xs : List V} (e : H a = some (.lst xs)) : NoNum K H (.ref a) := ⟨_, false, false, .base (.lst e), by rfl, by rfl, rfl⟩
theorem noNum_tup {K : PySem.W.Frag} {H : Hp} {a : Addr} {xs : List V} (e : H a = some (.tup xs)) : NoNum K H (.ref a) := ⟨_, false, false, .base (.tup e), by rfl, by rfl, rfl⟩
theorem noNum_dK {K : PySem.W.Frag} {H : Hp} {a : Addr} {xs : List (Key × V)} (e : H a = some (.dK xs)) : NoNum K H (.ref a) := ⟨_, false, false, .base (.dK e), by rfl, by rfl, rfl⟩
/-! ### the end -/
/-- a tracked heap with which a law begins: the tables, empty, and the script, frozen unless the written part tells it -/
structure Begin (K : PySem.W.Frag) (T : List Addr) (a : Addr) (ns : List Int) (P : Program) (w : World) (h : Heap) (H : Hp) : Prop where
  tab : ∀ b, b ∈ T → H b = some (.tbl #[])
  only : ∀ b, H b = none ∨ b ∈ T ∨ ∃ o u, H b = some (.frz o (.lst u))
  where' : ∀ b, H b ≠ none → b = a ∨ b ∈ T
  script : SqL K H a (ns.map V.int)
  good : HOk P w H h
  out : H a ≠ none → K.lookup a = none
section
variable {P : Program} {w : World} {K : PySem.W.Frag} {mg mb : Str → Option Value} {k : Nat} {fa a : Addr} {cs : List (Addr × Addr)} {fd : FuncData} {x : Str} {sp : Sp} {s₁ : Shared} {vs : List Value} {ns : List Int} {H : Hp}
theorem law_goes (KX : K.In s₁.heap) (G : s₁.heap.Ns mainGlobals mg) (GB : s₁.heap.Ns builtinsNs mb) (boot : ∀ y : Str, y ≠ "__name__" → mb y = bootBuiltins y) (lim : s₁.heap.NoLimit) (bare : s₁.gens = #[])
    (empty : ∀ p ∈ cs, s₁.heap.get? p.2 = some { cls := .none, data := .fields #[] }) (outside : ∀ p ∈ cs, K.lookup p.2 = none) (codes : ∀ p ∈ cs, PySem.W.CodeHd s₁.heap p.1 p.2)
    (bmod : ∃ (bm : Addr) (ob : Obj), mg "__builtins__" = some (.ref bm) ∧ bm ≠ builtinsNs ∧ s₁.heap.get? bm = some ob ∧ ob.cls = .type "module" ∧ ob.dict = some builtinsNs ∧ ob.data = .plain)
    (there : s₁.heap.get? a = some { cls := .type "list", data := .seq vs.toArray }) (room : Room k callerA)
    (F : ∀ base : Heap, K.In base → base.Ns mainGlobals mg → (∀ p ∈ cs, TabB base mg p.1 p.2) → FnG P w K mg base CX0 k fa fd [x] sp) (binds : ∀ (s : Shared) (u : Value), BindsTo s fd ⟨[u], []⟩ [(x, u)])
    (B : Begin K (cs.map (·.2)) a ns P w s₁.heap H) (wish : sp [.ref a] H (fun v _ => v = .bl true) fun _ _ _ => False) :
    codeAny (model P w) callerA (.call (.ref fa) ⟨[.ref a], []⟩) (fun r s' => r = .ok (.ret (.bool true)) ∧ OldK s₁.heap s'.heap ∧ s'.os = s₁.os ∧ AllBare s'.gens) s₁ := by
  have inT : ∀ p ∈ cs, p.2 ∈ cs.map (·.2) := fun p m => List.mem_map.mpr ⟨p, m, rfl⟩
  have atT : ∀ b, b ∈ cs.map (·.2) → s₁.heap.get? b = some { cls := .none, data := .fields #[] } := by
    intro b m
    obtain ⟨p, mp, rfl⟩ := List.mem_map.mp m
    exact empty p mp
  have untracked : ∀ {b : Addr} {o : Obj}, s₁.heap.get? b = some o → (∀ y n, o.data ≠ .seq y n) → o.data ≠ .fields #[] → H b = none := by
    intro b o e n1 n2
    by_cases q : H b = none
    · exact q
    · rcases B.where' b q with rfl | m
      · rw [there] at e; cases e; exact absurd rfl (n1 _ _)
      · rw [atT b m] at e; cases e; exact absurd rfl n2
  have seen : ∀ {b : Addr} {o : Obj}, s₁.heap.get? b = some o → H b = none → (hidT s₁.heap H).get? b = some o := fun e n => hidT_get e n
  have names : ∀ {b : Addr} {m : Str → Option Value}, s₁.heap.Ns b m → (hidT s₁.heap H).Ns b m := by
    rintro b m ⟨o, es, ep, e, dd, r⟩
    refine ⟨o, es, ep, seen e (untracked e ?_ ?_), dd, r⟩
    · intro y n z; rw [dd] at z; cases z
    · intro z; rw [dd] at z; cases z
  have known : K.In (hidT s₁.heap H) := by
    intro b o e
    refine seen (KX b o e) ?_
    by_cases q : H b = none
    · exact q
    · rcases B.where' b q with rfl | m
      · rw [B.out q] at e; cases e
      · obtain ⟨p, mp, rfl⟩ := List.mem_map.mp m
        rw [outside p mp] at e; cases e
  have notDict : ∀ {b : Addr} {m : Str → Option Value} {q : Addr}, s₁.heap.Ns b m → q ∈ cs.map (·.2) → b ≠ q := by
    rintro b m q ⟨o, es, ep, e, dd, _⟩ mq rfl
    rw [atT b mq] at e; cases e; cases dd
  have tabs : ∀ p ∈ cs, TabB (hidT s₁.heap H) mg p.1 p.2 := by
    intro p mp
    refine ⟨?_, ?_, notDict G (inT p mp)⟩
    · obtain ⟨o, us, file, tf, flags, tg, inF, text, tt, e1, r1, r2, r3, r4, rest⟩ := codes p mp
      refine ⟨o, us, file, tf, flags, tg, inF, text, tt, seen e1 (untracked e1 ?_ ?_), r1, r2, r3, r4, rest⟩
      · intro y n z; rw [r2] at z; cases z
      · intro z; rw [r2] at z; cases z; simp at r3
    · obtain ⟨bm, ob, b1, b2, b3, b4, b5, b6⟩ := bmod
      refine ⟨bm, ob, b1, b2, ?_, ?_, seen b3 (untracked b3 ?_ ?_), b4, b5, b6⟩
      · rintro rfl
        obtain ⟨o, es, ep, e, dd, _⟩ := G
        rw [e] at b3; cases b3; rw [dd] at b6; cases b6
      · rintro rfl
        rw [empty p mp] at b3; cases b3; cases b6
      · intro y n z; rw [b6] at z; cases z
      · intro z; rw [b6] at z; cases z
  have base : L2.Mod K mg (hidT s₁.heap H) := ⟨known, names G, ⟨mb, names GB, boot⟩, lim.elim fun mc ⟨h1, h2⟩ => ⟨mc, names h1, h2⟩⟩
  have e0 : Env0 P w K mg (hidT s₁.heap H) callerA [] s₁ H := ⟨rfl, base, fun b o e => of_hidT e, Nat.le_of_eq (hidT_size _ _), trivial, fun b hb => absurd (show b ∈ ([] : List Addr) from hb) (by simp), B.good, .of_eq bare⟩
  refine codeAny_mono ((F _ known (names G) tabs).goes callerA [] s₁ H ⟨[.ref a], []⟩ [.ref a] [.ref a] _ _ rfl room e0 (binds s₁ (.ref a)) (.cons rfl .nil) wish) ?_
  intro r s' got
  cases r with
  | error er => exact (show False from got).elim
  | ok fl =>
    cases fl with
    | next => exact False.elim got
    | brk => exact False.elim got
    | cont => exact False.elim got
    | ret u =>
      obtain ⟨v, H', os, bare', un, good', rv, rfl⟩ := got
      obtain rfl : u = Value.bool true := rv
      have stays : ∀ b o, b ∉ cs.map (·.2) → s₁.heap.get? b = some o → s'.heap.get? b = some o := by
        intro b o nb e
        by_cases q : H b = none
        · exact un.keep b o e q (by intro z; exact absurd (show b ∈ ([] : List Addr) from z) (by simp)) (by simp)
        · rcases B.only b with z | z | ⟨ob, u', z⟩
          · exact absurd z q
          · exact absurd z nb
          · obtain ⟨e1, _⟩ := B.good b _ z
            obtain ⟨e2, _⟩ := good' b _ (un.frzs b ob _ z)
            rw [e] at e1; cases e1; exact e2
      have grown : ∀ p ∈ cs, ∃ more : Array Value, s'.heap.get? p.2 = some { cls := .none, data := .fields more } := by
        intro p mp
        obtain ⟨more, z⟩ := un.tbls p.2 #[] (B.tab _ (inT p mp))
        exact ⟨_, good' p.2 _ z⟩
      refine ⟨rfl, ⟨?_, ?_⟩, os, bare'⟩
      · intro b o e
        by_cases hb : b ∈ cs.map (·.2)
        · obtain ⟨p, mp, rfl⟩ := List.mem_map.mp hb
          obtain ⟨more, hm⟩ := grown p mp
          rw [empty p mp] at e; cases e
          exact .inr (.inl ⟨((codes p mp).tab (empty p mp)).isCodeTable, rfl, #[], more, rfl, by rw [Array.empty_append]; exact hm⟩)
        · exact .inl (stays b o hb e)
      · intro b o e
        by_cases hb : b ∈ cs.map (·.2)
        · obtain ⟨p, mp, rfl⟩ := List.mem_map.mp hb
          obtain ⟨more, hm⟩ := grown p mp
          exact ⟨_, hm⟩
        · exact ⟨o, stays b o hb e⟩
/-- there is such a heap -/
theorem begin_is (KX : K.In s₁.heap) (T : List Addr) (empty : ∀ b ∈ T, s₁.heap.get? b = some { cls := .none, data := .fields #[] }) (there : s₁.heap.get? a = some { cls := .type "list", data := .seq vs.toArray }) (numb : IntsAre vs ns) (few : ns.length ≤ sizeLine) :
    ∃ H, Begin K T a ns P w s₁.heap H := by
  have rv := vals_ints numb
  have lenV := numb.length
  have apart : a ∉ T := by
    intro m
    have q := empty a m
    rw [there] at q; cases q
  have tabOk : ∀ {H : Hp} {b : Addr}, b ∈ T → ObjOk P w H s₁.heap b (.tbl #[]) := fun m => empty _ m
  cases known : K.lookup a with
  | some o =>
    have e := KX a o known
    rw [there] at e; cases e
    refine ⟨fun b => if b ∈ T then some (.tbl #[]) else none, fun b m => if_pos m, fun b => ?_, fun b z => ?_, ?_, fun b u z => ?_, fun z => absurd (if_neg apart) z⟩
    · by_cases m : b ∈ T
      · exact .inr (.inl m)
      · exact .inl (if_neg m)
    · by_cases m : b ∈ T
      · exact .inr m
      · exact absurd (if_neg m) z
    · exact .inr ⟨_, vs.toArray, _, known, rfl, rfl, rfl, by rw [List.size_toArray, lenV]; exact few, by simpa using rv⟩
    · by_cases m : b ∈ T
      · simp only [if_pos m] at z; cases z; exact tabOk m
      · simp only [if_neg m] at z; cases z
  | none =>
    refine ⟨fun b => if b ∈ T then some (.tbl #[]) else if b = a then some (.frz { cls := .type "list", data := .seq vs.toArray } (.lst (ns.map V.int))) else none, fun b m => if_pos m, fun b => ?_, fun b z => ?_, ?_, fun b u z => ?_, fun _ => known⟩
    · by_cases m : b ∈ T
      · exact .inr (.inl m)
      · by_cases q : b = a
        · exact .inr (.inr ⟨{ cls := .type "list", data := .seq vs.toArray }, ns.map V.int, by simp only [if_neg m, if_pos q]⟩)
        · exact .inl (by simp only [if_neg m, if_neg q])
    · by_cases m : b ∈ T
      · exact .inr m
      · by_cases q : b = a
        · exact .inl q
        · exact absurd (show (if b ∈ T then some (HO.tbl #[]) else if b = a then some (HO.frz { cls := .type "list", data := .seq vs.toArray } (.lst (ns.map V.int))) else none) = none by simp only [if_neg m, if_neg q]) z
    · exact .inl (.inr ⟨{ cls := .type "list", data := .seq vs.toArray }, by simp only [if_neg apart, if_pos]⟩)
    · by_cases m : b ∈ T
      · simp only [if_pos m] at z; cases z; exact tabOk m
      · by_cases q : b = a
        · simp only [if_neg m, if_pos q] at z; cases z
          subst q
          exact ⟨there, by rw [List.length_map]; exact few, vs, _, rv, there⟩
        · simp only [if_neg m, if_neg q] at z; cases z
end
/-- what a law's own text has to give at the head's heap -/
def Law (l : PySem.W.OpenLaw) (w : World) (K : PySem.W.Frag) (k n : Nat) (x : Str) (mg : Str → Option Value) (fa : Addr) (h : Heap) : Prop :=
  ∃ (fd : FuncData) (cs : List (Addr × Addr)) (sp : Sp), (∀ p ∈ cs, h.get? p.2 = some { cls := .none, data := .fields #[] } ∧ K.lookup p.2 = none ∧ PySem.W.CodeHd h p.1 p.2) ∧ (∀ (s : Shared) (u : Value), BindsTo s fd ⟨[u], []⟩ [(x, u)]) ∧
    (∀ (H : Hp) (a : Addr) (ns : List Int), ns.length ≤ n → (∀ p ∈ cs, H p.2 = some (.tbl #[])) → SqL K H a (ns.map V.int) → sp [.ref a] H (fun v _ => v = .bl true) fun _ _ _ => False) ∧
    ∀ base : Heap, K.In base → base.Ns mainGlobals mg → (∀ p ∈ cs, TabB base mg p.1 p.2) → FnG l.prog w K mg base CX0 k fa fd [x] sp
theorem walkG {l : PySem.W.OpenLaw} {n k : Nat} {q : Program} {loose : List Str} {XP : (Str → Option Value) → Heap → Prop} {YP : World → Heap → Prop} {d : DefRec} {K : Params → PySem.W.Frag} {x : Str}
    (hn : l.most = some n) (hn2 : n ≤ sizeLine) (hdf : d.params.defaults = []) (room : Room k callerA) (hY : ∀ (w : World) (h : Heap), YP w h → (K w.params).In h)
    (F : ∀ (w : World) (mg : Str → Option Value) (fa : Addr) (h : Heap), YP w h → (K w.params).In h → h.Ns mainGlobals mg → mg d.name = some (.ref fa) → Law l w (K w.params) k n x mg fa h) :
    PySem.W.WalkO q loose XP YP l.row.toRowW d [] (fun f vs => PySem.call f vs) := by
  refine Att.attach_callB hn hdf ?_
  intro w s₀ s₁ mg mb fa o pm cd doc a vs ns G Y ho hd hcd hmg there numb many bits bare
  have KX := hY w _ Y
  obtain ⟨fd, cs, sp, facts, binds, wish, run⟩ := F w mg fa _ Y KX G.T.g hmg
  obtain ⟨H, B⟩ := begin_is (P := l.prog) (w := w) KX (cs.map (·.2)) (by
    intro b m
    obtain ⟨p, mp, rfl⟩ := List.mem_map.mp m
    exact (facts p mp).1) there numb (Nat.le_trans many hn2)
  exact law_goes KX G.T.g G.T.b G.T.builtins G.T.nolimit bare (fun p m => (facts p m).1) (fun p m => (facts p m).2.1) (fun p m => (facts p m).2.2) G.T.bmain there room run binds B (wish H a ns many (fun p m => B.tab _ (List.mem_map.mpr ⟨p, m, rfl⟩)) B.script)
end En

/-! Sy: more steps: texts times numbers, a text's letters as a list, tuples gone through by number. -/
namespace Sy
open PySem PySem.Spec PyProof.Rows L2 Sx
open Sem (wp)
theorem bt_enumerate : bootBuiltins "enumerate" = some (.type "enumerate") := by decide +kernel
/-! ### text * number -/
def times (a : Str) (n : Nat) : Str := ⟨(List.replicate n a.cps).foldl (· ++ ·) #[]⟩
theorem times_one (a : Str) : times a 1 = a := by
  unfold times; simp [List.replicate]
def qMulS : R2 := fun x y H Q => ∃ (a : Str) (n : Int), x = .str a ∧ y = .int n ∧ 0 < a.length ∧ a.length ≤ 1000 ∧ 1 ≤ n ∧ n ≤ 1000 ∧ Q (.str (times a n.toNat)) H
theorem times_len (a : Str) (n : Nat) : (times a n).length = n * a.length := by
  have h : ∀ (l : List (Array Nat)) (z : Array Nat), (l.foldl (· ++ ·) z).size = z.size + (l.map Array.size).sum := by
    intro l
    induction l with
    | nil => intro z; simp
    | cons x l ih => intro z; rw [List.foldl_cons, ih, Array.size_append, List.map_cons, List.sum_cons]; omega
  show ((List.replicate n a.cps).foldl (· ++ ·) #[]).size = n * a.cps.size
  rw [h]; simp
section
variable {X : Cx}
theorem op_strmul : OpR X (binaryOp .Mult) qMulS := by
  intro pins s σ H x y v u Q I rx ry h
  obtain ⟨a, n, rfl, rfl, a0, a1, n0, n1, q⟩ := h
  obtain ⟨t, rfl⟩ := rx
  obtain ⟨t', rfl⟩ := ry
  have m1 : ((a.length : Int)) ≤ 1000 := by omega
  have big : (1000 : Int) ≤ (2 ^ 63 - 1) / n := by
    rw [Int.le_ediv_iff_mul_le (by omega)]
    exact Int.le_trans (Int.mul_le_mul_of_nonneg_left n1 (by decide)) (by decide)
  refine P.mul_str ?_ (fun _ _ => by omega) (fun _ _ => ?_) ?_
  · rw [decide_eq_false (by omega), decide_eq_false (by omega)]; rfl
  · show decide (_ > _) = false
    have m2 : a.length * n.toNat ≤ 1000 * 1000 := Nat.mul_le_mul a1 (by omega)
    exact decide_eq_false (Nat.not_lt.mpr (Nat.le_trans m2 (by rw [sizeLine_eq]; decide)))
  · rw [if_neg (by omega)]
    by_cases e : (n == 1 || a.length == 0) = true
    · rw [if_pos e]
      have e1 : n = 1 := by
        rw [Bool.or_eq_true, beq_iff_eq, beq_iff_eq] at e
        omega
      subst e1
      rw [show ((1 : Int).toNat) = 1 from rfl, times_one] at q
      exact ⟨.str a, H, I, ⟨t, rfl⟩, q⟩
    · rw [if_neg e]
      refine ⟨?_, .str (times a n.toNat), H, I.tok _, ⟨_, rfl⟩, q⟩
      have m2 : n.toNat * a.length ≤ 1000 * 1000 := Nat.mul_le_mul (by omega) a1
      have l := times_len a n.toNat
      unfold times at l
      rw [l, sizeLine_eq]; omega
theorem r_mulS {a : Str} {n : Int} {H : Hp} {Q : VK} (h : Q (.str (times a n.toNat)) H) (a0 : 0 < a.length ∧ a.length ≤ 1000) (n0 : 1 ≤ n ∧ n ≤ 1000) : qMulS (.str a) (.int n) H Q := ⟨a, n, rfl, rfl, a0.1, a0.2, n0.1, n0.2, h⟩
/-! ### list(text) -/
def letters (a : Str) : List V := a.cps.toList.map fun c => V.str ⟨#[c]⟩
def qListS : List V → Hp → VK → Prop := fun xs H Q => ∃ a : Str, xs = [.str a] ∧ a.length ≤ 100000 ∧ ∀ l, H l = none → Q (.ref l) (upd H l (.lst (letters a)))
theorem letters_vals {a : Str} {its : Array Value} (h : ItemsOf (SignAt a) its a.cps.size) : Vals (letters a) its.toList := by
  obtain ⟨hs, hi⟩ := h
  have main : ∀ (cs : List Nat) (vs : List Value), cs.length = vs.length → (∀ (j : Nat) (v : Value), vs[j]? = some v → ∃ (c : Nat) (u : Tok), cs[j]? = some c ∧ v = Value.str ⟨#[c]⟩ u) → Vals (cs.map fun c => V.str ⟨#[c]⟩) vs := by
    intro cs
    induction cs with
    | nil => intro vs hl _; cases vs with
      | nil => exact .nil
      | cons _ _ => cases hl
    | cons c cs ih => intro vs hl hv; cases vs with
      | nil => cases hl
      | cons v vs =>
        refine .cons ?_ (ih vs (Nat.succ.inj hl) fun j w hw => hv (j + 1) w hw)
        obtain ⟨c', u, e, rfl⟩ := hv 0 v rfl
        cases e
        exact ⟨u, rfl⟩
  refine main _ _ (by rw [Array.length_toList, Array.length_toList, hs]) fun j v hj => ?_
  rw [Array.getElem?_toList] at hj
  obtain ⟨c, u, e, rfl⟩ := hi j v hj
  exact ⟨c, u, by rw [Array.getElem?_toList]; exact e, rfl⟩
theorem letters_len (a : Str) : (letters a).length = a.length := by
  unfold letters; rw [List.length_map, Array.length_toList]; rfl
theorem call_list_str (hc : X.calm = true) : CallR X (.type "list") qListS := by
  intro pins s σ H xs us Q I r h
  obtain ⟨a, rfl, hl, q⟩ := h
  obtain ⟨u, rfl, rx⟩ := vals1 r
  obtain ⟨t, rfl⟩ := rx
  have big : a.length ≤ sizeLine := by rw [sizeLine_eq]; omega
  refine PySem.call_list_str (I.ok.hd hc) a t (hn := big) ?_
  intro h2 tk acc room keep got its
  refine ⟨.ref s.heap.objs.size, upd H s.heap.objs.size (.lst (letters a)), ?_, rfl, q _ (I.hok.fresh (Nat.le_refl _))⟩
  refine I.laid keep (Nat.le_refl _) ?_
  exact ⟨by rw [letters_len]; exact big, acc.toList, room, letters_vals its, got⟩
theorem r_listS {a : Str} {H : Hp} {Q : VK} (h : ∀ l, H l = none → Q (.ref l) (upd H l (.lst (letters a)))) (hl : a.length ≤ 100000) : qListS [.str a] H Q := ⟨a, rfl, hl, h⟩
end

/-! ### enumerate(tuple) -/
section
variable {P : Program} {w : World} {K : PySem.W.Frag}
/-- the tuple at a, each item behind its number in a new pair -/
def Itn (K : PySem.W.Frag) (a : Addr) : It :=
  ⟨fun i H => ∃ ys z, SqT K H a ys ∧ ys[i]? = some z,
   fun i H v H2 => ∃ p z, v = V.ref p ∧ H p = none ∧ H2 = upd H p (.tup [.int (i : Nat), z]) ∧ (∀ ys, SqT K H a ys → ys[i]? = some z),
   fun i H => ∃ ys : List V, SqT K H a ys ∧ ys.length = i⟩
theorem turn_number {tgs : List Expr} {q : Nat} {at' : Pos} (a en it : Addr) :
    Turn P w K (.Tuple tgs q at') (Itn K a) [en, it] en (fun i g => (∃ last, IsEnum g en it ((i : Nat) : Int) last) ∧ g.IsTupleIter it a i ∧ en ≠ it) where
  mem := List.mem_cons_self ..
  obj := fun i g ⟨⟨last, x1⟩, x2, _⟩ b m => by
    rcases List.mem_cons.mp m with rfl | m
    · exact ⟨_, x1, nofun⟩
    · cases List.mem_singleton.mp m
      obtain ⟨ob, y1, y2, y3⟩ := x2
      exact ⟨ob, y1, fun v z => by rw [y3] at z; exact nomatch z⟩
  keep := fun i g g' ⟨⟨last, x1⟩, x2, x3⟩ same => ⟨⟨last, same en (List.mem_cons_self ..) _ x1⟩, x2.at fun ob z => same it (by simp) ob z, x3⟩
  item := by
    rintro X rfl rfl rfl calm i pins s σ H E I free ⟨⟨last, x1⟩, x2, apart⟩ ⟨ys, z, at1, at2⟩
    obtain ⟨vs, rel, tp, _⟩ := I.tuple at1
    have tp' : s.heap.IsTuple a vs.toArray := tp
    obtain ⟨u, hu, ru⟩ := rel.get at2
    have lt : i < vs.toArray.size := by
      obtain ⟨q1, _⟩ := List.getElem?_eq_some_iff.mp hu
      rw [List.size_toArray]; exact q1
    have hdif : ∀ c : Addr, (∃ ob, s.heap.get? c = some ob ∧ ob.cls ≠ .type "tuple") → a ≠ c := by
      rintro c ⟨ob, y1, y2⟩ rfl
      obtain ⟨ob2, y4, y5, _⟩ := tp'
      rw [y1] at y4; cases y4
      exact y2 y5
    have below : ∀ b ∈ [en, it], b < s.heap.objs.size := fun b m => by
      rcases List.mem_cons.mp m with rfl | m
      · exact Heap.lt_size x1
      · cases List.mem_singleton.mp m
        obtain ⟨ob, y1, _⟩ := x2
        exact Heap.lt_size y1
    have dif : a ≠ it := by
      obtain ⟨ob, y1, y2, _⟩ := x2
      exact hdif it ⟨ob, y1, by rw [y2]; decide⟩
    have dif2 : en ∉ [it, a] := by
      intro z
      rcases List.mem_cons.mp z with z | z
      · exact apart z
      · exact hdif en ⟨_, x1, fun z => absurd (show Value.type "enumerate" = Value.type "tuple" from z) (by decide)⟩ (List.mem_singleton.mp z).symm
    have drawn := Draws.tuple (prog := X.prog) (w := X.w) (A := X.A.in1) (I.ok.hd calm) it a dif vs.toArray
    refine wpAny_pyNext_enum_itemD drawn x1 ⟨x2, tp'⟩ lt apart dif2 ?_
    rintro w1 g1 k1 pw out ⟨it1, tp1⟩ new1 size1 others
    have ew : w1 = u := by
      have e1 : vs.toArray[i]? = some w1 := pw
      rw [List.getElem?_toArray, hu] at e1
      exact (Option.some.inj e1).symm
    subst ew
    refine ⟨_, rfl, wpAny_letOwnedTupleGo_enum (s := { s with heap := g1, toks := k1 + 1 }) out fun g2 en2 but => ?_⟩
    have far : s.heap.objs.size ≠ en := Nat.ne_of_gt (below en (List.mem_cons_self ..))
    have new2 := (but.2 _ far).trans new1
    have I2 : Inv X pins σ (upd H s.heap.objs.size (.tup [.int (i : Nat), z])) { s with heap := g2, toks := k1 + 1 } := by
      refine I.turnedNew (ch := [en, it]) ?_ free (Nat.le_refl _) ?_
      · intro b ob m y
        exact (but.2 b fun e => m (e ▸ List.mem_cons_self ..)).trans (others b ob (fun e => m (e ▸ List.mem_cons_self ..)) (fun e => m (by rw [e]; simp)) y)
      · exact ⟨by rw [sizeLine_eq]; exact (by decide : 2 ≤ 16777216), _, .cons ⟨k1, rfl⟩ (.cons ru .nil), _, new2, rfl, _, rfl⟩
    refine ⟨.ref s.heap.objs.size, _, I2, rfl, ⟨_, z, rfl, I.hok.fresh (Nat.le_refl _), rfl, fun zs hz => ?_⟩, ⟨⟨w1, ?_⟩, it1.at fun ob y => (but.2 it (Ne.symm apart)).trans y, apart⟩, fun b m => ?_⟩
    · rw [I.tuple_inj hz at1]; exact at2
    · rw [Int.natCast_add]; exact en2
    · rw [upd_ne (Nat.ne_of_lt (below b m))]
      exact (free b m).1
  done := by
    rintro X rfl rfl rfl calm i pins s σ H E I free ⟨⟨last, x1⟩, x2, apart⟩ ⟨ys, at1, rfl⟩
    obtain ⟨vs, rel, tp, _⟩ := I.tuple at1
    have tp' : s.heap.IsTuple a vs.toArray := tp
    have dif : a ≠ it := by
      rintro rfl
      obtain ⟨ob, y1, y2, _⟩ := x2
      obtain ⟨ob2, y4, y5, _⟩ := tp'
      rw [y1] at y4; cases y4
      rw [y2] at y5; exact absurd y5 (by decide)
    have drawn := Draws.tuple (prog := X.prog) (w := X.w) (A := X.A.in1) (I.ok.hd calm) it a dif vs.toArray
    have size1 : ys.length = vs.toArray.size := by rw [List.size_toArray]; exact rel.length
    obtain ⟨f0, f1, f2, f3, f4, f5⟩ := free it (by simp)
    refine wpAny_pyNext_enum_endD drawn x1 ⟨size1 ▸ x2, tp'⟩ fun g ext => ⟨rfl, ?_⟩
    exact I.turned (t' := s.toks) (fun b ob m y => ext b ob m y) f0 f1 f3 f4 f5
  self := fun A i s Q E ⟨⟨_, x1⟩, _⟩ h => wpAny_pyIter_enum x1 h
def iNum (K : PySem.W.Frag) (ta : TA) : TI := fun σ H R => ta σ H fun vs H1 => ∃ a ys, vs = [V.ref a] ∧ SqT K H1 a ys ∧ R (Itn K a) H1
theorem walk_num {a : Addr} {ys : List V} : Walk (Itn K a) ys.length (fun H => SqT K H a ys) (YPair (fun i => some (.int (i : Nat))) (fun i => ys[i]?)) := by
  constructor
  · intro i H hi q; exact ⟨ys, ys[i], q, List.getElem?_eq_getElem hi⟩
  · intro H q; exact ⟨ys, q, rfl⟩
  · rintro i H v H2 _ q ⟨p, z, rfl, h1, h2, h3⟩
    exact ⟨p, .int (i : Nat), z, rfl, h1, h2, rfl, h3 ys q⟩
end
set_option maxHeartbeats 1000000 in
theorem meets_number {v : Value} {ob : Obj} {G : Heap → Prop} (B : Begins v ob G) :
    Meets (Builtin.«enumerate.__new__» ⟨[.type "enumerate", v], []⟩) (fun _ R s => G s.heap ∧
      R (.ok (.ret (.ref (s.heap.push ob).objs.size))) { s with heap := (s.heap.push ob).push { cls := .type "enumerate", data := .fields #[.none, .bool false, .ref s.heap.objs.size, rawInt 0, .none, .none] } }) := by
  refine Meets.of_wp fun prog w A R st hh => ?_
  obtain ⟨hp, gl, dp, tk, ext⟩ := st
  obtain ⟨hG, hR⟩ := hh
  have kin := sub_enumerate
  have begin' : ∀ {A2 : Around} {E2 : Value → Shared → Prop} {Q2 : Value → Shared → Prop}, Q2 (.ref hp.objs.size) ⟨hp.push ob, gl, dp, tk, ext⟩ → wpAny (model prog w) A2 (pyIter v) Q2 E2 ⟨hp, gl, dp, tk, ext⟩ := by
    intro A2 E2 Q2 q2
    exact B.iter prog w A2 E2 ⟨hp, gl, dp, tk, ext⟩ Q2 hG q2
  wp_walk using begin'
  apply wpAny_stack_any
  intro stk
  apply wpAny_pure
  split
  · rename_i c _ _ _ _ _
    cases (c == Value.type "enumerate") <;> (wp_walk using begin'; exact ⟨_, rfl, hR⟩)
  · wp_walk using begin'
    exact ⟨_, rfl, hR⟩
section
variable {X : Cx}
theorem pi_enumT {e : Expr} {ta : TA} {p pos tpos : Pos} {tgs : List Expr} {q : Nat} (hg : Gl X "enumerate") (hm : X.mg "enumerate" = none) (ha : PA X [e] ta) (na : starEach [e] X.env = [(false, eval e X.env)] := by rfl) :
    PI X (.Tuple tgs q tpos) (.Call (.Name "enumerate" p) [e] [] pos) (iNum X.K ta) := by
  constructor
  intro pins s σ H R I h
  refine Call_ (ld_blt I hg hm bt_enumerate (PyProof.Rows.callWith_type1 (thn (ha.run pos pins s σ H _ I h) ?_) na rfl))
  rintro us s1 ⟨vs, H1, I1, r1, a, ys, rfl, hq, next⟩
  obtain ⟨u, rfl, rx⟩ := vals1 r1
  obtain rfl : u = .ref a := rx
  obtain ⟨its, rel, tp, _⟩ := I1.tuple hq
  have tp' : s1.heap.IsTuple a its.toArray := tp
  have B := begins_tuple a its.toArray
  refine callType_new F.called_enumerate (by decide) (F.typeCall_enumerate_1 _) (F.newCall_enumerate_1 _) (fun ob => F.args_object_init_2 ob _) F.entry_enumerate_new (meets_number B) ⟨tp', ?_⟩
  let t1 := s1.heap.push { cls := .type "tuple_iterator", data := .fields #[.ref a, .int 0 0] }
  have n1 : t1.objs.size = s1.heap.objs.size + 1 := Heap.size_push ..
  show _ ∧ _
  rw [n1]
  have x1 : IsEnum (t1.push { cls := .type "enumerate", data := .fields #[.none, .bool false, .ref s1.heap.objs.size, rawInt 0, .none, .none] }) (s1.heap.objs.size + 1) s1.heap.objs.size 0 .none := by
    have z := Heap.get?_push_size t1 (o := { cls := .type "enumerate", data := .fields #[.none, .bool false, .ref s1.heap.objs.size, rawInt 0, .none, .none] }) rfl
    rw [n1] at z; exact z
  have same : ∀ b ob, s1.heap.get? b = some ob → (t1.push { cls := .type "enumerate", data := .fields #[.none, .bool false, .ref s1.heap.objs.size, rawInt 0, .none, .none] }).get? b = some ob :=
    fun b ob z => Heap.get?_push_of_some _ (Heap.get?_push_of_some _ z)
  refine ⟨⟨_, x1, rfl⟩, wpAny_pyIter_enum x1 ?_⟩
  have it1 : (t1.push { cls := .type "enumerate", data := .fields #[.none, .bool false, .ref s1.heap.objs.size, rawInt 0, .none, .none] }).IsTupleIter s1.heap.objs.size a 0 :=
    ⟨_, Heap.get?_push_of_some _ (Heap.get?_push_size _ rfl), rfl, rfl⟩
  refine ⟨s1.heap.objs.size + 1, [s1.heap.objs.size + 1, s1.heap.objs.size], _, Itn X.K a, H1, rfl, I1.kept (t' := s1.toks) same, turn_number a (s1.heap.objs.size + 1) s1.heap.objs.size, ⟨⟨.none, x1⟩, it1, Nat.succ_ne_self _⟩, ?_, next⟩
  intro b m
  have le : s1.heap.objs.size ≤ b := by
    rcases List.mem_cons.mp m with rfl | m
    · exact Nat.le_succ _
    · exact Nat.le_of_eq (List.mem_singleton.mp m).symm
  exact I1.fpOk le (I1.hok.fresh le)
end
/-! ### any walk, for loops and comprehensions -/
section
variable {σ : L2.St} {H : Hp} {nx bk ct : L2.St → Hp → Prop} {rt Q : VK} {te : TE} {tt : TT} {tb : TS} {tl : TA} {g : TG} {K : PySem.W.Frag} {J : It} {n : Nat} {G : Hp → Prop} {Y : Nat → Hp → V → Hp → Prop} {vs : List Nat}
theorem fr_it (w : Walk J n G Y) (Pv : Nat → L2.St → Hp → Prop) (h0 : Pv 0 σ H) (hG : ∀ i σ H, i ≤ n → Pv i σ H → G H)
    (hs : ∀ i x σ H H', i < n → Pv i σ H → Y i H x H' → g x σ H' fun σ2 H2 => tb ⟨Pv (i + 1), rt, nx, Pv (i + 1)⟩ σ2 H2) (hd : ∀ σ H, Pv n σ H → nx σ H) : FR J g tb ⟨nx, rt, bk, ct⟩ σ H := for_it w Pv h0 hG hs hd
theorem lw_it (w : Walk J n G Y) (Pv : Addr → Nat → Hp → Prop) (h0 : ∀ D, H D = none → Pv D 0 (upd H D (.lst []))) (hG : ∀ D, H D = none → ∀ i H, i ≤ n → Pv D i H → G H)
    (hs : ∀ D, H D = none → ∀ i x H H', i < n → Pv D i H → Y i H x H' → g x (wipe σ vs) H' fun σ2 H2 => wipe σ2 vs = wipe σ vs ∧ tt σ2 H2 fun b H3 =>
      if b = true then te σ2 H3 fun y H4 => ∃ acc, H4 D = some (.lst acc) ∧ acc.length < sizeLine ∧ Pv D (i + 1) (upd H4 D (.lst (acc ++ [y]))) else Pv D (i + 1) H3) (hd : ∀ D, H D = none → ∀ H, Pv D n H → Q (.ref D) H) : LCW J g tt te vs σ H Q :=
  fun D hD => lc_it w (Pv D) (h0 D hD) (hG D hD) (hs D hD) (hd D hD)
theorem r_lcN (h : tl σ H fun us H1 => ∃ a ys, us = [V.ref a] ∧ SqT K H1 a ys ∧ LCW (Itn K a) g tt te vs σ H1 Q) : tLc (iNum K tl) g tt te vs σ H Q := h
theorem r_forN {D : Ends} (h : tl σ H fun us H1 => ∃ a ys, us = [V.ref a] ∧ SqT K H1 a ys ∧ FR (Itn K a) g tb D σ H1) : tFor (iNum K tl) g tb D σ H := h
theorem r_lcE (h : tl σ H fun us H1 => ∃ a ys, us = [V.ref a] ∧ SqL K H1 a ys ∧ LCW (Ite K a) g tt te vs σ H1 Q) : tLc (iEnum K tl) g tt te vs σ H Q := h
theorem r_forE {D : Ends} (h : tl σ H fun us H1 => ∃ a ys, us = [V.ref a] ∧ SqL K H1 a ys ∧ FR (Ite K a) g tb D σ H1) : tFor (iEnum K tl) g tb D σ H := h
theorem r_seqN {a : Addr} {ys : List V} {Pr : Addr → Prop} (q : SqT K H a ys) (h : Pr a) : ∃ b zs, [V.ref a] = [V.ref b] ∧ SqT K H b zs ∧ Pr b := ⟨a, ys, rfl, q, h⟩
theorem r_seqE {a : Addr} {ys : List V} {Pr : Addr → Prop} (q : SqL K H a ys) (h : Pr a) : ∃ b zs, [V.ref a] = [V.ref b] ∧ SqL K H b zs ∧ Pr b := ⟨a, ys, rfl, q, h⟩
end
end Sy

/-! Mw: words of two letters: levels, turns, periods, the lowest places. -/
namespace Mw
open PySem PySem.Builtin PySem.Builtin.Str
open SX (S)
/-! ### texts -/
theorem cnt_count (c : Nat) : ∀ l : List Nat, PyProof.Rows.cnt c l = (l.count c : Nat)
  | [] => rfl
  | n :: l => by
    rw [PyProof.Rows.cnt_cons, cnt_count c l, List.count_cons]
    by_cases h : n = c
    · subst h; simp [Int.add_comm]
    · simp [h]
theorem count_S (a : List Nat) (c : Nat) : Txt.count (S a) ⟨#[c]⟩ = (a.count c : Nat) := by
  rw [PyProof.Rows.count_is]; exact cnt_count c a
theorem sub_iff (a b : List Nat) (i : Nat) : subAt (S a) (S b) i = true ↔ (a.drop i).take b.length = b := by
  unfold subAt
  rw [beq_iff_eq, SX.S_len]
  constructor
  · intro h
    have h2 := congrArg Array.toList h
    rw [Array.toList_extract] at h2
    simpa [List.extract_eq_take_drop] using h2
  · intro h
    apply Array.toList_inj.mp
    rw [Array.toList_extract]
    simpa [List.extract_eq_take_drop] using h
theorem full_run (s sub : Str) (hi limit : Nat) : ∀ (l : List Nat) (st : Array Nat × Nat), limit ≤ st.fst.size → (forIn l st (StrLaws.occBody s sub hi limit)).run.fst = st.fst
  | [], st, h => rfl
  | a :: l, st, h => by
    rw [List.forIn_cons]
    unfold StrLaws.occBody
    rw [if_neg (by omega)]
    exact full_run s sub hi limit l (st.fst, st.snd) h
theorem first_run (s sub : Str) (hi k : Nat) (hk : k + sub.length ≤ hi) (hs : subAt s sub k = true) : ∀ (m cur free : Nat), free ≤ cur → cur ≤ k → k < cur + m → (∀ j, cur ≤ j → j < k → subAt s sub j = false) →
    (forIn (List.range' cur m) ((#[] : Array Nat), free) (StrLaws.occBody s sub hi 1)).run.fst = #[k]
  | 0, cur, free, _, _, h, _ => by omega
  | m + 1, cur, free, hf, hc, h, hn => by
    rw [List.range'_succ, List.forIn_cons]
    unfold StrLaws.occBody
    by_cases e : cur = k
    · subst e
      rw [if_pos ⟨⟨⟨by simp, hf⟩, hk⟩, hs⟩]
      exact full_run s sub hi 1 _ (#[cur], _) (Nat.le_refl 1)
    · rw [if_neg (fun z => by rw [hn cur (Nat.le_refl _) (by omega)] at z; exact absurd z.2 Bool.false_ne_true)]
      exact first_run s sub hi k hk hs m (cur + 1) free (by omega) (by omega) (by omega) fun j h1 h2 => hn j (by omega) h2
theorem find3_S {a b : List Nat} {lo k : Nat} (h1 : lo ≤ k) (h2 : k + b.length ≤ a.length) (h3 : (a.drop k).take b.length = b) (h4 : ∀ j, lo ≤ j → j < k → (a.drop j).take b.length ≠ b) : Txt.find3 (S a) (S b) (lo : Int) = k := by
  have hl : (S a).length = a.length := SX.S_len a
  have hb : (S b).length = b.length := SX.S_len b
  unfold Txt.find3
  have hlo : fromIndex (S a).length (lo : Int) = lo := by
    unfold fromIndex; omega
  rw [hlo, StrLaws.occ_eq]
  rw [first_run (S a) (S b) _ k (by rw [hb, hl]; exact h2) ((sub_iff a b k).mpr h3) _ lo lo (Nat.le_refl _) h1 (by rw [hl]; omega) fun j h5 h6 => by
    cases e : subAt (S a) (S b) j with
    | false => rfl
    | true => exact absurd ((sub_iff a b j).mp e) (h4 j h5 h6)]
/-! ### turns -/
def rot (k : Nat) (l : List Nat) : List Nat := l.drop k ++ l.take k
theorem rot_len {k : Nat} {l : List Nat} : (rot k l).length = l.length := by
  unfold rot; rw [List.length_append, List.length_drop, List.length_take]; omega
theorem rot_count {k c : Nat} {l : List Nat} : (rot k l).count c = l.count c := by
  unfold rot
  rw [List.count_append, Nat.add_comm, ← List.count_append, List.take_append_drop]
theorem rot_full {l : List Nat} : rot l.length l = l := by unfold rot; simp
theorem rot_zero {l : List Nat} : rot 0 l = l := by unfold rot; simp
theorem twice {l : List Nat} {k : Nat} (h : k ≤ l.length) : ((l ++ l).drop k).take l.length = rot k l := by
  unfold rot
  rw [List.drop_append_of_le_length h, List.take_append, List.take_of_length_le (by rw [List.length_drop]; omega), List.length_drop]
  congr 2; omega
/-- the letter at i, all around -/
def ring (l : List Nat) (i : Nat) : Option Nat := l[i % l.length]?
theorem rot_get {l : List Nat} {k i : Nat} (hk : k ≤ l.length) (hi : i < l.length) : (rot k l)[i]? = ring l (i + k) := by
  unfold rot ring
  by_cases h : i < l.length - k
  · rw [List.getElem?_append_left (by rw [List.length_drop]; exact h), List.getElem?_drop, Nat.mod_eq_of_lt (by omega), Nat.add_comm]
  · rw [List.getElem?_append_right (by rw [List.length_drop]; omega), List.length_drop, List.getElem?_take, if_pos (by omega)]
    congr 1
    rw [Nat.mod_eq_sub_mod (by omega), Nat.mod_eq_of_lt (by omega)]; omega
theorem ring_mod {l : List Nat} {i : Nat} : ring l (i % l.length) = ring l i := by unfold ring; rw [Nat.mod_mod]
theorem ring_add {l : List Nat} {i : Nat} : ring l (i + l.length) = ring l i := by unfold ring; rw [Nat.add_mod_right]
/-- turned by j it is itself: all letters all around come again after j -/
theorem rot_iff {l : List Nat} {j : Nat} (hj : j ≤ l.length) : rot j l = l ↔ ∀ i, ring l (i + j) = ring l i := by
  constructor
  · intro h i
    rcases Nat.eq_zero_or_pos l.length with e | e
    · have : l = [] := List.length_eq_zero_iff.mp e
      subst this; rfl
    · have hm := Nat.mod_lt i e
      rw [← ring_mod (i := i)]
      have e1 : ring l (i + j) = ring l (i % l.length + j) := by unfold ring; rw [Nat.mod_add_mod]
      rw [e1, ← rot_get hj hm, h]
      unfold ring; rw [Nat.mod_mod]
  · intro h
    apply List.ext_getElem?
    intro i
    by_cases hi : i < l.length
    · rw [rot_get hj hi, h]; unfold ring; rw [Nat.mod_eq_of_lt hi]
    · rw [List.getElem?_eq_none (by rw [rot_len]; omega), List.getElem?_eq_none (by omega)]
theorem ring_rot {l : List Nat} {p : Nat} (hp : p ≤ l.length) (i : Nat) : ring (rot p l) i = ring l (i + p) := by
  rcases Nat.eq_zero_or_pos l.length with e | e
  · have : l = [] := List.length_eq_zero_iff.mp e
    subst this; simp [rot, ring]
  · have hm := Nat.mod_lt i e
    show (rot p l)[i % (rot p l).length]? = _
    rw [rot_len, rot_get hp hm]
    unfold ring; rw [Nat.mod_add_mod]
theorem rot_rot_iff {l : List Nat} {p j : Nat} (hp : p ≤ l.length) (hj : j ≤ l.length) : rot j (rot p l) = rot p l ↔ rot j l = l := by
  rw [rot_iff (by rw [rot_len]; exact hj), rot_iff hj]
  constructor
  · intro h i
    rcases Nat.eq_zero_or_pos l.length with e | e
    · have : l = [] := List.length_eq_zero_iff.mp e
      subst this; rfl
    · have h2 := h (i + (l.length - p))
      rw [ring_rot hp, ring_rot hp, show i + (l.length - p) + j + p = (i + j) + l.length by omega, show i + (l.length - p) + p = i + l.length by omega, ring_add, ring_add] at h2
      exact h2
  · intro h i
    rw [ring_rot hp, ring_rot hp, show i + j + p = (i + p) + j by omega]
    exact h _
/-- k is the least number of letters, at least 1, by which l is turned into itself -/
def IsPer (l : List Nat) (k : Nat) : Prop := 1 ≤ k ∧ k ≤ l.length ∧ rot k l = l ∧ ∀ j, 1 ≤ j → j < k → rot j l ≠ l
theorem IsPer.unique {l : List Nat} {j k : Nat} (h : IsPer l j) (h' : IsPer l k) : j = k := by
  rcases Nat.lt_trichotomy j k with z | z | z
  · exact absurd h.2.2.1 (h'.2.2.2 j h.1 z)
  · exact z
  · exact absurd h'.2.2.1 (h.2.2.2 k h'.1 z)
theorem least {p : Nat → Prop} : ∀ n, p n → ∃ k, k ≤ n ∧ p k ∧ ∀ j, j < k → ¬ p j := by
  intro n
  induction n using Nat.strongRecOn with
  | _ n ih =>
    intro h
    by_cases e : ∃ j, j < n ∧ p j
    · obtain ⟨j, h1, h2⟩ := e
      obtain ⟨k, h3, h4, h5⟩ := ih j h1 h2
      exact ⟨k, by omega, h4, h5⟩
    · exact ⟨n, Nat.le_refl _, h, fun j h1 h2 => e ⟨j, h1, h2⟩⟩
theorem per_exists {l : List Nat} (h : 0 < l.length) : ∃ k, IsPer l k := by
  obtain ⟨k, h1, ⟨h2, h3⟩, h4⟩ := least (p := fun k => 1 ≤ k ∧ rot k l = l) l.length ⟨h, rot_full⟩
  exact ⟨k, h2, h1, h3, fun j h5 h6 h7 => h4 j h6 ⟨h5, h7⟩⟩
theorem per_find {l : List Nat} {k : Nat} (h : IsPer l k) : Txt.find3 (S (l ++ l)) (S l) 1 = k := by
  refine find3_S (lo := 1) h.1 (by rw [List.length_append]; have := h.2.1; omega) ?_ ?_
  · rw [twice h.2.1]; exact h.2.2.1
  · intro j h1 h2
    rw [twice (by have := h.2.1; omega)]
    exact h.2.2.2 j h1 h2
theorem per_rot {l : List Nat} {p k : Nat} (hp : p ≤ l.length) (h : IsPer l k) : IsPer (rot p l) k := by
  refine ⟨h.1, by rw [rot_len]; exact h.2.1, (rot_rot_iff hp h.2.1).mpr h.2.2.1, fun j h1 h2 h3 => ?_⟩
  exact h.2.2.2 j h1 h2 ((rot_rot_iff hp (by have := h.2.1; omega)).mp h3)
theorem ring_mul {l : List Nat} {k : Nat} (h : ∀ i, ring l (i + k) = ring l i) : ∀ q i, ring l (i + k * q) = ring l i
  | 0, i => by rw [Nat.mul_zero, Nat.add_zero]
  | q + 1, i => by rw [Nat.mul_succ, ← Nat.add_assoc, h, ring_mul h q]
theorem per_dvd {l : List Nat} {k : Nat} (h : IsPer l k) : k ∣ l.length := by
  have hk := (rot_iff h.2.1).mp h.2.2.1
  apply Nat.dvd_of_mod_eq_zero
  rcases Nat.eq_zero_or_pos (l.length % k) with e | e
  · exact e
  · exfalso
    have hlt := Nat.mod_lt l.length h.1
    refine h.2.2.2 _ e hlt ((rot_iff (Nat.mod_le _ _)).mpr fun i => ?_)
    rw [← ring_mul hk (l.length / k), Nat.add_assoc, Nat.mod_add_div, ring_add]
/-- how many of the first m letters all around are c -/
def upto (l : List Nat) (c : Nat) : Nat → Nat
  | 0 => 0
  | m + 1 => upto l c m + if ring l m = some c then 1 else 0
theorem upto_take (l : List Nat) (c : Nat) : ∀ m, m ≤ l.length → upto l c m = (l.take m).count c
  | 0, _ => by simp [upto]
  | m + 1, h => by
    have hm : m < l.length := h
    rw [upto, upto_take l c m (by omega), List.take_add_one, List.count_append]
    unfold ring
    rw [Nat.mod_eq_of_lt hm, List.getElem?_eq_getElem hm]
    congr 1
    by_cases e : l[m] = c
    · simp [e]
    · simp [e]
theorem upto_add {l : List Nat} {c k : Nat} (h : ∀ i, ring l (i + k) = ring l i) : ∀ m, upto l c (m + k) = upto l c k + upto l c m
  | 0 => by rw [Nat.zero_add]; rfl
  | m + 1 => by
    rw [show m + 1 + k = (m + k) + 1 by omega, upto, upto_add h m, h, upto]; omega
theorem upto_mul {l : List Nat} {c k : Nat} (h : ∀ i, ring l (i + k) = ring l i) : ∀ q, upto l c (q * k) = q * upto l c k
  | 0 => by rw [Nat.zero_mul, Nat.zero_mul]; rfl
  | q + 1 => by rw [Nat.add_mul, Nat.one_mul, upto_add h, upto_mul h q, Nat.add_mul]; omega
theorem per_count {l : List Nat} {c k : Nat} (h : IsPer l k) : (l.length / k) ∣ l.count c := by
  have hk := (rot_iff h.2.1).mp h.2.2.1
  have e : upto l c l.length = l.count c := by rw [upto_take l c _ (Nat.le_refl _), List.take_length]
  obtain ⟨q, hq⟩ := per_dvd h
  rw [← e, hq, Nat.mul_div_cancel_left _ h.1, Nat.mul_comm k q, upto_mul hk]
  exact Nat.dvd_mul_right _ _
/-! ### levels -/
/-- the level behind all letters -/
def lev (a b : Nat) (l : List Nat) : Int := (b : Int) * (l.count 114 : Nat) - (a : Int) * (l.length - l.count 114 : Nat)
theorem lev_nil {a b : Nat} : lev a b [] = 0 := by simp [lev]
theorem cnt_le (l : List Nat) : l.count 114 ≤ l.length := List.count_le_length
theorem lev_append {a b : Nat} (u v : List Nat) : lev a b (u ++ v) = lev a b u + lev a b v := by
  have h1 := cnt_le u
  have h2 := cnt_le v
  unfold lev
  rw [List.count_append, List.length_append, Int.ofNat_sub (by omega), Int.ofNat_sub h1, Int.ofNat_sub h2]
  push_cast
  rw [Int.mul_add, Int.mul_sub, Int.mul_sub, Int.mul_sub, Int.mul_add, Int.mul_add]; omega
theorem lev_one {a b c : Nat} : lev a b [c] = if c = 114 then (b : Int) else -(a : Int) := by
  unfold lev
  by_cases h : c = 114
  · subst h; simp
  · simp [h]
theorem lev_snoc {a b c : Nat} {u : List Nat} : lev a b (u ++ [c]) = lev a b u + if c = 114 then (b : Int) else -(a : Int) := by rw [lev_append, lev_one]
theorem lev_take {a b c i : Nat} {l : List Nat} (h : l[i]? = some c) : lev a b (l.take (i + 1)) = lev a b (l.take i) + if c = 114 then (b : Int) else -(a : Int) := by
  rw [List.take_add_one, h]; exact lev_snoc
theorem lev_abs {a b : Nat} {l : List Nat} (ha : a ≤ 60) (hb : b ≤ 60) (hl : l.length ≤ 1000) : (lev a b l).natAbs ≤ 60000 := by
  have h1 := cnt_le l
  have h2 : b * l.count 114 ≤ 60 * 1000 := Nat.mul_le_mul hb (by omega)
  have h3 : a * (l.length - l.count 114) ≤ 60 * 1000 := Nat.mul_le_mul ha (by omega)
  unfold lev
  rw [← Int.natCast_mul, ← Int.natCast_mul]; omega
/-- the levels ahead of all letters -/
def lvs (a b : Nat) (l : List Nat) : List Int := (List.range l.length).map fun i => lev a b (l.take i)
theorem lvs_len {a b : Nat} {l : List Nat} : (lvs a b l).length = l.length := by unfold lvs; simp
theorem lvs_get {a b i : Nat} {l : List Nat} (h : i < l.length) : (lvs a b l)[i]? = some (lev a b (l.take i)) := by
  unfold lvs; rw [List.getElem?_map, List.getElem?_range h]; rfl
/-- a word of a rises and b steps -/
def Wd (a b : Nat) (l : List Nat) : Prop := l.count 114 = a ∧ l.count 115 = b ∧ l.length = a + b
theorem Wd.rot {a b k : Nat} {l : List Nat} (h : Wd a b l) : Wd a b (rot k l) := ⟨by rw [rot_count]; exact h.1, by rw [rot_count]; exact h.2.1, by rw [rot_len]; exact h.2.2⟩
theorem lev_word {a b : Nat} {l : List Nat} (h : Wd a b l) : lev a b l = 0 := by
  unfold lev
  rw [h.1, h.2.2, show a + b - a = b by omega, Int.mul_comm]; omega
/-- levels of the turned word -/
theorem lvs_rot {a b p : Nat} {l : List Nat} (h : Wd a b l) (hp : p < l.length) :
    lvs a b (rot p l) = ((lvs a b l).drop p ++ (lvs a b l).take p).map fun x => x - lev a b (l.take p) := by
  apply List.ext_getElem?
  intro i
  have split : lev a b l = lev a b (l.take p) + lev a b (l.drop p) := by rw [← lev_append, List.take_append_drop]
  rw [lev_word h] at split
  by_cases hi : i < l.length
  · rw [lvs_get (by rw [rot_len]; exact hi), List.getElem?_map]
    unfold rot
    by_cases h1 : i < l.length - p
    · rw [List.getElem?_append_left (by rw [List.length_drop, lvs_len]; exact h1), List.getElem?_drop, lvs_get (by omega), List.take_append_of_le_length (by rw [List.length_drop]; omega)]
      show some _ = some _
      congr 1
      rw [List.take_add, lev_append]
      show lev a b ((l.drop p).take i) = lev a b (l.take p) + lev a b ((l.drop p).take i) - lev a b (l.take p)
      omega
    · rw [List.getElem?_append_right (by rw [List.length_drop, lvs_len]; omega), List.length_drop, lvs_len, List.getElem?_take, if_pos (by omega), lvs_get (by omega), List.take_append, List.take_of_length_le (by rw [List.length_drop]; omega), List.length_drop, List.take_take, lev_append]
      show some _ = some _
      congr 1
      rw [Nat.min_eq_left (by omega)]
      show lev a b (l.drop p) + lev a b (l.take (i - (l.length - p))) = lev a b (l.take (i - (l.length - p))) - lev a b (l.take p)
      omega
  · rw [List.getElem?_eq_none (by rw [lvs_len, rot_len]; omega), List.getElem?_eq_none (by rw [List.length_map, List.length_append, List.length_drop, List.length_take, lvs_len]; omega)]
/-- the places with the level m -/
def places (m : Int) : List Int → List Nat := fun ns => (List.range ns.length).filter fun i => decide (ns.getD i 0 = m)
theorem places_step {m : Int} {ns : List Int} {i : Nat} : (List.range (i + 1)).filter (fun i => decide (ns.getD i 0 = m)) = (List.range i).filter (fun i => decide (ns.getD i 0 = m)) ++ if ns.getD i 0 = m then [i] else [] := by
  rw [List.range_succ, List.filter_append]
  congr 1
  rw [List.filter_cons]
  by_cases h : ns.getD i 0 = m
  · rw [if_pos (decide_eq_true h), if_pos h]; rfl
  · rw [if_neg (by rw [decide_eq_false h]; exact Bool.false_ne_true), if_neg h]; rfl
theorem min_unique {ns : List Int} {m k : Int} (h1 : m ∈ ns) (h2 : ∀ y, y ∈ ns → m ≤ y) (h3 : k ∈ ns) (h4 : ∀ y, y ∈ ns → k ≤ y) : m = k := by
  have := h2 k h3; have := h4 m h1; omega
end Mw
namespace Mw
open PySem PySem.Builtin PySem.Builtin.Str L2
open SX (S)
theorem lit_r : ("r" : Str) = ⟨#[114]⟩ := by decide +kernel
theorem lit_s : ("s" : Str) = ⟨#[115]⟩ := by decide +kernel
theorem is_r {c : Nat} : ((⟨#[c]⟩ : Str) = ("r" : Str)) ↔ c = 114 := by
  rw [lit_r]
  constructor
  · intro h
    have := congrArg (fun x : Str => x.cps.toList) h
    simpa using this
  · rintro rfl; rfl
theorem is_s {c : Nat} : ((⟨#[c]⟩ : Str) = ("s" : Str)) ↔ c = 115 := by
  rw [lit_s]
  constructor
  · intro h
    have := congrArg (fun x : Str => x.cps.toList) h
    simpa using this
  · rintro rfl; rfl
theorem cut_from {a : List Nat} {i : Int} (h : 0 ≤ i) : cutS (S a) (some i) none = S (a.drop i.toNat) := by rw [C8.cutS_slice, SX.slice_from h]
theorem cut_to {a : List Nat} {i : Int} (h : 0 ≤ i) : cutS (S a) none (some i) = S (a.take i.toNat) := by rw [C8.cutS_slice, SX.slice_to h]
theorem S_get {l : List Nat} {i : Nat} : (S l).cps[i]? = l[i]? := by simp [S]
theorem S_size {l : List Nat} : (S l).cps.size = l.length := by simp [S]
theorem S_eq {a b : List Nat} : (S a = S b) ↔ a = b := ⟨SX.S_inj, fun h => by rw [h]⟩
theorem ints_snoc {ns : List Int} {i : Nat} {x : Int} (h : ns[i]? = some x) : (ns.take (i + 1)).map V.int = (ns.take i).map V.int ++ [V.int x] := by
  rw [List.take_add_one, h, List.map_append]; rfl
theorem lvs_snoc {a b i : Nat} {l : List Nat} (h : i < l.length) : ((lvs a b l).take (i + 1)).map V.int = ((lvs a b l).take i).map V.int ++ [V.int (lev a b (l.take i))] := ints_snoc (lvs_get h)
theorem r_slS {z : Str} {lo hi : Option Int} {H : Hp} {Q : VK} (h : Q (.str (cutS z lo hi)) H) (hz : z.length ≤ sizeLine) : rSlS (.str z) lo hi H Q := ⟨z, rfl, hz, h⟩
theorem small_S {l : List Nat} (h : l.length ≤ 1000) : (S l).length ≤ sizeLine := by rw [SX.S_len, sizeLine_eq]; omega
theorem small2 {a b : List Nat} (h : a.length + b.length ≤ 2000) : (S a).length + (S b).length ≤ sizeLine := by rw [SX.S_len, SX.S_len, sizeLine_eq]; omega
end Mw
namespace Mw
open PySem PySem.Builtin PySem.Builtin.Str L2 Sx Sy
open SX (S)
theorem times_S (c n : Nat) : times (S [c]) n = S (List.replicate n c) := by
  have h : ∀ (n : Nat) (z : List Nat), (List.replicate n (#[c] : Array Nat)).foldl (· ++ ·) z.toArray = (z ++ List.replicate n c).toArray := by
    intro n
    induction n with
    | zero => intro z; simp
    | succ n ih =>
      intro z
      rw [List.replicate_succ, List.foldl_cons, show z.toArray ++ #[c] = (z ++ [c]).toArray by simp, ih, List.append_assoc, List.replicate_succ]; rfl
  have := h n []
  unfold times
  exact congrArg Str.mk this
theorem join_ones : ∀ l : List Nat, TL.joinL [] (l.map fun c => [c]) = l
  | [] => rfl
  | [c] => rfl
  | c :: d :: l => by
    show [c] ++ ([] ++ TL.joinL [] ((d :: l).map fun c => [c])) = _
    rw [join_ones (d :: l)]; rfl
theorem join_letters (l : List Nat) : Txt.join ("" : Str) (l.map fun c => (⟨#[c]⟩ : Str)) = S l := by
  have h := SX.join_S [] (l.map fun c => [c])
  rw [join_ones, List.map_map] at h
  exact h
theorem lens_ones (l : List Nat) : ((l.map fun c => (⟨#[c]⟩ : Str)).map (·.length)).sum = l.length := by
  rw [List.map_map]
  induction l with
  | nil => rfl
  | cons c l ih => rw [List.map_cons, List.sum_cons, ih, List.length_cons]; show 1 + _ = _; omega
theorem len_r : ("r" : Str).length = 1 := by decide +kernel
theorem len_s : ("s" : Str).length = 1 := by decide +kernel
theorem len_0 : ("" : Str).length = 0 := by decide +kernel
theorem wd_perm {a b : Nat} {l : List Nat} (h : l.Perm (List.replicate a 114 ++ List.replicate b 115)) : Wd a b l := by
  refine ⟨?_, ?_, ?_⟩
  · rw [h.count_eq]; simp [List.count_replicate]
  · rw [h.count_eq]; simp [List.count_replicate]
  · rw [h.length_eq]; simp
theorem r_pop {l : Addr} {xs : List V} {i : Int} {y : V} {H : Hp} {Q : VK} (hH : H l = some (.lst xs)) (h0 : 0 ≤ i) (h1 : i < xs.length) (h2 : xs.length ≤ 1000000) (hy : xs[i.toNat]? = some y) (h : Q y (upd H l (.lst (xs.eraseIdx i.toNat)))) : rPopAt (.ref l) [.int i] H Q := by
  refine ⟨l, xs, i, i.toNat, y, rfl, rfl, hH, by omega, by omega, ?_, hy, h⟩
  have e : (if i < 0 then i + (xs.length : Int) else i) = i := if_neg (by omega)
  unfold seqIndex?
  simp only [e]
  rw [if_pos (by rw [Bool.and_eq_true, decide_eq_true_iff, decide_eq_true_iff]; exact ⟨h0, h1⟩)]
theorem erase_map {α β : Type} (f : α → β) : ∀ (u : List α) (k : Nat), (u.map f).eraseIdx k = (u.eraseIdx k).map f
  | [], _ => rfl
  | x :: u, 0 => rfl
  | x :: u, k + 1 => by
    show f x :: (u.map f).eraseIdx k = f x :: (u.eraseIdx k).map f
    rw [erase_map f u k]
theorem pick_perm {α : Type} : ∀ (u : List α) (k : Nat) (hk : k < u.length), ([u[k]] ++ u.eraseIdx k).Perm u
  | x :: u, 0, _ => List.Perm.refl _
  | x :: u, k + 1, h => by
    have hk : k < u.length := Nat.lt_of_succ_lt_succ h
    have ih := pick_perm u k hk
    show (u[k] :: x :: u.eraseIdx k).Perm (x :: u)
    exact (List.Perm.swap x u[k] (u.eraseIdx k)).trans (List.Perm.cons x ih)
theorem perm_pick {α : Type} {v u cs : List α} {k : Nat} (hk : k < u.length) (h : (v ++ u).Perm cs) : ((v ++ [u[k]]) ++ u.eraseIdx k).Perm cs := by
  refine List.Perm.trans ?_ h
  rw [List.append_assoc]
  exact List.Perm.append_left v (pick_perm u k hk)
/-- the numbers up to i by which l is turned into itself -/
def cand (l : List Nat) (i : Nat) : List Int := ((List.range i).filter fun j => decide (rot (j + 1) l = l)).map fun j : Nat => (1 : Int) + j
theorem cand_yes {l : List Nat} {i : Nat} (h : rot (i + 1) l = l) : (cand l (i + 1)).map V.int = (cand l i).map V.int ++ [V.int ((1 : Int) + i)] := by
  unfold cand
  rw [List.range_succ, List.filter_append, List.filter_cons, if_pos (decide_eq_true h), List.map_append, List.map_append]; rfl
theorem cand_no {l : List Nat} {i : Nat} (h : ¬ rot (i + 1) l = l) : (cand l (i + 1)).map V.int = (cand l i).map V.int := by
  unfold cand
  rw [List.range_succ, List.filter_append, List.filter_cons, if_neg (by rw [decide_eq_false h]; exact Bool.false_ne_true), List.filter_nil, List.append_nil]
theorem cand_len {l : List Nat} {i : Nat} : (cand l i).length ≤ i := by
  unfold cand
  rw [List.length_map]
  exact Nat.le_trans (List.length_filter_le _ _) (by rw [List.length_range]; exact Nat.le_refl _)
theorem cand_mem {l : List Nat} {k : Int} : k ∈ cand l l.length ↔ ∃ j : Nat, k = j ∧ 1 ≤ j ∧ j ≤ l.length ∧ rot j l = l := by
  unfold cand
  rw [List.mem_map]
  constructor
  · rintro ⟨j, h, rfl⟩
    rw [List.mem_filter, List.mem_range, decide_eq_true_iff] at h
    exact ⟨j + 1, by omega, by omega, h.1, h.2⟩
  · rintro ⟨j, rfl, h1, h2, h3⟩
    refine ⟨j - 1, ?_, by omega⟩
    rw [List.mem_filter, List.mem_range, decide_eq_true_iff, show j - 1 + 1 = j by omega]
    exact ⟨by omega, h3⟩
theorem cand_pos {l : List Nat} (h : 0 < l.length) : 0 < (cand l l.length).length := by
  have : (l.length : Int) ∈ cand l l.length := cand_mem.mpr ⟨l.length, rfl, h, Nat.le_refl _, rot_full⟩
  exact List.length_pos_of_mem this
theorem cand_per {l : List Nat} {m : Int} (h1 : m ∈ cand l l.length) (h2 : ∀ y, y ∈ cand l l.length → m ≤ y) : ∃ k : Nat, m = k ∧ IsPer l k := by
  obtain ⟨k, rfl, h3, h4, h5⟩ := cand_mem.mp h1
  refine ⟨k, rfl, h3, h4, h5, fun j j1 j2 j3 => ?_⟩
  have := h2 j (cand_mem.mpr ⟨j, rfl, j1, by omega, j3⟩)
  omega
end Mw

/-! Me: equal tuples and lists of plain data. -/
namespace Me
open PySem PySem.Spec PyProof.Rows L2 Sx
theorem lay_ints : ∀ ns : List Int, PyData.canLayAll0 (ns.map PyData.int) = true
  | [] => rfl
  | n :: ns => by
    have h := lay_ints ns
    simp only [List.map_cons, PyData.canLayAll0, PyData.canLay0, h, Bool.and_self]
theorem deep_ints : ∀ ns : List Int, PyData.depthAll (ns.map PyData.int) ≤ 1
  | [] => by simp [PyData.depthAll]
  | n :: ns => by
    have h := deep_ints ns
    simp only [List.map_cons, PyData.depthAll, PyData.depth]
    omega
theorem lay_strs : ∀ ns : List Str, ns.all PyData.strOk = true → PyData.canLayAll0 (ns.map PyData.str) = true
  | [], _ => rfl
  | n :: ns, k => by
    rw [List.all_cons, Bool.and_eq_true] at k
    have h := lay_strs ns k.2
    simp only [List.map_cons, PyData.canLayAll0, PyData.canLay0, h, k.1, Bool.and_self]
theorem deep_strs : ∀ ns : List Str, PyData.depthAll (ns.map PyData.str) ≤ 1
  | [] => by simp [PyData.depthAll]
  | n :: ns => by
    have h := deep_strs ns
    simp only [List.map_cons, PyData.depthAll, PyData.depth]
    omega
theorem tup_ok {ds : List PyData} (h1 : PyData.canLayAll0 ds = true) (h2 : PyData.depthAll ds ≤ 40) : SeqAt.shaped (.tuple ds) = true := by
  unfold SeqAt.shaped
  rw [Bool.and_eq_true, decide_eq_true_iff]
  refine ⟨by simpa [PyData.canLay0] using h1, ?_⟩
  simp only [PyData.depth]; omega
theorem lst_ok {ds : List PyData} (h1 : PyData.canLayAll0 ds = true) (h2 : PyData.depthAll ds ≤ 40) : SeqAt.shaped (.list ds) = true := by
  unfold SeqAt.shaped
  rw [Bool.and_eq_true, decide_eq_true_iff]
  refine ⟨by simpa [PyData.canLay0] using h1, ?_⟩
  simp only [PyData.depth]; omega
section
variable {K : PySem.W.Frag} {H : Hp} {Q : VK} {a b : Addr} {ns : List Int} {ts : List Str}
theorem sh_tupI : SeqAt.shaped (.tuple (ns.map PyData.int)) = true := tup_ok (lay_ints ns) (Nat.le_trans (deep_ints ns) (by decide))
theorem sh_lstI : SeqAt.shaped (.list (ns.map PyData.int)) = true := lst_ok (lay_ints ns) (Nat.le_trans (deep_ints ns) (by decide))
theorem sh_tupS (hs : ts.all PyData.strOk = true) : SeqAt.shaped (.tuple (ts.map PyData.str)) = true := tup_ok (lay_strs ts hs) (Nat.le_trans (deep_strs ts) (by decide))
theorem sh_lstS (hs : ts.all PyData.strOk = true) : SeqAt.shaped (.list (ts.map PyData.str)) = true := lst_ok (lay_strs ts hs) (Nat.le_trans (deep_strs ts) (by decide))
theorem eqv_same {d : PyData} (h : SeqAt.shaped d = true) : PyData.eqv d d = true := SeqAt.eqv_refl d (SeqAt.canLay_of_shaped h)
/-- two tuples of the same ints are equal -/
theorem eq_tupI (h1 : H a = some (.tup (ns.map V.int))) (h2 : H b = some (.tup (ns.map V.int))) (h : Q (.bl true) H) : rEqD K (.ref a) (.ref b) H Q :=
  r_eqD (.tup (SqT.of h1) (dpI ns)) (.tup (SqT.of h2) (dpI ns)) sh_tupI sh_tupI (by rw [eqv_same sh_tupI]; exact h)
theorem ne_tupI (h1 : H a = some (.tup (ns.map V.int))) (h2 : H b = some (.tup (ns.map V.int))) (h : Q (.bl false) H) : rNeD K (.ref a) (.ref b) H Q :=
  r_neD (.tup (SqT.of h1) (dpI ns)) (.tup (SqT.of h2) (dpI ns)) sh_tupI sh_tupI (by rw [eqv_same sh_tupI]; exact h)
theorem eq_lstI (h1 : H a = some (.lst (ns.map V.int))) (h2 : H b = some (.lst (ns.map V.int))) (h : Q (.bl true) H) : rEqD K (.ref a) (.ref b) H Q :=
  r_eqD (.lst (SqL.of h1) (dpI ns)) (.lst (SqL.of h2) (dpI ns)) sh_lstI sh_lstI (by rw [eqv_same sh_lstI]; exact h)
theorem ne_lstI (h1 : H a = some (.lst (ns.map V.int))) (h2 : H b = some (.lst (ns.map V.int))) (h : Q (.bl false) H) : rNeD K (.ref a) (.ref b) H Q :=
  r_neD (.lst (SqL.of h1) (dpI ns)) (.lst (SqL.of h2) (dpI ns)) sh_lstI sh_lstI (by rw [eqv_same sh_lstI]; exact h)
/-- any two values that read the same -/
theorem ne_same {x y : V} {d : PyData} (hx : Dp K H x d) (hy : Dp K H y d) (hs : SeqAt.shaped d = true) (h : Q (.bl false) H) : rNeD K x y H Q :=
  r_neD hx hy hs hs (by rw [eqv_same hs]; exact h)
theorem eq_same {x y : V} {d : PyData} (hx : Dp K H x d) (hy : Dp K H y d) (hs : SeqAt.shaped d = true) (h : Q (.bl true) H) : rEqD K x y H Q :=
  r_eqD hx hy hs hs (by rw [eqv_same hs]; exact h)
end
end Me

local macro_rules | `(tactic| walk_at "sx1") => `(tactic| with_reducible first
  | refine Sx.r_seq ?_ | refine Sx.r_asg ?_ | refine Sx.r_name ?_ | refine Sx.r_c ?_ | refine Sx.r_op ?_ | refine Sx.r_cons ?_ | refine Sx.r_nil ?_
  | (refine' Sx.r_var ?vxe ?_; (case vxe => with_unfolding_all exact rfl))
  | refine Sx.r_I0 ?_ | refine Sx.r_Ih ?_ ?_ | refine Sx.r_U ?_ | refine Sx.r_eqI ?_ | refine Sx.r_neI ?_ | refine Sx.r_eqS ?_ | refine Sx.r_neS ?_ | refine Sx.r_eqB ?_ | refine Sx.r_neB ?_
  | refine Sx.r_test ?_ | refine Sx.r_B ?_ | refine Sx.r_bl ?_ | refine Sx.r_int ?_ | refine Sx.r_ret ?_ | refine Sx.r_retN ?_ | refine Sx.r_drop ?_ | refine Sx.r_next ?_
  | refine Sx.r_and ?_ | refine Sx.r_or ?_ | refine Sx.r_not ?_ | refine Sx.r_andV ?_ | refine Sx.r_orV ?_ | refine Sx.r_notV ?_ | refine Sx.r_chain ?_
  | refine Sx.r_call ?_ | refine Sx.r_cb ?_ | refine Sx.r_make ?_ | refine Sx.r_tup ?_ | refine Sx.r_lst ?_ | refine Sx.r_tprop ?_ | refine Sx.r_meth ?_ | refine Sx.r_fld ?_ | refine Sx.r_sFld ?_ | refine Sx.r_BM ?_ | refine Sx.r_BM0 ?_
  | refine Sx.r_sub ?_ | refine Sx.r_sl ?_ | refine Sx.r_noPart ?_ | refine Sx.r_part ?_ | refine Sx.r_un ?_ | refine Sx.r_par ?_ | refine Sx.r_par3 ?_ | refine Sx.r_two ?_ | refine Sx.r_three ?_
  | refine Sx.r_isi_int_bool ?_ | refine Sx.r_isi_int_int ?_ | refine Sx.r_isi_str_str ?_
  | refine Sx.iteT' ?_ | refine Sx.iteF' ?_ | refine Sx.iteNT ?_ | refine Sx.iteNF ?_
  | refine Sx.r_for1 ?_ | refine Sx.r_for2 ?_ | refine Sx.r_forL ?_ | refine Sx.r_forT ?_ | refine Sx.r_forS ?_ | refine Sx.r_lc1 ?_ | refine Sx.r_lc2 ?_ | refine Sx.r_lcL ?_ | refine Sx.r_lcT ?_ | refine Sx.r_lcS ?_ | refine Sx.r_yes ?_ | refine Sx.r_seqS ?_
  | refine Sx.r_int1 ?_ | refine Sx.r_intB ?_ | refine Sx.r_abs ?_ | refine Sx.r_max ?_ | refine Sx.r_min ?_ | refine Sx.r_lenS ?_ ?_ | refine Sx.r_strI ?_ ?_ | refine Sx.r_strS ?_ | refine Sx.r_addS ?_ ?_ | refine Sx.r_ltS ?_ | refine Sx.r_cntS ?_ | refine Sx.r_findS ?_ | refine Sx.r_find3 ?_ | refine ⟨Sx.tyS, ?_⟩
  | refine Sy.r_lcN ?_ | refine Sy.r_forN ?_ | refine Sy.r_lcE ?_ | refine Sy.r_forE ?_ | refine Sy.r_mulS ?_ ?_ ?_ | refine Sy.r_listS ?_ ?_ | refine Mw.r_slS ?_ ?_
  | refine Rt.r_revT ?_ | refine Mj.r_din ?_ | refine Mj.r_dnotin ?_ | refine Mj.r_dget ?_ | refine Mj.r_dnew ?_ | refine Mj.r_dput ?_ | refine Mj.r_makeL ?_ | refine Mj.r_makeD ?_ | refine Px.r_tpropX ?_ | refine Mj.r_cmeth ?_ | refine Mj.r_dcT ?_ | refine Mj.r_lock ?_ | refine Mj.r_lcK ?_
  | refine Sx.r_gcons ?_ | refine Sx.r_gnil ?_
  | refine Sx.r_gcd ?_ | refine Sx.r_break ?_ | refine Sx.r_cont ?_)
local macro_rules | `(tactic| walk_at "sx") => `(tactic| (repeat walk_at "sx1"))
local macro_rules | `(tactic| walk_at "sd") => `(tactic| first | omega | assumption | decide | (exact Sx.cmA_l (by omega)) | (exact Sx.cmA_r (by omega)) | (exact ⟨by decide, by decide⟩) | (exact ⟨by decide, by decide, by decide⟩) | (exact Sx.cdivw (b := 64) (by omega) (by omega) (by decide)) | (exact Sx.cmA_w (Sx.cmulw (a := 64) (b := 64) (by omega) (by omega) (by decide))))
local macro_rules | `(tactic| walk_at "sxi") => `(tactic| (walk_at "sx"; refine Sx.r_ifs ?_; walk_at "sx"))

namespace Lw
open PySem PySem.Spec PyProof.Rows L2 Sx Sy
open En (NoNum)
open C8 (pe_gc)
open SkE (call_repr_int call_str_str)
open RZ (pi_zipA)
def top (i : Nat) : Stmt := PySem.Challenge.pw_slantways_k07_turned_words_and_their_lev.main.body.getD i (.Pass ⟨0, 0, 0, 0⟩)
abbrev st_is_number : Stmt := top 8
abbrev N_is_number : List Str := ["value"]
theorem sc_is_number : FnScope N_is_number ["value"] (defScope st_is_number) := ⟨rfl, rfl, rfl, by decide +kernel, rfl, by decide +kernel, by decide +kernel⟩
abbrev st_is_whole_between : Stmt := top 9
abbrev N_is_whole_between : List Str := ["value", "least", "most"]
theorem sc_is_whole_between : FnScope N_is_whole_between ["value", "least", "most"] (defScope st_is_whole_between) := ⟨rfl, rfl, rfl, by decide +kernel, rfl, by decide +kernel, by decide +kernel⟩
abbrev st_Slope_init : Stmt := inClass (top 12) 0
abbrev N_Slope_init : List Str := ["self", "rises", "steps"]
theorem sc_Slope_init : FnScope N_Slope_init ["self", "rises", "steps"] (defScope st_Slope_init) := ⟨rfl, rfl, rfl, by decide +kernel, rfl, by decide +kernel, by decide +kernel⟩
abbrev st_Slope_rises : Stmt := inClass (top 12) 2
abbrev N_Slope_rises : List Str := ["self"]
theorem sc_Slope_rises : FnScope N_Slope_rises ["self"] (defScope st_Slope_rises) := ⟨rfl, rfl, rfl, by decide +kernel, rfl, by decide +kernel, by decide +kernel⟩
abbrev st_Slope_steps : Stmt := inClass (top 12) 3
abbrev N_Slope_steps : List Str := ["self"]
theorem sc_Slope_steps : FnScope N_Slope_steps ["self"] (defScope st_Slope_steps) := ⟨rfl, rfl, rfl, by decide +kernel, rfl, by decide +kernel, by decide +kernel⟩
abbrev st_Slope_common : Stmt := inClass (top 12) 4
abbrev N_Slope_common : List Str := ["self"]
theorem sc_Slope_common : FnScope N_Slope_common ["self"] (defScope st_Slope_common) := ⟨rfl, rfl, rfl, by decide +kernel, rfl, by decide +kernel, by decide +kernel⟩
abbrev st_check_slope : Stmt := top 13
abbrev N_check_slope : List Str := ["slope"]
theorem sc_check_slope : FnScope N_check_slope ["slope"] (defScope st_check_slope) := ⟨rfl, rfl, rfl, by decide +kernel, rfl, by decide +kernel, by decide +kernel⟩
abbrev st_letter_levels : Stmt := top 14
abbrev N_letter_levels : List Str := ["slope", "text", "rises", "steps", "level", "levels", "letter"]
theorem sc_letter_levels : FnScope N_letter_levels ["slope", "text"] (defScope st_letter_levels) := ⟨rfl, rfl, rfl, by decide +kernel, rfl, by decide +kernel, by decide +kernel⟩
abbrev st_is_word : Stmt := top 15
abbrev N_is_word : List Str := ["slope", "value"]
theorem sc_is_word : FnScope N_is_word ["slope", "value"] (defScope st_is_word) := ⟨rfl, rfl, rfl, by decide +kernel, rfl, by decide +kernel, by decide +kernel⟩
abbrev st_check_word : Stmt := top 17
abbrev N_check_word : List Str := ["slope", "text"]
theorem sc_check_word : FnScope N_check_word ["slope", "text"] (defScope st_check_word) := ⟨rfl, rfl, rfl, by decide +kernel, rfl, by decide +kernel, by decide +kernel⟩
abbrev st_put_round : Stmt := top 18
abbrev N_put_round : List Str := ["text", "number"]
theorem sc_put_round : FnScope N_put_round ["text", "number"] (defScope st_put_round) := ⟨rfl, rfl, rfl, by decide +kernel, rfl, by decide +kernel, by decide +kernel⟩
abbrev st_word_levels : Stmt := top 19
abbrev N_word_levels : List Str := ["slope", "text"]
theorem sc_word_levels : FnScope N_word_levels ["slope", "text"] (defScope st_word_levels) := ⟨rfl, rfl, rfl, by decide +kernel, rfl, by decide +kernel, by decide +kernel⟩
abbrev st_lowest_places : Stmt := top 20
abbrev N_lowest_places : List Str := ["slope", "text", "levels", "lowest_level", "level", "place"]
theorem sc_lowest_places : FnScope N_lowest_places ["slope", "text"] (defScope st_lowest_places) := ⟨rfl, rfl, rfl, by decide +kernel, rfl, by decide +kernel, by decide +kernel⟩
abbrev st_turned : Stmt := top 21
abbrev N_turned : List Str := ["slope", "text", "number"]
theorem sc_turned : FnScope N_turned ["slope", "text", "number"] (defScope st_turned) := ⟨rfl, rfl, rfl, by decide +kernel, rfl, by decide +kernel, by decide +kernel⟩
abbrev st_period : Stmt := top 22
abbrev N_period : List Str := ["slope", "text"]
theorem sc_period : FnScope N_period ["slope", "text"] (defScope st_period) := ⟨rfl, rfl, rfl, by decide +kernel, rfl, by decide +kernel, by decide +kernel⟩
abbrev st_law_dice : Stmt := top 24
abbrev N_law_dice : List Str := ["_law_script", "_law_spot", "_law_cell", "_law_left"]
theorem sc_law_dice : FnScope N_law_dice ["_law_script", "_law_spot"] (defScope st_law_dice) := ⟨rfl, rfl, rfl, by decide +kernel, rfl, by decide +kernel, by decide +kernel⟩
abbrev st_law_roll : Stmt := top 25
abbrev N_law_roll : List Str := ["_law_dice_here", "_law_total", "_law_found", "_law_one", "_law_two"]
theorem sc_law_roll : FnScope N_law_roll ["_law_dice_here", "_law_total"] (defScope st_law_roll) := ⟨rfl, rfl, rfl, by decide +kernel, rfl, by decide +kernel, by decide +kernel⟩
abbrev st_law_mixed : Stmt := top 26
abbrev N_law_mixed : List Str := ["_law_dice_here", "_law_items", "_law_left", "_law_found", "_law_turn_here"]
theorem sc_law_mixed : FnScope N_law_mixed ["_law_dice_here", "_law_items"] (defScope st_law_mixed) := ⟨rfl, rfl, rfl, by decide +kernel, rfl, by decide +kernel, by decide +kernel⟩
abbrev st_law_levels : Stmt := top 27
abbrev N_law_levels : List Str := ["_law_rises", "_law_steps", "_law_text", "_law_found", "_law_level", "_law_sign"]
theorem sc_law_levels : FnScope N_law_levels ["_law_rises", "_law_steps", "_law_text"] (defScope st_law_levels) := ⟨rfl, rfl, rfl, by decide +kernel, rfl, by decide +kernel, by decide +kernel⟩
abbrev st_law_sides : Stmt := top 28
abbrev N_law_sides : List Str := ["_law_dice_here", "_law_most", "_law_rises", "_law_steps", "_law_times"]
theorem sc_law_sides : FnScope N_law_sides ["_law_dice_here", "_law_most"] (defScope st_law_sides) := ⟨rfl, rfl, rfl, by decide +kernel, rfl, by decide +kernel, by decide +kernel⟩
abbrev st_law_word : Stmt := top 29
abbrev N_law_word : List Str := ["_law_dice_here", "_law_rises", "_law_steps"]
theorem sc_law_word : FnScope N_law_word ["_law_dice_here", "_law_rises", "_law_steps"] (defScope st_law_word) := ⟨rfl, rfl, rfl, by decide +kernel, rfl, by decide +kernel, by decide +kernel⟩
abbrev st_law_turn : Stmt := top 30
abbrev N_law_turn : List Str := ["_law_text", "_law_times"]
theorem sc_law_turn : FnScope N_law_turn ["_law_text", "_law_times"] (defScope st_law_turn) := ⟨rfl, rfl, rfl, by decide +kernel, rfl, by decide +kernel, by decide +kernel⟩
abbrev st_law_period : Stmt := top 31
abbrev N_law_period : List Str := ["_law_text", "_law_times"]
theorem sc_law_period : FnScope N_law_period ["_law_text"] (defScope st_law_period) := ⟨rfl, rfl, rfl, by decide +kernel, rfl, by decide +kernel, by decide +kernel⟩
abbrev st_law_right : Stmt := top 32
abbrev N_law_right : List Str := ["_law_dice_here", "_law_most", "_law_rises", "_law_steps", "_law_slope", "_law_text", "_law_levels_here", "_law_many", "_law_turn_here", "_law_place", "_law_other", "_law_at", "_law_level"]
theorem sc_law_right : FnScope N_law_right ["_law_dice_here", "_law_most"] (defScope st_law_right) := ⟨rfl, rfl, rfl, by decide +kernel, rfl, by decide +kernel, by decide +kernel⟩
abbrev st_law : Stmt := top 33
abbrev N_law : List Str := ["_law_script", "_law_spot", "_law_dice_here", "_law_most", "_law_slope", "_law_told"]
theorem sc_law : FnScope N_law ["_law_script"] (defScope st_law) := ⟨rfl, rfl, rfl, by decide +kernel, rfl, by decide +kernel, by decide +kernel⟩
structure Tx (K : PySem.W.Frag) (mg : Str → Option Value) where
  C_Slope : Addr
  a_is_number : Addr
  d_is_number : FuncData
  F_is_number : Fun K "is_number" "is_number" st_is_number a_is_number d_is_number
  b_is_number : Binds K d_is_number ["value"] []
  g_is_number : mg "is_number" = some (.ref a_is_number)
  a_is_whole_between : Addr
  d_is_whole_between : FuncData
  F_is_whole_between : Fun K "is_whole_between" "is_whole_between" st_is_whole_between a_is_whole_between d_is_whole_between
  b_is_whole_between : Binds K d_is_whole_between ["value", "least", "most"] []
  g_is_whole_between : mg "is_whole_between" = some (.ref a_is_whole_between)
  a_Slope_init : Addr
  d_Slope_init : FuncData
  F_Slope_init : Fun K "__init__" "Slope.__init__" st_Slope_init a_Slope_init d_Slope_init
  b_Slope_init : Binds K d_Slope_init ["self", "rises", "steps"] []
  a_Slope_rises : Addr
  d_Slope_rises : FuncData
  F_Slope_rises : Fun K "rises" "Slope.rises" st_Slope_rises a_Slope_rises d_Slope_rises
  b_Slope_rises : Binds K d_Slope_rises ["self"] []
  a_Slope_steps : Addr
  d_Slope_steps : FuncData
  F_Slope_steps : Fun K "steps" "Slope.steps" st_Slope_steps a_Slope_steps d_Slope_steps
  b_Slope_steps : Binds K d_Slope_steps ["self"] []
  a_Slope_common : Addr
  d_Slope_common : FuncData
  F_Slope_common : Fun K "common" "Slope.common" st_Slope_common a_Slope_common d_Slope_common
  b_Slope_common : Binds K d_Slope_common ["self"] []
  a_check_slope : Addr
  d_check_slope : FuncData
  F_check_slope : Fun K "check_slope" "check_slope" st_check_slope a_check_slope d_check_slope
  b_check_slope : Binds K d_check_slope ["slope"] []
  g_check_slope : mg "check_slope" = some (.ref a_check_slope)
  a_letter_levels : Addr
  d_letter_levels : FuncData
  F_letter_levels : Fun K "letter_levels" "letter_levels" st_letter_levels a_letter_levels d_letter_levels
  b_letter_levels : Binds K d_letter_levels ["slope", "text"] []
  g_letter_levels : mg "letter_levels" = some (.ref a_letter_levels)
  a_is_word : Addr
  d_is_word : FuncData
  F_is_word : Fun K "is_word" "is_word" st_is_word a_is_word d_is_word
  b_is_word : Binds K d_is_word ["slope", "value"] []
  g_is_word : mg "is_word" = some (.ref a_is_word)
  a_check_word : Addr
  d_check_word : FuncData
  F_check_word : Fun K "check_word" "check_word" st_check_word a_check_word d_check_word
  b_check_word : Binds K d_check_word ["slope", "text"] []
  g_check_word : mg "check_word" = some (.ref a_check_word)
  a_put_round : Addr
  d_put_round : FuncData
  F_put_round : Fun K "put_round" "put_round" st_put_round a_put_round d_put_round
  b_put_round : Binds K d_put_round ["text", "number"] []
  g_put_round : mg "put_round" = some (.ref a_put_round)
  a_word_levels : Addr
  d_word_levels : FuncData
  F_word_levels : Fun K "word_levels" "word_levels" st_word_levels a_word_levels d_word_levels
  b_word_levels : Binds K d_word_levels ["slope", "text"] []
  g_word_levels : mg "word_levels" = some (.ref a_word_levels)
  a_lowest_places : Addr
  d_lowest_places : FuncData
  F_lowest_places : Fun K "lowest_places" "lowest_places" st_lowest_places a_lowest_places d_lowest_places
  b_lowest_places : Binds K d_lowest_places ["slope", "text"] []
  g_lowest_places : mg "lowest_places" = some (.ref a_lowest_places)
  a_turned : Addr
  d_turned : FuncData
  F_turned : Fun K "turned" "turned" st_turned a_turned d_turned
  b_turned : Binds K d_turned ["slope", "text", "number"] []
  g_turned : mg "turned" = some (.ref a_turned)
  a_period : Addr
  d_period : FuncData
  F_period : Fun K "period" "period" st_period a_period d_period
  b_period : Binds K d_period ["slope", "text"] []
  g_period : mg "period" = some (.ref a_period)
  a_law_dice : Addr
  d_law_dice : FuncData
  F_law_dice : Fun K "_law_dice" "_law_dice" st_law_dice a_law_dice d_law_dice
  b_law_dice : Binds K d_law_dice ["_law_script", "_law_spot"] []
  g_law_dice : mg "_law_dice" = some (.ref a_law_dice)
  a_law_roll : Addr
  d_law_roll : FuncData
  F_law_roll : Fun K "_law_roll" "_law_roll" st_law_roll a_law_roll d_law_roll
  b_law_roll : Binds K d_law_roll ["_law_dice_here", "_law_total"] []
  g_law_roll : mg "_law_roll" = some (.ref a_law_roll)
  a_law_mixed : Addr
  d_law_mixed : FuncData
  F_law_mixed : Fun K "_law_mixed" "_law_mixed" st_law_mixed a_law_mixed d_law_mixed
  b_law_mixed : Binds K d_law_mixed ["_law_dice_here", "_law_items"] []
  g_law_mixed : mg "_law_mixed" = some (.ref a_law_mixed)
  a_law_levels : Addr
  d_law_levels : FuncData
  F_law_levels : Fun K "_law_levels" "_law_levels" st_law_levels a_law_levels d_law_levels
  b_law_levels : Binds K d_law_levels ["_law_rises", "_law_steps", "_law_text"] []
  g_law_levels : mg "_law_levels" = some (.ref a_law_levels)
  a_law_sides : Addr
  d_law_sides : FuncData
  F_law_sides : Fun K "_law_sides" "_law_sides" st_law_sides a_law_sides d_law_sides
  b_law_sides : Binds K d_law_sides ["_law_dice_here", "_law_most"] []
  g_law_sides : mg "_law_sides" = some (.ref a_law_sides)
  a_law_word : Addr
  d_law_word : FuncData
  F_law_word : Fun K "_law_word" "_law_word" st_law_word a_law_word d_law_word
  b_law_word : Binds K d_law_word ["_law_dice_here", "_law_rises", "_law_steps"] []
  g_law_word : mg "_law_word" = some (.ref a_law_word)
  a_law_turn : Addr
  d_law_turn : FuncData
  F_law_turn : Fun K "_law_turn" "_law_turn" st_law_turn a_law_turn d_law_turn
  b_law_turn : Binds K d_law_turn ["_law_text", "_law_times"] []
  g_law_turn : mg "_law_turn" = some (.ref a_law_turn)
  a_law_period : Addr
  d_law_period : FuncData
  F_law_period : Fun K "_law_period" "_law_period" st_law_period a_law_period d_law_period
  b_law_period : Binds K d_law_period ["_law_text"] []
  g_law_period : mg "_law_period" = some (.ref a_law_period)
  a_law_right : Addr
  d_law_right : FuncData
  F_law_right : Fun K "_law_right" "_law_right" st_law_right a_law_right d_law_right
  b_law_right : Binds K d_law_right ["_law_dice_here", "_law_most"] []
  g_law_right : mg "_law_right" = some (.ref a_law_right)
  a_law : Addr
  d_law : FuncData
  F_law : Fun K "law" "law" st_law a_law d_law
  b_law : Binds K d_law ["_law_script"] []
  g_law : mg "law" = some (.ref a_law)
  g_Slope : mg "Slope" = some (.ref C_Slope)
  cl_Slope : Cls K C_Slope
  na_Slope_rises : NoAttr K C_Slope "_rises"
  na_Slope_steps : NoAttr K C_Slope "_steps"
  na_Slope_common : NoAttr K C_Slope "_common"
  mk_Slope : Mk K C_Slope a_Slope_init
  p_Slope_rises : Addr
  pr_Slope_rises : PropOf K C_Slope "rises" p_Slope_rises a_Slope_rises
  p_Slope_steps : Addr
  pr_Slope_steps : PropOf K C_Slope "steps" p_Slope_steps a_Slope_steps
  p_Slope_common : Addr
  pr_Slope_common : PropOf K C_Slope "common" p_Slope_common a_Slope_common
  ic_Slope : PySem.W.findIn K (.ref C_Slope) "__class__" = some (some (.builtin "object.__class__"))
  mr_Slope : PySem.W.mroIn K C_Slope (.type "object") = some true
  ks_Slope : PySem.W.kitOne K (.ref C_Slope) (.ref C_Slope) = some true
  cg : PySem.W.specialIn K (.builtin "object.__class__") "__get__" = some (some (.builtin "getset_descriptor.__get__"))
  ct : PySem.W.takesIn K (.builtin "object.__class__") = some true
  n_abs : mg "abs" = none
  n_bool : mg "bool" = none
  n_enumerate : mg "enumerate" = none
  n_int : mg "int" = none
  n_isinstance : mg "isinstance" = none
  n_len : mg "len" = none
  n_list : mg "list" = none
  n_max : mg "max" = none
  n_min : mg "min" = none
  n_range : mg "range" = none
  n_str : mg "str" = none
  n_tuple : mg "tuple" = none
  i_gcd : mg "gcd" = some (.builtin "math.gcd")
  c_MAX_SIDE : ∃ u, mg "MAX_SIDE" = some u ∧ RelV (.int 60) u
section
variable {P : Program} {w : World} {K : PySem.W.Frag} {mg : Str → Option Value} {base : Heap}
/-! ### is_number, is_whole_between -/
def sp_is_number (K : PySem.W.Frag) : Sp := fun vs H Q _ => (∃ i : Int, vs = [.int i] ∧ Q (.bl true) H) ∨ ∃ v, vs = [v] ∧ NoNum K H v ∧ Q (.bl false) H
theorem ok_is_number (T : Tx K mg) : FnOk P w K mg base CX0 1 T.a_is_number T.d_is_number ["value"] (sp_is_number K) := by
  refine T.F_is_number.ok sc_is_number (fun vs H Q E h => ?_) (fun cdv A outer s H vs Q E hr h => ?_)
  · obtain ⟨i, rfl, _⟩ | ⟨v, rfl, _⟩ := h <;> rfl
  · refine ⟨_, (pss_one (ps_ret (pe_and (pe_callB call_isi (by rfl) T.n_isinstance Sx.bt_isinstance (pa_cons (pv 0) (pa_cons (pe_bltn (v := .ty "int") (by rfl) T.n_int Sx.bt_int rfl) pa_nil))) (pe_one (pe_not (pe_callB call_isi (by rfl) T.n_isinstance Sx.bt_isinstance (pa_cons (pv 0) (pa_cons (pe_bltn (v := .ty "bool") (by rfl) T.n_bool Sx.bt_bool rfl) pa_nil)))))))), ?_⟩
    obtain ⟨i, rfl, q⟩ | ⟨v, rfl, ⟨t, b1, b2, ht, h1, h2, h3⟩, q⟩ := h
    · refine Sx.r_st (σ' := [some (.int i)]) rfl ?_
      walk_at "sx"
      exact q
    · refine Sx.r_st (σ' := [some (v)]) rfl ?_
      walk_at "sx"
      refine ⟨v, .ty "int", t, .type "int", b1, rfl, .ty _, ht, h1, ?_⟩
      cases b1 with
      | false => walk_at "sx"; exact q
      | true =>
        have e2 : b2 = true := by simpa using h3
        subst e2
        walk_at "sx"
        refine ⟨v, .ty "bool", t, .type "bool", true, rfl, .ty _, ht, h2, ?_⟩
        walk_at "sx"
        exact q
def sp_is_whole_between (K : PySem.W.Frag) : Sp := fun vs H Q _ => (∃ v a b : Int, vs = [.int v, .int a, .int b] ∧ Q (.bl (decide (a ≤ v ∧ v ≤ b))) H) ∨ ∃ v, ∃ a b : Int, vs = [v, .int a, .int b] ∧ NoNum K H v ∧ Q (.bl false) H
theorem ok_is_whole_between (T : Tx K mg) : FnOk P w K mg base CX0 2 T.a_is_whole_between T.d_is_whole_between ["value", "least", "most"] (sp_is_whole_between K) := by
  refine T.F_is_whole_between.ok sc_is_whole_between (fun vs H Q E h => ?_) (fun cdv A outer s H vs Q E hr h => ?_)
  · obtain ⟨v, a, b, rfl, _⟩ | ⟨v, a, b, rfl, _⟩ := h <;> rfl
  · refine ⟨_, (pss_one (ps_ret (pe_and (pe_call (ok_is_number T) (hr.mono (by decide)) (by rfl) T.g_is_number T.F_is_number.kp T.b_is_number .nil pass0 (pa_cons (pv 0) pa_nil)) (pe_one (pe_chain op_le op_le (pv 1) (pv 0) (pv 2)))))), ?_⟩
    obtain ⟨v, a, b, rfl, q⟩ | ⟨v, a, b, rfl, hn, q⟩ := h
    · refine Sx.r_st (σ' := [some (.int v), some (.int a), some (.int b)]) rfl ?_
      walk_at "sx"
      refine .inl ⟨v, rfl, ?_⟩
      walk_at "sx"
      refine ite_d (fun h1 => ?_) (fun h1 => ?_)
      · walk_at "sx"
        have e : decide (a ≤ v ∧ v ≤ b) = decide (v ≤ b) := by simp [h1]
        rw [← e]; exact q
      · have e : decide (a ≤ v ∧ v ≤ b) = false := by simp [h1]
        rw [← e]; exact q
    · refine Sx.r_st (σ' := [some (v), some (.int a), some (.int b)]) rfl ?_
      walk_at "sx"
      refine .inr ⟨v, rfl, hn, ?_⟩
      walk_at "sx"
      exact q
/-! ### Slope -/
def slF (a b : Int) : List (Str × V) := putF "_common" (.int ((Nat.gcd a.natAbs b.natAbs : Nat) : Int)) (putF "_steps" (.int b) (putF "_rises" (.int a) []))
theorem slF_r (a b : Int) : (slF a b).lookup ("_rises" : Str) = some (.int a) := by
  unfold slF; rw [lookup_putF, if_neg (by decide +kernel), lookup_putF, if_neg (by decide +kernel), lookup_putF, if_pos rfl]
theorem slF_s (a b : Int) : (slF a b).lookup ("_steps" : Str) = some (.int b) := by
  unfold slF; rw [lookup_putF, if_neg (by decide +kernel), lookup_putF, if_pos rfl]
theorem slF_c (a b : Int) : (slF a b).lookup ("_common" : Str) = some (.int ((Nat.gcd a.natAbs b.natAbs : Nat) : Int)) := by
  unfold slF; rw [lookup_putF, if_pos rfl]
/-- v is the slope a:b -/
def SlopeAt (C : Addr) (H : Hp) (v : V) (a b : Int) : Prop := (1 ≤ a ∧ a ≤ 60 ∧ 1 ≤ b ∧ b ≤ 60) ∧ ∃ p dx, v = .ref p ∧ H p = some (.ins C dx (slF a b))
theorem SlopeAt.mono {C : Addr} {H H' : Hp} {v : V} {a b : Int} (h : SlopeAt C H v a b) (s : Same H H') : SlopeAt C H' v a b := by
  obtain ⟨h1, p, dx, h2, h3⟩ := h; exact ⟨h1, p, dx, h2, s _ _ h3⟩
theorem SlopeAt.kp {C : Addr} {H H' : Hp} {v : V} {a b : Int} {d : Addr} (h : SlopeAt C H v a b) (s : Kp d H H') : SlopeAt C H' v a b := by
  obtain ⟨h1, p, dx, h2, h3⟩ := h; exact ⟨h1, p, dx, h2, s.ins h3⟩
def sp_Slope_init (C : Addr) : Sp := fun vs H Q _ => ∃ p dx, ∃ a b : Int, vs = [.ref p, .int a, .int b] ∧ (1 ≤ a ∧ a ≤ 60 ∧ 1 ≤ b ∧ b ≤ 60) ∧ H p = some (.ins C dx []) ∧ Q .non (upd (upd (upd H p (.ins C dx (putF "_rises" (.int a) []))) p (.ins C dx (putF "_steps" (.int b) (putF "_rises" (.int a) [])))) p (.ins C dx (slF a b)))
theorem ok_Slope_init (T : Tx K mg) : FnOk P w K mg base CX0 3 T.a_Slope_init T.d_Slope_init ["self", "rises", "steps"] (sp_Slope_init T.C_Slope) := by
  refine T.F_Slope_init.ok sc_Slope_init (fun vs H Q E h => ?_) (fun cdv A outer s H vs Q E hr h => ?_)
  · obtain ⟨p, dx, a, b, rfl, _⟩ := h; rfl
  · obtain ⟨p, dx, a, b, rfl, ⟨a1, a2, b1, b2⟩, hp, q⟩ := h
    refine ⟨_, (pss_cons (ps_if (pt_not (pt_val (pe_call (ok_is_whole_between T) (hr.mono (by decide)) (by rfl) T.g_is_whole_between T.F_is_whole_between.kp T.b_is_whole_between .nil pass0 (pa_cons (pv 1) (pa_cons pe_int (pa_cons (pe_gc (by rfl) T.c_MAX_SIDE) pa_nil)))))) pss_never pss_nil)
      (pss_cons (ps_if (pt_not (pt_val (pe_call (ok_is_whole_between T) (hr.mono (by decide)) (by rfl) T.g_is_whole_between T.F_is_whole_between.kp T.b_is_whole_between .nil pass0 (pa_cons (pv 2) (pa_cons pe_int (pa_cons (pe_gc (by rfl) T.c_MAX_SIDE) pa_nil)))))) pss_never pss_nil)
      (pss_cons (ps_fld (pv 0) (pv 1) rfl)
      (pss_cons (ps_fld (pv 0) (pv 2) rfl)
      (pss_one (ps_fld (pv 0) (pe_callBfun cr_gcd (by rfl) T.i_gcd (pa_cons (pv 1) (pa_cons (pv 2) pa_nil))) rfl)))))), ?_⟩
    refine Sx.r_st (σ' := [some (.ref p), some (.int a), some (.int b)]) rfl ?_
    walk_at "sxi"
    refine .inl ⟨a, 1, 60, rfl, ?_⟩
    walk_at "sx"
    rw [show decide (1 ≤ a ∧ a ≤ 60) = true by simp [a1, a2]]
    walk_at "sxi"
    refine .inl ⟨b, 1, 60, rfl, ?_⟩
    walk_at "sx"
    rw [show decide (1 ≤ b ∧ b ≤ 60) = true by simp [b1, b2]]
    walk_at "sx"

    refine r_insput hp T.cl_Slope T.na_Slope_rises (by decide) ?_
    walk_at "sx"
    refine r_insput upd_same T.cl_Slope T.na_Slope_steps len1 ?_
    walk_at "sx"
    exact ⟨p, _, dx, _, rfl, upd_same, T.cl_Slope, T.na_Slope_common, len2, q⟩
/-- a new slope -/
theorem mk_slope {C : Addr} {H : Hp} {Q : VK} {E : XK} {a b : Int} (h : 1 ≤ a ∧ a ≤ 60 ∧ 1 ≤ b ∧ b ≤ 60) (q : ∀ v H', Same H H' → SlopeAt C H' v a b → Q v H') :
    MakeP C (sp_Slope_init C) E [.int a, .int b] H Q := by
  intro x dx hx hdx hne
  refine ⟨x, dx, a, b, rfl, h, upd_same, rfl, q _ _ ?_ ⟨h, x, dx, rfl, upd_same⟩⟩
  intro c o e
  have n1 : c ≠ x := ne_of_none e hx
  have n2 : c ≠ dx := ne_of_none e hdx
  rw [upd_ne n1, upd_ne n1, upd_ne n1, upd_ne n1, upd_ne n2]; exact e
theorem ok_Slope_rises (T : Tx K mg) : FnOk P w K mg base CX0 1 T.a_Slope_rises T.d_Slope_rises ["self"] (getSp T.C_Slope "_rises") := by
  refine T.F_Slope_rises.ok sc_Slope_rises (fun vs H Q E h => ?_) (fun cdv A outer s H vs Q E hr h => ?_)
  · obtain ⟨a, dx, fs, v, rfl, _⟩ := h; rfl
  · obtain ⟨a, dx, fs, v, rfl, e, l, q⟩ := h
    refine ⟨_, (pss_one (ps_ret (pe_fld (pv 0) rfl))), ?_⟩
    refine Sx.r_st (σ' := [some (.ref a)]) rfl ?_
    walk_at "sx"
    exact ⟨a, _, dx, fs, v, rfl, e, T.cl_Slope, T.na_Slope_rises, l, q⟩
theorem ok_Slope_steps (T : Tx K mg) : FnOk P w K mg base CX0 1 T.a_Slope_steps T.d_Slope_steps ["self"] (getSp T.C_Slope "_steps") := by
  refine T.F_Slope_steps.ok sc_Slope_steps (fun vs H Q E h => ?_) (fun cdv A outer s H vs Q E hr h => ?_)
  · obtain ⟨a, dx, fs, v, rfl, _⟩ := h; rfl
  · obtain ⟨a, dx, fs, v, rfl, e, l, q⟩ := h
    refine ⟨_, (pss_one (ps_ret (pe_fld (pv 0) rfl))), ?_⟩
    refine Sx.r_st (σ' := [some (.ref a)]) rfl ?_
    walk_at "sx"
    exact ⟨a, _, dx, fs, v, rfl, e, T.cl_Slope, T.na_Slope_steps, l, q⟩
/-- a slope's numbers, read -/
theorem rd_r {C : Addr} {H : Hp} {v : V} {a b : Int} {Q : VK} {E : XK} (h : SlopeAt C H v a b) (q : Q (.int a) H) : ∃ p dx fs, v = .ref p ∧ H p = some (.ins C dx fs) ∧ getSp C "_rises" (.ref p :: []) H Q E := by
  obtain ⟨_, p, dx, rfl, e⟩ := h; exact ⟨p, dx, _, rfl, e, r_getSp e (slF_r a b) q⟩
theorem rd_s {C : Addr} {H : Hp} {v : V} {a b : Int} {Q : VK} {E : XK} (h : SlopeAt C H v a b) (q : Q (.int b) H) : ∃ p dx fs, v = .ref p ∧ H p = some (.ins C dx fs) ∧ getSp C "_steps" (.ref p :: []) H Q E := by
  obtain ⟨_, p, dx, rfl, e⟩ := h; exact ⟨p, dx, _, rfl, e, r_getSp e (slF_s a b) q⟩
theorem ok_Slope_common (T : Tx K mg) : FnOk P w K mg base CX0 1 T.a_Slope_common T.d_Slope_common ["self"] (getSp T.C_Slope "_common") := by
  refine T.F_Slope_common.ok sc_Slope_common (fun vs H Q E h => ?_) (fun cdv A outer s H vs Q E hr h => ?_)
  · obtain ⟨a, dx, fs, v, rfl, _⟩ := h; rfl
  · obtain ⟨a, dx, fs, v, rfl, e, l, q⟩ := h
    refine ⟨_, (pss_one (ps_ret (pe_fld (pv 0) rfl))), ?_⟩
    refine Sx.r_st (σ' := [some (.ref a)]) rfl ?_
    walk_at "sx"
    exact ⟨a, _, dx, fs, v, rfl, e, T.cl_Slope, T.na_Slope_common, l, q⟩
theorem rd_c {C : Addr} {H : Hp} {v : V} {a b : Int} {Q : VK} {E : XK} (h : SlopeAt C H v a b) (q : Q (.int ((Nat.gcd a.natAbs b.natAbs : Nat) : Int)) H) : ∃ p dx fs, v = .ref p ∧ H p = some (.ins C dx fs) ∧ getSp C "_common" (.ref p :: []) H Q E := by
  obtain ⟨_, p, dx, rfl, e⟩ := h; exact ⟨p, dx, _, rfl, e, r_getSp e (slF_c a b) q⟩
def sp_check_slope (C : Addr) : Sp := fun vs H Q _ => ∃ v, ∃ a b : Int, vs = [v] ∧ SlopeAt C H v a b ∧ Q .non H
theorem ok_check_slope (T : Tx K mg) : FnOk P w K mg base CX0 1 T.a_check_slope T.d_check_slope ["slope"] (sp_check_slope T.C_Slope) := by
  refine T.F_check_slope.ok sc_check_slope (fun vs H Q E h => ?_) (fun cdv A outer s H vs Q E hr h => ?_)
  · obtain ⟨v, a, b, rfl, _⟩ := h; rfl
  · obtain ⟨v, a, b, rfl, ⟨hb, p, dx, rfl, e⟩, q⟩ := h
    refine ⟨_, (pss_one (ps_if (pt_not (pt_val (pe_callB call_isi (by rfl) T.n_isinstance Sx.bt_isinstance (pa_cons (pv 0) (pa_cons (pe_glob (v := .ref T.C_Slope) (by rfl) T.g_Slope rfl) pa_nil))))) pss_never pss_nil)), ?_⟩
    refine Sx.r_st (σ' := [some (.ref p)]) rfl ?_
    walk_at "sxi"
    refine r_isi_own e T.cl_Slope T.ic_Slope T.cg T.ct T.mr_Slope T.ks_Slope ?_
    walk_at "sx"
    exact q
def sp_law_dice (K : PySem.W.Frag) : Sp := fun vs H Q _ => ∃ (a : Addr) (ns : List Int) (i : Nat), vs = [.ref a, .int i] ∧ SqL K H a (ns.map V.int) ∧ i ≤ 63 ∧ ∀ d H', Same H H' → H d = none → Dice H' d → Q (.ref d) H'
theorem ok_law_dice (T : Tx K mg) : FnOk P w K mg base CX0 1 T.a_law_dice T.d_law_dice ["_law_script", "_law_spot"] (sp_law_dice K) := by
  refine T.F_law_dice.ok sc_law_dice (fun vs H Q E h => ?_) (fun cdv A outer s H vs Q E hr h => ?_)
  · obtain ⟨a, ns, i, rfl, _⟩ := h; rfl
  · obtain ⟨a, ns, i, rfl, hS, hi, q⟩ := h
    refine ⟨_, (pss_cons (ps_set (i := 2) sc_law_dice.nd rfl (.inl rfl) (pe_ifExp (pt_cmpR op_lt (pv 1) (pe_callB Sx.c_len (by rfl) T.n_len Sx.bt_len (pa_cons (pv 0) pa_nil)) (nomark _)) (pe_callTy Sx.c_int (by rfl) T.n_int Sx.bt_int (pa_cons (pe_ix ix_list (pv 0) (pv 1) (fun _ _ => rfl)) pa_nil)) (pe_op op_add (pe_op Sx.op_mulA pe_int (pv 1)) pe_int)))
      (pss_cons (ps_set (i := 3) sc_law_dice.nd rfl (.inl rfl) (pe_op op_mod (pe_callB (Sx.c_max rfl) (by rfl) T.n_max Sx.bt_max (pa_cons pe_int (pa_cons (pe_op op_sub (pe_callB Sx.c_abs (by rfl) T.n_abs Sx.bt_abs (pa_cons (pv 2) pa_nil)) (pe_op op_pow pe_int pe_int)) pa_nil))) (pe_op Sx.op_mulA (pe_op op_pow pe_int pe_int) (pe_op op_pow pe_int pe_int))))
      (pss_one (ps_ret (pe_lst (pa_cons (pv 3) (pa_cons (pe_op op_add (pe_op op_add (pe_op op_add (pe_op Sx.op_mulA (pe_op op_mod (pe_callB Sx.c_abs (by rfl) T.n_abs Sx.bt_abs (pa_cons (pv 2) pa_nil)) pe_int) pe_int) (pe_op Sx.op_mulA pe_int (pv 1))) (pe_op Sx.op_mulA pe_int (pe_callTy Sx.c_int (by rfl) T.n_int Sx.bt_int (pa_cons (pe_cmpR op_lt (pv 2) pe_int (nomark _)) pa_nil)))) pe_int) (pa_cons pe_int pa_nil)))))))), ?_⟩
    refine Sx.r_st (σ' := [some (.ref a), some (.int i), none, none]) rfl ?_
    walk_at "sx"
    refine r_cutQ (fun v H1 => H1 = H ∧ ∃ x : Int, v = .int x) (fun Q' k => ?_) ?_
    · refine r_ifE ?_
      walk_at "sx"
      refine r_lenL hS ?_
      walk_at "sx"
      rw [List.length_map]
      refine ite_d (fun h => ?_) (fun h => ?_)
      · have h' : i < ns.length := by omega
        walk_at "sx"
        refine ⟨a, _, _, _, rfl, rfl, hS, atI_nat (j := i) (v := .int ns[i]) (by rw [List.getElem?_map, List.getElem?_eq_getElem h']; rfl), ?_⟩
        walk_at "sx"
        exact k _ _ ⟨rfl, _, rfl⟩
      · walk_at "sx"
        · exact k _ _ ⟨rfl, _, rfl⟩
        all_goals walk_at "sd"
    · rintro v H1 ⟨rfl, x, rfl⟩
      walk_at "sx"
      · refine ⟨sz _ (Nat.le_of_ble_eq_true rfl), fun d hd => ?_⟩
        exact q _ _ (same_new hd) hd ⟨_, _, _, upd_same⟩
      all_goals first | walk_at "sd" | exact cmA_w (by unfold CMulW; decide +kernel)
def sp_law_roll : Sp := fun vs H Q _ => ∃ (d : Addr) (n : Int), vs = [.ref d, .int n] ∧ Dice H d ∧ 0 < n ∧ n.natAbs.log2 < 9000 ∧ ∀ r H', 0 ≤ r → r < n → Kp d H H' → Q (.int r) H'
theorem ok_law_roll (T : Tx K mg) : FnOk P w K mg base CX0 1 T.a_law_roll T.d_law_roll ["_law_dice_here", "_law_total"] sp_law_roll := by
  refine T.F_law_roll.ok sc_law_roll (fun vs H Q E h => ?_) (fun cdv A outer s H vs Q E hr h => ?_)
  · obtain ⟨d, n, rfl, _⟩ := h; rfl
  · obtain ⟨d, n, rfl, ⟨x, y, z, hd⟩, hn, hl, q⟩ := h
    refine ⟨_, (pss_cons (ps_if (pt_cmpR op_gt (pe_ix ix_list (pv 0) pe_int (fun _ _ => rfl)) pe_int (nomark _)) (pss_cons (ps_set (i := 2) sc_law_roll.nd rfl (.inl rfl) (pe_op op_mod (pe_callTy Sx.c_int (by rfl) T.n_int Sx.bt_int (pa_cons (pe_ix ix_list (pv 0) pe_int (fun _ _ => rfl)) pa_nil)) (pv 1)))
      (pss_cons (ps_asg (pe_op op_fdivW (pe_ix ix_list (pv 0) pe_int (fun _ _ => rfl)) (pv 1)) (pg_sub (pv 0) pe_int set_list))
      (pss_one (ps_ret (pv 2))))) pss_nil)
      (pss_cons (ps_asg (pe_op op_add (pe_ix ix_list (pv 0) pe_int (fun _ _ => rfl)) pe_int) (pg_sub (pv 0) pe_int set_list))
      (pss_cons (ps_set (i := 3) sc_law_roll.nd rfl (.inl rfl) (pe_op op_mod (pe_callTy Sx.c_int (by rfl) T.n_int Sx.bt_int (pa_cons (pe_op op_add (pe_ix ix_list (pv 0) pe_int (fun _ _ => rfl)) (pe_op Sx.op_mulA pe_int (pe_ix ix_list (pv 0) pe_int (fun _ _ => rfl)))) pa_nil)) pe_int))
      (pss_cons (ps_set (i := 4) sc_law_roll.nd rfl (.inl rfl) (pe_op op_add (pe_op Sx.op_mulA (pe_op op_mod (pe_callTy Sx.c_int (by rfl) T.n_int Sx.bt_int (pa_cons (pe_op op_add (pe_op Sx.op_mulA (pv 3) (pv 3)) (pe_op Sx.op_mulA pe_int (pe_ix ix_list (pv 0) pe_int (fun _ _ => rfl)))) pa_nil)) pe_int) pe_int) (pv 3)))
      (pss_one (ps_ret (pe_op op_mod (pe_callTy Sx.c_int (by rfl) T.n_int Sx.bt_int (pa_cons (pe_op op_fdivW (pv 4) pe_int) pa_nil)) (pv 1)))))))), ?_⟩
    refine Sx.r_st (σ' := [some (.ref d), some (.int n), none, none, none]) rfl ?_
    walk_at "sxi"
    refine r_ixL hd (v := .int x) rfl ?_
    walk_at "sx"
    refine ite_d (fun h => ?_) (fun h => ?_)
    · walk_at "sx"
      refine r_ixL hd (v := .int x) rfl ?_
      walk_at "sx"
      · refine r_ixL hd (v := .int x) rfl ?_
        walk_at "sx"
        · refine r_setL hd (j := 0) rfl ?_
          walk_at "sx"
          refine q _ _ (Int.emod_nonneg _ (by omega)) (Int.emod_lt_of_pos _ hn) (Kp.put ⟨x, y, z, hd⟩)
        · exact ⟨hn, hl⟩
      · exact hn
    · walk_at "sx"
      refine r_ixL hd (v := .int z) rfl ?_
      walk_at "sx"
      refine r_setL hd (j := 2) rfl ?_
      walk_at "sx"
      refine r_ixL upd_same (v := .int y) rfl ?_
      walk_at "sx"
      refine r_ixL upd_same (v := .int (z + 1)) rfl ?_
      walk_at "sx"
      refine r_ixL upd_same (v := .int (z + 1)) rfl ?_
      walk_at "sx"
      · exact q _ _ (Int.emod_nonneg _ (by omega)) (Int.emod_lt_of_pos _ hn) (Kp.put ⟨x, y, z, hd⟩)
      all_goals walk_at "sd"
theorem log_small {n : Int} (h0 : 0 ≤ n) (h : n ≤ 1000) : n.natAbs.log2 < 9000 := PySem.Flt.log2_lt_of (by decide) (Nat.lt_of_le_of_lt (show n.natAbs ≤ 1000 by omega) (by decide +kernel))
theorem slF_no {a b : Int} {m : Str} (h1 : m ≠ "_rises") (h2 : m ≠ "_steps") (h3 : m ≠ "_common") : (slF a b).lookup m = none := by
  unfold slF; rw [lookup_putF, if_neg h3, lookup_putF, if_neg h2, lookup_putF, if_neg h1]; rfl
theorem md_slope {C : Addr} {H : Hp} {v : V} {a b : Int} {m : Str} {Pr : Prop} (h : SlopeAt C H v a b) (h1 : m ≠ "_rises") (h2 : m ≠ "_steps") (h3 : m ≠ "_common") (hp : Pr) : ∃ p dx fs, v = .ref p ∧ H p = some (.ins C dx fs) ∧ fs.lookup m = none ∧ Pr := by
  obtain ⟨_, p, dx, rfl, e⟩ := h
  exact ⟨p, dx, _, rfl, e, slF_no h1 h2 h3, hp⟩
end
end Lw

namespace Lw
open PySem PySem.Spec PyProof.Rows L2 Sx Sy Mw
open SX (S)
open C8 (pe_gc)
open SkE (call_repr_int call_str_str)
open RZ (pi_zipA)
section
variable {P : Program} {w : World} {K : PySem.W.Frag} {mg : Str → Option Value} {base : Heap}
/-! ### words -/
def sp_letter_levels (C : Addr) : Sp := fun vs H Q _ => ∃ v, ∃ a b : Nat, ∃ l : List Nat, vs = [v, .str (S l)] ∧ SlopeAt C H v a b ∧ l.length ≤ 1000 ∧ ∀ p H', Same H H' → H' p = some (.tup ((lvs a b l).map V.int)) → Q (.ref p) H'
theorem ok_letter_levels (T : Tx K mg) : FnOk P w K mg base CX0 3 T.a_letter_levels T.d_letter_levels ["slope", "text"] (sp_letter_levels T.C_Slope) := by
  refine T.F_letter_levels.ok sc_letter_levels (fun vs H Q E h => ?_) (fun cdv A outer s H vs Q E hr h => ?_)
  · obtain ⟨v, a, b, l, rfl, _⟩ := h; rfl
  · obtain ⟨v, a, b, l, rfl, hS, hl, q⟩ := h
    refine ⟨_, (pss_cons (ps_set (i := 2) sc_letter_levels.nd rfl (.inl rfl) (pe_prop (pv 0) T.cl_Slope T.pr_Slope_rises (ok_Slope_rises T) (hr.mono (by decide)) T.b_Slope_rises .nil pass0 rfl))
      (pss_cons (ps_set (i := 3) sc_letter_levels.nd rfl (.inl rfl) (pe_prop (pv 0) T.cl_Slope T.pr_Slope_steps (ok_Slope_steps T) (hr.mono (by decide)) T.b_Slope_steps .nil pass0 rfl))
      (pss_cons (ps_set (i := 4) sc_letter_levels.nd rfl (.inl rfl) pe_int)
      (pss_cons (ps_set (i := 5) sc_letter_levels.nd rfl (.inl rfl) (pe_lst pa_nil))
      (pss_cons (ps_for PassesOwn.never rfl (pi_str (pv 1)) (pg_name (i := 6) sc_letter_levels.nd rfl (.inl rfl)) (pss_cons (ps_expr (pe_bm PySem.F.plainAttrs_list PySem.F.slot_list_append PySem.F.type_list_append mt_append (pv 5) (pa_cons (pv 4) pa_nil)))
      (pss_one (ps_set (i := 4) sc_letter_levels.nd rfl (.inl rfl) (pe_ifExp (pt_cmpR op_eq (pv 6) pe_str (nomark _)) (pe_op op_add (pv 4) (pv 3)) (pe_op op_sub (pv 4) (pv 2)))))))
      (pss_one (ps_ret (pe_callTy Sx.c_tupOf (by rfl) T.n_tuple Sx.bt_tuple (pa_cons (pv 5) pa_nil))))))))), ?_⟩
    refine Sx.r_st (σ' := [some (v), some (.str (S l)), none, none, none, none, none]) rfl ?_
    walk_at "sx"
    refine rd_r hS ?_
    walk_at "sx"
    refine rd_s hS ?_
    walk_at "sx"
    refine ⟨Nat.zero_le _, fun p hp => ?_⟩
    walk_at "sx"
    refine fr_str (fun i σ' H' => Same H H' ∧ (∃ y6, σ' = [some v, some (.str (S l)), some (.int a), some (.int b), some (.int (lev a b (l.take i))), some (.ref p), y6]) ∧ H' p = some (.lst (((lvs a b l).take i).map V.int))) ⟨same_new hp, ⟨none, by rw [List.take_zero, lev_nil]; rfl⟩, upd_same⟩ ?_ ?_
    · rintro i c σ' H1 hc ⟨sm, ⟨y6, rfl⟩, hpp⟩
      rw [S_get] at hc
      have hi : i < l.length := (List.getElem?_eq_some_iff.mp hc).1
      walk_at "sx"
      refine ⟨tyL hpp, ?_⟩
      walk_at "sx"
      refine r_app hpp ?_ ?_
      · rw [← lvs_snoc hi]
        refine r_cutQ (fun x H2 => H2 = upd H1 p (.lst (((lvs a b l).take (i + 1)).map V.int)) ∧ x = .int (lev a b (l.take (i + 1)))) (fun Q' k => ?_) ?_
        · refine r_ifE ?_
          walk_at "sx"
          refine ite_d (fun h => ?_) (fun h => ?_)
          · walk_at "sx"
            refine k _ _ ⟨rfl, ?_⟩
            rw [lev_take hc, if_pos (is_r.mp h)]
          · walk_at "sx"
            refine k _ _ ⟨rfl, ?_⟩
            rw [lev_take hc, if_neg (fun z => h (is_r.mpr z))]; rfl
        · rintro x H2 ⟨rfl, rfl⟩
          walk_at "sx"
          exact ⟨same_mut sm hp, ⟨_, rfl⟩, upd_same⟩
      · rw [List.length_map, List.length_take, lvs_len]; exact sz' _ (by omega)
    · rintro σ' H1 ⟨sm, ⟨y6, rfl⟩, hpp⟩
      rw [S_size, List.take_of_length_le (by rw [lvs_len]; exact Nat.le_refl _)] at hpp
      walk_at "sx"
      refine r_tupOfL (SqL.of hpp) (fun t ht => ?_)
      exact q t _ (fun b o e => same_new ht b o (sm b o e)) upd_same
def sp_is_word (C : Addr) : Sp := fun vs H Q _ => ∃ v, ∃ a b : Nat, ∃ l : List Nat, vs = [v, .str (S l)] ∧ SlopeAt C H v a b ∧ Wd a b l ∧ Q (.bl true) H
theorem ok_is_word (T : Tx K mg) : FnOk P w K mg base CX0 3 T.a_is_word T.d_is_word ["slope", "value"] (sp_is_word T.C_Slope) := by
  refine T.F_is_word.ok sc_is_word (fun vs H Q E h => ?_) (fun cdv A outer s H vs Q E hr h => ?_)
  · obtain ⟨v, a, b, l, rfl, _⟩ := h; rfl
  · obtain ⟨v, a, b, l, rfl, hS, hW, q⟩ := h
    have hl := small_S (show l.length ≤ 1000 by have := hS.1; have := hW.2.2; omega)
    refine ⟨_, (pss_cons (ps_if (PW.pt (pw_or (pt_not (pt_val (pe_callB call_isi (by rfl) T.n_isinstance Sx.bt_isinstance (pa_cons (pv 1) (pa_cons (pe_bltn (v := .ty "str") (by rfl) T.n_str Sx.bt_str rfl) pa_nil))))) (pw_or1 (pt_cmpR op_ne (pe_callB Sx.c_lenS (by rfl) T.n_len Sx.bt_len (pa_cons (pv 1) pa_nil)) (pe_op op_add (pe_prop (pv 0) T.cl_Slope T.pr_Slope_rises (ok_Slope_rises T) (hr.mono (by decide)) T.b_Slope_rises .nil pass0 rfl) (pe_prop (pv 0) T.cl_Slope T.pr_Slope_steps (ok_Slope_steps T) (hr.mono (by decide)) T.b_Slope_steps .nil pass0 rfl)) (nomark _))))) (pss_one (ps_ret pe_bl)) pss_nil)
      (pss_one (ps_ret (pe_and (pe_cmpR op_eq (pe_bm PySem.F.plainAttrs_str PySem.F.slot_str_count PySem.F.type_str_count Sx.m_cntS (pv 1) (pa_cons pe_str pa_nil)) (pe_prop (pv 0) T.cl_Slope T.pr_Slope_rises (ok_Slope_rises T) (hr.mono (by decide)) T.b_Slope_rises .nil pass0 rfl) (nomark _)) (pe_one (pe_cmpR op_eq (pe_bm PySem.F.plainAttrs_str PySem.F.slot_str_count PySem.F.type_str_count Sx.m_cntS (pv 1) (pa_cons pe_str pa_nil)) (pe_prop (pv 0) T.cl_Slope T.pr_Slope_steps (ok_Slope_steps T) (hr.mono (by decide)) T.b_Slope_steps .nil pass0 rfl) (nomark _))))))), ?_⟩
    refine Sx.r_st (σ' := [some (v), some (.str (S l))]) rfl ?_
    walk_at "sxi"
    rotate_left
    · exact hl
    refine rd_r hS ?_
    walk_at "sx"
    refine rd_s hS ?_
    walk_at "sx"
    refine ite_nd (fun h => (h ?_).elim) (fun h => ?_)
    · rw [SX.S_len, hW.2.2]; omega
    walk_at "sx"
    refine rd_r hS ?_
    walk_at "sx"
    rw [lit_r, count_S, hW.1, decide_eq_true rfl]
    walk_at "sx"
    refine rd_s hS ?_
    walk_at "sx"
    rw [lit_s, count_S, hW.2.1, decide_eq_true rfl]
    exact q
def sp_check_word (C : Addr) : Sp := fun vs H Q _ => ∃ v, ∃ a b : Nat, ∃ l : List Nat, vs = [v, .str (S l)] ∧ SlopeAt C H v a b ∧ Wd a b l ∧ Q .non H
theorem ok_check_word (T : Tx K mg) : FnOk P w K mg base CX0 4 T.a_check_word T.d_check_word ["slope", "text"] (sp_check_word T.C_Slope) := by
  refine T.F_check_word.ok sc_check_word (fun vs H Q E h => ?_) (fun cdv A outer s H vs Q E hr h => ?_)
  · obtain ⟨v, a, b, l, rfl, _⟩ := h; rfl
  · obtain ⟨v, a, b, l, rfl, hS, hW, q⟩ := h
    refine ⟨_, (pss_cons (ps_expr (pe_call (ok_check_slope T) (hr.mono (by decide)) (by rfl) T.g_check_slope T.F_check_slope.kp T.b_check_slope .nil pass0 (pa_cons (pv 0) pa_nil)))
      (pss_one (ps_if (pt_not (pt_val (pe_call (ok_is_word T) (hr.mono (by decide)) (by rfl) T.g_is_word T.F_is_word.kp T.b_is_word .nil pass0 (pa_cons (pv 0) (pa_cons (pv 1) pa_nil))))) pss_never pss_nil))), ?_⟩
    refine Sx.r_st (σ' := [some (v), some (.str (S l))]) rfl ?_
    walk_at "sx"
    refine ⟨v, a, b, rfl, hS, ?_⟩
    walk_at "sxi"
    refine ⟨v, a, b, l, rfl, hS, hW, ?_⟩
    walk_at "sx"
    exact q
def sp_put_round : Sp := fun vs H Q _ => ∃ (l : List Nat) (k : Nat), vs = [.str (S l), .int k] ∧ l.length ≤ 1000 ∧ Q (.str (S (rot k l))) H
theorem rot_le {k : Nat} {l : List Nat} (h : l.length ≤ 1000) : (l.drop k).length + (l.take k).length ≤ 2000 := by rw [List.length_drop, List.length_take]; omega
theorem ok_put_round (T : Tx K mg) : FnOk P w K mg base CX0 1 T.a_put_round T.d_put_round ["text", "number"] sp_put_round := by
  refine T.F_put_round.ok sc_put_round (fun vs H Q E h => ?_) (fun cdv A outer s H vs Q E hr h => ?_)
  · obtain ⟨l, k, rfl, _⟩ := h; rfl
  · obtain ⟨l, k, rfl, hl, q⟩ := h
    refine ⟨_, (pss_one (ps_ret (pe_op Sx.o_addS (pe_slice sl_str (pv 0) (po_some (pv 1)) po_none) (pe_slice sl_str (pv 0) po_none (po_some (pv 1)))))), ?_⟩
    refine Sx.r_st (σ' := [some (.str (S l)), some (.int k)]) rfl ?_
    walk_at "sx"
    · rw [cut_from (by omega), cut_to (by omega), SX.S_cat]; exact q
    · rw [cut_from (by omega), cut_to (by omega)]; exact small2 (rot_le hl)
    all_goals exact small_S hl
def sp_word_levels (C : Addr) : Sp := fun vs H Q _ => ∃ v, ∃ a b : Nat, ∃ l : List Nat, vs = [v, .str (S l)] ∧ SlopeAt C H v a b ∧ Wd a b l ∧ ∀ p H', Same H H' → H' p = some (.tup ((lvs a b l).map V.int)) → Q (.ref p) H'
theorem wd_len {C : Addr} {H : Hp} {v : V} {a b : Nat} {l : List Nat} (h : SlopeAt C H v a b) (w : Wd a b l) : l.length ≤ 120 ∧ 2 ≤ l.length := by
  have := h.1; have := w.2.2; omega
theorem ok_word_levels (T : Tx K mg) : FnOk P w K mg base CX0 5 T.a_word_levels T.d_word_levels ["slope", "text"] (sp_word_levels T.C_Slope) := by
  refine T.F_word_levels.ok sc_word_levels (fun vs H Q E h => ?_) (fun cdv A outer s H vs Q E hr h => ?_)
  · obtain ⟨v, a, b, l, rfl, _⟩ := h; rfl
  · obtain ⟨v, a, b, l, rfl, hS, hW, q⟩ := h
    have hl := wd_len hS hW
    refine ⟨_, (pss_cons (ps_expr (pe_call (ok_check_word T) (hr.mono (by decide)) (by rfl) T.g_check_word T.F_check_word.kp T.b_check_word .nil pass0 (pa_cons (pv 0) (pa_cons (pv 1) pa_nil))))
      (pss_one (ps_ret (pe_call (ok_letter_levels T) (hr.mono (by decide)) (by rfl) T.g_letter_levels T.F_letter_levels.kp T.b_letter_levels .nil pass0 (pa_cons (pv 0) (pa_cons (pv 1) pa_nil)))))), ?_⟩
    refine Sx.r_st (σ' := [some (v), some (.str (S l))]) rfl ?_
    walk_at "sx"
    refine ⟨v, a, b, l, rfl, hS, hW, ?_⟩
    walk_at "sx"
    exact ⟨v, a, b, l, rfl, hS, by omega, q⟩
/-- the least of the levels -/
def IsMin (ns : List Int) (m : Int) : Prop := m ∈ ns ∧ ∀ y, y ∈ ns → m ≤ y
def nats (l : List Nat) : List V := l.map fun i : Nat => V.int i
def sp_lowest_places (C : Addr) : Sp := fun vs H Q _ => ∃ v, ∃ a b : Nat, ∃ l : List Nat, vs = [v, .str (S l)] ∧ SlopeAt C H v a b ∧ Wd a b l ∧ ∀ p H' m, Same H H' → IsMin (lvs a b l) m → H' p = some (.tup (nats (places m (lvs a b l)))) → Q (.ref p) H'
/-- the places before i -/
def upTo (m : Int) (ns : List Int) (i : Nat) : List Nat := (List.range i).filter fun j => decide (ns.getD j 0 = m)
theorem upTo_len {m : Int} {ns : List Int} {i : Nat} : (upTo m ns i).length ≤ i := by
  unfold upTo
  exact Nat.le_trans (List.length_filter_le _ _) (by rw [List.length_range]; exact Nat.le_refl _)
theorem upTo_yes {m : Int} {ns : List Int} {i : Nat} (h : ns[i]? = some m) : nats (upTo m ns (i + 1)) = nats (upTo m ns i) ++ [V.int i] := by
  unfold upTo nats
  rw [places_step, if_pos (by rw [List.getD_eq_getElem?_getD, h]; rfl), List.map_append]; rfl
theorem upTo_no {m x : Int} {ns : List Int} {i : Nat} (h : ns[i]? = some x) (n : x ≠ m) : nats (upTo m ns (i + 1)) = nats (upTo m ns i) := by
  unfold upTo nats
  rw [places_step, if_neg (by rw [List.getD_eq_getElem?_getD, h]; exact n), List.append_nil]
theorem ok_lowest_places (T : Tx K mg) : FnOk P w K mg base CX0 6 T.a_lowest_places T.d_lowest_places ["slope", "text"] (sp_lowest_places T.C_Slope) := by
  refine T.F_lowest_places.ok sc_lowest_places (fun vs H Q E h => ?_) (fun cdv A outer s H vs Q E hr h => ?_)
  · obtain ⟨v, a, b, l, rfl, _⟩ := h; rfl
  · obtain ⟨v, a, b, l, rfl, hS, hW, q⟩ := h
    have hl := wd_len hS hW
    refine ⟨_, (pss_cons (ps_set (i := 2) sc_lowest_places.nd rfl (.inl rfl) (pe_call (ok_word_levels T) (hr.mono (by decide)) (by rfl) T.g_word_levels T.F_word_levels.kp T.b_word_levels .nil pass0 (pa_cons (pv 0) (pa_cons (pv 1) pa_nil))))
      (pss_cons (ps_set (i := 3) sc_lowest_places.nd rfl (.inr rfl) (pe_callB (cr_min rfl) (by rfl) T.n_min Sx.bt_min (pa_cons (pe_lc (own := [("level", 4)]) (g := (gName 4)) (tt := tYes) rfl sc_lowest_places.nd (pi_tup (pv 2)) (blkOk_by (N := N_lowest_places) (sc := defScope st_lowest_places) (by decide +kernel)) (fun _ _ _ _ _ => (pg_name (i := 4) sc_lowest_places.nd rfl (.inl rfl))) (fun _ _ _ _ _ => pts_nil) (fun _ _ _ _ _ => (pe_callTy Sx.c_int (by rfl) T.n_int Sx.bt_int (pa_cons (pv 4) pa_nil)))) pa_nil)))
      (pss_one (ps_ret (pe_callTy Sx.c_tupOf (by rfl) T.n_tuple Sx.bt_tuple (pa_cons (pe_lc (own := [("place", 5), ("level", 4)]) (g := (gTup K 2 (gCons (gName 5) (gCons (gName 4) gNil)))) rfl sc_lowest_places.nd (Sy.pi_enumT (by rfl) T.n_enumerate (pa_cons (pv 2) pa_nil)) (blkOk_by (N := N_lowest_places) (sc := defScope st_lowest_places) (by decide +kernel)) (fun _ _ _ _ _ => (pg_tup rfl (pgs_cons (pg_name (i := 5) sc_lowest_places.nd rfl (.inl rfl)) (pgs_cons (pg_name (i := 4) sc_lowest_places.nd rfl (.inl rfl)) pgs_nil)))) (fun _ _ _ _ _ => (pts_one (pt_cmpR op_eq (pv 4) (pv 3) (nomark _)))) (fun _ _ _ _ _ => (pv 5))) pa_nil)))))), ?_⟩
    refine Sx.r_st (σ' := [some (v), some (.str (S l)), none, none, none, none]) rfl ?_
    walk_at "sx"
    refine ⟨v, a, b, l, rfl, hS, hW, fun p H1 s1 hp => ?_⟩
    have hn := lvs_len (a := a) (b := b) (l := l)
    generalize lvs a b l = ns at *
    walk_at "sx"
    refine r_seqT (SqT.of hp) ?_
    refine lw_tup (xs := ns.map V.int) (fun D i H' => Same H1 H' ∧ H' D = some (.lst ((ns.take i).map V.int))) (fun D hD => ⟨same_new hD, upd_same⟩) (fun D hD i H' _ z => SqT.of (z.1 _ _ hp)) ?_ ?_
    · rintro D hD i x H2 hx ⟨s2, hd⟩
      rw [List.getElem?_map] at hx
      obtain ⟨y, hy, rfl⟩ := Option.map_eq_some_iff.mp hx
      walk_at "sx"
      refine ⟨rfl, ?_⟩
      walk_at "sx"
      refine ⟨_, hd, ?_, same_mut s2 hD, ?_⟩
      · rw [List.length_map, List.length_take]; exact sz' _ (by omega)
      · rw [ints_snoc hy]; exact upd_same
    · rintro D hD H2 ⟨s2, hd⟩
      rw [List.length_map, List.take_length] at hd
      refine ⟨D, ns, rfl, SqL.of hd, by omega, fun m m1 m2 => ?_⟩
      walk_at "sx"
      refine r_seqN (SqT.of (s2 _ _ hp)) ?_
      refine lw_it (walk_num (ys := ns.map V.int)) (fun E i H' => Same H2 H' ∧ H' E = some (.lst (nats (upTo m ns i)))) (fun E hE => ⟨same_new hE, upd_same⟩) (fun E hE i H' _ z => SqT.of (z.1 _ _ (s2 _ _ hp))) ?_ ?_
      · rintro E hE i x H3 H4 hi ⟨s3, he⟩ ⟨T', u, z, rfl, hT, rfl, hu, hz⟩
        cases hu
        rw [List.length_map] at hi
        change (ns.map V.int)[i]? = some z at hz
        rw [List.getElem?_map] at hz
        obtain ⟨y, hy, rfl⟩ := Option.map_eq_some_iff.mp hz
        have s4 : Same H2 (upd H3 T' (.tup [.int (i : Nat), .int y])) := fun b o e => same_new hT b o (s3 b o e)
        have he4 : (upd H3 T' (.tup [.int (i : Nat), .int y])) E = some (.lst (nats (upTo m ns i))) := same_new hT _ _ he
        refine r_gtup upd_same rfl ?_
        walk_at "sx"
        refine ⟨rfl, ?_⟩
        walk_at "sx"
        refine ite_d (fun h => ?_) (fun h => ?_)
        · walk_at "sx"
          refine ⟨_, he4, ?_, same_mut s4 hE, ?_⟩
          · have := upTo_len (m := m) (ns := ns) (i := i)
            unfold nats
            rw [List.length_map]; exact sz' _ (by omega)
          · rw [upTo_yes (h ▸ hy)]; exact upd_same
        · refine ⟨s4, ?_⟩
          rw [upTo_no hy h]; exact he4
      · rintro E hE H3 ⟨s3, he⟩
        rw [List.length_map] at he
        walk_at "sx"
        refine r_tupOfL (SqL.of he) (fun t ht => ?_)
        exact q t _ m (fun b o e => same_new ht b o (s3 b o (s2 b o (s1 b o e)))) ⟨m1, m2⟩ upd_same
def sp_turned (C : Addr) : Sp := fun vs H Q _ => ∃ v, ∃ a b : Nat, ∃ l : List Nat, ∃ k : Nat, vs = [v, .str (S l), .int k] ∧ SlopeAt C H v a b ∧ Wd a b l ∧ k < l.length ∧ Q (.str (S (rot k l))) H
theorem ok_turned (T : Tx K mg) : FnOk P w K mg base CX0 5 T.a_turned T.d_turned ["slope", "text", "number"] (sp_turned T.C_Slope) := by
  refine T.F_turned.ok sc_turned (fun vs H Q E h => ?_) (fun cdv A outer s H vs Q E hr h => ?_)
  · obtain ⟨v, a, b, l, k, rfl, _⟩ := h; rfl
  · obtain ⟨v, a, b, l, k, rfl, hS, hW, hk, q⟩ := h
    have hl := wd_len hS hW
    refine ⟨_, (pss_cons (ps_expr (pe_call (ok_check_word T) (hr.mono (by decide)) (by rfl) T.g_check_word T.F_check_word.kp T.b_check_word .nil pass0 (pa_cons (pv 0) (pa_cons (pv 1) pa_nil))))
      (pss_cons (ps_if (pt_not (pt_val (pe_call (ok_is_whole_between T) (hr.mono (by decide)) (by rfl) T.g_is_whole_between T.F_is_whole_between.kp T.b_is_whole_between .nil pass0 (pa_cons (pv 2) (pa_cons pe_int (pa_cons (pe_op op_sub (pe_callB Sx.c_lenS (by rfl) T.n_len Sx.bt_len (pa_cons (pv 1) pa_nil)) pe_int) pa_nil)))))) pss_never pss_nil)
      (pss_one (ps_ret (pe_call (ok_put_round T) (hr.mono (by decide)) (by rfl) T.g_put_round T.F_put_round.kp T.b_put_round .nil pass0 (pa_cons (pv 1) (pa_cons (pv 2) pa_nil))))))), ?_⟩
    refine Sx.r_st (σ' := [some (v), some (.str (S l)), some (.int k)]) rfl ?_
    walk_at "sx"
    refine ⟨v, a, b, l, rfl, hS, hW, ?_⟩
    walk_at "sxi"
    rotate_left
    · exact small_S (by omega)
    refine .inl ⟨k, 0, _, rfl, ?_⟩
    rw [SX.S_len, decide_eq_true (by omega)]
    walk_at "sx"
    exact ⟨l, k, rfl, by omega, q⟩
def sp_period (C : Addr) : Sp := fun vs H Q _ => ∃ v, ∃ a b : Nat, ∃ l : List Nat, ∃ k : Nat, vs = [v, .str (S l)] ∧ SlopeAt C H v a b ∧ Wd a b l ∧ IsPer l k ∧ Q (.int k) H
theorem ok_period (T : Tx K mg) : FnOk P w K mg base CX0 5 T.a_period T.d_period ["slope", "text"] (sp_period T.C_Slope) := by
  refine T.F_period.ok sc_period (fun vs H Q E h => ?_) (fun cdv A outer s H vs Q E hr h => ?_)
  · obtain ⟨v, a, b, l, k, rfl, _⟩ := h; rfl
  · obtain ⟨v, a, b, l, k, rfl, hS, hW, hk, q⟩ := h
    have hl := wd_len hS hW
    refine ⟨_, (pss_cons (ps_expr (pe_call (ok_check_word T) (hr.mono (by decide)) (by rfl) T.g_check_word T.F_check_word.kp T.b_check_word .nil pass0 (pa_cons (pv 0) (pa_cons (pv 1) pa_nil))))
      (pss_one (ps_ret (pe_bm PySem.F.plainAttrs_str PySem.F.slot_str_find PySem.F.type_str_find Sx.m_find3 (pe_op Sx.o_addS (pv 1) (pv 1)) (pa_cons (pv 1) (pa_cons pe_int pa_nil)))))), ?_⟩
    refine Sx.r_st (σ' := [some (v), some (.str (S l))]) rfl ?_
    walk_at "sx"
    refine ⟨v, a, b, l, rfl, hS, hW, ?_⟩
    walk_at "sx"
    · rw [SX.S_cat, per_find hk]; exact q
    · exact small2 (by omega)
end
end Lw

namespace Lw
open PySem PySem.Spec PyProof.Rows L2 Sx Sy Mw
open SX (S)
open C8 (pe_gc)
open SkE (call_repr_int call_str_str)
open RZ (pi_zipA)
section
variable {P : Program} {w : World} {K : PySem.W.Frag} {mg : Str → Option Value} {base : Heap}
/-! ### drawn orders -/
def sp_law_mixed : Sp := fun vs H Q _ => ∃ (d l : Addr) (α : Type) (f : α → V) (cs : List α), vs = [.ref d, .ref l] ∧ Dice H d ∧ H l = some (.lst (cs.map f)) ∧ cs.length ≤ 1000 ∧ ∀ (p : Addr) (zs : List α) (H' : Hp), zs.Perm cs → Kp d H H' → H p = none → H' p = some (.lst (zs.map f)) → Q (.ref p) H'
theorem kp_none {d : Addr} {H H1 : Hp} (k : Kp d H H1) {p : Addr} (h : H1 p = none) : H p = none := k.free h
theorem dice_ne {H : Hp} {d p : Addr} (h : Dice H d) (e : H p = none) : p ≠ d := by
  obtain ⟨x, y, z, h⟩ := h
  exact (ne_of_none h e).symm
theorem ok_law_mixed (T : Tx K mg) : FnOk P w K mg base CX0 2 T.a_law_mixed T.d_law_mixed ["_law_dice_here", "_law_items"] sp_law_mixed := by
  refine T.F_law_mixed.ok sc_law_mixed (fun vs H Q E h => ?_) (fun cdv A outer s H vs Q E hr h => ?_)
  · obtain ⟨d, l, α, f, cs, rfl, _⟩ := h; rfl
  · obtain ⟨d, l, α, f, cs, rfl, hd, hl, hn, q⟩ := h
    refine ⟨_, (pss_cons (ps_par (i := 2) (j := 3) (by rfl) sc_law_mixed.nd rfl rfl (by decide) rfl rfl (pa_cons (pe_callTy Sx.c_lstOf (by rfl) T.n_list Sx.bt_list (pa_cons (pv 1) pa_nil)) (pa_cons (pe_lst pa_nil) pa_nil)) (by rfl))
      (pss_cons (ps_for PassesOwn.never rfl (pi_range1 (by rfl) T.n_range (pa_cons (pe_callB Sx.c_len (by rfl) T.n_len Sx.bt_len (pa_cons (pv 1) pa_nil)) pa_nil)) (pg_name (i := 4) sc_law_mixed.nd rfl (.inl rfl)) (pss_one (ps_expr (pe_bm PySem.F.plainAttrs_list PySem.F.slot_list_append PySem.F.type_list_append mt_append (pv 3) (pa_cons (pe_bm PySem.F.plainAttrs_list PySem.F.slot_list_pop PySem.F.type_list_pop mt_popAt (pv 2) (pa_cons (pe_call (ok_law_roll T) (hr.mono (by decide)) (by rfl) T.g_law_roll T.F_law_roll.kp T.b_law_roll .nil pass0 (pa_cons (pv 0) (pa_cons (pe_callB Sx.c_len (by rfl) T.n_len Sx.bt_len (pa_cons (pv 2) pa_nil)) pa_nil))) pa_nil)) pa_nil)))))
      (pss_one (ps_ret (pv 3))))), ?_⟩
    refine Sx.r_st (σ' := [some (.ref d), some (.ref l), none, none, none]) rfl ?_
    walk_at "sx"
    refine r_lstOfL (SqL.of hl) (fun u hu => ?_)
    walk_at "sx"
    refine ⟨Nat.zero_le _, fun v hv => ?_⟩
    have hud := dice_ne hd hu
    have hvu : v ≠ u := fun e => by rw [e, upd_same] at hv; cases hv
    have hvd : v ≠ d := dice_ne (let ⟨x, y, z, e⟩ := hd; ⟨x, y, z, by rw [upd_ne (ne_of_none e hu)]; exact e⟩) hv
    rw [upd_ne hvu] at hv
    walk_at "sx"
    have hlu : l ≠ u := ne_of_none hl hu
    have hlv : l ≠ v := ne_of_none hl hv
    have hl1 : (upd (upd H u (.lst (cs.map f))) v (.lst [])) l = some (.lst (cs.map f)) := by rw [upd_ne hlv, upd_ne hlu]; exact hl
    refine r_lenL (SqL.of hl1) ?_
    walk_at "sx"
    rw [List.length_map]
    refine r_rng1 ?_ (by omega) (by omega)
    refine fr_range (fun i σ' H' => Kp d H H' ∧ (∃ y4, σ' = [some (.ref d), some (.ref l), some (.ref u), some (.ref v), y4]) ∧ ∃ us ws : List α, (ws ++ us).Perm cs ∧ ws.length = i ∧ H' u = some (.lst (us.map f)) ∧ H' v = some (.lst (ws.map f))) ⟨((Kp.refl hd).mut hu).mut hv, ⟨none, rfl⟩, cs, [], List.Perm.refl _, rfl, by rw [upd_ne hvu.symm, upd_same], upd_same⟩ ?_ ?_
    · rintro i σ' H1 hi ⟨k1, ⟨y4, rfl⟩, us, ws, pm, hw, hu1, hv1⟩
      have hlen := pm.length_eq
      rw [List.length_append] at hlen
      walk_at "sx"
      refine ⟨tyL hv1, ?_⟩
      walk_at "sx"
      refine ⟨tyL hu1, ?_⟩
      walk_at "sx"
      refine r_lenL (SqL.of hu1) ?_
      walk_at "sx"
      rw [List.length_map]
      refine ⟨d, us.length, rfl, k1.d1, by omega, log_small (by omega) (by omega), fun r H2 r0 r1 k2 => ?_⟩
      have hr : r.toNat < us.length := by omega
      walk_at "sx"
      have hu2 := k2.k u _ hud hu1
      have hv2 := k2.k v _ hvd hv1
      refine r_pop (y := f us[r.toNat]) hu2 r0 (by rw [List.length_map]; exact r1) (by rw [List.length_map]; omega) (by rw [List.getElem?_map, List.getElem?_eq_getElem hr]; rfl) ?_
      walk_at "sx"
      refine r_app (xs := ws.map f) (by rw [upd_ne hvu]; exact hv2) ?_ (by rw [List.length_map]; exact sz' _ (by omega))
      refine ⟨((k1.trans k2).mut hu).mut hv, ⟨_, rfl⟩, us.eraseIdx r.toNat, ws ++ [us[r.toNat]], perm_pick hr pm, by rw [List.length_append, hw]; rfl, ?_, ?_⟩
      · rw [upd_ne hvu.symm, upd_same, erase_map]
      · rw [upd_same, List.map_append]; rfl
    · rintro σ' H1 ⟨k1, ⟨y4, rfl⟩, us, ws, pm, hw, hu1, hv1⟩
      have hlen := pm.length_eq
      rw [List.length_append] at hlen
      have e : us = [] := List.length_eq_zero_iff.mp (by omega)
      subst e
      rw [List.append_nil] at pm
      walk_at "sx"
      exact q v ws H1 pm k1 hv hv1
/-! ### the law's own words -/
def sp_law_levels : Sp := fun vs H Q _ => ∃ a b : Nat, ∃ l : List Nat, vs = [.int a, .int b, .str (S l)] ∧ l.length ≤ 1000 ∧ ∀ p H', H p = none → Same H H' → H' p = some (.lst ((lvs a b l).map V.int)) → Q (.ref p) H'
theorem ok_law_levels (T : Tx K mg) : FnOk P w K mg base CX0 1 T.a_law_levels T.d_law_levels ["_law_rises", "_law_steps", "_law_text"] sp_law_levels := by
  refine T.F_law_levels.ok sc_law_levels (fun vs H Q E h => ?_) (fun cdv A outer s H vs Q E hr h => ?_)
  · obtain ⟨a, b, l, rfl, _⟩ := h; rfl
  · obtain ⟨a, b, l, rfl, hl, q⟩ := h
    refine ⟨_, (pss_cons (ps_par (i := 3) (j := 4) (by rfl) sc_law_levels.nd rfl rfl (by decide) rfl rfl (pa_cons (pe_lst pa_nil) (pa_cons pe_int pa_nil)) (by rfl))
      (pss_cons (ps_for PassesOwn.never rfl (pi_str (pv 2)) (pg_name (i := 5) sc_law_levels.nd rfl (.inl rfl)) (pss_cons (ps_expr (pe_bm PySem.F.plainAttrs_list PySem.F.slot_list_append PySem.F.type_list_append mt_append (pv 3) (pa_cons (pv 4) pa_nil)))
      (pss_one (ps_set (i := 4) sc_law_levels.nd rfl (.inl rfl) (pe_op op_add (pv 4) (pe_ifExp (pt_cmpR op_eq (pv 5) pe_str (nomark _)) (pv 1) (pe_un un_neg (pv 0))))))))
      (pss_one (ps_ret (pv 3))))), ?_⟩
    refine Sx.r_st (σ' := [some (.int a), some (.int b), some (.str (S l)), none, none, none]) rfl ?_
    walk_at "sx"
    refine ⟨Nat.zero_le _, fun p hp => ?_⟩
    walk_at "sx"
    refine fr_str (fun i σ' H' => Same H H' ∧ (∃ y5, σ' = [some (.int a), some (.int b), some (.str (S l)), some (.ref p), some (.int (lev a b (l.take i))), y5]) ∧ H' p = some (.lst (((lvs a b l).take i).map V.int))) ⟨same_new hp, ⟨none, by rw [List.take_zero, lev_nil]; rfl⟩, upd_same⟩ ?_ ?_
    · rintro i c σ' H1 hc ⟨sm, ⟨y6, rfl⟩, hpp⟩
      rw [S_get] at hc
      have hi : i < l.length := (List.getElem?_eq_some_iff.mp hc).1
      walk_at "sx"
      refine ⟨tyL hpp, ?_⟩
      walk_at "sx"
      refine r_app hpp ?_ ?_
      · rw [← lvs_snoc hi]
        walk_at "sx"
        refine r_cutQ (fun x H2 => H2 = upd H1 p (.lst (((lvs a b l).take (i + 1)).map V.int)) ∧ x = .int (if c = 114 then (b : Int) else -(a : Int))) (fun Q' k => ?_) ?_
        · refine r_ifE ?_
          walk_at "sx"
          refine ite_d (fun h => ?_) (fun h => ?_)
          · walk_at "sx"
            refine k _ _ ⟨rfl, ?_⟩
            rw [if_pos (is_r.mp h)]
          · walk_at "sx"
            refine k _ _ ⟨rfl, ?_⟩
            rw [if_neg (fun z => h (is_r.mpr z))]
        · rintro x H2 ⟨rfl, rfl⟩
          walk_at "sx"
          rw [← lev_take hc]
          exact ⟨same_mut sm hp, ⟨_, rfl⟩, upd_same⟩
      · rw [List.length_map, List.length_take, lvs_len]; exact sz' _ (by omega)
    · rintro σ' H1 ⟨sm, ⟨y6, rfl⟩, hpp⟩
      rw [S_size, List.take_of_length_le (by rw [lvs_len]; exact Nat.le_refl _)] at hpp
      walk_at "sx"
      exact q p _ hp sm hpp
def sp_law_sides : Sp := fun vs H Q _ => ∃ (d : Addr) (n : Int), vs = [.ref d, .int n] ∧ Dice H d ∧ 0 < n ∧ n ≤ 500 ∧ ∀ p (a b : Nat) H', 1 ≤ a → (a : Int) ≤ n + 3 → 1 ≤ b → (b : Int) ≤ n + 3 → Kp d H H' → H' p = some (.tup [.int a, .int b]) → Q (.ref p) H'
theorem side_bnd {r t n : Int} (h1 : 1 ≤ r) (h2 : r ≤ n) (h3 : 2 ≤ t) (h4 : t ≤ 3) : 1 ≤ (r / t + 1) * t ∧ (r / t + 1) * t ≤ n + 3 := by
  have e : (r / t + 1) * t = r / t * t + t := by rw [Int.add_mul, Int.one_mul]
  have m := Int.emod_add_mul_ediv r t
  have m0 := Int.emod_nonneg r (show t ≠ 0 by omega)
  have m1 := Int.emod_lt_of_pos r (show 0 < t by omega)
  rw [Int.mul_comm] at m
  omega
theorem ok_law_sides (T : Tx K mg) : FnOk P w K mg base CX0 2 T.a_law_sides T.d_law_sides ["_law_dice_here", "_law_most"] sp_law_sides := by
  refine T.F_law_sides.ok sc_law_sides (fun vs H Q E h => ?_) (fun cdv A outer s H vs Q E hr h => ?_)
  · obtain ⟨d, n, rfl, _⟩ := h; rfl
  · obtain ⟨d, n, rfl, hd, h0, hn, q⟩ := h
    refine ⟨_, (pss_cons (ps_par (i := 2) (j := 3) (by rfl) sc_law_sides.nd rfl rfl (by decide) rfl rfl (pa_cons (pe_op op_add pe_int (pe_call (ok_law_roll T) (hr.mono (by decide)) (by rfl) T.g_law_roll T.F_law_roll.kp T.b_law_roll .nil pass0 (pa_cons (pv 0) (pa_cons (pv 1) pa_nil)))) (pa_cons (pe_op op_add pe_int (pe_call (ok_law_roll T) (hr.mono (by decide)) (by rfl) T.g_law_roll T.F_law_roll.kp T.b_law_roll .nil pass0 (pa_cons (pv 0) (pa_cons (pv 1) pa_nil)))) pa_nil)) (by rfl))
      (pss_cons (ps_if (pt_cmpR op_eq (pe_call (ok_law_roll T) (hr.mono (by decide)) (by rfl) T.g_law_roll T.F_law_roll.kp T.b_law_roll .nil pass0 (pa_cons (pv 0) (pa_cons pe_int pa_nil))) pe_int (nomark _)) (pss_cons (ps_set (i := 4) sc_law_sides.nd rfl (.inl rfl) (pe_op op_add pe_int (pe_call (ok_law_roll T) (hr.mono (by decide)) (by rfl) T.g_law_roll T.F_law_roll.kp T.b_law_roll .nil pass0 (pa_cons (pv 0) (pa_cons pe_int pa_nil)))))
      (pss_one (ps_ret (pe_tup (pa_cons (pe_op Sx.op_mulA (pe_op op_add (pe_op op_fdivW (pv 2) (pv 4)) pe_int) (pv 4)) (pa_cons (pe_op Sx.op_mulA (pe_op op_add (pe_op op_fdivW (pv 3) (pv 4)) pe_int) (pv 4)) pa_nil)))))) pss_nil)
      (pss_one (ps_ret (pe_tup (pa_cons (pv 2) (pa_cons (pv 3) pa_nil))))))), ?_⟩
    refine Sx.r_st (σ' := [some (.ref d), some (.int n), none, none, none]) rfl ?_
    walk_at "sx"
    refine ⟨d, n, rfl, hd, h0, log_small (by omega) (by omega), fun r H1 h1 h2 k1 => ?_⟩
    walk_at "sx"
    refine ⟨d, n, rfl, k1.d1, h0, log_small (by omega) (by omega), fun r2 H2 h3 h4 k2 => ?_⟩
    walk_at "sxi"
    refine ⟨d, 3, rfl, k2.d1, by decide, log_small (by decide) (by decide), fun r3 H3 h5 h6 k3 => ?_⟩
    walk_at "sx"
    have k := (k1.trans k2).trans k3
    refine ite_d (fun h => ?_) (fun h => ?_)
    · walk_at "sx"
      refine ⟨d, 2, rfl, k3.d1, by decide, log_small (by decide) (by decide), fun r4 H4 h7 h8 k4 => ?_⟩
      have b1 := side_bnd (r := 1 + r) (t := 2 + r4) (n := n) (by omega) (by omega) (by omega) (by omega)
      have b2 := side_bnd (r := 1 + r2) (t := 2 + r4) (n := n) (by omega) (by omega) (by omega) (by omega)
      walk_at "sx"
      · refine ⟨sz _ (Nat.le_of_ble_eq_true rfl), fun p hp => ?_⟩
        obtain ⟨a, ha⟩ : ∃ a : Nat, ((1 + r) / (2 + r4) + 1) * (2 + r4) = a := ⟨_, (Int.toNat_of_nonneg (by omega)).symm⟩
        obtain ⟨b, hb⟩ : ∃ b : Nat, ((1 + r2) / (2 + r4) + 1) * (2 + r4) = b := ⟨_, (Int.toNat_of_nonneg (by omega)).symm⟩
        rw [ha, hb]
        exact q p a b _ (by omega) (by omega) (by omega) (by omega) ((k.trans k4).new hp) upd_same
      all_goals first | exact cmA_r (by omega) | exact cdivw (b := 64) (by omega) (by omega) (by decide) | omega
    · walk_at "sx"
      refine ⟨sz _ (Nat.le_of_ble_eq_true rfl), fun p hp => ?_⟩
      obtain ⟨a, ha⟩ : ∃ a : Nat, 1 + r = a := ⟨_, (Int.toNat_of_nonneg (by omega)).symm⟩
      obtain ⟨b, hb⟩ : ∃ b : Nat, 1 + r2 = b := ⟨_, (Int.toNat_of_nonneg (by omega)).symm⟩
      rw [ha, hb]
      exact q p a b _ (by omega) (by omega) (by omega) (by omega) (k.new hp) upd_same
def sp_law_word : Sp := fun vs H Q _ => ∃ (d : Addr) (a b : Nat), vs = [.ref d, .int a, .int b] ∧ Dice H d ∧ 1 ≤ a ∧ a ≤ 60 ∧ 1 ≤ b ∧ b ≤ 60 ∧ ∀ l H', Wd a b l → Kp d H H' → Q (.str (S l)) H'
theorem ok_law_word (T : Tx K mg) : FnOk P w K mg base CX0 3 T.a_law_word T.d_law_word ["_law_dice_here", "_law_rises", "_law_steps"] sp_law_word := by
  refine T.F_law_word.ok sc_law_word (fun vs H Q E h => ?_) (fun cdv A outer s H vs Q E hr h => ?_)
  · obtain ⟨d, a, b, rfl, _⟩ := h; rfl
  · obtain ⟨d, a, b, rfl, hd, a1, a2, b1, b2, q⟩ := h
    refine ⟨_, (pss_one (ps_ret (pe_bm PySem.F.plainAttrs_str PySem.F.slot_str_join PySem.F.type_str_join Sx.m_join pe_str (pa_cons (pe_call (ok_law_mixed T) (hr.mono (by decide)) (by rfl) T.g_law_mixed T.F_law_mixed.kp T.b_law_mixed .nil pass0 (pa_cons (pv 0) (pa_cons (pe_callTy (Sy.call_list_str rfl) (by rfl) T.n_list Sx.bt_list (pa_cons (pe_op Sx.o_addS (pe_op Sy.op_strmul pe_str (pv 1)) (pe_op Sy.op_strmul pe_str (pv 2))) pa_nil)) pa_nil))) pa_nil)))), ?_⟩
    refine Sx.r_st (σ' := [some (.ref d), some (.int a), some (.int b)]) rfl ?_
    walk_at "sx"
    · rw [lit_r, lit_s, times_S, times_S, SX.S_cat, Int.toNat_natCast, Int.toNat_natCast] at *
      intro u hu
      walk_at "sx"
      have k0 : Kp d H (upd H u (.lst (letters (S (List.replicate a 114 ++ List.replicate b 115))))) := (Kp.refl hd).new hu
      refine ⟨d, u, Nat, fun c => V.str ⟨#[c]⟩, List.replicate a 114 ++ List.replicate b 115, rfl, k0.d1, upd_same, by simp; omega, fun p zs H1 pm k1 hp0 hp => ?_⟩
      walk_at "sx"
      have hp' : SqL K H1 p ((zs.map fun c => (⟨#[c]⟩ : Str)).map V.str) := SqL.of (by rw [List.map_map]; exact hp)
      have hz := pm.length_eq
      refine r_joinL hp' ?_ ?_
      · rw [join_letters]
        exact q zs H1 (wd_perm pm) (k0.trans k1)
      · rw [lens_ones, List.length_map, hz]
        rw [len_0, List.length_append, List.length_replicate, List.length_replicate]; omega
    · have h1 := times_len "r" (a : Int).toNat
      have h2 := times_len "s" (b : Int).toNat
      rw [len_r, Int.toNat_natCast] at h1
      rw [len_s, Int.toNat_natCast] at h2
      show (_ ++ _ : Str).cps.size ≤ _
      rw [show (times "r" (a : Int).toNat ++ times "s" (b : Int).toNat : Str).cps = (times "r" (a : Int).toNat).cps ++ (times "s" (b : Int).toNat).cps from rfl, Array.size_append]
      change (times "r" a).cps.size = _ at h1
      change (times "s" b).cps.size = _ at h2
      rw [Int.toNat_natCast, Int.toNat_natCast]; omega
    · rw [times_len, times_len, len_r, len_s, sizeLine_eq]; omega
    · rw [len_s]; decide
    · omega
    · rw [len_r]; decide
    · omega
def sp_law_turn : Sp := fun vs H Q _ => ∃ (l : List Nat) (k : Nat), vs = [.str (S l), .int k] ∧ l.length ≤ 1000 ∧ Q (.str (S (rot k l))) H
theorem ok_law_turn (T : Tx K mg) : FnOk P w K mg base CX0 1 T.a_law_turn T.d_law_turn ["_law_text", "_law_times"] sp_law_turn := by
  refine T.F_law_turn.ok sc_law_turn (fun vs H Q E h => ?_) (fun cdv A outer s H vs Q E hr h => ?_)
  · obtain ⟨l, k, rfl, _⟩ := h; rfl
  · obtain ⟨l, k, rfl, hl, q⟩ := h
    refine ⟨_, (pss_one (ps_ret (pe_op Sx.o_addS (pe_slice sl_str (pv 0) (po_some (pv 1)) po_none) (pe_slice sl_str (pv 0) po_none (po_some (pv 1)))))), ?_⟩
    refine Sx.r_st (σ' := [some (.str (S l)), some (.int k)]) rfl ?_
    walk_at "sx"
    · rw [cut_from (by omega), cut_to (by omega), SX.S_cat]; exact q
    · rw [cut_from (by omega), cut_to (by omega)]; exact small2 (rot_le hl)
    all_goals exact small_S hl
def sp_law_period : Sp := fun vs H Q _ => ∃ l : List Nat, vs = [.str (S l)] ∧ 1 ≤ l.length ∧ l.length ≤ 1000 ∧ ∀ k H', Same H H' → IsPer l k → Q (.int k) H'
theorem ok_law_period (T : Tx K mg) : FnOk P w K mg base CX0 2 T.a_law_period T.d_law_period ["_law_text"] sp_law_period := by
  refine T.F_law_period.ok sc_law_period (fun vs H Q E h => ?_) (fun cdv A outer s H vs Q E hr h => ?_)
  · obtain ⟨l, rfl, _⟩ := h; rfl
  · obtain ⟨l, rfl, h0, hl, q⟩ := h
    refine ⟨_, (pss_one (ps_ret (pe_callB (cr_min rfl) (by rfl) T.n_min Sx.bt_min (pa_cons (pe_lc (own := [("_law_times", 1)]) (g := (gName 1)) rfl sc_law_period.nd (pi_range2 (by rfl) T.n_range (pa_cons pe_int (pa_cons (pe_op op_add (pe_callB Sx.c_lenS (by rfl) T.n_len Sx.bt_len (pa_cons (pv 0) pa_nil)) pe_int) pa_nil))) (blkOk_by (N := N_law_period) (sc := defScope st_law_period) (by decide +kernel)) (fun _ _ _ _ _ => (pg_name (i := 1) sc_law_period.nd rfl (.inl rfl))) (fun _ _ _ _ _ => (pts_one (pt_cmpR op_eq (pe_call (ok_law_turn T) (hr.mono (by decide)) (by rfl) T.g_law_turn T.F_law_turn.kp T.b_law_turn .nil pass0 (pa_cons (pv 0) (pa_cons (pv 1) pa_nil))) (pv 0) (nomark _)))) (fun _ _ _ _ _ => (pv 1))) pa_nil)))), ?_⟩
    refine Sx.r_st (σ' := [some (.str (S l)), none]) rfl ?_
    walk_at "sx"
    · rw [SX.S_len]
      refine r_rng2 ?_ ⟨by omega, by omega, by omega, by omega⟩
      refine lw_range (fun D i H' => Same H H' ∧ H' D = some (.lst ((cand l i).map V.int))) (fun D hD => ⟨same_new hD, upd_same⟩) ?_ ?_
      · rintro D hD i H1 hi ⟨s1, hd⟩
        have hi' : i < l.length := by omega
        walk_at "sx"
        refine ⟨rfl, ?_⟩
        walk_at "sx"
        refine ⟨l, i + 1, by rw [Int.natCast_add, Int.add_comm]; rfl, hl, ?_⟩
        walk_at "sx"
        refine ite_d (fun h => ?_) (fun h => ?_)
        · rw [S_eq] at h
          walk_at "sx"
          refine ⟨_, hd, ?_, same_mut s1 hD, ?_⟩
          · rw [List.length_map]
            have := cand_len (l := l) (i := i)
            exact sz' _ (by omega)
          · rw [cand_yes h]; exact upd_same
        · rw [S_eq] at h
          refine ⟨s1, ?_⟩
          rw [cand_no h]; exact hd
      · rintro D hD H1 ⟨s1, hd⟩
        rw [show ((l.length : Int) + 1 - 1).toNat = l.length by omega] at hd
        walk_at "sx"
        refine ⟨D, cand l l.length, rfl, SqL.of hd, cand_pos h0, fun m m1 m2 => ?_⟩
        obtain ⟨k, rfl, hk⟩ := cand_per m1 m2
        exact q k _ s1 hk
    · exact small_S hl
end
end Lw

namespace Lw
open PySem PySem.Spec PyProof.Rows L2 Sx Sy Mw Me
open SX (S)
open C8 (pe_gc)
open SkE (call_repr_int call_str_str)
open RZ (pi_zipA)
section
variable {P : Program} {w : World} {K : PySem.W.Frag} {mg : Str → Option Value} {base : Heap}
theorem cutV_from {xs : List V} {k : Nat} : cutV xs (some (k : Int)) none = xs.drop k := by
  unfold cutV
  rw [HT.sIx_nat, HT.sIx_none]
  by_cases h : k ≤ xs.length
  · rw [Nat.min_eq_left h]; exact List.take_of_length_le (by rw [List.length_drop]; exact Nat.le_refl _)
  · rw [Nat.min_eq_right (by omega), Nat.sub_self, List.take_zero, List.drop_of_length_le (by omega)]
theorem cutV_to {xs : List V} {k : Nat} (h : k ≤ xs.length) : cutV xs none (some (k : Int)) = xs.take k := by
  unfold cutV
  rw [HT.sIx_nat, HT.sIx_none, Nat.min_eq_left h, List.drop_zero, Nat.sub_zero]
theorem nats_ints {l : List Nat} : nats l = (l.map fun i : Nat => (i : Int)).map V.int := by unfold nats; rw [List.map_map]; rfl
theorem ints_len {ns : List Int} {n : Nat} (h : ns.length = n) : (ns.map V.int).length = n := by rw [List.length_map]; exact h
def sp_law_right : Sp := fun vs H Q _ => ∃ (d : Addr) (n : Int), vs = [.ref d, .int n] ∧ Dice H d ∧ 0 < n ∧ n ≤ 57 ∧ ∀ H', Kp d H H' → Q (.bl true) H'
theorem ok_law_right (T : Tx K mg) : FnOk P w K mg base CX0 7 T.a_law_right T.d_law_right ["_law_dice_here", "_law_most"] sp_law_right := by
  refine T.F_law_right.ok sc_law_right (fun vs H Q E h => ?_) (fun cdv A outer s H vs Q E hr h => ?_)
  · obtain ⟨d, n, rfl, _⟩ := h; rfl
  · obtain ⟨d, n, rfl, hd, n0, n1, q⟩ := h
    refine ⟨_, (pss_cons (ps_asg (pe_call (ok_law_sides T) (hr.mono (by decide)) (by rfl) T.g_law_sides T.F_law_sides.kp T.b_law_sides .nil pass0 (pa_cons (pv 0) (pa_cons (pv 1) pa_nil))) (pg_tup rfl (pgs_cons (pg_name (i := 2) sc_law_right.nd rfl (.inl rfl)) (pgs_cons (pg_name (i := 3) sc_law_right.nd rfl (.inl rfl)) pgs_nil))))
      (pss_cons (ps_par (i := 4) (j := 5) (by rfl) sc_law_right.nd rfl rfl (by decide) rfl rfl (pa_cons (pe_make T.mk_Slope (ok_Slope_init T) (hr.mono (by decide)) (by rfl) T.g_Slope T.b_Slope_init .nil pass0 (pa_cons (pv 2) (pa_cons (pv 3) pa_nil))) (pa_cons (pe_call (ok_law_word T) (hr.mono (by decide)) (by rfl) T.g_law_word T.F_law_word.kp T.b_law_word .nil pass0 (pa_cons (pv 0) (pa_cons (pv 2) (pa_cons (pv 3) pa_nil)))) pa_nil)) (by rfl))
      (pss_cons (ps_set (i := 6) sc_law_right.nd rfl (.inr rfl) (pe_call (ok_law_levels T) (hr.mono (by decide)) (by rfl) T.g_law_levels T.F_law_levels.kp T.b_law_levels .nil pass0 (pa_cons (pv 2) (pa_cons (pv 3) (pa_cons (pv 5) pa_nil)))))
      (pss_cons (ps_if (pt_cmpR (op_neD hr.units) (pe_call (ok_word_levels T) (hr.mono (by decide)) (by rfl) T.g_word_levels T.F_word_levels.kp T.b_word_levels .nil pass0 (pa_cons (pv 4) (pa_cons (pv 5) pa_nil))) (pe_callTy Sx.c_tupOf (by rfl) T.n_tuple Sx.bt_tuple (pa_cons (pv 6) pa_nil)) (nomark _)) (pss_one (ps_ret pe_bl)) pss_nil)
      (pss_cons (ps_if (pt_cmpR (op_neD hr.units) (pe_call (ok_lowest_places T) (hr.mono (by decide)) (by rfl) T.g_lowest_places T.F_lowest_places.kp T.b_lowest_places .nil pass0 (pa_cons (pv 4) (pa_cons (pv 5) pa_nil))) (pe_callTy Sx.c_tupOf (by rfl) T.n_tuple Sx.bt_tuple (pa_cons (pe_lc (own := [("_law_at", 11), ("_law_level", 12)]) (g := (gTup K 2 (gCons (gName 11) (gCons (gName 12) gNil)))) rfl sc_law_right.nd (pi_enum (by rfl) T.n_enumerate (pa_cons (pv 6) pa_nil)) (blkOk_by (N := N_law_right) (sc := defScope st_law_right) (by decide +kernel)) (fun _ _ _ _ _ => (pg_tup rfl (pgs_cons (pg_name (i := 11) sc_law_right.nd rfl (.inl rfl)) (pgs_cons (pg_name (i := 12) sc_law_right.nd rfl (.inl rfl)) pgs_nil)))) (fun _ _ _ _ _ => (pts_one (pt_cmpR op_eq (pv 12) (pe_callB (show CallR _ _ (rMin K) from (cr_min rfl)) (by rfl) T.n_min Sx.bt_min (pa_cons (pv 6) pa_nil)) (nomark _)))) (fun _ _ _ _ _ => (pv 11))) pa_nil)) (nomark _)) (pss_one (ps_ret pe_bl)) pss_nil)
      (pss_cons (ps_set (i := 7) sc_law_right.nd rfl (.inl rfl) (pe_call (ok_law_period T) (hr.mono (by decide)) (by rfl) T.g_law_period T.F_law_period.kp T.b_law_period .nil pass0 (pa_cons (pv 5) pa_nil)))
      (pss_cons (ps_if (PW.pt (pw_or (pt_cmpR op_ne (pe_call (ok_period T) (hr.mono (by decide)) (by rfl) T.g_period T.F_period.kp T.b_period .nil pass0 (pa_cons (pv 4) (pa_cons (pv 5) pa_nil))) (pv 7) (nomark _)) (pw_or1 (pt_cmpR op_ne (pe_call (ok_turned T) (hr.mono (by decide)) (by rfl) T.g_turned T.F_turned.kp T.b_turned .nil pass0 (pa_cons (pv 4) (pa_cons (pv 5) (pa_cons pe_int pa_nil)))) (pv 5) (nomark _))))) (pss_one (ps_ret pe_bl)) pss_nil)
      (pss_cons (ps_for PassesOwn.never rfl (pi_range1 (by rfl) T.n_range (pa_cons pe_int pa_nil)) (pg_name (i := 8) sc_law_right.nd rfl (.inl rfl)) (pss_cons (ps_set (i := 9) sc_law_right.nd rfl (.inr rfl) (pe_call (ok_law_roll T) (hr.mono (by decide)) (by rfl) T.g_law_roll T.F_law_roll.kp T.b_law_roll .nil pass0 (pa_cons (pv 0) (pa_cons (pe_callB Sx.c_lenS (by rfl) T.n_len Sx.bt_len (pa_cons (pv 5) pa_nil)) pa_nil))))
      (pss_cons (ps_set (i := 10) sc_law_right.nd rfl (.inl rfl) (pe_call (ok_turned T) (hr.mono (by decide)) (by rfl) T.g_turned T.F_turned.kp T.b_turned .nil pass0 (pa_cons (pv 4) (pa_cons (pv 5) (pa_cons (pv 9) pa_nil)))))
      (pss_cons (ps_if (PW.pt (pw_or (pt_cmpR op_ne (pv 10) (pe_call (ok_law_turn T) (hr.mono (by decide)) (by rfl) T.g_law_turn T.F_law_turn.kp T.b_law_turn .nil pass0 (pa_cons (pv 5) (pa_cons (pv 9) pa_nil))) (nomark _)) (pw_or1 (pt_cmpR op_ne (pe_call (ok_period T) (hr.mono (by decide)) (by rfl) T.g_period T.F_period.kp T.b_period .nil pass0 (pa_cons (pv 4) (pa_cons (pv 10) pa_nil))) (pv 7) (nomark _))))) (pss_one (ps_ret pe_bl)) pss_nil)
      (pss_one (ps_if (pt_cmpR (op_neD hr.units) (pe_call (ok_word_levels T) (hr.mono (by decide)) (by rfl) T.g_word_levels T.F_word_levels.kp T.b_word_levels .nil pass0 (pa_cons (pv 4) (pa_cons (pv 10) pa_nil))) (pe_callTy Sx.c_tupOf (by rfl) T.n_tuple Sx.bt_tuple (pa_cons (pe_lc (own := [("_law_level", 12)]) (g := (gName 12)) (tt := tYes) rfl sc_law_right.nd (pi_list (pe_op op_cat (pe_slice sl_list (pv 6) (po_some (pv 9)) po_none) (pe_slice sl_list (pv 6) po_none (po_some (pv 9))))) (blkOk_by (N := N_law_right) (sc := defScope st_law_right) (by decide +kernel)) (fun _ _ _ _ _ => (pg_name (i := 12) sc_law_right.nd rfl (.inl rfl))) (fun _ _ _ _ _ => pts_nil) (fun _ _ _ _ _ => (pe_op op_sub (pv 12) (pe_ix (show IxR _ (rIxL K) from ix_list) (pv 6) (pv 9) (fun _ _ => rfl))))) pa_nil)) (nomark _)) (pss_one (ps_ret pe_bl)) pss_nil))))))
      (pss_one (ps_ret (pe_and (pe_cmpR op_eq (pe_op op_mod (pe_op op_add (pv 2) (pv 3)) (pv 7)) pe_int (nomark _)) (pe_one (pe_cmpR op_eq (pe_op op_mod (pe_prop (pv 4) T.cl_Slope T.pr_Slope_common (ok_Slope_common T) (hr.mono (by decide)) T.b_Slope_common .nil pass0 rfl) (pe_op op_fdivW (pe_op op_add (pv 2) (pv 3)) (pv 7))) pe_int (nomark _)))))))))))))), ?_⟩
    refine Sx.r_st (σ' := [some (.ref d), some (.int n), none, none, none, none, none, none, none, none, none, none, none]) rfl ?_
    walk_at "sx"
    refine ⟨d, n, rfl, hd, n0, by omega, fun p a b H1 a1 a2 b1 b2 k1 hp => ?_⟩
    refine r_gtup hp rfl ?_
    walk_at "sx"
    refine mk_slope (a := (a : Int)) (b := (b : Int)) ⟨by omega, by omega, by omega, by omega⟩ (fun v H2 s2 hv => ?_)
    walk_at "sx"
    have k2 := k1.same s2
    refine ⟨d, a, b, rfl, k2.d1, by omega, by omega, by omega, by omega, fun l H3 hw k3' => ?_⟩
    have k3 := k2.trans k3'
    have hv3 := hv.kp k3'
    have hl := wd_len hv hw
    walk_at "sx"
    refine ⟨a, b, l, rfl, by omega, fun e H4 hen s4 he => ?_⟩
    have hed : e ≠ d := dice_ne k3.d1 hen
    have k4 := k3.same s4
    have hv4 := hv3.mono s4
    walk_at "sxi"
    refine ⟨v, a, b, l, rfl, hv4, hw, fun t H5 s5 ht => ?_⟩
    have k5 := k4.same s5
    have hv5 := hv4.mono s5
    have he5 := s5 _ _ he
    walk_at "sx"
    refine r_tupOfL (SqL.of he5) (fun t2 ht2 => ?_)
    walk_at "sx"
    refine ne_tupI (same_new ht2 _ _ ht) upd_same ?_
    have s6 : Same H5 (upd H5 t2 (.tup ((lvs a b l).map V.int))) := same_new ht2
    have k6 := k5.same s6
    have hv6 := hv5.mono s6
    have he6 := s6 _ _ he5
    generalize upd H5 t2 (.tup ((lvs a b l).map V.int)) = H6 at k6 hv6 he6 ⊢
    walk_at "sxi"
    refine ⟨v, a, b, l, rfl, hv6, hw, fun t3 H7 m s7 hm ht3 => ?_⟩
    have k7 := k6.same s7
    have hv7 := hv6.mono s7
    have he7 := s7 _ _ he6
    have hn := lvs_len (a := a) (b := b) (l := l)
    walk_at "sx"
    refine r_seqE (SqL.of he7) ?_
    refine lw_it (walk_enum (xs := (lvs a b l).map V.int)) (fun D i H' => Same H7 H' ∧ H' D = some (.lst (nats (upTo m (lvs a b l) i)))) (fun D hD => ⟨same_new hD, upd_same⟩) (fun D hD i H' _ z => SqL.of (z.1 _ _ he7)) ?_ ?_
    · rintro D hD i x H8 H9 hi ⟨s8, hd8⟩ ⟨T', u, z, rfl, hT, rfl, hu, hz⟩
      cases hu
      rw [List.length_map] at hi
      change ((lvs a b l).map V.int)[i]? = some z at hz
      rw [List.getElem?_map] at hz
      obtain ⟨y, hy, rfl⟩ := Option.map_eq_some_iff.mp hz
      have s9 : Same H7 (upd H8 T' (.tup [.int (i : Nat), .int y])) := fun b o e => same_new hT b o (s8 b o e)
      have hd9 : (upd H8 T' (.tup [.int (i : Nat), .int y])) D = some (.lst (nats (upTo m (lvs a b l) i))) := same_new hT _ _ hd8
      refine r_gtup upd_same rfl ?_
      walk_at "sx"
      refine ⟨rfl, ?_⟩
      walk_at "sx"
      refine ⟨e, lvs a b l, rfl, SqL.of (s9 _ _ he7), by omega, fun m' m1 m2 => ?_⟩
      obtain rfl := min_unique hm.1 hm.2 m1 m2
      walk_at "sx"
      refine ite_d (fun h => ?_) (fun h => ?_)
      · walk_at "sx"
        refine ⟨_, hd9, ?_, same_mut s9 hD, ?_⟩
        · have := upTo_len (m := m) (ns := lvs a b l) (i := i)
          unfold nats
          rw [List.length_map]; exact sz' _ (by omega)
        · rw [upTo_yes (h ▸ hy)]; exact upd_same
      · refine ⟨s9, ?_⟩
        rw [upTo_no hy h]; exact hd9
    · rintro D hD H8 ⟨s8, hd8⟩
      rw [List.length_map] at hd8
      walk_at "sx"
      refine r_tupOfL (SqL.of hd8) (fun t4 ht4 => ?_)
      walk_at "sx"
      have ht3' : (upd H8 t4 (.tup (nats (upTo m (lvs a b l) (lvs a b l).length)))) t3 = some (.tup ((((places m (lvs a b l)).map fun i : Nat => (i : Int))).map V.int)) := by
        rw [← nats_ints]; exact same_new ht4 _ _ (s8 _ _ ht3)
      refine ne_tupI ht3' (by rw [upd_same, ← nats_ints]; rfl) ?_
      have s9 : Same H7 (upd H8 t4 (.tup (nats (upTo m (lvs a b l) (lvs a b l).length)))) := fun b o e => same_new ht4 b o (s8 b o e)
      have k9 := k7.same s9
      have hv9 := hv7.mono s9
      have he9 := s9 _ _ he7
      generalize upd H8 t4 (.tup (nats (upTo m (lvs a b l) (lvs a b l).length))) = H9 at k9 hv9 he9 ⊢
      walk_at "sx"
      refine ⟨l, rfl, by omega, by omega, fun k H10 s10 hk => ?_⟩
      have k10 := k9.same s10
      have hv10 := hv9.mono s10
      have he10 := s10 _ _ he9
      walk_at "sxi"
      refine ⟨v, a, b, l, k, rfl, hv10, hw, hk, ?_⟩
      walk_at "sx"
      refine ite_nd (fun h => (h rfl).elim) (fun _ => ?_)
      walk_at "sx"
      refine ⟨v, a, b, l, 0, rfl, hv10, hw, by omega, ?_⟩
      rw [rot_zero]
      walk_at "sx"
      refine ite_nd (fun h => (h rfl).elim) (fun _ => ?_)
      walk_at "sx"
      refine r_rng1 ?_ (by decide) (by decide)
      refine fr_range (fun i σ' H' => Kp d H H' ∧ SlopeAt T.C_Slope H' v a b ∧ H' e = some (.lst ((lvs a b l).map V.int)) ∧ ∃ y8 y9 y10, σ' = [some (.ref d), some (.int n), some (.int a), some (.int b), some v, some (.str (S l)), some (.ref e), some (.int k), y8, y9, y10, none, none]) ⟨k10, hv10, he10, none, none, none, rfl⟩ ?_ ?_
      · rintro i σ' H11 hi ⟨k11, hv11, he11, y8, y9, y10, rfl⟩
        walk_at "sx"
        rotate_left
        · exact small_S (by omega)
        rw [SX.S_len]
        refine ⟨d, l.length, rfl, k11.d1, by omega, log_small (by omega) (by omega), fun r H12 r0 r1 k12' => ?_⟩
        obtain ⟨pl, rfl⟩ : ∃ pl : Nat, r = pl := ⟨r.toNat, (Int.toNat_of_nonneg r0).symm⟩
        have hpl : pl < l.length := by omega
        have k12 := k11.trans k12'
        have hv12 := hv11.kp k12'
        have he12 := k12'.k e _ hed he11
        walk_at "sx"
        refine ⟨v, a, b, l, pl, rfl, hv12, hw, hpl, ?_⟩
        walk_at "sxi"
        refine ⟨l, pl, rfl, by omega, ?_⟩
        walk_at "sx"
        refine ite_nd (fun h => (h rfl).elim) (fun _ => ?_)
        walk_at "sx"
        refine ⟨v, a, b, rot pl l, k, rfl, hv12, hw.rot, per_rot (by omega) hk, ?_⟩
        walk_at "sx"
        refine ite_nd (fun h => (h rfl).elim) (fun _ => ?_)
        walk_at "sxi"
        refine ⟨v, a, b, rot pl l, rfl, hv12, hw.rot, fun t5 H13 s13 ht5 => ?_⟩
        have k13 := k12.same s13
        have hv13 := hv12.mono s13
        have he13 := s13 _ _ he12
        walk_at "sx"
        refine ⟨e, _, rfl, SqL.of he13, fun c1 hc1 => ?_⟩
        walk_at "sx"
        have s14 : Same H13 (upd H13 c1 (.lst (cutV ((lvs a b l).map V.int) (some (pl : Int)) none))) := same_new hc1
        refine ⟨e, _, rfl, SqL.of (s14 _ _ he13), fun c2 hc2 => ?_⟩
        walk_at "sx"
        have hc21 : c1 ≠ c2 := ne_of_none upd_same hc2
        refine ⟨c1, c2, _, _, rfl, rfl, by rw [upd_ne hc21, upd_same], upd_same, ?_, fun c3 hc3 => ?_⟩
        · rw [cutV_from, cutV_to (by rw [List.length_map]; omega), List.length_drop, List.length_take, List.length_map, sizeLine_eq]; omega
        rw [cutV_from, cutV_to (by rw [List.length_map]; omega)] at *
        have s15 : Same H13 (upd (upd (upd H13 c1 (.lst (((lvs a b l).map V.int).drop pl))) c2 (.lst (((lvs a b l).map V.int).take pl))) c3 (.lst (((lvs a b l).map V.int).drop pl ++ ((lvs a b l).map V.int).take pl))) := fun b o z => same_new hc3 b o (same_new hc2 b o (s14 b o z))
        generalize hH15 : upd (upd (upd H13 c1 (.lst (((lvs a b l).map V.int).drop pl))) c2 (.lst (((lvs a b l).map V.int).take pl))) c3 (.lst (((lvs a b l).map V.int).drop pl ++ ((lvs a b l).map V.int).take pl)) = H15 at s15 ⊢
        have hc3' : H15 c3 = some (.lst ((((lvs a b l).drop pl ++ (lvs a b l).take pl)).map V.int)) := by rw [← hH15, upd_same, List.map_append, List.map_drop, List.map_take]
        walk_at "sx"
        refine r_seqL (SqL.of hc3') ?_
        refine lw_list (xs := ((lvs a b l).drop pl ++ (lvs a b l).take pl).map V.int) (fun D i H' => Same H15 H' ∧ H' D = some (.lst (((lvs a b (rot pl l)).take i).map V.int))) (fun D hD => ⟨same_new hD, upd_same⟩) (fun D hD i H' _ z => SqL.of (z.1 _ _ hc3')) ?_ ?_
        · rintro D hD j x H16 hx ⟨s16, hd16⟩
          rw [List.getElem?_map] at hx
          obtain ⟨y, hy, rfl⟩ := Option.map_eq_some_iff.mp hx
          walk_at "sx"
          refine ⟨rfl, ?_⟩
          walk_at "sx"
          refine r_ixL (s16 _ _ (s15 _ _ he13)) (v := .int (lev a b (l.take pl))) ?_ ?_
          · refine atI_nat ?_
            rw [List.getElem?_map, lvs_get hpl]; rfl
          walk_at "sx"
          refine ⟨_, hd16, ?_, same_mut s16 hD, ?_⟩
          · rw [List.length_map, List.length_take, lvs_len, rot_len]; exact sz' _ (by omega)
          · rw [upd_same, ← Mw.ints_snoc]
            rw [lvs_rot hw hpl, List.getElem?_map, hy]; rfl
        · rintro D hD H16 ⟨s16, hd16⟩
          rw [List.take_of_length_le (by rw [List.length_map, lvs_rot hw hpl, List.length_map]; exact Nat.le_refl _)] at hd16
          walk_at "sx"
          refine r_tupOfL (SqL.of hd16) (fun t6 ht6 => ?_)
          walk_at "sx"
          have s17 : Same H13 (upd H16 t6 (.tup ((lvs a b (rot pl l)).map V.int))) := fun b o z => same_new ht6 b o (s16 b o (s15 b o z))
          refine ne_tupI (s17 _ _ ht5) upd_same ?_
          walk_at "sx"
          exact ⟨k13.same s17, hv13.mono s17, s17 _ _ he13, _, _, _, rfl⟩
      · rintro σ' H11 ⟨k11, hv11, he11, y8, y9, y10, rfl⟩
        have hk0 := hk.1
        have dv : (a + b) % k = 0 := by rw [← hw.2.2]; exact Nat.mod_eq_zero_of_dvd (per_dvd hk)
        have kle := hk.2.1
        have hq : 0 < (a + b) / k := by rw [← hw.2.2]; exact Nat.div_pos kle hk0
        have ha : (a + b) / k ∣ a := by
          have h := per_count (c := 114) hk
          rw [hw.1, hw.2.2] at h; exact h
        have hb : (a + b) / k ∣ b := by
          have h := per_count (c := 115) hk
          rw [hw.2.1, hw.2.2] at h; exact h
        have hg : Nat.gcd a b % ((a + b) / k) = 0 := Nat.mod_eq_zero_of_dvd (Nat.dvd_gcd ha hb)
        walk_at "sx"
        rotate_left
        · omega
        rw [show ((a : Int) + (b : Int)) % (k : Int) = (((a + b) % k : Nat) : Int) by push_cast; rfl, dv]
        refine ite_d (fun _ => ?_) (fun h => (h rfl).elim)
        walk_at "sx"
        refine rd_c hv11 ?_
        walk_at "sx"
        · rw [← Int.natCast_add, ← Int.natCast_ediv, Int.natAbs_natCast, Int.natAbs_natCast, ← Int.natCast_emod, hg]
          exact q _ k11
        · rw [← Int.natCast_add, ← Int.natCast_ediv]; omega
        · exact cdivw (b := 64) (by omega) (by omega) (by decide)
end
end Lw

namespace Lw
open PySem PySem.Spec PyProof.Rows L2 Sx Sy Mw Me
open SX (S)
open C8 (pe_gc)
open SkE (call_repr_int call_str_str)
open RZ (pi_zipA)
section
variable {P : Program} {w : World} {K : PySem.W.Frag} {mg : Str → Option Value} {base : Heap}
def spLaw (K : PySem.W.Frag) : Sp := fun vs H Q _ => ∃ (a : Addr) (ns : List Int), vs = [.ref a] ∧ SqL K H a (ns.map V.int) ∧ ns.length ≤ 63 ∧ ∀ H', Q (.bl true) H'
theorem lit_1 : ("ssrsrrss" : Str) = S [115, 115, 114, 115, 114, 114, 115, 115] := by decide +kernel
theorem lit_2 : ("rsrrsr" : Str) = S [114, 115, 114, 114, 115, 114] := by decide +kernel
theorem lit_3 : S (rot 2 [115, 115, 114, 115, 114, 114, 115, 115]) = ("rsrrssss" : Str) := by decide +kernel
theorem wd_1 : Wd 3 5 [115, 115, 114, 115, 114, 114, 115, 115] := by unfold Wd; decide +kernel
theorem wd_2 : Wd 4 2 [114, 115, 114, 114, 115, 114] := by unfold Wd; decide +kernel
theorem lv_1 : lvs 3 5 [115, 115, 114, 115, 114, 114, 115, 115] = [0, -3, -6, -1, -4, 1, 6, 3] := by decide +kernel
theorem mn_1 : IsMin [0, -3, -6, -1, -4, 1, 6, 3] (-6) := by unfold IsMin; decide +kernel
theorem pl_1 : places (-6) [0, -3, -6, -1, -4, 1, 6, 3] = [2] := by decide +kernel
theorem per_2 : IsPer [114, 115, 114, 114, 115, 114] 3 := by
  refine ⟨by decide, by decide, by decide +kernel, fun j h1 h2 => ?_⟩
  obtain rfl | rfl : j = 1 ∨ j = 2 := by omega
  · decide +kernel
  · decide +kernel
theorem ok_law (T : Tx K mg) : FnOk P w K mg base CX0 8 T.a_law T.d_law ["_law_script"] (spLaw K) := by
  refine T.F_law.ok sc_law (fun vs H Q E h => ?_) (fun cdv A outer s H vs Q E hr h => ?_)
  · obtain ⟨a, ns, rfl, _⟩ := h; rfl
  · obtain ⟨a, ns, rfl, hS, hl, q⟩ := h
    refine ⟨_, (pss_cons (ps_for PassesOwn.never rfl (pi_range1 (by rfl) T.n_range (pa_cons (pe_callB (Sx.c_max rfl) (by rfl) T.n_max Sx.bt_max (pa_cons pe_int (pa_cons (pe_callB (Sx.c_min rfl) (by rfl) T.n_min Sx.bt_min (pa_cons pe_int (pa_cons (pe_callB Sx.c_len (by rfl) T.n_len Sx.bt_len (pa_cons (pv 0) pa_nil)) pa_nil))) pa_nil))) pa_nil)) (pg_name (i := 1) sc_law.nd rfl (.inl rfl)) (pss_cons (ps_set (i := 2) sc_law.nd rfl (.inl rfl) (pe_call (ok_law_dice T) (hr.mono (by decide)) (by rfl) T.g_law_dice T.F_law_dice.kp T.b_law_dice .nil pass0 (pa_cons (pv 0) (pa_cons (pv 1) pa_nil))))
      (pss_one (ps_for PassesOwn.never rfl (pi_tup (pe_tup (pa_cons pe_int (pa_cons pe_int (pa_cons (pe_ifExp (pt_cmpR op_eq (pe_call (ok_law_roll T) (hr.mono (by decide)) (by rfl) T.g_law_roll T.F_law_roll.kp T.b_law_roll .nil pass0 (pa_cons (pv 2) (pa_cons pe_int pa_nil))) pe_int (nomark _)) pe_int pe_int) pa_nil))))) (pg_name (i := 3) sc_law.nd rfl (.inl rfl)) (pss_one (ps_if (pt_not (pt_val (pe_call (ok_law_right T) (hr.mono (by decide)) (by rfl) T.g_law_right T.F_law_right.kp T.b_law_right .nil pass0 (pa_cons (pv 2) (pa_cons (pv 3) pa_nil))))) (pss_one (ps_ret pe_bl)) pss_nil))))))
      (pss_cons (ps_set (i := 4) sc_law.nd rfl (.inl rfl) (pe_make T.mk_Slope (ok_Slope_init T) (hr.mono (by decide)) (by rfl) T.g_Slope T.b_Slope_init .nil pass0 (pa_cons pe_int (pa_cons pe_int pa_nil))))
      (pss_cons (ps_set (i := 5) sc_law.nd rfl (.inl rfl) (pe_lst (pa_cons (pe_call (ok_word_levels T) (hr.mono (by decide)) (by rfl) T.g_word_levels T.F_word_levels.kp T.b_word_levels .nil pass0 (pa_cons (pv 4) (pa_cons pe_str pa_nil))) (pa_cons (pe_call (ok_lowest_places T) (hr.mono (by decide)) (by rfl) T.g_lowest_places T.F_lowest_places.kp T.b_lowest_places .nil pass0 (pa_cons (pv 4) (pa_cons pe_str pa_nil))) (pa_cons (pe_call (ok_period T) (hr.mono (by decide)) (by rfl) T.g_period T.F_period.kp T.b_period .nil pass0 (pa_cons (pe_make T.mk_Slope (ok_Slope_init T) (hr.mono (by decide)) (by rfl) T.g_Slope T.b_Slope_init .nil pass0 (pa_cons pe_int (pa_cons pe_int pa_nil))) (pa_cons pe_str pa_nil))) pa_nil)))))
      (pss_one (ps_ret (pe_and (pe_cmpR (op_eqD hr.units) (pv 5) (pe_lst (pa_cons (pe_tup (pa_cons pe_int (pa_cons (pe_un un_neg pe_int) (pa_cons (pe_un un_neg pe_int) (pa_cons (pe_un un_neg pe_int) (pa_cons (pe_un un_neg pe_int) (pa_cons pe_int (pa_cons pe_int (pa_cons pe_int pa_nil))))))))) (pa_cons (pe_tup (pa_cons pe_int pa_nil)) (pa_cons pe_int pa_nil)))) (nomark _)) (pe_one (pe_cmpR op_eq (pe_call (ok_turned T) (hr.mono (by decide)) (by rfl) T.g_turned T.F_turned.kp T.b_turned .nil pass0 (pa_cons (pv 4) (pa_cons pe_str (pa_cons pe_int pa_nil)))) pe_str (nomark _))))))))), ?_⟩
    refine Sx.r_st (σ' := [some (.ref a), none, none, none, none, none]) rfl ?_
    walk_at "sx"
    refine r_lenL hS ?_
    walk_at "sx"
    obtain ⟨n, hn, hn6⟩ : ∃ n : Nat, (if (if ((ns.map V.int).length : Int) < 5 then ((ns.map V.int).length : Int) else 5) > 1 then (if ((ns.map V.int).length : Int) < 5 then ((ns.map V.int).length : Int) else 5) else 1) = n ∧ n ≤ 6 := by
      refine ⟨(if (if ((ns.map V.int).length : Int) < 5 then ((ns.map V.int).length : Int) else 5) > 1 then (if ((ns.map V.int).length : Int) < 5 then ((ns.map V.int).length : Int) else 5) else 1).toNat, ?_, ?_⟩
      · split <;> split <;> omega
      · split <;> split <;> omega
    rw [hn]
    refine r_rng1 ?_ (by omega) (by omega)
    refine fr_range (fun i σ' H' => Same H H' ∧ ∃ y1 y2 y3, σ' = [some (.ref a), y1, y2, y3, none, none]) ⟨Same.refl H, none, none, none, rfl⟩ ?_ ?_
    · rintro i σ' H1 hi ⟨sm, y1, y2, y3, rfl⟩
      walk_at "sx"
      refine ⟨a, ns, i, by rw [Int.zero_add]; rfl, sm.seq hS, by omega, fun d H2 sm2 hdn hd => ?_⟩
      walk_at "sx"
      refine r_cutQ (fun v H3 => Kp d H2 H3 ∧ ∃ x : Int, v = .int x ∧ 0 < x ∧ x ≤ 57) (fun Q' k => ?_) ?_
      · refine r_ifE ?_
        walk_at "sx"
        refine ⟨d, 3, rfl, hd, by decide, log_small (by decide) (by decide), fun r H3 r0 r1 k1 => ?_⟩
        walk_at "sx"
        refine ite_d (fun h => ?_) (fun h => ?_)
        · walk_at "sx"
          exact k _ _ ⟨k1, _, rfl, by decide, by decide⟩
        · walk_at "sx"
          exact k _ _ ⟨k1, _, rfl, by decide, by decide⟩
      · rintro v H3 ⟨k1, x, rfl, x0, x1⟩
        walk_at "sx"
        refine ⟨sz _ (Nat.le_of_ble_eq_true rfl), fun t ht => ?_⟩
        have k2 := k1.new (o := .tup [.int 5, .int 11, .int x]) ht
        generalize hH4 : upd H3 t (.tup [.int 5, .int 11, .int x]) = H4 at k2 ⊢
        have ht4 : H4 t = some (.tup [.int 5, .int 11, .int x]) := by rw [← hH4, upd_same]
        refine r_seqT (SqT.of ht4) ?_
        refine fr_tup (xs := [.int 5, .int 11, .int x]) (fun j σ' H' => Kp d H4 H' ∧ ∃ y1 y2, σ' = [some (.ref a), y1, some (.ref d), y2, none, none]) ⟨Kp.refl k2.d1, _, _, rfl⟩ (fun j σ' H' _ z => SqT.of (z.1.tup ht4)) ?_ ?_
        · rintro j y σ' H5 hy ⟨k3, y4, y5, rfl⟩
          obtain ⟨m, rfl, m0, m1⟩ : ∃ m : Int, y = .int m ∧ 0 < m ∧ m ≤ 57 := by
            have hm := List.mem_of_getElem? hy
            simp only [List.mem_cons, List.not_mem_nil, or_false] at hm
            rcases hm with rfl | rfl | rfl
            · exact ⟨_, rfl, by decide, by decide⟩
            · exact ⟨_, rfl, by decide, by decide⟩
            · exact ⟨_, rfl, x0, x1⟩
          walk_at "sxi"
          refine ⟨d, m, rfl, k3.d1, m0, m1, fun H6 k4 => ?_⟩
          walk_at "sx"
          exact ⟨k3.trans k4, _, _, rfl⟩
        · rintro σ' H5 ⟨k3, y4, y5, rfl⟩
          walk_at "sx"
          have k5 := k2.trans k3
          exact ⟨fun c o e => k5.k c o (ne_of_none (sm _ _ e) hdn) (sm2 _ _ (sm _ _ e)), _, _, _, rfl⟩
    · rintro σ' H1 ⟨sm, y1, y2, y3, rfl⟩
      walk_at "sx"
      refine mk_slope (a := 3) (b := 5) (by decide) (fun v1 H2 _ hv1 => ?_)
      walk_at "sx"
      rw [lit_1]
      refine ⟨v1, 3, 5, _, rfl, hv1, wd_1, fun p H3 s3 hp => ?_⟩
      have hv2 := hv1.mono s3
      walk_at "sx"
      refine ⟨v1, 3, 5, _, rfl, hv2, wd_1, fun p2 H4 m s4 hm hp2 => ?_⟩
      have hv3 := hv2.mono s4
      rw [lv_1] at hm hp hp2
      obtain rfl := min_unique mn_1.1 mn_1.2 hm.1 hm.2
      rw [pl_1] at hp2
      walk_at "sx"
      refine mk_slope (a := 4) (b := 2) (by decide) (fun v2 H5 s5 hv5 => ?_)
      walk_at "sx"
      rw [lit_2]
      refine ⟨v2, 4, 2, _, 3, rfl, hv5, wd_2, per_2, ?_⟩
      walk_at "sx"
      refine ⟨sz _ (Nat.le_of_ble_eq_true rfl), fun l1 hl1 => ?_⟩
      walk_at "sx"
      refine ⟨sz _ (Nat.le_of_ble_eq_true rfl), fun t1 ht1 => ?_⟩
      walk_at "sx"
      refine ⟨sz _ (Nat.le_of_ble_eq_true rfl), fun t2 ht2 => ?_⟩
      walk_at "sx"
      refine ⟨sz _ (Nat.le_of_ble_eq_true rfl), fun l2 hl2 => ?_⟩
      let d1 : PyData := .tuple ([0, -3, -6, -1, -4, 1, 6, 3].map PyData.int)
      let d2 : PyData := .tuple ([2].map PyData.int)
      let G1 := upd H5 l1 (.lst [.ref p, .ref p2, .int 3])
      let G2 := upd G1 t1 (.tup ([0, -3, -6, -1, -4, 1, 6, 3].map V.int))
      let G3 := upd G2 t2 (.tup ([2].map V.int))
      let G4 := upd G3 l2 (.lst [.ref t1, .ref t2, .int 3])
      have g2 : Same G1 G2 := same_new ht1
      have g3 : Same G2 G3 := same_new ht2
      have g4 : Same G3 G4 := same_new hl2
      have g1 : Same H5 G1 := same_new hl1
      have e1 : G4 l1 = some (.lst [.ref p, .ref p2, .int 3]) := g4 _ _ (g3 _ _ (g2 _ _ upd_same))
      have e2 : G4 l2 = some (.lst [.ref t1, .ref t2, .int 3]) := upd_same
      have e3 : G4 p = some (.tup ([0, -3, -6, -1, -4, 1, 6, 3].map V.int)) := g4 _ _ (g3 _ _ (g2 _ _ (g1 _ _ (s5 _ _ (s4 _ _ hp)))))
      have e4 : G4 p2 = some (.tup ([2].map V.int)) := g4 _ _ (g3 _ _ (g2 _ _ (g1 _ _ (s5 _ _ hp2))))
      have e5 : G4 t1 = some (.tup ([0, -3, -6, -1, -4, 1, 6, 3].map V.int)) := g4 _ _ (g3 _ _ upd_same)
      have e6 : G4 t2 = some (.tup ([2].map V.int)) := g4 _ _ upd_same
      have hv6 := hv3.mono (fun b o z => g4 _ _ (g3 _ _ (g2 _ _ (g1 _ _ (s5 b o z)))))
      refine eq_same (d := .list [d1, d2, .int 3]) (.lst (SqL.of e1) (.cons (.tup (SqT.of e3) (dpI _)) (.cons (.tup (SqT.of e4) (dpI _)) (.cons (.int 3) .nil)))) (.lst (SqL.of e2) (.cons (.tup (SqT.of e5) (dpI _)) (.cons (.tup (SqT.of e6) (dpI _)) (.cons (.int 3) .nil)))) (by decide +kernel) ?_
      walk_at "sx"
      refine ⟨v1, 3, 5, _, 2, rfl, hv6, wd_1, by decide, ?_⟩
      walk_at "sx"
      rw [decide_eq_true lit_3]
      exact q _
end
end Lw

namespace Lw
open PySem PySem.Spec PyProof.Rows L2 Sx
open C8 (pe_gc)
open SkE (call_repr_int call_str_str)
open RZ (pi_zipA)
theorem all_mk {l : PySem.W.OpenLaw} {w : World} {K : PySem.W.Frag} {h : Heap} {mg : Str → Option Value} {fa : Addr} (X : K.In h) (G : h.Ns mainGlobals mg) (hfa : mg "law" = some (.ref fa))
    {C_Slope a_is_number a_is_whole_between a_Slope_init a_Slope_rises p_Slope_rises a_Slope_steps p_Slope_steps a_Slope_common p_Slope_common a_check_slope a_letter_levels a_is_word a_check_word a_put_round a_word_levels a_lowest_places a_turned a_period a_law_dice a_law_roll a_law_mixed a_law_levels a_law_sides a_law_word a_law_turn a_law_period a_law_right a_law : Addr} {t_MAX_SIDE : Tok}
    {oc_is_number kV_is_number dc_is_number pm_is_number cd_is_number ct_is_number : Value} {od_is_number an_is_number : Option Addr} {sl_is_number : Array (Option Value)}
    {oc_is_whole_between kV_is_whole_between dc_is_whole_between pm_is_whole_between cd_is_whole_between ct_is_whole_between : Value} {od_is_whole_between an_is_whole_between : Option Addr} {sl_is_whole_between : Array (Option Value)}
    {oc_Slope_init kV_Slope_init dc_Slope_init pm_Slope_init cd_Slope_init ct_Slope_init : Value} {od_Slope_init an_Slope_init : Option Addr} {sl_Slope_init : Array (Option Value)}
    {oc_Slope_rises kV_Slope_rises dc_Slope_rises pm_Slope_rises cd_Slope_rises ct_Slope_rises : Value} {od_Slope_rises an_Slope_rises : Option Addr} {sl_Slope_rises : Array (Option Value)}
    {re_Slope_rises : List Value}
    {oc_Slope_steps kV_Slope_steps dc_Slope_steps pm_Slope_steps cd_Slope_steps ct_Slope_steps : Value} {od_Slope_steps an_Slope_steps : Option Addr} {sl_Slope_steps : Array (Option Value)}
    {re_Slope_steps : List Value}
    {oc_Slope_common kV_Slope_common dc_Slope_common pm_Slope_common cd_Slope_common ct_Slope_common : Value} {od_Slope_common an_Slope_common : Option Addr} {sl_Slope_common : Array (Option Value)}
    {re_Slope_common : List Value}
    {oc_check_slope kV_check_slope dc_check_slope pm_check_slope cd_check_slope ct_check_slope : Value} {od_check_slope an_check_slope : Option Addr} {sl_check_slope : Array (Option Value)}
    {oc_letter_levels kV_letter_levels dc_letter_levels pm_letter_levels cd_letter_levels ct_letter_levels : Value} {od_letter_levels an_letter_levels : Option Addr} {sl_letter_levels : Array (Option Value)}
    {oc_is_word kV_is_word dc_is_word pm_is_word cd_is_word ct_is_word : Value} {od_is_word an_is_word : Option Addr} {sl_is_word : Array (Option Value)}
    {oc_check_word kV_check_word dc_check_word pm_check_word cd_check_word ct_check_word : Value} {od_check_word an_check_word : Option Addr} {sl_check_word : Array (Option Value)}
    {oc_put_round kV_put_round dc_put_round pm_put_round cd_put_round ct_put_round : Value} {od_put_round an_put_round : Option Addr} {sl_put_round : Array (Option Value)}
    {oc_word_levels kV_word_levels dc_word_levels pm_word_levels cd_word_levels ct_word_levels : Value} {od_word_levels an_word_levels : Option Addr} {sl_word_levels : Array (Option Value)}
    {oc_lowest_places kV_lowest_places dc_lowest_places pm_lowest_places cd_lowest_places ct_lowest_places : Value} {od_lowest_places an_lowest_places : Option Addr} {sl_lowest_places : Array (Option Value)}
    {oc_turned kV_turned dc_turned pm_turned cd_turned ct_turned : Value} {od_turned an_turned : Option Addr} {sl_turned : Array (Option Value)}
    {oc_period kV_period dc_period pm_period cd_period ct_period : Value} {od_period an_period : Option Addr} {sl_period : Array (Option Value)}
    {oc_law_dice kV_law_dice dc_law_dice pm_law_dice cd_law_dice ct_law_dice : Value} {od_law_dice an_law_dice : Option Addr} {sl_law_dice : Array (Option Value)}
    {oc_law_roll kV_law_roll dc_law_roll pm_law_roll cd_law_roll ct_law_roll : Value} {od_law_roll an_law_roll : Option Addr} {sl_law_roll : Array (Option Value)}
    {oc_law_mixed kV_law_mixed dc_law_mixed pm_law_mixed cd_law_mixed ct_law_mixed : Value} {od_law_mixed an_law_mixed : Option Addr} {sl_law_mixed : Array (Option Value)}
    {oc_law_levels kV_law_levels dc_law_levels pm_law_levels cd_law_levels ct_law_levels : Value} {od_law_levels an_law_levels : Option Addr} {sl_law_levels : Array (Option Value)}
    {oc_law_sides kV_law_sides dc_law_sides pm_law_sides cd_law_sides ct_law_sides : Value} {od_law_sides an_law_sides : Option Addr} {sl_law_sides : Array (Option Value)}
    {oc_law_word kV_law_word dc_law_word pm_law_word cd_law_word ct_law_word : Value} {od_law_word an_law_word : Option Addr} {sl_law_word : Array (Option Value)}
    {oc_law_turn kV_law_turn dc_law_turn pm_law_turn cd_law_turn ct_law_turn : Value} {od_law_turn an_law_turn : Option Addr} {sl_law_turn : Array (Option Value)}
    {oc_law_period kV_law_period dc_law_period pm_law_period cd_law_period ct_law_period : Value} {od_law_period an_law_period : Option Addr} {sl_law_period : Array (Option Value)}
    {oc_law_right kV_law_right dc_law_right pm_law_right cd_law_right ct_law_right : Value} {od_law_right an_law_right : Option Addr} {sl_law_right : Array (Option Value)}
    {oc_law kV_law dc_law pm_law cd_law ct_law : Value} {od_law an_law : Option Addr} {sl_law : Array (Option Value)}
    (g_Slope : PySem.W.nsIn K mainGlobals "Slope" = some (some (.ref C_Slope)))
    (g_is_number : PySem.W.nsIn K mainGlobals "is_number" = some (some (.ref a_is_number)))
    (l_is_number : K.lookup a_is_number = some ⟨oc_is_number, od_is_number, .func (PySem.W.fnOf "is_number" "is_number" (defArgs st_is_number) (defBody st_is_number) (defScope st_is_number) .none kV_is_number dc_is_number pm_is_number an_is_number cd_is_number ct_is_number), sl_is_number⟩)
    (c_is_number : PySem.W.codeIn K cd_is_number "is_number" = true)
    (k_is_number : PySem.W.keepIn K (.ref a_is_number) = true)
    (g_is_whole_between : PySem.W.nsIn K mainGlobals "is_whole_between" = some (some (.ref a_is_whole_between)))
    (l_is_whole_between : K.lookup a_is_whole_between = some ⟨oc_is_whole_between, od_is_whole_between, .func (PySem.W.fnOf "is_whole_between" "is_whole_between" (defArgs st_is_whole_between) (defBody st_is_whole_between) (defScope st_is_whole_between) .none kV_is_whole_between dc_is_whole_between pm_is_whole_between an_is_whole_between cd_is_whole_between ct_is_whole_between), sl_is_whole_between⟩)
    (c_is_whole_between : PySem.W.codeIn K cd_is_whole_between "is_whole_between" = true)
    (k_is_whole_between : PySem.W.keepIn K (.ref a_is_whole_between) = true)
    (m_Slope_init : PySem.W.findIn K (.ref C_Slope) "__init__" = some (some (.ref a_Slope_init)))
    (f_Slope_init : PySem.W.isFn K (.ref a_Slope_init) = true)
    (l_Slope_init : K.lookup a_Slope_init = some ⟨oc_Slope_init, od_Slope_init, .func (PySem.W.fnOf "__init__" "Slope.__init__" (defArgs st_Slope_init) (defBody st_Slope_init) (defScope st_Slope_init) .none kV_Slope_init dc_Slope_init pm_Slope_init an_Slope_init cd_Slope_init ct_Slope_init), sl_Slope_init⟩)
    (c_Slope_init : PySem.W.codeIn K cd_Slope_init "Slope.__init__" = true)
    (k_Slope_init : PySem.W.keepIn K (.ref a_Slope_init) = true)
    (pa_Slope_rises : PySem.W.findIn K (.ref C_Slope) "rises" = some (some (.ref p_Slope_rises)))
    (pg_Slope_rises : PySem.W.specialIn K (.ref p_Slope_rises) "__get__" = some (some (.builtin "property.__get__")))
    (pt_Slope_rises : PySem.W.takesIn K (.ref p_Slope_rises) = some true)
    (pq_Slope_rises : PySem.W.recIn K p_Slope_rises "property" = some (.ref a_Slope_rises :: re_Slope_rises))
    (l_Slope_rises : K.lookup a_Slope_rises = some ⟨oc_Slope_rises, od_Slope_rises, .func (PySem.W.fnOf "rises" "Slope.rises" (defArgs st_Slope_rises) (defBody st_Slope_rises) (defScope st_Slope_rises) .none kV_Slope_rises dc_Slope_rises pm_Slope_rises an_Slope_rises cd_Slope_rises ct_Slope_rises), sl_Slope_rises⟩)
    (c_Slope_rises : PySem.W.codeIn K cd_Slope_rises "Slope.rises" = true)
    (k_Slope_rises : PySem.W.keepIn K (.ref a_Slope_rises) = true)
    (pa_Slope_steps : PySem.W.findIn K (.ref C_Slope) "steps" = some (some (.ref p_Slope_steps)))
    (pg_Slope_steps : PySem.W.specialIn K (.ref p_Slope_steps) "__get__" = some (some (.builtin "property.__get__")))
    (pt_Slope_steps : PySem.W.takesIn K (.ref p_Slope_steps) = some true)
    (pq_Slope_steps : PySem.W.recIn K p_Slope_steps "property" = some (.ref a_Slope_steps :: re_Slope_steps))
    (l_Slope_steps : K.lookup a_Slope_steps = some ⟨oc_Slope_steps, od_Slope_steps, .func (PySem.W.fnOf "steps" "Slope.steps" (defArgs st_Slope_steps) (defBody st_Slope_steps) (defScope st_Slope_steps) .none kV_Slope_steps dc_Slope_steps pm_Slope_steps an_Slope_steps cd_Slope_steps ct_Slope_steps), sl_Slope_steps⟩)
    (c_Slope_steps : PySem.W.codeIn K cd_Slope_steps "Slope.steps" = true)
    (k_Slope_steps : PySem.W.keepIn K (.ref a_Slope_steps) = true)
    (pa_Slope_common : PySem.W.findIn K (.ref C_Slope) "common" = some (some (.ref p_Slope_common)))
    (pg_Slope_common : PySem.W.specialIn K (.ref p_Slope_common) "__get__" = some (some (.builtin "property.__get__")))
    (pt_Slope_common : PySem.W.takesIn K (.ref p_Slope_common) = some true)
    (pq_Slope_common : PySem.W.recIn K p_Slope_common "property" = some (.ref a_Slope_common :: re_Slope_common))
    (l_Slope_common : K.lookup a_Slope_common = some ⟨oc_Slope_common, od_Slope_common, .func (PySem.W.fnOf "common" "Slope.common" (defArgs st_Slope_common) (defBody st_Slope_common) (defScope st_Slope_common) .none kV_Slope_common dc_Slope_common pm_Slope_common an_Slope_common cd_Slope_common ct_Slope_common), sl_Slope_common⟩)
    (c_Slope_common : PySem.W.codeIn K cd_Slope_common "Slope.common" = true)
    (k_Slope_common : PySem.W.keepIn K (.ref a_Slope_common) = true)
    (g_check_slope : PySem.W.nsIn K mainGlobals "check_slope" = some (some (.ref a_check_slope)))
    (l_check_slope : K.lookup a_check_slope = some ⟨oc_check_slope, od_check_slope, .func (PySem.W.fnOf "check_slope" "check_slope" (defArgs st_check_slope) (defBody st_check_slope) (defScope st_check_slope) .none kV_check_slope dc_check_slope pm_check_slope an_check_slope cd_check_slope ct_check_slope), sl_check_slope⟩)
    (c_check_slope : PySem.W.codeIn K cd_check_slope "check_slope" = true)
    (k_check_slope : PySem.W.keepIn K (.ref a_check_slope) = true)
    (g_letter_levels : PySem.W.nsIn K mainGlobals "letter_levels" = some (some (.ref a_letter_levels)))
    (l_letter_levels : K.lookup a_letter_levels = some ⟨oc_letter_levels, od_letter_levels, .func (PySem.W.fnOf "letter_levels" "letter_levels" (defArgs st_letter_levels) (defBody st_letter_levels) (defScope st_letter_levels) .none kV_letter_levels dc_letter_levels pm_letter_levels an_letter_levels cd_letter_levels ct_letter_levels), sl_letter_levels⟩)
    (c_letter_levels : PySem.W.codeIn K cd_letter_levels "letter_levels" = true)
    (k_letter_levels : PySem.W.keepIn K (.ref a_letter_levels) = true)
    (g_is_word : PySem.W.nsIn K mainGlobals "is_word" = some (some (.ref a_is_word)))
    (l_is_word : K.lookup a_is_word = some ⟨oc_is_word, od_is_word, .func (PySem.W.fnOf "is_word" "is_word" (defArgs st_is_word) (defBody st_is_word) (defScope st_is_word) .none kV_is_word dc_is_word pm_is_word an_is_word cd_is_word ct_is_word), sl_is_word⟩)
    (c_is_word : PySem.W.codeIn K cd_is_word "is_word" = true)
    (k_is_word : PySem.W.keepIn K (.ref a_is_word) = true)
    (g_check_word : PySem.W.nsIn K mainGlobals "check_word" = some (some (.ref a_check_word)))
    (l_check_word : K.lookup a_check_word = some ⟨oc_check_word, od_check_word, .func (PySem.W.fnOf "check_word" "check_word" (defArgs st_check_word) (defBody st_check_word) (defScope st_check_word) .none kV_check_word dc_check_word pm_check_word an_check_word cd_check_word ct_check_word), sl_check_word⟩)
    (c_check_word : PySem.W.codeIn K cd_check_word "check_word" = true)
    (k_check_word : PySem.W.keepIn K (.ref a_check_word) = true)
    (g_put_round : PySem.W.nsIn K mainGlobals "put_round" = some (some (.ref a_put_round)))
    (l_put_round : K.lookup a_put_round = some ⟨oc_put_round, od_put_round, .func (PySem.W.fnOf "put_round" "put_round" (defArgs st_put_round) (defBody st_put_round) (defScope st_put_round) .none kV_put_round dc_put_round pm_put_round an_put_round cd_put_round ct_put_round), sl_put_round⟩)
    (c_put_round : PySem.W.codeIn K cd_put_round "put_round" = true)
    (k_put_round : PySem.W.keepIn K (.ref a_put_round) = true)
    (g_word_levels : PySem.W.nsIn K mainGlobals "word_levels" = some (some (.ref a_word_levels)))
    (l_word_levels : K.lookup a_word_levels = some ⟨oc_word_levels, od_word_levels, .func (PySem.W.fnOf "word_levels" "word_levels" (defArgs st_word_levels) (defBody st_word_levels) (defScope st_word_levels) .none kV_word_levels dc_word_levels pm_word_levels an_word_levels cd_word_levels ct_word_levels), sl_word_levels⟩)
    (c_word_levels : PySem.W.codeIn K cd_word_levels "word_levels" = true)
    (k_word_levels : PySem.W.keepIn K (.ref a_word_levels) = true)
    (g_lowest_places : PySem.W.nsIn K mainGlobals "lowest_places" = some (some (.ref a_lowest_places)))
    (l_lowest_places : K.lookup a_lowest_places = some ⟨oc_lowest_places, od_lowest_places, .func (PySem.W.fnOf "lowest_places" "lowest_places" (defArgs st_lowest_places) (defBody st_lowest_places) (defScope st_lowest_places) .none kV_lowest_places dc_lowest_places pm_lowest_places an_lowest_places cd_lowest_places ct_lowest_places), sl_lowest_places⟩)
    (c_lowest_places : PySem.W.codeIn K cd_lowest_places "lowest_places" = true)
    (k_lowest_places : PySem.W.keepIn K (.ref a_lowest_places) = true)
    (g_turned : PySem.W.nsIn K mainGlobals "turned" = some (some (.ref a_turned)))
    (l_turned : K.lookup a_turned = some ⟨oc_turned, od_turned, .func (PySem.W.fnOf "turned" "turned" (defArgs st_turned) (defBody st_turned) (defScope st_turned) .none kV_turned dc_turned pm_turned an_turned cd_turned ct_turned), sl_turned⟩)
    (c_turned : PySem.W.codeIn K cd_turned "turned" = true)
    (k_turned : PySem.W.keepIn K (.ref a_turned) = true)
    (g_period : PySem.W.nsIn K mainGlobals "period" = some (some (.ref a_period)))
    (l_period : K.lookup a_period = some ⟨oc_period, od_period, .func (PySem.W.fnOf "period" "period" (defArgs st_period) (defBody st_period) (defScope st_period) .none kV_period dc_period pm_period an_period cd_period ct_period), sl_period⟩)
    (c_period : PySem.W.codeIn K cd_period "period" = true)
    (k_period : PySem.W.keepIn K (.ref a_period) = true)
    (g_law_dice : PySem.W.nsIn K mainGlobals "_law_dice" = some (some (.ref a_law_dice)))
    (l_law_dice : K.lookup a_law_dice = some ⟨oc_law_dice, od_law_dice, .func (PySem.W.fnOf "_law_dice" "_law_dice" (defArgs st_law_dice) (defBody st_law_dice) (defScope st_law_dice) .none kV_law_dice dc_law_dice pm_law_dice an_law_dice cd_law_dice ct_law_dice), sl_law_dice⟩)
    (c_law_dice : PySem.W.codeIn K cd_law_dice "_law_dice" = true)
    (k_law_dice : PySem.W.keepIn K (.ref a_law_dice) = true)
    (g_law_roll : PySem.W.nsIn K mainGlobals "_law_roll" = some (some (.ref a_law_roll)))
    (l_law_roll : K.lookup a_law_roll = some ⟨oc_law_roll, od_law_roll, .func (PySem.W.fnOf "_law_roll" "_law_roll" (defArgs st_law_roll) (defBody st_law_roll) (defScope st_law_roll) .none kV_law_roll dc_law_roll pm_law_roll an_law_roll cd_law_roll ct_law_roll), sl_law_roll⟩)
    (c_law_roll : PySem.W.codeIn K cd_law_roll "_law_roll" = true)
    (k_law_roll : PySem.W.keepIn K (.ref a_law_roll) = true)
    (g_law_mixed : PySem.W.nsIn K mainGlobals "_law_mixed" = some (some (.ref a_law_mixed)))
    (l_law_mixed : K.lookup a_law_mixed = some ⟨oc_law_mixed, od_law_mixed, .func (PySem.W.fnOf "_law_mixed" "_law_mixed" (defArgs st_law_mixed) (defBody st_law_mixed) (defScope st_law_mixed) .none kV_law_mixed dc_law_mixed pm_law_mixed an_law_mixed cd_law_mixed ct_law_mixed), sl_law_mixed⟩)
    (c_law_mixed : PySem.W.codeIn K cd_law_mixed "_law_mixed" = true)
    (k_law_mixed : PySem.W.keepIn K (.ref a_law_mixed) = true)
    (g_law_levels : PySem.W.nsIn K mainGlobals "_law_levels" = some (some (.ref a_law_levels)))
    (l_law_levels : K.lookup a_law_levels = some ⟨oc_law_levels, od_law_levels, .func (PySem.W.fnOf "_law_levels" "_law_levels" (defArgs st_law_levels) (defBody st_law_levels) (defScope st_law_levels) .none kV_law_levels dc_law_levels pm_law_levels an_law_levels cd_law_levels ct_law_levels), sl_law_levels⟩)
    (c_law_levels : PySem.W.codeIn K cd_law_levels "_law_levels" = true)
    (k_law_levels : PySem.W.keepIn K (.ref a_law_levels) = true)
    (g_law_sides : PySem.W.nsIn K mainGlobals "_law_sides" = some (some (.ref a_law_sides)))
    (l_law_sides : K.lookup a_law_sides = some ⟨oc_law_sides, od_law_sides, .func (PySem.W.fnOf "_law_sides" "_law_sides" (defArgs st_law_sides) (defBody st_law_sides) (defScope st_law_sides) .none kV_law_sides dc_law_sides pm_law_sides an_law_sides cd_law_sides ct_law_sides), sl_law_sides⟩)
    (c_law_sides : PySem.W.codeIn K cd_law_sides "_law_sides" = true)
    (k_law_sides : PySem.W.keepIn K (.ref a_law_sides) = true)
    (g_law_word : PySem.W.nsIn K mainGlobals "_law_word" = some (some (.ref a_law_word)))
    (l_law_word : K.lookup a_law_word = some ⟨oc_law_word, od_law_word, .func (PySem.W.fnOf "_law_word" "_law_word" (defArgs st_law_word) (defBody st_law_word) (defScope st_law_word) .none kV_law_word dc_law_word pm_law_word an_law_word cd_law_word ct_law_word), sl_law_word⟩)
    (c_law_word : PySem.W.codeIn K cd_law_word "_law_word" = true)
    (k_law_word : PySem.W.keepIn K (.ref a_law_word) = true)
    (g_law_turn : PySem.W.nsIn K mainGlobals "_law_turn" = some (some (.ref a_law_turn)))
    (l_law_turn : K.lookup a_law_turn = some ⟨oc_law_turn, od_law_turn, .func (PySem.W.fnOf "_law_turn" "_law_turn" (defArgs st_law_turn) (defBody st_law_turn) (defScope st_law_turn) .none kV_law_turn dc_law_turn pm_law_turn an_law_turn cd_law_turn ct_law_turn), sl_law_turn⟩)
    (c_law_turn : PySem.W.codeIn K cd_law_turn "_law_turn" = true)
    (k_law_turn : PySem.W.keepIn K (.ref a_law_turn) = true)
    (g_law_period : PySem.W.nsIn K mainGlobals "_law_period" = some (some (.ref a_law_period)))
    (l_law_period : K.lookup a_law_period = some ⟨oc_law_period, od_law_period, .func (PySem.W.fnOf "_law_period" "_law_period" (defArgs st_law_period) (defBody st_law_period) (defScope st_law_period) .none kV_law_period dc_law_period pm_law_period an_law_period cd_law_period ct_law_period), sl_law_period⟩)
    (c_law_period : PySem.W.codeIn K cd_law_period "_law_period" = true)
    (k_law_period : PySem.W.keepIn K (.ref a_law_period) = true)
    (g_law_right : PySem.W.nsIn K mainGlobals "_law_right" = some (some (.ref a_law_right)))
    (l_law_right : K.lookup a_law_right = some ⟨oc_law_right, od_law_right, .func (PySem.W.fnOf "_law_right" "_law_right" (defArgs st_law_right) (defBody st_law_right) (defScope st_law_right) .none kV_law_right dc_law_right pm_law_right an_law_right cd_law_right ct_law_right), sl_law_right⟩)
    (c_law_right : PySem.W.codeIn K cd_law_right "_law_right" = true)
    (k_law_right : PySem.W.keepIn K (.ref a_law_right) = true)
    (g_law : PySem.W.nsIn K mainGlobals "law" = some (some (.ref a_law)))
    (l_law : K.lookup a_law = some ⟨oc_law, od_law, .func (PySem.W.fnOf "law" "law" (defArgs st_law) (defBody st_law) (defScope st_law) .none kV_law dc_law pm_law an_law cd_law ct_law), sl_law⟩)
    (c_law : PySem.W.codeIn K cd_law "law" = true)
    (k_law : PySem.W.keepIn K (.ref a_law) = true)
    (c1_Slope : PySem.W.plainGet K C_Slope Str.empty = true)
    (c2_Slope : PySem.W.hasDictIn K C_Slope = true)
    (c3_Slope : PySem.W.plainOver K C_Slope = true)
    (c4_Slope : PySem.W.findIn K (.ref C_Slope) "__setattr__" = some (some (.builtin "object.__setattr__")))
    (c5_Slope : PySem.W.makesIn K C_Slope = true)
    (c6_Slope : PySem.W.keepIn K (.ref C_Slope) = true)
    (na_Slope_rises : PySem.W.findIn K (.ref C_Slope) "_rises" = some none)
    (na_Slope_steps : PySem.W.findIn K (.ref C_Slope) "_steps" = some none)
    (na_Slope_common : PySem.W.findIn K (.ref C_Slope) "_common" = some none)
    (ic_Slope : PySem.W.findIn K (.ref C_Slope) "__class__" = some (some (.builtin "object.__class__")))
    (mr_Slope : PySem.W.mroIn K C_Slope (.type "object") = some true)
    (cg : PySem.W.specialIn K (.builtin "object.__class__") "__get__" = some (some (.builtin "getset_descriptor.__get__")))
    (ct : PySem.W.takesIn K (.builtin "object.__class__") = some true)
    (n_abs : PySem.W.nsIn K mainGlobals "abs" = some none)
    (n_bool : PySem.W.nsIn K mainGlobals "bool" = some none)
    (n_enumerate : PySem.W.nsIn K mainGlobals "enumerate" = some none)
    (n_int : PySem.W.nsIn K mainGlobals "int" = some none)
    (n_isinstance : PySem.W.nsIn K mainGlobals "isinstance" = some none)
    (n_len : PySem.W.nsIn K mainGlobals "len" = some none)
    (n_list : PySem.W.nsIn K mainGlobals "list" = some none)
    (n_max : PySem.W.nsIn K mainGlobals "max" = some none)
    (n_min : PySem.W.nsIn K mainGlobals "min" = some none)
    (n_range : PySem.W.nsIn K mainGlobals "range" = some none)
    (n_str : PySem.W.nsIn K mainGlobals "str" = some none)
    (n_tuple : PySem.W.nsIn K mainGlobals "tuple" = some none)
    (i_gcd : PySem.W.nsIn K mainGlobals "gcd" = some (some (.builtin "math.gcd")))
    (qc_MAX_SIDE : PySem.W.nsIn K mainGlobals "MAX_SIDE" = some (some (.int 60 t_MAX_SIDE)))
    : ∃ fd : FuncData, (∀ (s : Shared) (v : Value), BindsTo s fd ⟨[v], []⟩ [("_law_script", v)]) ∧ ∀ base : Heap, K.In base → base.Ns mainGlobals mg → FnOk l.prog w K mg base CX0 8 fa fd ["_law_script"] (spLaw K) := by
  have e : fa = a_law := Value.ref.inj (Option.some.inj (hfa.symm.trans (PySem.W.mg_of X G g_law)))
  rw [e]
  let T : Tx K mg := {
    C_Slope := C_Slope,
    a_is_number := a_is_number,
    d_is_number := _,
    F_is_number := fun_mk (st := st_is_number) l_is_number c_is_number k_is_number,
    b_is_number := (fun_mk (st := st_is_number) l_is_number c_is_number k_is_number).binds (ps := ["value"]) fun _ _ _ _ _ _ us hl => match us, hl with | [_], _ => rfl,
    g_is_number := PySem.W.mg_of X G g_is_number,
    a_is_whole_between := a_is_whole_between,
    d_is_whole_between := _,
    F_is_whole_between := fun_mk (st := st_is_whole_between) l_is_whole_between c_is_whole_between k_is_whole_between,
    b_is_whole_between := (fun_mk (st := st_is_whole_between) l_is_whole_between c_is_whole_between k_is_whole_between).binds (ps := ["value", "least", "most"]) fun _ _ _ _ _ _ us hl => match us, hl with | [_, _, _], _ => rfl,
    g_is_whole_between := PySem.W.mg_of X G g_is_whole_between,
    a_Slope_init := a_Slope_init,
    d_Slope_init := _,
    F_Slope_init := fun_mk (st := st_Slope_init) l_Slope_init c_Slope_init k_Slope_init,
    b_Slope_init := (fun_mk (st := st_Slope_init) l_Slope_init c_Slope_init k_Slope_init).binds (ps := ["self", "rises", "steps"]) fun _ _ _ _ _ _ us hl => match us, hl with | [_, _, _], _ => rfl,
    a_Slope_rises := a_Slope_rises,
    d_Slope_rises := _,
    F_Slope_rises := fun_mk (st := st_Slope_rises) l_Slope_rises c_Slope_rises k_Slope_rises,
    b_Slope_rises := (fun_mk (st := st_Slope_rises) l_Slope_rises c_Slope_rises k_Slope_rises).binds (ps := ["self"]) fun _ _ _ _ _ _ us hl => match us, hl with | [_], _ => rfl,
    a_Slope_steps := a_Slope_steps,
    d_Slope_steps := _,
    F_Slope_steps := fun_mk (st := st_Slope_steps) l_Slope_steps c_Slope_steps k_Slope_steps,
    b_Slope_steps := (fun_mk (st := st_Slope_steps) l_Slope_steps c_Slope_steps k_Slope_steps).binds (ps := ["self"]) fun _ _ _ _ _ _ us hl => match us, hl with | [_], _ => rfl,
    a_Slope_common := a_Slope_common,
    d_Slope_common := _,
    F_Slope_common := fun_mk (st := st_Slope_common) l_Slope_common c_Slope_common k_Slope_common,
    b_Slope_common := (fun_mk (st := st_Slope_common) l_Slope_common c_Slope_common k_Slope_common).binds (ps := ["self"]) fun _ _ _ _ _ _ us hl => match us, hl with | [_], _ => rfl,
    a_check_slope := a_check_slope,
    d_check_slope := _,
    F_check_slope := fun_mk (st := st_check_slope) l_check_slope c_check_slope k_check_slope,
    b_check_slope := (fun_mk (st := st_check_slope) l_check_slope c_check_slope k_check_slope).binds (ps := ["slope"]) fun _ _ _ _ _ _ us hl => match us, hl with | [_], _ => rfl,
    g_check_slope := PySem.W.mg_of X G g_check_slope,
    a_letter_levels := a_letter_levels,
    d_letter_levels := _,
    F_letter_levels := fun_mk (st := st_letter_levels) l_letter_levels c_letter_levels k_letter_levels,
    b_letter_levels := (fun_mk (st := st_letter_levels) l_letter_levels c_letter_levels k_letter_levels).binds (ps := ["slope", "text"]) fun _ _ _ _ _ _ us hl => match us, hl with | [_, _], _ => rfl,
    g_letter_levels := PySem.W.mg_of X G g_letter_levels,
    a_is_word := a_is_word,
    d_is_word := _,
    F_is_word := fun_mk (st := st_is_word) l_is_word c_is_word k_is_word,
    b_is_word := (fun_mk (st := st_is_word) l_is_word c_is_word k_is_word).binds (ps := ["slope", "value"]) fun _ _ _ _ _ _ us hl => match us, hl with | [_, _], _ => rfl,
    g_is_word := PySem.W.mg_of X G g_is_word,
    a_check_word := a_check_word,
    d_check_word := _,
    F_check_word := fun_mk (st := st_check_word) l_check_word c_check_word k_check_word,
    b_check_word := (fun_mk (st := st_check_word) l_check_word c_check_word k_check_word).binds (ps := ["slope", "text"]) fun _ _ _ _ _ _ us hl => match us, hl with | [_, _], _ => rfl,
    g_check_word := PySem.W.mg_of X G g_check_word,
    a_put_round := a_put_round,
    d_put_round := _,
    F_put_round := fun_mk (st := st_put_round) l_put_round c_put_round k_put_round,
    b_put_round := (fun_mk (st := st_put_round) l_put_round c_put_round k_put_round).binds (ps := ["text", "number"]) fun _ _ _ _ _ _ us hl => match us, hl with | [_, _], _ => rfl,
    g_put_round := PySem.W.mg_of X G g_put_round,
    a_word_levels := a_word_levels,
    d_word_levels := _,
    F_word_levels := fun_mk (st := st_word_levels) l_word_levels c_word_levels k_word_levels,
    b_word_levels := (fun_mk (st := st_word_levels) l_word_levels c_word_levels k_word_levels).binds (ps := ["slope", "text"]) fun _ _ _ _ _ _ us hl => match us, hl with | [_, _], _ => rfl,
    g_word_levels := PySem.W.mg_of X G g_word_levels,
    a_lowest_places := a_lowest_places,
    d_lowest_places := _,
    F_lowest_places := fun_mk (st := st_lowest_places) l_lowest_places c_lowest_places k_lowest_places,
    b_lowest_places := (fun_mk (st := st_lowest_places) l_lowest_places c_lowest_places k_lowest_places).binds (ps := ["slope", "text"]) fun _ _ _ _ _ _ us hl => match us, hl with | [_, _], _ => rfl,
    g_lowest_places := PySem.W.mg_of X G g_lowest_places,
    a_turned := a_turned,
    d_turned := _,
    F_turned := fun_mk (st := st_turned) l_turned c_turned k_turned,
    b_turned := (fun_mk (st := st_turned) l_turned c_turned k_turned).binds (ps := ["slope", "text", "number"]) fun _ _ _ _ _ _ us hl => match us, hl with | [_, _, _], _ => rfl,
    g_turned := PySem.W.mg_of X G g_turned,
    a_period := a_period,
    d_period := _,
    F_period := fun_mk (st := st_period) l_period c_period k_period,
    b_period := (fun_mk (st := st_period) l_period c_period k_period).binds (ps := ["slope", "text"]) fun _ _ _ _ _ _ us hl => match us, hl with | [_, _], _ => rfl,
    g_period := PySem.W.mg_of X G g_period,
    a_law_dice := a_law_dice,
    d_law_dice := _,
    F_law_dice := fun_mk (st := st_law_dice) l_law_dice c_law_dice k_law_dice,
    b_law_dice := (fun_mk (st := st_law_dice) l_law_dice c_law_dice k_law_dice).binds (ps := ["_law_script", "_law_spot"]) fun _ _ _ _ _ _ us hl => match us, hl with | [_, _], _ => rfl,
    g_law_dice := PySem.W.mg_of X G g_law_dice,
    a_law_roll := a_law_roll,
    d_law_roll := _,
    F_law_roll := fun_mk (st := st_law_roll) l_law_roll c_law_roll k_law_roll,
    b_law_roll := (fun_mk (st := st_law_roll) l_law_roll c_law_roll k_law_roll).binds (ps := ["_law_dice_here", "_law_total"]) fun _ _ _ _ _ _ us hl => match us, hl with | [_, _], _ => rfl,
    g_law_roll := PySem.W.mg_of X G g_law_roll,
    a_law_mixed := a_law_mixed,
    d_law_mixed := _,
    F_law_mixed := fun_mk (st := st_law_mixed) l_law_mixed c_law_mixed k_law_mixed,
    b_law_mixed := (fun_mk (st := st_law_mixed) l_law_mixed c_law_mixed k_law_mixed).binds (ps := ["_law_dice_here", "_law_items"]) fun _ _ _ _ _ _ us hl => match us, hl with | [_, _], _ => rfl,
    g_law_mixed := PySem.W.mg_of X G g_law_mixed,
    a_law_levels := a_law_levels,
    d_law_levels := _,
    F_law_levels := fun_mk (st := st_law_levels) l_law_levels c_law_levels k_law_levels,
    b_law_levels := (fun_mk (st := st_law_levels) l_law_levels c_law_levels k_law_levels).binds (ps := ["_law_rises", "_law_steps", "_law_text"]) fun _ _ _ _ _ _ us hl => match us, hl with | [_, _, _], _ => rfl,
    g_law_levels := PySem.W.mg_of X G g_law_levels,
    a_law_sides := a_law_sides,
    d_law_sides := _,
    F_law_sides := fun_mk (st := st_law_sides) l_law_sides c_law_sides k_law_sides,
    b_law_sides := (fun_mk (st := st_law_sides) l_law_sides c_law_sides k_law_sides).binds (ps := ["_law_dice_here", "_law_most"]) fun _ _ _ _ _ _ us hl => match us, hl with | [_, _], _ => rfl,
    g_law_sides := PySem.W.mg_of X G g_law_sides,
    a_law_word := a_law_word,
    d_law_word := _,
    F_law_word := fun_mk (st := st_law_word) l_law_word c_law_word k_law_word,
    b_law_word := (fun_mk (st := st_law_word) l_law_word c_law_word k_law_word).binds (ps := ["_law_dice_here", "_law_rises", "_law_steps"]) fun _ _ _ _ _ _ us hl => match us, hl with | [_, _, _], _ => rfl,
    g_law_word := PySem.W.mg_of X G g_law_word,
    a_law_turn := a_law_turn,
    d_law_turn := _,
    F_law_turn := fun_mk (st := st_law_turn) l_law_turn c_law_turn k_law_turn,
    b_law_turn := (fun_mk (st := st_law_turn) l_law_turn c_law_turn k_law_turn).binds (ps := ["_law_text", "_law_times"]) fun _ _ _ _ _ _ us hl => match us, hl with | [_, _], _ => rfl,
    g_law_turn := PySem.W.mg_of X G g_law_turn,
    a_law_period := a_law_period,
    d_law_period := _,
    F_law_period := fun_mk (st := st_law_period) l_law_period c_law_period k_law_period,
    b_law_period := (fun_mk (st := st_law_period) l_law_period c_law_period k_law_period).binds (ps := ["_law_text"]) fun _ _ _ _ _ _ us hl => match us, hl with | [_], _ => rfl,
    g_law_period := PySem.W.mg_of X G g_law_period,
    a_law_right := a_law_right,
    d_law_right := _,
    F_law_right := fun_mk (st := st_law_right) l_law_right c_law_right k_law_right,
    b_law_right := (fun_mk (st := st_law_right) l_law_right c_law_right k_law_right).binds (ps := ["_law_dice_here", "_law_most"]) fun _ _ _ _ _ _ us hl => match us, hl with | [_, _], _ => rfl,
    g_law_right := PySem.W.mg_of X G g_law_right,
    a_law := a_law,
    d_law := _,
    F_law := fun_mk (st := st_law) l_law c_law k_law,
    b_law := (fun_mk (st := st_law) l_law c_law k_law).binds (ps := ["_law_script"]) fun _ _ _ _ _ _ us hl => match us, hl with | [_], _ => rfl,
    g_law := PySem.W.mg_of X G g_law,
    g_Slope := PySem.W.mg_of X G g_Slope,
    cl_Slope := ⟨c1_Slope, c2_Slope, c3_Slope, c4_Slope⟩,
    na_Slope_rises := na_Slope_rises,
    na_Slope_steps := na_Slope_steps,
    na_Slope_common := na_Slope_common,
    mk_Slope := ⟨c5_Slope, m_Slope_init, f_Slope_init, c6_Slope⟩,
    p_Slope_rises := p_Slope_rises,
    pr_Slope_rises := ⟨pa_Slope_rises, pg_Slope_rises, pt_Slope_rises, ⟨_, pq_Slope_rises⟩⟩,
    p_Slope_steps := p_Slope_steps,
    pr_Slope_steps := ⟨pa_Slope_steps, pg_Slope_steps, pt_Slope_steps, ⟨_, pq_Slope_steps⟩⟩,
    p_Slope_common := p_Slope_common,
    pr_Slope_common := ⟨pa_Slope_common, pg_Slope_common, pt_Slope_common, ⟨_, pq_Slope_common⟩⟩,
    ic_Slope := ic_Slope,
    mr_Slope := mr_Slope,
    ks_Slope := Sx.kit_self,
    cg := cg,
    ct := ct,
    n_abs := PySem.W.mg_none_of X G n_abs,
    n_bool := PySem.W.mg_none_of X G n_bool,
    n_enumerate := PySem.W.mg_none_of X G n_enumerate,
    n_int := PySem.W.mg_none_of X G n_int,
    n_isinstance := PySem.W.mg_none_of X G n_isinstance,
    n_len := PySem.W.mg_none_of X G n_len,
    n_list := PySem.W.mg_none_of X G n_list,
    n_max := PySem.W.mg_none_of X G n_max,
    n_min := PySem.W.mg_none_of X G n_min,
    n_range := PySem.W.mg_none_of X G n_range,
    n_str := PySem.W.mg_none_of X G n_str,
    n_tuple := PySem.W.mg_none_of X G n_tuple,
    i_gcd := PySem.W.mg_of X G i_gcd,
    c_MAX_SIDE := ⟨_, PySem.W.mg_of X G qc_MAX_SIDE, ⟨_, rfl⟩⟩
  }
  exact ⟨_, fun s v => .of_eq rfl, fun base _ _ => ok_law T⟩
theorem walk {l : PySem.W.OpenLaw} {q : Program} {loose : List Str} {XP : (Str → Option Value) → Heap → Prop} {YP : World → Heap → Prop} {d : DefRec} {K : Params → PySem.W.Frag} (hn : l.most = some 63) (hdf : d.params.defaults = [])
    (hY : ∀ (w : World) (h : Heap), YP w h → (K w.params).In h)
    (F : ∀ (w : World) (mg : Str → Option Value) (fa : Addr) (h : Heap), (K w.params).In h → h.Ns mainGlobals mg → mg d.name = some (.ref fa) →
      ∃ fd : FuncData, (∀ (s : Shared) (u : Value), BindsTo s fd ⟨[u], []⟩ [("_law_script", u)]) ∧ ∀ base : Heap, (K w.params).In base → base.Ns mainGlobals mg → FnOk l.prog w (K w.params) mg base CX0 8 fa fd ["_law_script"] (spLaw (K w.params))) :
    PySem.W.WalkO q loose XP YP l.row.toRowW d [] (fun f vs => PySem.call f vs) :=
  L2.walk_of (n := 63) (k := 8) (x := "_law_script") (CX := fun _ => CX0) (sp := fun w => spLaw (K w.params)) hn (by decide) hdf ⟨rfl, by decide, by decide⟩ hY F (fun _ _ a ns hl _ hS => ⟨a, ns, rfl, hS, hl, fun _ => rfl⟩) fun _ _ _ _ _ z => z
end Lw
open PySem PySem.W PyProof.Rows
set_option maxRecDepth 100000 in
set_option maxHeartbeats 0 in
theorem PySem.Challenge.cw_slantways_k07_turned_words_and_their_lev_holds : PySem.Challenge.rw_slantways_k07_turned_words_and_their_lev.Holds := by
  w_on; o_law; k_head; (case hw => w_witness2)
  k_fill
  refine Lw.walk (l := PySem.Challenge.rw_slantways_k07_turned_words_and_their_lev) rfl rfl (fun w h Y => PySem.W.kIn_of Y) ?F
  case F =>
    intro w mg fa h KX G hmg
    refine' Lw.all_mk KX G hmg ?g_Slope ?g_is_number ?l_is_number ?c_is_number ?k_is_number ?g_is_whole_between ?l_is_whole_between ?c_is_whole_between ?k_is_whole_between ?m_Slope_init ?f_Slope_init ?l_Slope_init ?c_Slope_init ?k_Slope_init ?pa_Slope_rises ?pg_Slope_rises ?pt_Slope_rises ?pq_Slope_rises ?l_Slope_rises ?c_Slope_rises ?k_Slope_rises ?pa_Slope_steps ?pg_Slope_steps ?pt_Slope_steps ?pq_Slope_steps ?l_Slope_steps ?c_Slope_steps ?k_Slope_steps ?pa_Slope_common ?pg_Slope_common ?pt_Slope_common ?pq_Slope_common ?l_Slope_common ?c_Slope_common ?k_Slope_common ?g_check_slope ?l_check_slope ?c_check_slope ?k_check_slope ?g_letter_levels ?l_letter_levels ?c_letter_levels ?k_letter_levels ?g_is_word ?l_is_word ?c_is_word ?k_is_word ?g_check_word ?l_check_word ?c_check_word ?k_check_word ?g_put_round ?l_put_round ?c_put_round ?k_put_round ?g_word_levels ?l_word_levels ?c_word_levels ?k_word_levels ?g_lowest_places ?l_lowest_places ?c_lowest_places ?k_lowest_places ?g_turned ?l_turned ?c_turned ?k_turned ?g_period ?l_period ?c_period ?k_period ?g_law_dice ?l_law_dice ?c_law_dice ?k_law_dice ?g_law_roll ?l_law_roll ?c_law_roll ?k_law_roll ?g_law_mixed ?l_law_mixed ?c_law_mixed ?k_law_mixed ?g_law_levels ?l_law_levels ?c_law_levels ?k_law_levels ?g_law_sides ?l_law_sides ?c_law_sides ?k_law_sides ?g_law_word ?l_law_word ?c_law_word ?k_law_word ?g_law_turn ?l_law_turn ?c_law_turn ?k_law_turn ?g_law_period ?l_law_period ?c_law_period ?k_law_period ?g_law_right ?l_law_right ?c_law_right ?k_law_right ?g_law ?l_law ?c_law ?k_law ?c1_Slope ?c2_Slope ?c3_Slope ?c4_Slope ?c5_Slope ?c6_Slope ?na_Slope_rises ?na_Slope_steps ?na_Slope_common ?ic_Slope ?mr_Slope ?cg ?ct ?n_abs ?n_bool ?n_enumerate ?n_int ?n_isinstance ?n_len ?n_list ?n_max ?n_min ?n_range ?n_str ?n_tuple ?i_gcd ?qc_MAX_SIDE
    (case g_Slope => k_is)
    (case g_is_number => k_is)
    (case l_is_number => k_is)
    (case c_is_number => k_is)
    (case k_is_number => k_is)
    (case g_is_whole_between => k_is)
    (case l_is_whole_between => k_is)
    (case c_is_whole_between => k_is)
    (case k_is_whole_between => k_is)
    (case m_Slope_init => k_is)
    (case f_Slope_init => k_is)
    (case l_Slope_init => k_is)
    (case c_Slope_init => k_is)
    (case k_Slope_init => k_is)
    (case pa_Slope_rises => k_is)
    (case pg_Slope_rises => k_is)
    (case pt_Slope_rises => k_is)
    (case pq_Slope_rises => k_is)
    (case l_Slope_rises => k_is)
    (case c_Slope_rises => k_is)
    (case k_Slope_rises => k_is)
    (case pa_Slope_steps => k_is)
    (case pg_Slope_steps => k_is)
    (case pt_Slope_steps => k_is)
    (case pq_Slope_steps => k_is)
    (case l_Slope_steps => k_is)
    (case c_Slope_steps => k_is)
    (case k_Slope_steps => k_is)
    (case pa_Slope_common => k_is)
    (case pg_Slope_common => k_is)
    (case pt_Slope_common => k_is)
    (case pq_Slope_common => k_is)
    (case l_Slope_common => k_is)
    (case c_Slope_common => k_is)
    (case k_Slope_common => k_is)
    (case g_check_slope => k_is)
    (case l_check_slope => k_is)
    (case c_check_slope => k_is)
    (case k_check_slope => k_is)
    (case g_letter_levels => k_is)
    (case l_letter_levels => k_is)
    (case c_letter_levels => k_is)
    (case k_letter_levels => k_is)
    (case g_is_word => k_is)
    (case l_is_word => k_is)
    (case c_is_word => k_is)
    (case k_is_word => k_is)
    (case g_check_word => k_is)
    (case l_check_word => k_is)
    (case c_check_word => k_is)
    (case k_check_word => k_is)
    (case g_put_round => k_is)
    (case l_put_round => k_is)
    (case c_put_round => k_is)
    (case k_put_round => k_is)
    (case g_word_levels => k_is)
    (case l_word_levels => k_is)
    (case c_word_levels => k_is)
    (case k_word_levels => k_is)
    (case g_lowest_places => k_is)
    (case l_lowest_places => k_is)
    (case c_lowest_places => k_is)
    (case k_lowest_places => k_is)
    (case g_turned => k_is)
    (case l_turned => k_is)
    (case c_turned => k_is)
    (case k_turned => k_is)
    (case g_period => k_is)
    (case l_period => k_is)
    (case c_period => k_is)
    (case k_period => k_is)
    (case g_law_dice => k_is)
    (case l_law_dice => k_is)
    (case c_law_dice => k_is)
    (case k_law_dice => k_is)
    (case g_law_roll => k_is)
    (case l_law_roll => k_is)
    (case c_law_roll => k_is)
    (case k_law_roll => k_is)
    (case g_law_mixed => k_is)
    (case l_law_mixed => k_is)
    (case c_law_mixed => k_is)
    (case k_law_mixed => k_is)
    (case g_law_levels => k_is)
    (case l_law_levels => k_is)
    (case c_law_levels => k_is)
    (case k_law_levels => k_is)
    (case g_law_sides => k_is)
    (case l_law_sides => k_is)
    (case c_law_sides => k_is)
    (case k_law_sides => k_is)
    (case g_law_word => k_is)
    (case l_law_word => k_is)
    (case c_law_word => k_is)
    (case k_law_word => k_is)
    (case g_law_turn => k_is)
    (case l_law_turn => k_is)
    (case c_law_turn => k_is)
    (case k_law_turn => k_is)
    (case g_law_period => k_is)
    (case l_law_period => k_is)
    (case c_law_period => k_is)
    (case k_law_period => k_is)
    (case g_law_right => k_is)
    (case l_law_right => k_is)
    (case c_law_right => k_is)
    (case k_law_right => k_is)
    (case g_law => k_is)
    (case l_law => k_is)
    (case c_law => k_is)
    (case k_law => k_is)
    (case c1_Slope => k_is)
    (case c2_Slope => k_is)
    (case c3_Slope => k_is)
    (case c4_Slope => k_is)
    (case c5_Slope => k_is)
    (case c6_Slope => k_is)
    (case na_Slope_rises => k_is)
    (case na_Slope_steps => k_is)
    (case na_Slope_common => k_is)
    (case ic_Slope => k_is)
    (case mr_Slope => k_is)
    (case cg => k_is)
    (case ct => k_is)
    (case n_abs => k_is)
    (case n_bool => k_is)
    (case n_enumerate => k_is)
    (case n_int => k_is)
    (case n_isinstance => k_is)
    (case n_len => k_is)
    (case n_list => k_is)
    (case n_max => k_is)
    (case n_min => k_is)
    (case n_range => k_is)
    (case n_str => k_is)
    (case n_tuple => k_is)
    (case i_gcd => k_is)
    (case qc_MAX_SIDE => k_is)
