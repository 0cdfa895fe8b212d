import PyProof.Rows.All
import Wide.All
import OpenK.AllK
import Wide.FinOn
import HandS.ForMost
import HandS.Wide
import HandS.Gcd
import HandS.Property
import HandS.IsInst
import HandS.Codes
import HandS.TupAny
import HandS.Style
import HandS.RaiseMore
import HandS.SortInts
import HandS.StrMore
import HandS.Conv
import HandS.Zip
import HandS.Rev
import HandS.FStr
import KE.GoesEnum
import PyProof.ListStr
import PyProof.StrOps2
import HandS.Iter
import HandS.Walk
import HandS.SlotsOwn
import KE.LtData
import PyProof.Rows.StrRev
import OpenK.KMeth
import OpenK.KOps
import KE.KOpsOwn
import KE.KCallOwn
import KE.KFmtOwn
import HandS.DictComp
import HandS.Defaults
import HandS.ClsMeth
import HandS.More
import KE.KEqDict
import PyProof.CollectStr
import KE.KSortAsk
import KE.SortCalls
import KE.SortData
import HandS.SortOrd
import KE.GoesMore
import HandS.SetKeys
import HandS.SortKw
import KE.KExcInit
import HandS.ExcInit
import HandS.ExcField
import HandS.ExcOwn
import HandS.Lambda
import HandS.EndTab
import KE.KNestM
import HandS.TryMany
import HandS.Exc
import PySem.Challenge.RW_slantways_k35_levels_and_orders
set_option Elab.async false
set_option linter.all false
set_option maxRecDepth 100000
set_option maxHeartbeats 4000000
/-! Sx: small steps over readings, heaps that only grow, dice. -/
namespace Sx
open PySem PySem.Spec PyProof.Rows L2

/-! ### the built-ins by name -/
theorem bt_len : bootBuiltins "len" = some (.builtin "len") := by decide +kernel
theorem bt_abs : bootBuiltins "abs" = some (.builtin "abs") := by decide +kernel
theorem bt_max : bootBuiltins "max" = some (.builtin "max") := by decide +kernel
theorem bt_min : bootBuiltins "min" = some (.builtin "min") := by decide +kernel
theorem bt_sum : bootBuiltins "sum" = some (.builtin "sum") := by decide +kernel
theorem bt_any : bootBuiltins "any" = some (.builtin "any") := by decide +kernel
theorem bt_all : bootBuiltins "all" = some (.builtin "all") := by decide +kernel
theorem bt_sorted : bootBuiltins "sorted" = some (.builtin "sorted") := by decide +kernel
theorem bt_isinstance : bootBuiltins "isinstance" = some (.builtin "isinstance") := by decide +kernel
theorem bt_ord : bootBuiltins "ord" = some (.builtin "ord") := by decide +kernel
theorem bt_chr : bootBuiltins "chr" = some (.builtin "chr") := by decide +kernel
theorem bt_repr : bootBuiltins "repr" = some (.builtin "repr") := by decide +kernel
theorem bt_int : bootBuiltins "int" = some (.type "int") := by decide +kernel
theorem bt_str : bootBuiltins "str" = some (.type "str") := by decide +kernel
theorem bt_bool : bootBuiltins "bool" = some (.type "bool") := by decide +kernel
theorem bt_list : bootBuiltins "list" = some (.type "list") := by decide +kernel
theorem bt_tuple : bootBuiltins "tuple" = some (.type "tuple") := by decide +kernel
theorem bt_range : bootBuiltins "range" = some (.type "range") := by decide +kernel

/-! ### steps: one lemma for each head of a reading -/
section
variable {σ : L2.St} {H : Hp} {nx bk ct : L2.St → Hp → Prop} {rt Q : VK} {ta tb tc te : TE} {tt uu : TT} {t u : TS} {tl : TA} {x y v : V} {r : R2}
theorem r_st {t : TS} {D : Ends} {σ σ' : L2.St} {H : Hp} (e : σ = σ') (h : t D σ' H) : t D σ H := by rw [e]; exact h
theorem r_seq (h : t ⟨u ⟨nx, rt, bk, ct⟩, rt, bk, ct⟩ σ H) : tSeq t u ⟨nx, rt, bk, ct⟩ σ H := h
theorem r_next (h : nx σ H) : tNext ⟨nx, rt, bk, ct⟩ σ H := h
theorem r_break (h : bk σ H) : tBreak ⟨nx, rt, bk, ct⟩ σ H := h
theorem r_cont (h : ct σ H) : tCont ⟨nx, rt, bk, ct⟩ σ H := h
theorem r_asg {g : TG} (h : te σ H fun x H1 => g x σ H1 nx) : tAsg te g ⟨nx, rt, bk, ct⟩ σ H := h
theorem r_name {i : Nat} {k : L2.St → Hp → Prop} (h : k (σ.set i (some v)) H) : gName i v σ H k := h
theorem r_ret (h : te σ H rt) : tRet te ⟨nx, rt, bk, ct⟩ σ H := h
theorem r_retN (h : rt .non H) : tRetN ⟨nx, rt, bk, ct⟩ σ H := h
theorem r_drop (h : te σ H fun _ H1 => nx σ H1) : tDrop te ⟨nx, rt, bk, ct⟩ σ H := h
theorem r_ifs (h : tt σ H fun b H1 => if b = true then t ⟨nx, rt, bk, ct⟩ σ H1 else u ⟨nx, rt, bk, ct⟩ σ H1) : tIfS tt t u ⟨nx, rt, bk, ct⟩ σ H := h
theorem r_par {i j : Nat} (h : tl σ H fun vs H1 => ∃ v w, vs = [v, w] ∧ nx ((σ.set i (some v)).set j (some w)) H1) : tPar i j tl ⟨nx, rt, bk, ct⟩ σ H := h
theorem r_par3 {i j l : Nat} (h : tl σ H fun vs H1 => ∃ u v w, vs = [u, v, w] ∧ nx (((σ.set i (some u)).set j (some v)).set l (some w)) H1) : tPar3 i j l tl ⟨nx, rt, bk, ct⟩ σ H := h
theorem r_two {P : V → V → Prop} {a b : V} (h : P a b) : ∃ v w, [a, b] = [v, w] ∧ P v w := ⟨a, b, rfl, h⟩
theorem r_three {P : V → V → V → Prop} {a b c : V} (h : P a b c) : ∃ u v w, [a, b, c] = [u, v, w] ∧ P u v w := ⟨a, b, c, rfl, h⟩
theorem r_var {i : Nat} (e : σ[i]? = some (some v)) (h : Q v H) : tVar i σ H Q := ⟨v, e, h⟩
theorem r_c (h : Q v H) : tC v σ H Q := h
theorem r_op (h : ta σ H fun x H1 => tb σ H1 fun y H2 => r x y H2 Q) : tOp r ta tb σ H Q := h
theorem r_un {f : V → Hp → VK → Prop} (h : ta σ H fun x H1 => f x H1 Q) : tUn f ta σ H Q := h
theorem r_I0 {g : Int → Int → V} {i j : Int} (h : Q (g i j) H) : rI0 g (.int i) (.int j) H Q := ⟨i, j, rfl, rfl, h⟩
theorem r_I {C : Int → Int → Prop} {g : Int → Int → V} {i j : Int} (hc : C i j) (h : Q (g i j) H) : rI C g (.int i) (.int j) H Q := ⟨i, j, rfl, rfl, hc, h⟩
theorem r_U {g : Int → V} {i : Int} (h : Q (g i) H) : rU g (.int i) H Q := ⟨i, rfl, h⟩
theorem dI {i j : Int} : decide (V.int i = V.int j) = decide (i = j) := by simp
theorem dS {i j : Str} : decide (V.str i = V.str j) = decide (i = j) := by simp
theorem dB {i j : Bool} : decide (V.bl i = V.bl j) = decide (i = j) := by simp
theorem r_eqI {i j : Int} (h : Q (.bl (decide (i = j))) H) : rEq (.int i) (.int j) H Q := ⟨rfl, by rw [dI]; exact h⟩
theorem r_neI {i j : Int} (h : Q (.bl (!decide (i = j))) H) : rNe (.int i) (.int j) H Q := ⟨rfl, by rw [dI]; exact h⟩
theorem r_eqS {i j : Str} (h : Q (.bl (decide (i = j))) H) : rEq (.str i) (.str j) H Q := ⟨rfl, by rw [dS]; exact h⟩
theorem r_neS {i j : Str} (h : Q (.bl (!decide (i = j))) H) : rNe (.str i) (.str j) H Q := ⟨rfl, by rw [dS]; exact h⟩
theorem r_eqB {i j : Bool} (h : Q (.bl (decide (i = j))) H) : rEq (.bl i) (.bl j) H Q := ⟨rfl, by rw [dB]; exact h⟩
theorem r_neB {i j : Bool} (h : Q (.bl (!decide (i = j))) H) : rNe (.bl i) (.bl j) H Q := ⟨rfl, by rw [dB]; exact h⟩
theorem r_test {Q : Bool → Hp → Prop} (h : ta σ H fun x H1 => ∃ k, x = .bl k ∧ Q k H1) : tTest ta σ H Q := h
theorem r_B {Q : Bool → Hp → Prop} (h : ta σ H fun x H1 => ∃ k, x = .bl k ∧ Q k H1) : tB ta σ H Q := h
theorem r_bl {P : Bool → Prop} {b : Bool} (h : P b) : ∃ k, V.bl b = .bl k ∧ P k := ⟨b, rfl, h⟩
theorem r_and {Q : Bool → Hp → Prop} (h : tt σ H fun c H1 => if c = true then uu σ H1 Q else Q false H1) : tAnd tt uu σ H Q := h
theorem r_or {Q : Bool → Hp → Prop} (h : tt σ H fun c H1 => if c = true then Q true H1 else uu σ H1 Q) : tOr tt uu σ H Q := h
theorem r_not {Q : Bool → Hp → Prop} (h : tt σ H fun c H1 => Q (!c) H1) : tNot tt σ H Q := h
theorem r_andV (h : ta σ H fun x H1 => ∃ c, x = .bl c ∧ if c = true then tb σ H1 Q else Q (.bl false) H1) : tAndV ta tb σ H Q := h
theorem r_orV (h : ta σ H fun x H1 => ∃ c, x = .bl c ∧ if c = true then Q (.bl true) H1 else tb σ H1 Q) : tOrV ta tb σ H Q := h
theorem r_notV (h : ta σ H fun x H1 => ∃ c, x = .bl c ∧ Q (.bl (!c)) H1) : tNotV ta σ H Q := h
theorem r_ifE (h : tt σ H fun c H1 => if c = true then ta σ H1 Q else tb σ H1 Q) : tIf tt ta tb σ H Q := h
theorem r_chain {r r' : R2} (h : ta σ H fun x H1 => tb σ H1 fun y H2 => r x y H2 fun z H3 => ∃ k, z = .bl k ∧ (if k = true then tc σ H3 fun w' H4 => r' y w' H4 Q else Q (.bl false) H3)) : tChain r r' ta tb tc σ H Q := h
theorem r_nil {Q : List V → Hp → Prop} (h : Q [] H) : tNil σ H Q := h
theorem r_cons {Q : List V → Hp → Prop} (h : ta σ H fun x H1 => tl σ H1 fun xs H2 => Q (x :: xs) H2) : tCons ta tl σ H Q := h
theorem r_call {sp : Sp} {E : XK} (h : tl σ H fun vs H1 => sp (vs ++ []) H1 Q E) : tCall sp [] E tl σ H Q := h
theorem r_cb {f : List V → Hp → VK → Prop} (h : tl σ H fun vs H1 => f vs H1 Q) : tCB f tl σ H Q := h
def MakeP (C : Addr) (sp : Sp) (E : XK) (vs : List V) (H1 : Hp) (Q : VK) : Prop := ∀ x dx, H1 x = none → H1 dx = none → dx ≠ x → sp (.ref x :: (vs ++ [])) (upd (upd H1 dx (.own x)) x (.ins C dx [])) (fun v H2 => v = .non ∧ Q (.ref x) H2) E
theorem r_make {C : Addr} {sp : Sp} {E : XK} (h : tl σ H fun vs H1 => MakeP C sp E vs H1 Q) : tMake C sp [] E tl σ H Q := h
theorem r_tup (h : tl σ H fun xs H1 => xs.length ≤ sizeLine ∧ ∀ p, H1 p = none → Q (.ref p) (upd H1 p (.tup xs))) : tTup tl σ H Q := h
theorem r_lst (h : tl σ H fun xs H1 => xs.length ≤ sizeLine ∧ ∀ p, H1 p = none → Q (.ref p) (upd H1 p (.lst xs))) : tLst tl σ H Q := h
theorem r_prop {C : Addr} {sp : Sp} {E : XK} {dx a : Addr} {fs : List (Str × V)} (e : H a = some (.ins C dx fs)) (h : sp [.ref a] H Q E) : ∃ a' dx fs, V.ref a = .ref a' ∧ H a' = some (.ins C dx fs) ∧ sp (.ref a' :: []) H Q E := ⟨a, dx, fs, rfl, e, h⟩
theorem r_tprop {C : Addr} {sp : Sp} {E : XK} (h : ta σ H fun x H1 => ∃ a dx fs, x = .ref a ∧ H1 a = some (.ins C dx fs) ∧ sp (.ref a :: []) H1 Q E) : tProp C sp [] E ta σ H Q := h
theorem r_meth {C : Addr} {m : Str} {sp : Sp} {E : XK} (h : ta σ H fun x H1 => ∃ a dx fs, x = .ref a ∧ H1 a = some (.ins C dx fs) ∧ fs.lookup m = none ∧ tl σ H1 fun vs H2 => sp (x :: (vs ++ [])) H2 Q E) : tMeth C m sp [] E ta tl σ H Q := h
theorem r_getSp {C : Addr} {f : Str} {E : XK} {a dx : Addr} {fs : List (Str × V)} (e : H a = some (.ins C dx fs)) (l : fs.lookup f = some v) (h : Q v H) : getSp C f [.ref a] H Q E := ⟨a, dx, fs, v, rfl, e, l, h⟩
theorem r_fld {K : PySem.W.Frag} {f : Str} (h : ta σ H fun x H1 => ∃ a C dx fs v, x = .ref a ∧ H1 a = some (.ins C dx fs) ∧ Cls K C ∧ NoAttr K C f ∧ fs.lookup f = some v ∧ Q v H1) : tFld K ta f σ H Q := h
theorem r_BM {K : PySem.W.Frag} {T : String} {f : V → List V → Hp → VK → Prop} (h : ta σ H fun x H1 => tyV K T x H1 ∧ tl σ H1 fun xs H2 => f x xs H2 Q) : tBM K T f ta tl σ H Q := h
theorem r_BM0 {K : PySem.W.Frag} {T : String} {f : V → List V → Hp → VK → Prop} (h : ta σ H fun x H1 => tyV K T x H1 ∧ f x [] H1 Q) : tBM0 K T f ta σ H Q := h
theorem r_sub {ti : TE} {s : TSet} {k : L2.St → Hp → Prop} (h : ta σ H fun o H1 => ti σ H1 fun i H2 => s o i v H2 fun H3 => k σ H3) : gSub ta ti s v σ H k := h
theorem r_sl {f : V → Option Int → Option Int → Hp → VK → Prop} {t1 t2 : TO} (h : te σ H fun x H1 => t1 σ H1 fun l H2 => t2 σ H2 fun u H3 => f x l u H3 Q) : tSl f te t1 t2 σ H Q := h
theorem r_noPart {Q : Option Int → Hp → Prop} (h : Q none H) : tNoPart σ H Q := h
theorem r_part {Q : Option Int → Hp → Prop} (h : te σ H fun x H1 => ∃ i, x = .int i ∧ Q (some i) H1) : tPart te σ H Q := h
theorem r_int {P : Int → Prop} {i : Int} (h : P i) : ∃ j, V.int i = .int j ∧ P j := ⟨i, rfl, h⟩
theorem iteNT {A B : Prop} {i : Decidable ((!true) = true)} (h : B) : @ite Prop ((!true) = true) i A B := by
  rw [if_neg (fun z => nomatch z)]; exact h
theorem iteNF {A B : Prop} {i : Decidable ((!false) = true)} (h : A) : @ite Prop ((!false) = true) i A B := by
  rw [if_pos (show (!false) = true from rfl)]; exact h
theorem iteT' {A B : Prop} {i : Decidable (true = true)} (h : A) : @ite Prop (true = true) i A B := by
  rw [if_pos rfl]; exact h
theorem iteF' {A B : Prop} {i : Decidable (false = true)} (h : B) : @ite Prop (false = true) i A B := by
  rw [if_neg Bool.false_ne_true]; exact h
theorem r_cutQ {t : TE} (S : V → Hp → Prop) (h : ∀ Q' : VK, (∀ v H1, S v H1 → Q' v H1) → t σ H Q') (k : ∀ v H1, S v H1 → Q v H1) : t σ H Q := h Q k
theorem r_cutS {t : TS} (S : L2.St → Hp → Prop) (h : ∀ nx', (∀ σ H, S σ H → nx' σ H) → t ⟨nx', rt, bk, ct⟩ σ H) (k : ∀ σ H, S σ H → nx σ H) : t ⟨nx, rt, bk, ct⟩ σ H := h nx k
theorem ite_d {p A B : Prop} {j : Decidable p} {i : Decidable (@decide p j = true)} (h1 : p → A) (h2 : ¬ p → B) : @ite Prop (@decide p j = true) i A B := by
  by_cases h : p
  · rw [if_pos (decide_eq_true h)]; exact h1 h
  · rw [if_neg (by rw [decide_eq_false h]; exact Bool.false_ne_true)]; exact h2 h
theorem ite_nd {p A B : Prop} {j : Decidable p} {i : Decidable ((!@decide p j) = true)} (h1 : ¬ p → A) (h2 : p → B) : @ite Prop ((!@decide p j) = true) i A B := by
  by_cases h : p
  · rw [if_neg (by rw [decide_eq_true h]; exact Bool.false_ne_true)]; exact h2 h
  · rw [if_pos (by rw [decide_eq_false h]; rfl)]; exact h1 h
theorem ite_b {b : Bool} {A B : Prop} {i : Decidable (b = true)} (h1 : b = true → A) (h2 : b = false → B) : @ite Prop (b = true) i A B := by
  cases b with
  | true => rw [if_pos rfl]; exact h1 rfl
  | false => rw [if_neg Bool.false_ne_true]; exact h2 rfl
end

/-! ### more steps -/
section
variable {σ : L2.St} {H : Hp} {Q : VK} {v x y : V} {K : PySem.W.Frag}
theorem r_isi_int_bool {i : Int} (h : Q (.bl false) H) : rIsi K [.int i, .ty "bool"] H Q := ⟨_, _, _, _, false, rfl, .ty _, .base (.int i), kit_ty (by decide +kernel), h⟩
theorem r_isi_int_int {i : Int} (h : Q (.bl true) H) : rIsi K [.int i, .ty "int"] H Q := ⟨_, _, _, _, true, rfl, .ty _, .base (.int i), kit_ty (by decide +kernel), h⟩
theorem r_isi_str_str {i : Str} (h : Q (.bl true) H) : rIsi K [.str i, .ty "str"] H Q := ⟨_, _, _, _, true, rfl, .ty _, .base (.str i), kit_ty (by decide +kernel), h⟩
theorem r_isi_own {a C dx : Addr} {fs : List (Str × V)} {b : Bool} {D : Addr} (e : H a = some (.ins C dx fs)) (cl : Cls K C) (ha : PySem.W.findIn K (.ref C) "__class__" = some (some (.builtin "object.__class__")))
    (hn : PySem.W.specialIn K (.builtin "object.__class__") "__get__" = some (some (.builtin "getset_descriptor.__get__"))) (htk : PySem.W.takesIn K (.builtin "object.__class__") = some true) (hm : PySem.W.mroIn K C (.type "object") = some true)
    (ks : PySem.W.kitOne K (.ref C) (.ref D) = some b) (h : Q (.bl b) H) : rIsi K [.ref a, .ref D] H Q := ⟨_, _, _, _, b, rfl, .own D, .base (.ins e cl ha hn htk hm), ks, h⟩
theorem r_Ih {C : Int → Int → Prop} {g : Int → Int → V} {i j : Int} (h : Q (g i j) H) (hc : C i j) : rI C g (.int i) (.int j) H Q := ⟨i, j, rfl, rfl, hc, h⟩
theorem r_ixL {p : Addr} {xs : List V} {i : Int} (hp : H p = some (.lst xs)) (a : atI xs i = some v) (h : Q v H) : rIxL K (.ref p) (.int i) H Q := ⟨p, xs, i, v, rfl, rfl, SqL.of hp, a, h⟩
theorem r_ixT {p : Addr} {xs : List V} {i : Int} (hp : H p = some (.tup xs)) (a : atI xs i = some v) (h : Q v H) : rIxT K (.ref p) (.int i) H Q := ⟨p, xs, i, v, rfl, rfl, SqT.of hp, a, h⟩
theorem r_sFld {K : PySem.W.Frag} {f : Str} {ta tv : TE} {σ : L2.St} {nx bk ct : L2.St → Hp → Prop} {rt : VK} (h : tv σ H fun y H1 => ta σ H1 fun x H2 => ∃ a C dx fs, x = .ref a ∧ H2 a = some (.ins C dx fs) ∧ Cls K C ∧ NoAttr K C f ∧ fs.length < 1000 ∧ nx σ (upd H2 a (.ins C dx (putF f y fs)))) : sFld K ta tv f ⟨nx, rt, bk, ct⟩ σ H := h
theorem len1 {f : Str} {v : V} : (putF f v []).length < 1000 := Nat.lt_of_le_of_lt (length_putF f v []) (by decide)
theorem len2 {f g : Str} {v w : V} : (putF f v (putF g w [])).length < 1000 := Nat.lt_of_le_of_lt (Nat.le_trans (length_putF f v _) (Nat.succ_le_succ (length_putF g w []))) (by decide)
theorem len3 {f g k : Str} {v w u : V} : (putF f v (putF g w (putF k u []))).length < 1000 := Nat.lt_of_le_of_lt (Nat.le_trans (length_putF f v _) (Nat.succ_le_succ (Nat.le_trans (length_putF g w _) (Nat.succ_le_succ (length_putF k u []))))) (by decide)
theorem len4 {f g k j : Str} {v w u t : V} : (putF f v (putF g w (putF k u (putF j t [])))).length < 1000 := Nat.lt_of_le_of_lt (Nat.le_trans (length_putF f v _) (Nat.succ_le_succ (Nat.le_trans (length_putF g w _) (Nat.succ_le_succ (Nat.le_trans (length_putF k u _) (Nat.succ_le_succ (length_putF j t []))))))) (by decide)
theorem r_insput {K : PySem.W.Frag} {f : Str} {y : V} {nx : L2.St → Hp → Prop} {σ : L2.St} {a C dx : Addr} {fs : List (Str × V)} (e : H a = some (.ins C dx fs)) (cl : Cls K C) (na : NoAttr K C f) (hl : fs.length < 1000) (h : nx σ (upd H a (.ins C dx (putF f y fs)))) :
    ∃ a' C dx fs, V.ref a = .ref a' ∧ H a' = some (.ins C dx fs) ∧ Cls K C ∧ NoAttr K C f ∧ fs.length < 1000 ∧ nx σ (upd H a' (.ins C dx (putF f y fs))) := ⟨a, C, dx, fs, rfl, e, cl, na, hl, h⟩
theorem r_setL {p : Addr} {xs : List V} {i : Int} {j : Nat} {Q : Hp → Prop} (hp : H p = some (.lst xs)) (a : ixN xs.length i = some j) (h : Q (upd H p (.lst (xs.set j v)))) : rSetL (.ref p) (.int i) v H Q := ⟨p, xs, i, j, rfl, rfl, hp, a, h⟩
theorem tyL {l : Addr} {xs : List V} (h : H l = some (.lst xs)) : tyV K "list" (.ref l) H := .inl ⟨rfl, xs, SqL.of h⟩
theorem r_app {l : Addr} {xs : List V} (hp : H l = some (.lst xs)) (h : Q .non (upd H l (.lst (xs ++ [v])))) (hl : xs.length < sizeLine) : rAppend (.ref l) [v] H Q := ⟨l, xs, v, rfl, rfl, hp, hl, h⟩
theorem r_gcd {a b : Int} (h : Q (.int ((Nat.gcd a.natAbs b.natAbs : Nat) : Int)) H) : rGcd [.int a, .int b] H Q := ⟨a, b, rfl, h⟩
theorem sz (n : Nat) (h : n ≤ 100000) : n ≤ sizeLine := Nat.le_trans h (by decide)
theorem sz' (n : Nat) (h : n < 100000) : n < sizeLine := Nat.lt_of_lt_of_le h (by decide)
theorem cmulw {i j : Int} {a b : Nat} (ha : i.natAbs < 2 ^ a) (hb : j.natAbs < 2 ^ b) (h : a + b ≤ 100000) (h0 : 0 < a := by decide) (h1 : 0 < b := by decide) : CMulW i j := wide_mul ha hb h0 h1 (by omega)
theorem cdivw {i j : Int} {b : Nat} (h : 0 < j) (hb : j.natAbs < 2 ^ b) (h9 : b ≤ 9000) (h0 : 0 < b := by decide) : CDivW i j := wide_div h hb h0 h9
/-- * of two ints, one of them small, or both not too great -/
def CMulA (i j : Int) : Prop := CMul i j ∨ CMulW i j
theorem op_mulA {X : Cx} : OpR X (binaryOp .Mult) (rI CMulA fun i j => .int (i * j)) := opI fun _ _ _ _ _ _ _ hc q => mul_int q (by
  rcases hc with h | h
  · exact h.ok
  · exact h.ok)
theorem cmA_l {i j : Int} (h : -(2 ^ 64) < i ∧ i < 2 ^ 64) : CMulA i j := .inl (.inl h)
theorem cmA_r {i j : Int} (h : -(2 ^ 64) < j ∧ j < 2 ^ 64) : CMulA i j := .inl (.inr h)
theorem cmA_w {i j : Int} (h : CMulW i j) : CMulA i j := .inr h
/-- comb, perm -/
theorem r_gtup {p : Addr} {xs : List V} {n : Nat} {t : TGs} {k : L2.St → Hp → Prop} (hp : H p = some (.tup xs)) (hl : xs.length = n) (h : t xs σ H k) : gTup K n t (.ref p) σ H k := ⟨p, xs, rfl, SqT.of hp, hl, h⟩
theorem r_gcons {t : TG} {u : TGs} {r : List V} {k : L2.St → Hp → Prop} (h : t v σ H fun σ' H' => u r σ' H' k) : gCons t u (v :: r) σ H k := ⟨v, r, rfl, h⟩
theorem r_gnil {k : L2.St → Hp → Prop} (h : k σ H) : gNil [] σ H k := ⟨rfl, h⟩
def rComb : List V → Hp → VK → Prop := fun vs H Q => ∃ a b : Int, vs = [.int a, .int b] ∧ 0 ≤ a ∧ 0 ≤ b ∧ a ≤ 18000 ∧ Q (.int (PySem.W.mcComb a b)) H
theorem cr_comb {X : Cx} : CallR X (.builtin "math.comb") rComb := by
  intro pins s σ H vs us Q I r h
  obtain ⟨a, b, rfl, ha, hb, h8, q⟩ := h
  obtain ⟨t, u, rfl⟩ := Vals.int2 r
  exact PySem.W.mc_comb ha hb (by omega) (.inr h8) fun _ => ⟨.int _, H, I.tok _, ⟨_, rfl⟩, q⟩
theorem r_comb {a b : Int} (h : Q (.int (PySem.W.mcComb a b)) H) (ha : 0 ≤ a) (hb : 0 ≤ b) (h8 : a ≤ 18000) : rComb [.int a, .int b] H Q := ⟨a, b, rfl, ha, hb, h8, h⟩
end

/-! ### readings by names -/
section
variable {X : Cx} {σ : L2.St} {H : Hp} {Q : VK} {K : PySem.W.Frag}
def qInt : List V → Hp → VK → Prop := fun xs H Q => (∃ i, xs = [.int i] ∧ Q (.int i) H) ∨ ∃ k, xs = [.bl k] ∧ Q (.int (if k then 1 else 0)) H
theorem c_int : CallR X (.type "int") qInt := call_int1
theorem r_int1 {i : Int} (h : Q (.int i) H) : qInt [.int i] H Q := .inl ⟨i, rfl, h⟩
theorem r_intB {k : Bool} (h : Q (.int (if k then 1 else 0)) H) : qInt [.bl k] H Q := .inr ⟨k, rfl, h⟩
def qAbs : List V → Hp → VK → Prop := fun xs H Q => ∃ i, xs = [.int i] ∧ Q (.int (if i < 0 then -i else i)) H
theorem c_abs : CallR X (.builtin "abs") qAbs := call_abs
theorem r_abs {i : Int} (h : Q (.int (if i < 0 then -i else i)) H) : qAbs [.int i] H Q := ⟨i, rfl, h⟩
def qMax : List V → Hp → VK → Prop := fun xs H Q => ∃ i j, xs = [.int i, .int j] ∧ Q (.int (if j > i then j else i)) H
theorem c_max (hc : X.calm = true) : CallR X (.builtin "max") qMax := call_max2 hc
theorem r_max {i j : Int} (h : Q (.int (if j > i then j else i)) H) : qMax [.int i, .int j] H Q := ⟨i, j, rfl, h⟩
def qMin : List V → Hp → VK → Prop := fun xs H Q => ∃ i j, xs = [.int i, .int j] ∧ Q (.int (if j < i then j else i)) H
theorem c_min (hc : X.calm = true) : CallR X (.builtin "min") qMin := call_min2 hc
theorem r_min {i j : Int} (h : Q (.int (if j < i then j else i)) H) : qMin [.int i, .int j] H Q := ⟨i, j, rfl, h⟩
def qLen (K : PySem.W.Frag) : List V → Hp → VK → Prop := fun xs H Q => ∃ p ys, xs = [.ref p] ∧ (SqL K H p ys ∨ SqT K H p ys) ∧ Q (.int ys.length) H
theorem c_len : CallR X (.builtin "len") (qLen X.K) := call_len_seq
theorem r_lenL {p : Addr} {ys : List V} (q : SqL K H p ys) (h : Q (.int ys.length) H) : qLen K [.ref p] H Q := ⟨p, ys, rfl, .inl q, h⟩
theorem r_lenT {p : Addr} {ys : List V} (q : SqT K H p ys) (h : Q (.int ys.length) H) : qLen K [.ref p] H Q := ⟨p, ys, rfl, .inr q, h⟩
def qLenS : List V → Hp → VK → Prop := fun xs H Q => ∃ z, xs = [.str z] ∧ z.length ≤ sizeLine ∧ Q (.int z.length) H
theorem c_lenS : CallR X (.builtin "len") qLenS := call_len_str
theorem r_lenS {z : Str} (h : Q (.int z.length) H) (hz : z.length ≤ sizeLine) : qLenS [.str z] H Q := ⟨z, rfl, hz, h⟩
def qLstOf (K : PySem.W.Frag) : List V → Hp → VK → Prop := fun xs H Q => ∃ p ys, xs = [.ref p] ∧ (SqL K H p ys ∨ SqT K H p ys) ∧ ∀ l, H l = none → Q (.ref l) (upd H l (.lst ys))
theorem c_lstOf : CallR X (.type "list") (qLstOf X.K) := call_list_of
theorem r_lstOfL {p : Addr} {ys : List V} (q : SqL K H p ys) (h : ∀ l, H l = none → Q (.ref l) (upd H l (.lst ys))) : qLstOf K [.ref p] H Q := ⟨p, ys, rfl, .inl q, h⟩
theorem r_lstOfT {p : Addr} {ys : List V} (q : SqT K H p ys) (h : ∀ l, H l = none → Q (.ref l) (upd H l (.lst ys))) : qLstOf K [.ref p] H Q := ⟨p, ys, rfl, .inr q, h⟩
def qTupOf (K : PySem.W.Frag) : List V → Hp → VK → Prop := fun xs H Q => ∃ p ys, xs = [.ref p] ∧ ((SqL K H p ys ∧ ∀ l, H l = none → Q (.ref l) (upd H l (.tup ys))) ∨ (SqT K H p ys ∧ Q (.ref p) H))
theorem c_tupOf : CallR X (.type "tuple") (qTupOf X.K) := call_tuple_of
theorem r_tupOfL {p : Addr} {ys : List V} (q : SqL K H p ys) (h : ∀ l, H l = none → Q (.ref l) (upd H l (.tup ys))) : qTupOf K [.ref p] H Q := ⟨p, ys, rfl, .inl ⟨q, h⟩⟩
theorem r_tupOfT {p : Addr} {ys : List V} (q : SqT K H p ys) (h : Q (.ref p) H) : qTupOf K [.ref p] H Q := ⟨p, ys, rfl, .inr ⟨q, h⟩⟩
def qStrI : List V → Hp → VK → Prop := fun xs H Q => ∃ i, xs = [.int i] ∧ i.natAbs.log2 < 1920 ∧ Q (.str (toString i)) H
theorem c_strI : CallR X (.type "str") qStrI := call_str_int
theorem r_strI {i : Int} (h : Q (.str (toString i)) H) (hi : i.natAbs.log2 < 1920) : qStrI [.int i] H Q := ⟨i, rfl, hi, h⟩
def qStrS : List V → Hp → VK → Prop := fun xs H Q => ∃ a, xs = [.str a] ∧ Q (.str a) H
theorem c_strS : CallR X (.type "str") qStrS := SkE.call_str_str
theorem r_strS {a : Str} (h : Q (.str a) H) : qStrS [.str a] H Q := ⟨a, rfl, h⟩
def qAddS : R2 := fun x y H Q => ∃ i j, x = .str i ∧ y = .str j ∧ i.length + j.length ≤ sizeLine ∧ Q (.str (i ++ j)) H
theorem o_addS : OpR X (binaryOp .Add) qAddS := op_add_str
theorem r_addS {i j : Str} (h : Q (.str (i ++ j)) H) (hz : i.length + j.length ≤ sizeLine) : qAddS (.str i) (.str j) H Q := ⟨i, j, rfl, rfl, hz, h⟩
def qLtS : R2 := fun x y H Q => ∃ i j, x = .str i ∧ y = .str j ∧ Q (.bl (decide (i.cps.toList < j.cps.toList))) H
theorem o_ltS : OpR X (compareOp .Lt) qLtS := op_lt_str
theorem r_ltS {i j : Str} (h : Q (.bl (decide (i.cps.toList < j.cps.toList))) H) : qLtS (.str i) (.str j) H Q := ⟨i, j, rfl, rfl, h⟩
def qAddIB : R2 := fun x y H Q => ∃ i k, x = .int i ∧ y = .bl k ∧ Q (.int (i + b2i k)) H
theorem o_addIB : OpR X (binaryOp .Add) qAddIB := op_add_ib
def qIsN : R2 := fun x y H Q => y = .non ∧ Q (.bl (decide (x = .non))) H
theorem o_isN : OpR X (compareOp .Is) qIsN := op_isN
def qNotN : R2 := fun x y H Q => y = .non ∧ Q (.bl (!decide (x = .non))) H
theorem o_notN : OpR X (compareOp .IsNot) qNotN := op_notN
def qCntS : V → List V → Hp → VK → Prop := fun x xs H Q => ∃ a b, x = .str a ∧ xs = [.str b] ∧ Q (.int (Txt.count a b)) H
theorem m_cntS : MtR X "str.count" qCntS := mt_count
theorem r_cntS {a b : Str} (h : Q (.int (Txt.count a b)) H) : qCntS (.str a) [.str b] H Q := ⟨a, b, rfl, rfl, h⟩
def qFindS : V → List V → Hp → VK → Prop := fun x xs H Q => ∃ a b, x = .str a ∧ xs = [.str b] ∧ Q (.int (Txt.find a b)) H
theorem m_findS : MtR X "str.find" qFindS := mt_find
theorem r_findS {a b : Str} (h : Q (.int (Txt.find a b)) H) : qFindS (.str a) [.str b] H Q := ⟨a, b, rfl, rfl, h⟩
def qFind3 : V → List V → Hp → VK → Prop := fun x xs H Q => ∃ (a b : Str) (i : Int), x = .str a ∧ xs = [.str b, .int i] ∧ Q (.int (Txt.find3 a b i)) H
theorem m_find3 : MtR X "str.find" qFind3 := mt_find3
theorem r_find3 {a b : Str} {i : Int} (h : Q (.int (Txt.find3 a b i)) H) : qFind3 (.str a) [.str b, .int i] H Q := ⟨a, b, i, rfl, rfl, h⟩
def qSplit : V → List V → Hp → VK → Prop := fun x xs H Q => ∃ a b, x = .str a ∧ xs = [.str b] ∧ (b.length == 0) = false ∧ a.length + 2 ≤ sizeLine ∧ rNewStrs (Txt.split a b) H Q
theorem m_split : MtR X "str.split" qSplit := mt_split
def qJoin (K : PySem.W.Frag) : V → List V → Hp → VK → Prop := fun x xs H Q => ∃ a p, ∃ ys : List Str, x = .str a ∧ xs = [.ref p] ∧ (SqL K H p (ys.map V.str) ∨ SqT K H p (ys.map V.str)) ∧ (ys.map (·.length)).sum + ys.length * a.length ≤ 16777216 ∧ Q (.str (Txt.join a ys)) H
theorem m_join : MtR X "str.join" (qJoin X.K) := mt_join
theorem r_joinL {a : Str} {p : Addr} {ys : List Str} (q : SqL K H p (ys.map V.str)) (h : Q (.str (Txt.join a ys)) H) (hz : (ys.map (·.length)).sum + ys.length * a.length ≤ 16777216) : qJoin K (.str a) [.ref p] H Q := ⟨a, p, ys, rfl, rfl, .inl q, hz, h⟩
theorem tyS {a : Str} : tyV K "str" (.str a) H := rfl
end
/-! ### loops -/
section
variable {σ : L2.St} {H : Hp} {nx bk ct : L2.St → Hp → Prop} {rt Q : VK} {ta te : TE} {tt : TT} {tb : TS} {tl : TA} {g : TG} {K : PySem.W.Frag}
def FR (J : It) (g : TG) (tb : TS) (D : Ends) (σ : L2.St) (H1 : Hp) : Prop := ∃ W : Nat → Nat → L2.St → Hp → Prop, (∃ m, W 0 m σ H1) ∧ ∀ i m σ H, W i m σ H →
  (J.stop i H ∧ D.nx σ H) ∨ (J.go i H ∧ ∃ N : L2.St → Hp → Prop, (∀ σ' H', N σ' H' → ∃ m', m' < m ∧ W (i + 1) m' σ' H') ∧ ∀ x H', J.yld i H x H' → g x σ H' fun σ2 H2 => tb { D with nx := N, ct := N, bk := D.nx } σ2 H2)
theorem r_for1 {D : Ends} (h : tl σ H fun vs H1 => ∃ j : Int, vs = [.int j] ∧ -(2 ^ 62) ≤ j ∧ j < 2 ^ 62 ∧ FR (Itr 0 j.toNat) g tb D σ H1) : tFor (iRng1 tl) g tb D σ H := h
theorem r_for2 {D : Ends} (h : tl σ H fun vs H1 => ∃ i j : Int, vs = [.int i, .int j] ∧ (-(2 ^ 62) ≤ i ∧ i < 2 ^ 62 ∧ -(2 ^ 62) ≤ j ∧ j < 2 ^ 62) ∧ FR (Itr i (j - i).toNat) g tb D σ H1) : tFor (iRng2 tl) g tb D σ H := h
theorem r_forL {D : Ends} (h : te σ H fun x H1 => ∃ a, x = .ref a ∧ (∃ xs, SqL K H1 a xs) ∧ FR (Itl K a) g tb D σ H1) : tFor (iList K te) g tb D σ H := h
theorem r_forT {D : Ends} (h : te σ H fun x H1 => ∃ a, x = .ref a ∧ (∃ xs, SqT K H1 a xs) ∧ FR (Itt K a) g tb D σ H1) : tFor (iTup K te) g tb D σ H := h
theorem r_forS {D : Ends} (h : te σ H fun v H1 => ∃ x, v = .str x ∧ FR (Its x) g tb D σ H1) : tFor (iStr te) g tb D σ H := h
theorem r_rng1 {P : Int → Prop} {x : Int} (h : P x) (h1 : -(2 ^ 62) ≤ x) (h2 : x < 2 ^ 62) : ∃ j : Int, [V.int x] = [.int j] ∧ -(2 ^ 62) ≤ j ∧ j < 2 ^ 62 ∧ P j := ⟨x, rfl, h1, h2, h⟩
theorem r_rng2 {P : Int → Int → Prop} {x y : Int} (h : P x y) (h1 : -(2 ^ 62) ≤ x ∧ x < 2 ^ 62 ∧ -(2 ^ 62) ≤ y ∧ y < 2 ^ 62) : ∃ i j : Int, [V.int x, V.int y] = [.int i, .int j] ∧ (-(2 ^ 62) ≤ i ∧ i < 2 ^ 62 ∧ -(2 ^ 62) ≤ j ∧ j < 2 ^ 62) ∧ P i j := ⟨x, y, rfl, h1, h⟩
theorem r_seqL {P : Addr → Prop} {a : Addr} {xs : List V} (q : SqL K H a xs) (h : P a) : ∃ b, V.ref a = .ref b ∧ (∃ xs, SqL K H b xs) ∧ P b := ⟨a, rfl, ⟨xs, q⟩, h⟩
theorem r_seqT {P : Addr → Prop} {a : Addr} {xs : List V} (q : SqT K H a xs) (h : P a) : ∃ b, V.ref a = .ref b ∧ (∃ xs, SqT K H b xs) ∧ P b := ⟨a, rfl, ⟨xs, q⟩, h⟩
theorem r_seqS {P : Str → Prop} {x : Str} (h : P x) : ∃ y, V.str x = .str y ∧ P y := ⟨x, rfl, h⟩
theorem fr_range {lo : Int} {n : Nat} (Pv : Nat → L2.St → Hp → Prop) (h0 : Pv 0 σ H) (hs : ∀ i σ H, i < n → Pv i σ H → g (.int (lo + i)) σ H fun σ2 H2 => tb ⟨Pv (i + 1), rt, nx, Pv (i + 1)⟩ σ2 H2)
    (hd : ∀ σ H, Pv n σ H → nx σ H) : FR (Itr lo n) g tb ⟨nx, rt, bk, ct⟩ σ H := for_range Pv h0 hs hd
theorem fr_list {a : Addr} {xs : List V} (Pv : Nat → L2.St → Hp → Prop) (h0 : Pv 0 σ H) (hl : ∀ i σ H, i ≤ xs.length → Pv i σ H → SqL K H a xs) (hs : ∀ i x σ H, xs[i]? = some x → Pv i σ H → g x σ H fun σ2 H2 => tb ⟨Pv (i + 1), rt, nx, Pv (i + 1)⟩ σ2 H2)
    (hd : ∀ σ H, Pv xs.length σ H → nx σ H) : FR (Itl K a) g tb ⟨nx, rt, bk, ct⟩ σ H := for_list Pv h0 hl hs hd
theorem fr_tup {a : Addr} {xs : List V} (Pv : Nat → L2.St → Hp → Prop) (h0 : Pv 0 σ H) (hl : ∀ i σ H, i ≤ xs.length → Pv i σ H → SqT K H a xs) (hs : ∀ i x σ H, xs[i]? = some x → Pv i σ H → g x σ H fun σ2 H2 => tb ⟨Pv (i + 1), rt, nx, Pv (i + 1)⟩ σ2 H2)
    (hd : ∀ σ H, Pv xs.length σ H → nx σ H) : FR (Itt K a) g tb ⟨nx, rt, bk, ct⟩ σ H := for_tup Pv h0 hl hs hd
theorem fr_str {x : Str} (Pv : Nat → L2.St → Hp → Prop) (h0 : Pv 0 σ H) (hs : ∀ i c σ H, x.cps[i]? = some c → Pv i σ H → g (.str ⟨#[c]⟩) σ H fun σ2 H2 => tb ⟨Pv (i + 1), rt, nx, Pv (i + 1)⟩ σ2 H2)
    (hd : ∀ σ H, Pv x.cps.size σ H → nx σ H) : FR (Its x) g tb ⟨nx, rt, bk, ct⟩ σ H := by
  refine ⟨fun i m σ H => m = x.cps.size - i ∧ i ≤ x.cps.size ∧ Pv i σ H, ⟨x.cps.size, by simp, Nat.zero_le _, h0⟩, ?_⟩
  rintro i m σ H ⟨rfl, hi, p⟩
  by_cases hlt : i < x.cps.size
  · refine .inr ⟨hlt, Pv (i + 1), fun σ' H' p' => ⟨x.cps.size - (i + 1), by omega, rfl, hlt, p'⟩, fun y H' z => ?_⟩
    obtain ⟨e, c, hc, e2⟩ := z
    subst e e2
    exact hs i c σ _ hc p
  · have e : i = x.cps.size := by omega
    subst e
    exact .inl ⟨Nat.le_refl _, hd σ H p⟩
def LCW (J : It) (g : TG) (tt : TT) (te : TE) (vs : List Nat) (σ : L2.St) (H1 : Hp) (Q : VK) : Prop := ∀ D, H1 D = none → ∃ W : Nat → Nat → Hp → Prop, (∃ m, W 0 m (upd H1 D (.lst []))) ∧ ∀ i m H, W i m H →
  (J.stop i H ∧ Q (.ref D) H) ∨ (J.go i H ∧ ∃ Nx : Hp → Prop, (∀ H', Nx H' → ∃ m', m' < m ∧ W (i + 1) m' H') ∧ ∀ x H', J.yld i H x H' → g x (wipe σ vs) H' fun σ2 H2 => wipe σ2 vs = wipe σ vs ∧ tt σ2 H2 fun b H3 =>
    if b = true then te σ2 H3 fun y H4 => ∃ acc, H4 D = some (.lst acc) ∧ acc.length < sizeLine ∧ Nx (upd H4 D (.lst (acc ++ [y]))) else Nx H3)
variable {vs : List Nat}
theorem r_lc1 (h : tl σ H fun us H1 => ∃ j : Int, us = [.int j] ∧ -(2 ^ 62) ≤ j ∧ j < 2 ^ 62 ∧ LCW (Itr 0 j.toNat) g tt te vs σ H1 Q) : tLc (iRng1 tl) g tt te vs σ H Q := h
theorem r_lc2 (h : tl σ H fun us H1 => ∃ i j : Int, us = [.int i, .int j] ∧ (-(2 ^ 62) ≤ i ∧ i < 2 ^ 62 ∧ -(2 ^ 62) ≤ j ∧ j < 2 ^ 62) ∧ LCW (Itr i (j - i).toNat) g tt te vs σ H1 Q) : tLc (iRng2 tl) g tt te vs σ H Q := h
theorem r_lcL (h : ta σ H fun x H1 => ∃ a, x = .ref a ∧ (∃ xs, SqL K H1 a xs) ∧ LCW (Itl K a) g tt te vs σ H1 Q) : tLc (iList K ta) g tt te vs σ H Q := h
theorem r_lcT (h : ta σ H fun x H1 => ∃ a, x = .ref a ∧ (∃ xs, SqT K H1 a xs) ∧ LCW (Itt K a) g tt te vs σ H1 Q) : tLc (iTup K ta) g tt te vs σ H Q := h
theorem r_lcS (h : ta σ H fun v H1 => ∃ x, v = .str x ∧ LCW (Its x) g tt te vs σ H1 Q) : tLc (iStr ta) g tt te vs σ H Q := h
theorem lw_range {lo : Int} {n : Nat} (Pv : Addr → Nat → Hp → Prop) (h0 : ∀ D, H D = none → Pv D 0 (upd H D (.lst [])))
    (hs : ∀ D, H D = none → ∀ i H, i < n → Pv D i H → g (.int (lo + i)) (wipe σ vs) H fun σ2 H2 => wipe σ2 vs = wipe σ vs ∧ tt σ2 H2 fun b H3 =>
      if b = true then te σ2 H3 fun y H4 => ∃ acc, H4 D = some (.lst acc) ∧ acc.length < sizeLine ∧ Pv D (i + 1) (upd H4 D (.lst (acc ++ [y]))) else Pv D (i + 1) H3) (hd : ∀ D, H D = none → ∀ H, Pv D n H → Q (.ref D) H) : LCW (Itr lo n) g tt te vs σ H Q :=
  fun D hD => lc_range (Pv D) (h0 D hD) (hs D hD) (hd D hD)
theorem lw_list {a : Addr} {xs : List V} (Pv : Addr → Nat → Hp → Prop) (h0 : ∀ D, H D = none → Pv D 0 (upd H D (.lst []))) (hl : ∀ D, H D = none → ∀ i H, i ≤ xs.length → Pv D i H → SqL K H a xs)
    (hs : ∀ D, H D = none → ∀ i x H, xs[i]? = some x → Pv D i H → g x (wipe σ vs) H fun σ2 H2 => wipe σ2 vs = wipe σ vs ∧ tt σ2 H2 fun b H3 =>
      if b = true then te σ2 H3 fun y H4 => ∃ acc, H4 D = some (.lst acc) ∧ acc.length < sizeLine ∧ Pv D (i + 1) (upd H4 D (.lst (acc ++ [y]))) else Pv D (i + 1) H3) (hd : ∀ D, H D = none → ∀ H, Pv D xs.length H → Q (.ref D) H) : LCW (Itl K a) g tt te vs σ H Q :=
  fun D hD => lc_list (Pv D) (h0 D hD) (hl D hD) (hs D hD) (hd D hD)
theorem lw_tup {a : Addr} {xs : List V} (Pv : Addr → Nat → Hp → Prop) (h0 : ∀ D, H D = none → Pv D 0 (upd H D (.lst []))) (hl : ∀ D, H D = none → ∀ i H, i ≤ xs.length → Pv D i H → SqT K H a xs)
    (hs : ∀ D, H D = none → ∀ i x H, xs[i]? = some x → Pv D i H → g x (wipe σ vs) H fun σ2 H2 => wipe σ2 vs = wipe σ vs ∧ tt σ2 H2 fun b H3 =>
      if b = true then te σ2 H3 fun y H4 => ∃ acc, H4 D = some (.lst acc) ∧ acc.length < sizeLine ∧ Pv D (i + 1) (upd H4 D (.lst (acc ++ [y]))) else Pv D (i + 1) H3) (hd : ∀ D, H D = none → ∀ H, Pv D xs.length H → Q (.ref D) H) : LCW (Itt K a) g tt te vs σ H Q :=
  fun D hD => lc_tup (Pv D) (h0 D hD) (hl D hD) (hs D hD) (hd D hD)
theorem r_while {c : TT} (W : Nat → L2.St → Hp → Prop) (m : Nat) (w0 : W m σ H) (hs : ∀ m σ H, W m σ H → c σ H fun b H1 => if b = true then ∃ N : L2.St → Hp → Prop, (∀ σ' H', N σ' H' → ∃ m', m' < m ∧ W m' σ' H') ∧ tb ⟨N, rt, nx, N⟩ σ H1 else nx σ H1) : tWhile c tb ⟨nx, rt, bk, ct⟩ σ H := ⟨W, ⟨m, w0⟩, hs⟩
theorem r_yes {Q : Bool → Hp → Prop} (h : Q true H) : tYes σ H Q := h
theorem r_wh {c : TT} {D : Ends} (h : tWhile c tb D σ H) : tWhile c tb D σ H := h
end
/-! ### heaps -/
theorem same_new {H : Hp} {p : Addr} {o : HO} (h : H p = none) : Same H (upd H p o) := fun b x e => by
  rw [upd_ne (ne_of_none e h)]; exact e
theorem same_mut {H H' : Hp} {p : Addr} {o : HO} (s : Same H H') (h : H p = none) : Same H (upd H' p o) := fun b x e => by
  rw [upd_ne (ne_of_none e h)]; exact s b x e
theorem same_tup {H H' : Hp} {p : Addr} {o : HO} (s : Same H H') (e : H p = some o) : H' p = some o := s p o e

/-- lists of ints, as data -/
theorem dpI {K : PySem.W.Frag} {H : Hp} : ∀ ns : List Int, DpAll K H (ns.map V.int) (ns.map PyData.int)
  | [] => .nil
  | n :: ns => .cons (.int n) (dpI ns)
theorem dpS {K : PySem.W.Frag} {H : Hp} : ∀ ns : List Str, DpAll K H (ns.map V.str) (ns.map PyData.str)
  | [] => .nil
  | n :: ns => .cons (.str n) (dpS ns)
theorem r_eqD {K : PySem.W.Frag} {H : Hp} {Q : VK} {x y : V} {d e : PyData} (hx : Dp K H x d) (hy : Dp K H y e) (h1 : SeqAt.shaped d = true) (h2 : SeqAt.shaped e = true) (h : Q (.bl (PyData.eqv d e)) H) : rEqD K x y H Q := ⟨d, e, hx, hy, h1, h2, h⟩
theorem r_neD {K : PySem.W.Frag} {H : Hp} {Q : VK} {x y : V} {d e : PyData} (hx : Dp K H x d) (hy : Dp K H y e) (h1 : SeqAt.shaped d = true) (h2 : SeqAt.shaped e = true) (h : Q (.bl (!PyData.eqv d e)) H) : rNeD K x y H Q := ⟨d, e, hx, hy, h1, h2, h⟩
theorem kit_self {K : PySem.W.Frag} {t : Value} : PySem.W.kitOne K t t = some true := if_pos (beq_self_eq_true t)
/-- a list of three ints -/
def Dice (H : Hp) (d : Addr) : Prop := ∃ x y z : Int, H d = some (.lst [.int x, .int y, .int z])
/-- all but the dice at d stands as it stood -/
structure Kp (d : Addr) (H H' : Hp) : Prop where
  k : ∀ b o, b ≠ d → H b = some o → H' b = some o
  d0 : Dice H d
  d1 : Dice H' d
theorem Kp.refl {d : Addr} {H : Hp} (h : Dice H d) : Kp d H H := ⟨fun _ _ _ e => e, h, h⟩
theorem Kp.trans {d : Addr} {H H1 H2 : Hp} (a : Kp d H H1) (b : Kp d H1 H2) : Kp d H H2 := ⟨fun c o n e => b.k c o n (a.k c o n e), a.d0, b.d1⟩
theorem Kp.same {d : Addr} {H H1 H2 : Hp} (a : Kp d H H1) (b : Same H1 H2) : Kp d H H2 := ⟨fun c o n e => b c o (a.k c o n e), a.d0, let ⟨x, y, z, h⟩ := a.d1; ⟨x, y, z, b _ _ h⟩⟩
theorem Kp.of {d : Addr} {H H1 : Hp} (h : Dice H d) (b : Same H H1) : Kp d H H1 := (Kp.refl h).same b
theorem Kp.put {d : Addr} {H : Hp} {x y z : Int} (h : Dice H d) : Kp d H (upd H d (.lst [.int x, .int y, .int z])) := ⟨fun b o n e => by rw [upd_ne n]; exact e, h, ⟨x, y, z, upd_same⟩⟩
theorem Kp.put' {d : Addr} {H H1 : Hp} {x y z : Int} (a : Kp d H H1) : Kp d H (upd H1 d (.lst [.int x, .int y, .int z])) := a.trans (Kp.put a.d1)
theorem Kp.tup {d : Addr} {H H1 : Hp} (a : Kp d H H1) {p : Addr} {xs : List V} (e : H p = some (.tup xs)) : H1 p = some (.tup xs) := a.k p _ (by
  obtain ⟨x, y, z, h⟩ := a.d0
  exact ne_of e h (fun q => nomatch q)) e
theorem Kp.ins {d : Addr} {H H1 : Hp} (a : Kp d H H1) {p C dx : Addr} {fs : List (Str × V)} (e : H p = some (.ins C dx fs)) : H1 p = some (.ins C dx fs) := a.k p _ (by
  obtain ⟨x, y, z, h⟩ := a.d0
  exact ne_of e h (fun q => nomatch q)) e
theorem Kp.free {d : Addr} {H H1 : Hp} (a : Kp d H H1) {p : Addr} (e : H1 p = none) : H p = none := by
  cases q : H p with
  | none => rfl
  | some o =>
    by_cases h : p = d
    · obtain ⟨x, y, z, h'⟩ := a.d1
      rw [h, h'] at e; cases e
    · rw [a.k p o h q] at e; cases e
theorem Kp.new {d : Addr} {H H1 : Hp} (a : Kp d H H1) {p : Addr} {o : HO} (e : H1 p = none) : Kp d H (upd H1 p o) := a.same (same_new e)
theorem Kp.mut {d : Addr} {H H1 : Hp} (a : Kp d H H1) {p : Addr} {o : HO} (e : H p = none) : Kp d H (upd H1 p o) := ⟨fun b x n q => by
    rw [upd_ne (ne_of_none q e)]; exact a.k b x n q, a.d0, by
    obtain ⟨x, y, z, h⟩ := a.d0
    obtain ⟨x', y', z', h'⟩ := a.d1
    exact ⟨x', y', z', by rw [upd_ne (ne_of_none h e)]; exact h'⟩⟩
end Sx

/-! Sy: more steps: texts times numbers, a text's letters as a list, tuples gone through by number. -/
namespace Sy
open PySem PySem.Spec PyProof.Rows L2 Sx
open Sem (wp)
theorem bt_enumerate : bootBuiltins "enumerate" = some (.type "enumerate") := by decide +kernel
/-! ### text * number -/
def times (a : Str) (n : Nat) : Str := ⟨(List.replicate n a.cps).foldl (· ++ ·) #[]⟩
theorem times_one (a : Str) : times a 1 = a := by
  unfold times; simp [List.replicate]
def qMulS : R2 := fun x y H Q => ∃ (a : Str) (n : Int), x = .str a ∧ y = .int n ∧ 0 < a.length ∧ a.length ≤ 1000 ∧ 1 ≤ n ∧ n ≤ 1000 ∧ Q (.str (times a n.toNat)) H
theorem times_len (a : Str) (n : Nat) : (times a n).length = n * a.length := by
  have h : ∀ (l : List (Array Nat)) (z : Array Nat), (l.foldl (· ++ ·) z).size = z.size + (l.map Array.size).sum := by
    intro l
    induction l with
    | nil => intro z; simp
    | cons x l ih => intro z; rw [List.foldl_cons, ih, Array.size_append, List.map_cons, List.sum_cons]; omega
  show ((List.replicate n a.cps).foldl (· ++ ·) #[]).size = n * a.cps.size
  rw [h]; simp
section
variable {X : Cx}
theorem op_strmul : OpR X (binaryOp .Mult) qMulS := by
  intro pins s σ H x y v u Q I rx ry h
  obtain ⟨a, n, rfl, rfl, a0, a1, n0, n1, q⟩ := h
  obtain ⟨t, rfl⟩ := rx
  obtain ⟨t', rfl⟩ := ry
  have m1 : ((a.length : Int)) ≤ 1000 := by omega
  have big : (1000 : Int) ≤ (2 ^ 63 - 1) / n := by
    rw [Int.le_ediv_iff_mul_le (by omega)]
    exact Int.le_trans (Int.mul_le_mul_of_nonneg_left n1 (by decide)) (by decide)
  refine P.mul_str ?_ (fun _ _ => by omega) (fun _ _ => ?_) ?_
  · rw [decide_eq_false (by omega), decide_eq_false (by omega)]; rfl
  · show decide (_ > _) = false
    have m2 : a.length * n.toNat ≤ 1000 * 1000 := Nat.mul_le_mul a1 (by omega)
    exact decide_eq_false (Nat.not_lt.mpr (Nat.le_trans m2 (by rw [sizeLine_eq]; decide)))
  · rw [if_neg (by omega)]
    by_cases e : (n == 1 || a.length == 0) = true
    · rw [if_pos e]
      have e1 : n = 1 := by
        rw [Bool.or_eq_true, beq_iff_eq, beq_iff_eq] at e
        omega
      subst e1
      rw [show ((1 : Int).toNat) = 1 from rfl, times_one] at q
      exact ⟨.str a, H, I, ⟨t, rfl⟩, q⟩
    · rw [if_neg e]
      refine ⟨?_, .str (times a n.toNat), H, I.tok _, ⟨_, rfl⟩, q⟩
      have m2 : n.toNat * a.length ≤ 1000 * 1000 := Nat.mul_le_mul (by omega) a1
      have l := times_len a n.toNat
      unfold times at l
      rw [l, sizeLine_eq]; omega
theorem r_mulS {a : Str} {n : Int} {H : Hp} {Q : VK} (h : Q (.str (times a n.toNat)) H) (a0 : 0 < a.length ∧ a.length ≤ 1000) (n0 : 1 ≤ n ∧ n ≤ 1000) : qMulS (.str a) (.int n) H Q := ⟨a, n, rfl, rfl, a0.1, a0.2, n0.1, n0.2, h⟩
/-! ### list(text) -/
def letters (a : Str) : List V := a.cps.toList.map fun c => V.str ⟨#[c]⟩
def qListS : List V → Hp → VK → Prop := fun xs H Q => ∃ a : Str, xs = [.str a] ∧ a.length ≤ 100000 ∧ ∀ l, H l = none → Q (.ref l) (upd H l (.lst (letters a)))
theorem letters_vals {a : Str} {its : Array Value} (h : ItemsOf (SignAt a) its a.cps.size) : Vals (letters a) its.toList := by
  obtain ⟨hs, hi⟩ := h
  have main : ∀ (cs : List Nat) (vs : List Value), cs.length = vs.length → (∀ (j : Nat) (v : Value), vs[j]? = some v → ∃ (c : Nat) (u : Tok), cs[j]? = some c ∧ v = Value.str ⟨#[c]⟩ u) → Vals (cs.map fun c => V.str ⟨#[c]⟩) vs := by
    intro cs
    induction cs with
    | nil => intro vs hl _; cases vs with
      | nil => exact .nil
      | cons _ _ => cases hl
    | cons c cs ih => intro vs hl hv; cases vs with
      | nil => cases hl
      | cons v vs =>
        refine .cons ?_ (ih vs (Nat.succ.inj hl) fun j w hw => hv (j + 1) w hw)
        obtain ⟨c', u, e, rfl⟩ := hv 0 v rfl
        cases e
        exact ⟨u, rfl⟩
  refine main _ _ (by rw [Array.length_toList, Array.length_toList, hs]) fun j v hj => ?_
  rw [Array.getElem?_toList] at hj
  obtain ⟨c, u, e, rfl⟩ := hi j v hj
  exact ⟨c, u, by rw [Array.getElem?_toList]; exact e, rfl⟩
theorem letters_len (a : Str) : (letters a).length = a.length := by
  unfold letters; rw [List.length_map, Array.length_toList]; rfl
theorem call_list_str (hc : X.calm = true) : CallR X (.type "list") qListS := by
  intro pins s σ H xs us Q I r h
  obtain ⟨a, rfl, hl, q⟩ := h
  obtain ⟨u, rfl, rx⟩ := vals1 r
  obtain ⟨t, rfl⟩ := rx
  have big : a.length ≤ sizeLine := by rw [sizeLine_eq]; omega
  refine PySem.call_list_str (I.ok.hd hc) a t (hn := big) ?_
  intro h2 tk acc room keep got its
  refine ⟨.ref s.heap.objs.size, upd H s.heap.objs.size (.lst (letters a)), ?_, rfl, q _ (I.hok.fresh (Nat.le_refl _))⟩
  refine I.laid keep (Nat.le_refl _) ?_
  exact ⟨by rw [letters_len]; exact big, acc.toList, room, letters_vals its, got⟩
theorem r_listS {a : Str} {H : Hp} {Q : VK} (h : ∀ l, H l = none → Q (.ref l) (upd H l (.lst (letters a)))) (hl : a.length ≤ 100000) : qListS [.str a] H Q := ⟨a, rfl, hl, h⟩
end

/-! ### enumerate(tuple) -/
section
variable {P : Program} {w : World} {K : PySem.W.Frag}
/-- the tuple at a, each item behind its number in a new pair -/
def Itn (K : PySem.W.Frag) (a : Addr) : It :=
  ⟨fun i H => ∃ ys z, SqT K H a ys ∧ ys[i]? = some z,
   fun i H v H2 => ∃ p z, v = V.ref p ∧ H p = none ∧ H2 = upd H p (.tup [.int (i : Nat), z]) ∧ (∀ ys, SqT K H a ys → ys[i]? = some z),
   fun i H => ∃ ys : List V, SqT K H a ys ∧ ys.length = i⟩
theorem turn_number {tgs : List Expr} {q : Nat} {at' : Pos} (a en it : Addr) :
    Turn P w K (.Tuple tgs q at') (Itn K a) [en, it] en (fun i g => (∃ last, IsEnum g en it ((i : Nat) : Int) last) ∧ g.IsTupleIter it a i ∧ en ≠ it) where
  mem := List.mem_cons_self ..
  obj := fun i g ⟨⟨last, x1⟩, x2, _⟩ b m => by
    rcases List.mem_cons.mp m with rfl | m
    · exact ⟨_, x1, nofun⟩
    · cases List.mem_singleton.mp m
      obtain ⟨ob, y1, y2, y3⟩ := x2
      exact ⟨ob, y1, fun v z => by rw [y3] at z; exact nomatch z⟩
  keep := fun i g g' ⟨⟨last, x1⟩, x2, x3⟩ same => ⟨⟨last, same en (List.mem_cons_self ..) _ x1⟩, x2.at fun ob z => same it (by simp) ob z, x3⟩
  item := by
    rintro X rfl rfl rfl calm i pins s σ H E I free ⟨⟨last, x1⟩, x2, apart⟩ ⟨ys, z, at1, at2⟩
    obtain ⟨vs, rel, tp, _⟩ := I.tuple at1
    have tp' : s.heap.IsTuple a vs.toArray := tp
    obtain ⟨u, hu, ru⟩ := rel.get at2
    have lt : i < vs.toArray.size := by
      obtain ⟨q1, _⟩ := List.getElem?_eq_some_iff.mp hu
      rw [List.size_toArray]; exact q1
    have hdif : ∀ c : Addr, (∃ ob, s.heap.get? c = some ob ∧ ob.cls ≠ .type "tuple") → a ≠ c := by
      rintro c ⟨ob, y1, y2⟩ rfl
      obtain ⟨ob2, y4, y5, _⟩ := tp'
      rw [y1] at y4; cases y4
      exact y2 y5
    have below : ∀ b ∈ [en, it], b < s.heap.objs.size := fun b m => by
      rcases List.mem_cons.mp m with rfl | m
      · exact Heap.lt_size x1
      · cases List.mem_singleton.mp m
        obtain ⟨ob, y1, _⟩ := x2
        exact Heap.lt_size y1
    have dif : a ≠ it := by
      obtain ⟨ob, y1, y2, _⟩ := x2
      exact hdif it ⟨ob, y1, by rw [y2]; decide⟩
    have dif2 : en ∉ [it, a] := by
      intro z
      rcases List.mem_cons.mp z with z | z
      · exact apart z
      · exact hdif en ⟨_, x1, fun z => absurd (show Value.type "enumerate" = Value.type "tuple" from z) (by decide)⟩ (List.mem_singleton.mp z).symm
    have drawn := Draws.tuple (prog := X.prog) (w := X.w) (A := X.A.in1) (I.ok.hd calm) it a dif vs.toArray
    refine wpAny_pyNext_enum_itemD drawn x1 ⟨x2, tp'⟩ lt apart dif2 ?_
    rintro w1 g1 k1 pw out ⟨it1, tp1⟩ new1 size1 others
    have ew : w1 = u := by
      have e1 : vs.toArray[i]? = some w1 := pw
      rw [List.getElem?_toArray, hu] at e1
      exact (Option.some.inj e1).symm
    subst ew
    refine ⟨_, rfl, wpAny_letOwnedTupleGo_enum (s := { s with heap := g1, toks := k1 + 1 }) out fun g2 en2 but => ?_⟩
    have far : s.heap.objs.size ≠ en := Nat.ne_of_gt (below en (List.mem_cons_self ..))
    have new2 := (but.2 _ far).trans new1
    have I2 : Inv X pins σ (upd H s.heap.objs.size (.tup [.int (i : Nat), z])) { s with heap := g2, toks := k1 + 1 } := by
      refine I.turnedNew (ch := [en, it]) ?_ free (Nat.le_refl _) ?_
      · intro b ob m y
        exact (but.2 b fun e => m (e ▸ List.mem_cons_self ..)).trans (others b ob (fun e => m (e ▸ List.mem_cons_self ..)) (fun e => m (by rw [e]; simp)) y)
      · exact ⟨by rw [sizeLine_eq]; exact (by decide : 2 ≤ 16777216), _, .cons ⟨k1, rfl⟩ (.cons ru .nil), _, new2, rfl, _, rfl⟩
    refine ⟨.ref s.heap.objs.size, _, I2, rfl, ⟨_, z, rfl, I.hok.fresh (Nat.le_refl _), rfl, fun zs hz => ?_⟩, ⟨⟨w1, ?_⟩, it1.at fun ob y => (but.2 it (Ne.symm apart)).trans y, apart⟩, fun b m => ?_⟩
    · rw [I.tuple_inj hz at1]; exact at2
    · rw [Int.natCast_add]; exact en2
    · rw [upd_ne (Nat.ne_of_lt (below b m))]
      exact (free b m).1
  done := by
    rintro X rfl rfl rfl calm i pins s σ H E I free ⟨⟨last, x1⟩, x2, apart⟩ ⟨ys, at1, rfl⟩
    obtain ⟨vs, rel, tp, _⟩ := I.tuple at1
    have tp' : s.heap.IsTuple a vs.toArray := tp
    have dif : a ≠ it := by
      rintro rfl
      obtain ⟨ob, y1, y2, _⟩ := x2
      obtain ⟨ob2, y4, y5, _⟩ := tp'
      rw [y1] at y4; cases y4
      rw [y2] at y5; exact absurd y5 (by decide)
    have drawn := Draws.tuple (prog := X.prog) (w := X.w) (A := X.A.in1) (I.ok.hd calm) it a dif vs.toArray
    have size1 : ys.length = vs.toArray.size := by rw [List.size_toArray]; exact rel.length
    obtain ⟨f0, f1, f2, f3, f4, f5⟩ := free it (by simp)
    refine wpAny_pyNext_enum_endD drawn x1 ⟨size1 ▸ x2, tp'⟩ fun g ext => ⟨rfl, ?_⟩
    exact I.turned (t' := s.toks) (fun b ob m y => ext b ob m y) f0 f1 f3 f4 f5
  self := fun A i s Q E ⟨⟨_, x1⟩, _⟩ h => wpAny_pyIter_enum x1 h
def iNum (K : PySem.W.Frag) (ta : TA) : TI := fun σ H R => ta σ H fun vs H1 => ∃ a ys, vs = [V.ref a] ∧ SqT K H1 a ys ∧ R (Itn K a) H1
theorem walk_num {a : Addr} {ys : List V} : Walk (Itn K a) ys.length (fun H => SqT K H a ys) (YPair (fun i => some (.int (i : Nat))) (fun i => ys[i]?)) := by
  constructor
  · intro i H hi q; exact ⟨ys, ys[i], q, List.getElem?_eq_getElem hi⟩
  · intro H q; exact ⟨ys, q, rfl⟩
  · rintro i H v H2 _ q ⟨p, z, rfl, h1, h2, h3⟩
    exact ⟨p, .int (i : Nat), z, rfl, h1, h2, rfl, h3 ys q⟩
end
set_option maxHeartbeats 1000000 in
theorem meets_number {v : Value} {ob : Obj} {G : Heap → Prop} (B : Begins v ob G) :
    Meets (Builtin.«enumerate.__new__» ⟨[.type "enumerate", v], []⟩) (fun _ R s => G s.heap ∧
      R (.ok (.ret (.ref (s.heap.push ob).objs.size))) { s with heap := (s.heap.push ob).push { cls := .type "enumerate", data := .fields #[.none, .bool false, .ref s.heap.objs.size, rawInt 0, .none, .none] } }) := by
  refine Meets.of_wp fun prog w A R st hh => ?_
  obtain ⟨hp, gl, dp, tk, ext⟩ := st
  obtain ⟨hG, hR⟩ := hh
  have kin := sub_enumerate
  have begin' : ∀ {A2 : Around} {E2 : Value → Shared → Prop} {Q2 : Value → Shared → Prop}, Q2 (.ref hp.objs.size) ⟨hp.push ob, gl, dp, tk, ext⟩ → wpAny (model prog w) A2 (pyIter v) Q2 E2 ⟨hp, gl, dp, tk, ext⟩ := by
    intro A2 E2 Q2 q2
    exact B.iter prog w A2 E2 ⟨hp, gl, dp, tk, ext⟩ Q2 hG q2
  wp_walk using begin'
  apply wpAny_stack_any
  intro stk
  apply wpAny_pure
  split
  · rename_i c _ _ _ _ _
    cases (c == Value.type "enumerate") <;> (wp_walk using begin'; exact ⟨_, rfl, hR⟩)
  · wp_walk using begin'
    exact ⟨_, rfl, hR⟩
section
variable {X : Cx}
theorem pi_enumT {e : Expr} {ta : TA} {p pos tpos : Pos} {tgs : List Expr} {q : Nat} (hg : Gl X "enumerate") (hm : X.mg "enumerate" = none) (ha : PA X [e] ta) (na : starEach [e] X.env = [(false, eval e X.env)] := by rfl) :
    PI X (.Tuple tgs q tpos) (.Call (.Name "enumerate" p) [e] [] pos) (iNum X.K ta) := by
  constructor
  intro pins s σ H R I h
  refine Call_ (ld_blt I hg hm bt_enumerate (PyProof.Rows.callWith_type1 (thn (ha.run pos pins s σ H _ I h) ?_) na rfl))
  rintro us s1 ⟨vs, H1, I1, r1, a, ys, rfl, hq, next⟩
  obtain ⟨u, rfl, rx⟩ := vals1 r1
  obtain rfl : u = .ref a := rx
  obtain ⟨its, rel, tp, _⟩ := I1.tuple hq
  have tp' : s1.heap.IsTuple a its.toArray := tp
  have B := begins_tuple a its.toArray
  refine callType_new F.called_enumerate (by decide) (F.typeCall_enumerate_1 _) (F.newCall_enumerate_1 _) (fun ob => F.args_object_init_2 ob _) F.entry_enumerate_new (meets_number B) ⟨tp', ?_⟩
  let t1 := s1.heap.push { cls := .type "tuple_iterator", data := .fields #[.ref a, .int 0 0] }
  have n1 : t1.objs.size = s1.heap.objs.size + 1 := Heap.size_push ..
  show _ ∧ _
  rw [n1]
  have x1 : IsEnum (t1.push { cls := .type "enumerate", data := .fields #[.none, .bool false, .ref s1.heap.objs.size, rawInt 0, .none, .none] }) (s1.heap.objs.size + 1) s1.heap.objs.size 0 .none := by
    have z := Heap.get?_push_size t1 (o := { cls := .type "enumerate", data := .fields #[.none, .bool false, .ref s1.heap.objs.size, rawInt 0, .none, .none] }) rfl
    rw [n1] at z; exact z
  have same : ∀ b ob, s1.heap.get? b = some ob → (t1.push { cls := .type "enumerate", data := .fields #[.none, .bool false, .ref s1.heap.objs.size, rawInt 0, .none, .none] }).get? b = some ob :=
    fun b ob z => Heap.get?_push_of_some _ (Heap.get?_push_of_some _ z)
  refine ⟨⟨_, x1, rfl⟩, wpAny_pyIter_enum x1 ?_⟩
  have it1 : (t1.push { cls := .type "enumerate", data := .fields #[.none, .bool false, .ref s1.heap.objs.size, rawInt 0, .none, .none] }).IsTupleIter s1.heap.objs.size a 0 :=
    ⟨_, Heap.get?_push_of_some _ (Heap.get?_push_size _ rfl), rfl, rfl⟩
  refine ⟨s1.heap.objs.size + 1, [s1.heap.objs.size + 1, s1.heap.objs.size], _, Itn X.K a, H1, rfl, I1.kept (t' := s1.toks) same, turn_number a (s1.heap.objs.size + 1) s1.heap.objs.size, ⟨⟨.none, x1⟩, it1, Nat.succ_ne_self _⟩, ?_, next⟩
  intro b m
  have le : s1.heap.objs.size ≤ b := by
    rcases List.mem_cons.mp m with rfl | m
    · exact Nat.le_succ _
    · exact Nat.le_of_eq (List.mem_singleton.mp m).symm
  exact I1.fpOk le (I1.hok.fresh le)
end
/-! ### any walk, for loops and comprehensions -/
section
variable {σ : L2.St} {H : Hp} {nx bk ct : L2.St → Hp → Prop} {rt Q : VK} {te : TE} {tt : TT} {tb : TS} {tl : TA} {g : TG} {K : PySem.W.Frag} {J : It} {n : Nat} {G : Hp → Prop} {Y : Nat → Hp → V → Hp → Prop} {vs : List Nat}
theorem fr_it (w : Walk J n G Y) (Pv : Nat → L2.St → Hp → Prop) (h0 : Pv 0 σ H) (hG : ∀ i σ H, i ≤ n → Pv i σ H → G H)
    (hs : ∀ i x σ H H', i < n → Pv i σ H → Y i H x H' → g x σ H' fun σ2 H2 => tb ⟨Pv (i + 1), rt, nx, Pv (i + 1)⟩ σ2 H2) (hd : ∀ σ H, Pv n σ H → nx σ H) : FR J g tb ⟨nx, rt, bk, ct⟩ σ H := for_it w Pv h0 hG hs hd
theorem lw_it (w : Walk J n G Y) (Pv : Addr → Nat → Hp → Prop) (h0 : ∀ D, H D = none → Pv D 0 (upd H D (.lst []))) (hG : ∀ D, H D = none → ∀ i H, i ≤ n → Pv D i H → G H)
    (hs : ∀ D, H D = none → ∀ i x H H', i < n → Pv D i H → Y i H x H' → g x (wipe σ vs) H' fun σ2 H2 => wipe σ2 vs = wipe σ vs ∧ tt σ2 H2 fun b H3 =>
      if b = true then te σ2 H3 fun y H4 => ∃ acc, H4 D = some (.lst acc) ∧ acc.length < sizeLine ∧ Pv D (i + 1) (upd H4 D (.lst (acc ++ [y]))) else Pv D (i + 1) H3) (hd : ∀ D, H D = none → ∀ H, Pv D n H → Q (.ref D) H) : LCW J g tt te vs σ H Q :=
  fun D hD => lc_it w (Pv D) (h0 D hD) (hG D hD) (hs D hD) (hd D hD)
theorem r_lcN (h : tl σ H fun us H1 => ∃ a ys, us = [V.ref a] ∧ SqT K H1 a ys ∧ LCW (Itn K a) g tt te vs σ H1 Q) : tLc (iNum K tl) g tt te vs σ H Q := h
theorem r_forN {D : Ends} (h : tl σ H fun us H1 => ∃ a ys, us = [V.ref a] ∧ SqT K H1 a ys ∧ FR (Itn K a) g tb D σ H1) : tFor (iNum K tl) g tb D σ H := h
theorem r_lcE (h : tl σ H fun us H1 => ∃ a ys, us = [V.ref a] ∧ SqL K H1 a ys ∧ LCW (Ite K a) g tt te vs σ H1 Q) : tLc (iEnum K tl) g tt te vs σ H Q := h
theorem r_forE {D : Ends} (h : tl σ H fun us H1 => ∃ a ys, us = [V.ref a] ∧ SqL K H1 a ys ∧ FR (Ite K a) g tb D σ H1) : tFor (iEnum K tl) g tb D σ H := h
theorem r_seqN {a : Addr} {ys : List V} {Pr : Addr → Prop} (q : SqT K H a ys) (h : Pr a) : ∃ b zs, [V.ref a] = [V.ref b] ∧ SqT K H b zs ∧ Pr b := ⟨a, ys, rfl, q, h⟩
theorem r_seqE {a : Addr} {ys : List V} {Pr : Addr → Prop} (q : SqL K H a ys) (h : Pr a) : ∃ b zs, [V.ref a] = [V.ref b] ∧ SqL K H b zs ∧ Pr b := ⟨a, ys, rfl, q, h⟩
end
end Sy

/-! Me: equal tuples and lists of plain data. -/
namespace Me
open PySem PySem.Spec PyProof.Rows L2 Sx
theorem lay_ints : ∀ ns : List Int, PyData.canLayAll0 (ns.map PyData.int) = true
  | [] => rfl
  | n :: ns => by
    have h := lay_ints ns
    simp only [List.map_cons, PyData.canLayAll0, PyData.canLay0, h, Bool.and_self]
theorem deep_ints : ∀ ns : List Int, PyData.depthAll (ns.map PyData.int) ≤ 1
  | [] => by simp [PyData.depthAll]
  | n :: ns => by
    have h := deep_ints ns
    simp only [List.map_cons, PyData.depthAll, PyData.depth]
    omega
theorem lay_strs : ∀ ns : List Str, ns.all PyData.strOk = true → PyData.canLayAll0 (ns.map PyData.str) = true
  | [], _ => rfl
  | n :: ns, k => by
    rw [List.all_cons, Bool.and_eq_true] at k
    have h := lay_strs ns k.2
    simp only [List.map_cons, PyData.canLayAll0, PyData.canLay0, h, k.1, Bool.and_self]
theorem deep_strs : ∀ ns : List Str, PyData.depthAll (ns.map PyData.str) ≤ 1
  | [] => by simp [PyData.depthAll]
  | n :: ns => by
    have h := deep_strs ns
    simp only [List.map_cons, PyData.depthAll, PyData.depth]
    omega
theorem tup_ok {ds : List PyData} (h1 : PyData.canLayAll0 ds = true) (h2 : PyData.depthAll ds ≤ 40) : SeqAt.shaped (.tuple ds) = true := by
  unfold SeqAt.shaped
  rw [Bool.and_eq_true, decide_eq_true_iff]
  refine ⟨by simpa [PyData.canLay0] using h1, ?_⟩
  simp only [PyData.depth]; omega
theorem lst_ok {ds : List PyData} (h1 : PyData.canLayAll0 ds = true) (h2 : PyData.depthAll ds ≤ 40) : SeqAt.shaped (.list ds) = true := by
  unfold SeqAt.shaped
  rw [Bool.and_eq_true, decide_eq_true_iff]
  refine ⟨by simpa [PyData.canLay0] using h1, ?_⟩
  simp only [PyData.depth]; omega
section
variable {K : PySem.W.Frag} {H : Hp} {Q : VK} {a b : Addr} {ns : List Int} {ts : List Str}
theorem sh_tupI : SeqAt.shaped (.tuple (ns.map PyData.int)) = true := tup_ok (lay_ints ns) (Nat.le_trans (deep_ints ns) (by decide))
theorem sh_lstI : SeqAt.shaped (.list (ns.map PyData.int)) = true := lst_ok (lay_ints ns) (Nat.le_trans (deep_ints ns) (by decide))
theorem sh_tupS (hs : ts.all PyData.strOk = true) : SeqAt.shaped (.tuple (ts.map PyData.str)) = true := tup_ok (lay_strs ts hs) (Nat.le_trans (deep_strs ts) (by decide))
theorem sh_lstS (hs : ts.all PyData.strOk = true) : SeqAt.shaped (.list (ts.map PyData.str)) = true := lst_ok (lay_strs ts hs) (Nat.le_trans (deep_strs ts) (by decide))
theorem eqv_same {d : PyData} (h : SeqAt.shaped d = true) : PyData.eqv d d = true := SeqAt.eqv_refl d (SeqAt.canLay_of_shaped h)
/-- two tuples of the same ints are equal -/
theorem eq_tupI (h1 : H a = some (.tup (ns.map V.int))) (h2 : H b = some (.tup (ns.map V.int))) (h : Q (.bl true) H) : rEqD K (.ref a) (.ref b) H Q :=
  r_eqD (.tup (SqT.of h1) (dpI ns)) (.tup (SqT.of h2) (dpI ns)) sh_tupI sh_tupI (by rw [eqv_same sh_tupI]; exact h)
theorem ne_tupI (h1 : H a = some (.tup (ns.map V.int))) (h2 : H b = some (.tup (ns.map V.int))) (h : Q (.bl false) H) : rNeD K (.ref a) (.ref b) H Q :=
  r_neD (.tup (SqT.of h1) (dpI ns)) (.tup (SqT.of h2) (dpI ns)) sh_tupI sh_tupI (by rw [eqv_same sh_tupI]; exact h)
theorem eq_lstI (h1 : H a = some (.lst (ns.map V.int))) (h2 : H b = some (.lst (ns.map V.int))) (h : Q (.bl true) H) : rEqD K (.ref a) (.ref b) H Q :=
  r_eqD (.lst (SqL.of h1) (dpI ns)) (.lst (SqL.of h2) (dpI ns)) sh_lstI sh_lstI (by rw [eqv_same sh_lstI]; exact h)
theorem ne_lstI (h1 : H a = some (.lst (ns.map V.int))) (h2 : H b = some (.lst (ns.map V.int))) (h : Q (.bl false) H) : rNeD K (.ref a) (.ref b) H Q :=
  r_neD (.lst (SqL.of h1) (dpI ns)) (.lst (SqL.of h2) (dpI ns)) sh_lstI sh_lstI (by rw [eqv_same sh_lstI]; exact h)
/-- any two values that read the same -/
theorem ne_same {x y : V} {d : PyData} (hx : Dp K H x d) (hy : Dp K H y d) (hs : SeqAt.shaped d = true) (h : Q (.bl false) H) : rNeD K x y H Q :=
  r_neD hx hy hs hs (by rw [eqv_same hs]; exact h)
theorem eq_same {x y : V} {d : PyData} (hx : Dp K H x d) (hy : Dp K H y d) (hs : SeqAt.shaped d = true) (h : Q (.bl true) H) : rEqD K x y H Q :=
  r_eqD hx hy hs hs (by rw [eqv_same hs]; exact h)
end
end Me

/-! Sw: comparisons by own defs, data that are less, texts turned round. -/
namespace Sw
open PySem PySem.Spec PyProof.Rows L2 Sx Sy
open Sem (wp)
section
variable {X : Cx}
/-! ### less, for data -/
def qLtD (K : PySem.W.Frag) : R2 := fun x y H Q => ∃ d e, Dp K H x d ∧ Dp K H y e ∧ PySem.W.alike d e = true ∧ d ≠ .none ∧ d.depth ≤ 60 ∧ Q (.bl (PySem.W.dataLt d e)) H
theorem op_ltD (hu : X.A.units + 64 < cLine) : OpR X (compareOp .Lt) (qLtD X.K) := by
  intro pins s σ H x y v u Q I rx ry h
  obtain ⟨d, e, hd, he, al, nn, dp, q⟩ := h
  obtain ⟨as, h1⟩ := Dp.reads I d x v hd rx
  obtain ⟨bs, h2⟩ := Dp.reads I e y u he ry
  have room : X.A.units + min d.depth e.depth < cLine := by
    have := Nat.min_le_left d.depth e.depth
    omega
  exact PySem.W.rcLt_alike d e X.A s v u as bs h1 h2 al nn room X.prog X.w X.xe _ ⟨.bl _, H, I, rfl, q⟩
theorem r_ltD {K : PySem.W.Frag} {x y : V} {d e : PyData} {H : Hp} {Q : VK} (hx : Dp K H x d) (hy : Dp K H y e) (al : PySem.W.alike d e = true) (nn : d ≠ .none) (dp : d.depth ≤ 60) (h : Q (.bl (PySem.W.dataLt d e)) H) : qLtD K x y H Q := ⟨d, e, hx, hy, al, nn, dp, h⟩
/-! ### text[::-1] -/
def tBack (te : TE) : TE := fun σ H Q => te σ H fun x H1 => ∃ l : List Nat, x = .str ⟨l.toArray⟩ ∧ l.length ≤ 100000 ∧ Q (.str ⟨l.reverse.toArray⟩) H1
theorem picked_back (l : List Nat) : (Builtin.Str.strSliceIndices none none (-1) (⟨l.toArray⟩ : Str).length).filterMap ((⟨l.toArray⟩ : Str).cps[·]?) = l.reverse := by
  have e : (⟨l.toArray⟩ : Str).length = l.length := by simp [Str.length]
  rw [e, picked_rev]
  apply List.ext_getElem?
  intro i
  rw [filterMap_get _ _ (by
    intro j hj
    obtain ⟨k, hk, rfl⟩ := List.mem_map.mp hj
    have := List.mem_range.mp hk
    simp; omega), List.map_map, List.getElem?_map]
  by_cases h : i < l.length
  · rw [List.getElem?_range h, List.getElem?_reverse h]
    have h2 : l.length - 1 - i < l.length := by omega
    simp [Array.getD, h2]
  · rw [List.getElem?_eq_none (by simpa using h), List.getElem?_eq_none (by simpa using h)]; rfl
theorem pe_revS {e : Expr} {te : TE} {k : Nat} {p1 p2 p3 pos : Pos} (he : PE X e te) : PE X (.Subscript e (.Slice none none (some (.UnaryOp .USub (.Constant (.int 1) k p1) p2)) p3) pos) (tBack te) := by
  constructor
  intro pins s σ H Q I h
  refine Subscript_ (thn (he.run pins s σ H _ I h) ?_)
  rintro v s1 ⟨x, H1, I1, r1, l, rfl, hl, q⟩
  obtain ⟨t, rfl⟩ := r1
  have step : PO X (some (.UnaryOp .USub (.Constant (.int 1) k p1) p2)) (tPart (tUn (rU fun i => .int (-i)) (tC (.int 1)))) := po_some (pe_un un_neg pe_int)
  refine wpAny_Slice (thn (po_none.run pins s1 σ H1 (fun o H2 => o = none ∧ H2 = H1) I1 ⟨rfl, rfl⟩) ?_)
  rintro v1 s2 ⟨o1, H2, I2, w1, rfl, rfl⟩
  refine thn (po_none.run pins s2 σ H2 (fun o H3 => o = none ∧ H3 = H2) I2 ⟨rfl, rfl⟩) ?_
  rintro v2 s3 ⟨o2, H3, I3, w2, rfl, rfl⟩
  refine thn (step.run pins s3 σ H3 (fun o H4 => o = some (-1) ∧ H4 = H3) I3 ⟨1, rfl, -1, rfl, rfl, rfl⟩) ?_
  rintro v3 s4 ⟨o3, H4, I4, w3, rfl, rfl⟩
  obtain ⟨b1, rfl, e1⟩ := IsPart.raw w1
  obtain ⟨b2, rfl, e2⟩ := IsPart.raw w2
  obtain ⟨b3, rfl, e3⟩ := IsPart.raw w3
  have n1 : b1 = none := Option.map_eq_none_iff.mp e1
  have n2 : b2 = none := Option.map_eq_none_iff.mp e2
  obtain ⟨⟨i3, t3⟩, rfl, e4⟩ := Option.map_eq_some_iff.mp e3
  subst n1 n2
  obtain rfl : i3 = -1 := e4
  have I5 : Inv X pins σ H4 { s4 with heap := s4.heap.push { cls := .type "slice", data := .fields #[partValue none, partValue none, partValue (some (-1, t3))] } } := I4.kept (t' := s4.toks) fun b ob z => Heap.get?_push_of_some _ z
  refine tail_any (ops := [.str ⟨l.toArray⟩ t, .ref s4.heap.objs.size]) (typeIs_str _ _ _) F.slot_str_getitem.lookup ?_ (by with_unfolding_all rfl)
  refine wpAny_getItem_str_slice (l := none) (u := none) (st := some (-1, t3)) ⟨_, Heap.get?_push_size _ rfl, rfl, rfl⟩ rfl ?_
  have made : sliceMade ⟨l.toArray⟩ t none none (some (-1, t3)) = .str ⟨l.reverse.toArray⟩ := by
    unfold sliceMade slicePicked
    rw [if_neg (by intro z; rw [Bool.and_eq_true] at z; exact absurd (show ((-1 : Int) == 1) = true from z.1) (by decide))]
    show Made.str ⟨((Builtin.Str.strSliceIndices none none (-1) (⟨l.toArray⟩ : Str).length).filterMap ((⟨l.toArray⟩ : Str).cps[·]?)).toArray⟩ = _
    rw [picked_back]
  rw [made]
  refine ⟨?_, .str _, H4, I5.tok _, ⟨_, rfl⟩, q⟩
  show l.reverse.toArray.size ≤ _
  rw [List.size_toArray, List.length_reverse, sizeLine_eq]; omega
theorem r_back {te : TE} {σ : L2.St} {H : Hp} {Q : VK} (h : te σ H fun x H1 => ∃ l : List Nat, x = .str ⟨l.toArray⟩ ∧ l.length ≤ 100000 ∧ Q (.str ⟨l.reverse.toArray⟩) H1) : tBack te σ H Q := h
/-! ### x == y, x < y by an own def -/
def qOwn (C : Addr) (sp : Sp) : R2 := fun x y H Q => ∃ a dx fs b dy gs, x = .ref a ∧ y = .ref b ∧ H a = some (.ins C dx fs) ∧ H b = some (.ins C dy gs) ∧ sp [x, y] H Q C8.E0
/-- what a class's own comparisons stand on -/
structure OwnOp (K : PySem.W.Frag) (C : Addr) (m : Str) (g : Addr) : Prop where
  at' : PySem.W.findIn K (.ref C) m = some (some (.ref g))
  fn : PySem.W.isFn K (.ref g) = true
variable {P : Program} {n : Nat} {sp : Sp} {C g : Addr} {fd : FuncData} {ps : List Str}
theorem op_own {op : CmpOp} (hop : ∀ a b, compareOp op a b = richCompare op a b) (o : OwnOp X.K C (cmpInfo op).2.1 g) (F : FnOk X.prog X.w X.K X.mg X.base C8.CX0 n g fd ps sp) (hr : Room n X.A) (bd : Binds X.K fd ps []) : OpR X (compareOp op) (qOwn C sp) := by
  intro pins s σ H x y v u Q I rx ry h
  obtain ⟨a, dx, fs, b, dy, gs, rfl, rfl, ha, hb, q⟩ := h
  obtain rfl : v = .ref a := rx
  obtain rfl : u = .ref b := ry
  obtain ⟨mA, J, _⟩ := ins_get I.hok ha
  obtain ⟨mB, J2, _⟩ := ins_get I.hok hb
  obtain ⟨od, J, _⟩ := J.look
  obtain ⟨od2, J2, _⟩ := J2.look
  obtain ⟨m, fr⟩ := I.fr
  rw [hop]
  refine PySem.W.cmp_K (op := op) (tb := .ref C) hr.units0 fr I.ok.mod.kin J J2.type (by simp [PySem.W.notFirst]) o.at' o.fn ?_
  have len := F.len _ _ _ _ q
  have both : Vals [V.ref a, V.ref b] [Value.ref a, Value.ref b] := .cons rfl (.cons rfl .nil)
  have bind := bd s [.ref a, .ref b] I.kIn (by simpa using len)
  refine wpAny_call (codeAny_mono (F.run X.A X.stack s H ⟨[.ref a, .ref b], []⟩ [.ref a, .ref b] [.ref a, .ref b] Q C8.E0 hr I.env0 (by simpa using bind) both q) ?_)
  intro r s2 hq
  cases r with
  | error e => exact False.elim hq
  | ok fl =>
    cases fl with
    | ret z =>
      obtain ⟨v, H2, I2, rz, qz⟩ := I.after hq
      exact SlX.cmpback rz ⟨v, H2, I2, rz, qz⟩
    | next => exact hq.elim
    | brk => exact hq.elim
    | cont => exact hq.elim
end
end Sw
namespace Sw
open PySem PySem.Spec PyProof.Rows L2 Sx Sy
/-! ### x != y by an own == -/
section
variable {M : Model} {prog : Program} {w : World} {A : Around} {E : Value → Shared → Prop} {s : Shared} {K : PySem.W.Frag} {x C : Addr} {ox : Obj} {od : Option Obj}
theorem bound_ne {args : List Value} {Q : Option Value → Shared → Prop} (X : K.In s.heap) (I : PySem.W.InstAt s.heap x ox C od) (hs : PySem.W.findIn K (.ref C) "__ne__" = some (some (.builtin "object.__ne__")))
    (h : wpAny M A (call (.builtin "object.__ne__") (.ref x :: args)) (fun v => Q (some v)) E s) : wpAny M A (callSpecialIfBound? (.ref x) "__ne__" args) Q E s := by
  have last : wpAny M A (call (.builtin "object.__ne__") ([.ref x] ++ args) >>= fun v => pure (some v)) Q E s := wpAny_bind (wpAny_mono h (fun v s2 h2 => wpAny_pure h2) fun _ _ e => e)
  simp only [callSpecialIfBound?, bindSpecialIfBound?]
  apply wpAny_holding
  refine wpAny_bind (wpAny_bind (wpAny_bind (I.type.here ((PySem.W.looks_findIn X hs).here ?_))))
  apply wpAny_bind
  refine wpAny_askSetting (wpAny_ite ?_)
  split
  · exact wpAny_bind (wpAny_of_eq (F.cmp_object.ne.bind _) (wpAny_pure (by exact last)))
  · exact wpAny_tryCatch (wpAny_bind (wpAny_of_eq (F.cmp_object.ne.bind _) (wpAny_pure (by exact last))))
theorem call_ne {f : Addr} {b : Value} {Q : Value → Shared → Prop} (X : K.In s.heap) (I : PySem.W.InstAt s.heap x ox C od) (hm : PySem.W.mroIn K C (.type "object") = some true) (hu : A.in1.units < cLine)
    (hs : PySem.W.findIn K (.ref C) "__eq__" = some (some (.ref f))) (hf : PySem.W.isFn K (.ref f) = true)
    (h : wpAny (model prog w) A.in1 (call (.ref f) [.ref x, b]) (fun v s' => ∃ k, v = .bool k ∧ Q (.bool (!k)) s') E s) : wpAny (model prog w) A (call (.builtin "object.__ne__") [.ref x, b]) Q E s := by
  refine wpAny_call (codeAny_call_builtin F.cmp_object.ne.plain F.cmpEntry_ne (PySem.W.check_slot F.cmpKind_ne F.cmpSplit_ne (I.type.andThen (PySem.W.looks_mroIn X hm)) (F.cmpArgs_ne _ _) ?_))
  unfold Builtin.«object.__ne__»
  refine wpAny_bind (m := slotArgs "__ne__" 1 ⟨[.ref x, b], []⟩) (wpAny_of_eq (a := (Value.ref x, [b])) rfl ?_)
  show wpAny _ _ (cRoomFor "comparison" [.ref x, b] >>= _) _ _ _
  refine wpAny_bind (wpAny_cRoomFor hu ?_)
  show wpAny _ _ (callSpecialIfBound? (.ref x) "__eq__" [b] >>= _) _ _ _
  refine wpAny_bind (PySem.W.ifBound_K X I hs hf (wpAny_mono h ?_ fun _ _ e => e))
  rintro v s2 ⟨k, rfl, hq⟩
  refine wpAny_bind (wpAny_truthy_bool ?_)
  exact wpAny_pure hq
end
end Sw
namespace Sw
open PySem PySem.Spec PyProof.Rows L2 Sx Sy
section
variable {prog : Program} {w : World} {A : Around} {E : Value → Shared → Prop} {s : Shared} {K : PySem.W.Frag} {x y C : Addr} {ox oy : Obj} {od oe : Option Obj} {b : Value}
theorem differ {f : Addr} {Q : Value → Shared → Prop} (hu : A.in1.units < cLine) (hu0 : A.units < cLine) (X : K.In s.heap) (I : PySem.W.InstAt s.heap x ox C od) (J : PySem.W.InstAt s.heap y oy C oe) (hm : PySem.W.mroIn K C (.type "object") = some true)
    (hn : PySem.W.findIn K (.ref C) "__ne__" = some (some (.builtin "object.__ne__"))) (hs : PySem.W.findIn K (.ref C) "__eq__" = some (some (.ref f))) (hf : PySem.W.isFn K (.ref f) = true)
    (h : wpAny (model prog w) A.in1 (call (.ref f) [.ref x, .ref y]) (fun v s' => ∃ k, v = .bool k ∧ Q (.bool (!k)) s') E s) : wpAny (model prog w) A (richCompare .NotEq (.ref x) (.ref y)) Q E s := by
  have try1 : wpAny (model prog w) A (tryCompare (.ref x) "__ne__" (.ref y)) (fun r s' => ∃ k : Bool, r = some (.bool k) ∧ Q (.bool k) s') E s := by
    have t : wpAny (model prog w) A (call (.builtin "object.__ne__") [.ref x, .ref y]) (fun v s' => ∃ k : Bool, v = .bool k ∧ Q (.bool k) s') E s := by
      refine call_ne X I hm hu hs hf (wpAny_mono h ?_ fun _ _ e => e)
      rintro v s2 ⟨k, rfl, q⟩
      exact ⟨k, rfl, !k, rfl, q⟩
    unfold tryCompare
    refine wpAny_bind (bound_ne X I hn (wpAny_mono t ?_ fun _ _ e => e))
    rintro v s2 ⟨k, rfl, q⟩
    exact wpAny_pure ⟨k, rfl, q⟩
  unfold richCompare
  simp only [oneThing_ref]
  apply wpAny_holding
  refine wpAny_bind (wpAny_cRoomFor hu0 ?_)
  refine wpAny_bind (I.type.here (wpAny_bind (J.type.here ?_)))
  split
  · rename_i q
    exact absurd q (by simp)
  · apply wpAny_bind
    apply wpAny_pure
    simp only [Bool.false_eq_true, if_false]
    refine wpAny_bind (wpAny_mono try1 ?_ fun _ _ e => e)
    rintro r s2 ⟨k, rfl, q⟩
    exact wpAny_pure q
end
section
variable {X : Cx} {n : Nat} {sp : Sp} {C g : Addr} {fd : FuncData} {ps : List Str}
def qOwnNe (C : Addr) (sp : Sp) : R2 := fun x y H Q => ∃ a dx fs b dy gs, x = .ref a ∧ y = .ref b ∧ H a = some (.ins C dx fs) ∧ H b = some (.ins C dy gs) ∧ sp [x, y] H (fun z H' => ∃ k, z = .bl k ∧ Q (.bl (!k)) H') C8.E0
theorem op_ownNe (o : OwnOp X.K C "__eq__" g) (hm : PySem.W.mroIn X.K C (.type "object") = some true) (hn : PySem.W.findIn X.K (.ref C) "__ne__" = some (some (.builtin "object.__ne__")))
    (F : FnOk X.prog X.w X.K X.mg X.base C8.CX0 n g fd ps sp) (hr : Room (n + 1) X.A) (bd : Binds X.K fd ps []) : OpR X (compareOp .NotEq) (qOwnNe C sp) := by
  intro pins s σ H x y v u Q I rx ry h
  obtain ⟨a, dx, fs, b, dy, gs, rfl, rfl, ha, hb, q⟩ := h
  obtain rfl : v = .ref a := rx
  obtain rfl : u = .ref b := ry
  obtain ⟨mA, J, _⟩ := ins_get I.hok ha
  obtain ⟨mB, J2, _⟩ := ins_get I.hok hb
  obtain ⟨od, J, _⟩ := J.look
  obtain ⟨od2, J2, _⟩ := J2.look
  refine differ hr.in1.units0 hr.units0 I.kIn J J2 hm hn o.at' o.fn ?_
  have len := F.len _ _ _ _ q
  have both : Vals [V.ref a, V.ref b] [Value.ref a, Value.ref b] := .cons rfl (.cons rfl .nil)
  have bind := bd s [.ref a, .ref b] I.kIn (by simpa using len)
  refine wpAny_call (codeAny_mono (F.run X.A.in1 X.stack s H ⟨[.ref a, .ref b], []⟩ [.ref a, .ref b] [.ref a, .ref b] _ C8.E0 hr.in1 I.env0.in1 (by simpa using bind) both q) ?_)
  intro r s2 hq
  cases r with
  | error e => exact False.elim hq
  | ok fl =>
    cases fl with
    | ret z =>
      obtain ⟨v, H2, I2, rz, k, rfl, qz⟩ := I.after hq
      obtain rfl : z = .bool k := rz
      exact ⟨k, rfl, .bl (!k), H2, I2, rfl, qz⟩
    | next => exact hq.elim
    | brk => exact hq.elim
    | cont => exact hq.elim
end
end Sw

/-! Ob: in, [], len, str, ~ and f-strings by a class's own defs. -/
namespace Ob
open PySem PySem.Spec PyProof.Rows L2 Sx Sw
section
variable {X : Cx} {n : Nat} {sp : Sp} {C g : Addr} {fd : FuncData} {ps : List Str}
/-- the def at g, called from around A -/
theorem own_call {A : Around} {pins : List (Addr × Obj)} {σ : L2.St} {H : Hp} {s : Shared} {vs : List V} {us : List Value} {Q : VK} {E : Value → Shared → Prop} (I : Inv X pins σ H s) (e0 : Env0 X.prog X.w X.K X.mg X.base A X.stack s H) (room : Room n A)
    (F : FnOk X.prog X.w X.K X.mg X.base C8.CX0 n g fd ps sp) (bd : Binds X.K fd ps []) (r : Vals vs us) (q : sp vs H Q C8.E0) : wpAny (model X.prog X.w) A (call (.ref g) us) (EP X pins σ Q) E s := by
  have len : us.length = ps.length := by rw [← r.length]; exact F.len _ _ _ _ q
  have bind := bd s us I.kIn (by rw [List.append_nil]; exact len)
  rw [List.append_nil] at bind
  refine wpAny_call (codeAny_mono (F.run A X.stack s H ⟨us, []⟩ us vs Q C8.E0 room e0 bind r q) ?_)
  intro res s2 got
  cases res with
  | error e => exact False.elim got
  | ok fl =>
    cases fl with
    | ret z => exact I.after got
    | next => exact got.elim
    | brk => exact got.elim
    | cont => exact got.elim
theorem v1 (b : Addr) : Vals [V.ref b] [Value.ref b] := .cons rfl .nil
theorem v2 {b : Addr} {x : V} {v : Value} (r : RelV x v) : Vals [V.ref b, x] [Value.ref b, v] := .cons rfl (.cons r .nil)
/-! ### x in obj -/
def qIn (C : Addr) (sp : Sp) : R2 := fun x y H Q => ∃ b dy gs, y = .ref b ∧ H b = some (.ins C dy gs) ∧ sp [y, x] H (fun z H' => ∃ k, z = .bl k ∧ Q (.bl k) H') C8.E0
def qNotIn (C : Addr) (sp : Sp) : R2 := fun x y H Q => ∃ b dy gs, y = .ref b ∧ H b = some (.ins C dy gs) ∧ sp [y, x] H (fun z H' => ∃ k, z = .bl k ∧ Q (.bl (!k)) H') C8.E0
theorem op_ownIn (o : OwnOp X.K C "__contains__" g) (F : FnOk X.prog X.w X.K X.mg X.base C8.CX0 n g fd ps sp) (hr : Room n X.A) (bd : Binds X.K fd ps []) : OpR X (compareOp .In) (qIn C sp) := by
  intro pins s σ H x y v u Q I rx ry now
  obtain ⟨b, dy, gs, rfl, hb, q⟩ := now
  obtain rfl : u = .ref b := ry
  obtain ⟨mB, J, _⟩ := ins_get I.hok hb
  obtain ⟨od, J, _⟩ := J.look
  obtain ⟨m, fr⟩ := I.fr
  refine PySem.W.in_K fr I.ok.mod.kin J o.at' o.fn (wpAny_mono (own_call I I.env0 hr F bd (v2 rx) q) ?_ fun _ _ e => e)
  rintro z s' ⟨v', H', I', rz, k, rfl, q'⟩
  obtain rfl : z = .bool k := rz
  exact wpAny_truthy_bool ⟨.bl k, H', I', rfl, q'⟩
theorem op_ownNotIn (o : OwnOp X.K C "__contains__" g) (F : FnOk X.prog X.w X.K X.mg X.base C8.CX0 n g fd ps sp) (hr : Room n X.A) (bd : Binds X.K fd ps []) : OpR X (compareOp .NotIn) (qNotIn C sp) := by
  intro pins s σ H x y v u Q I rx ry now
  obtain ⟨b, dy, gs, rfl, hb, q⟩ := now
  obtain rfl : u = .ref b := ry
  obtain ⟨mB, J, _⟩ := ins_get I.hok hb
  obtain ⟨od, J, _⟩ := J.look
  obtain ⟨m, fr⟩ := I.fr
  refine PySem.W.notIn_K fr I.ok.mod.kin J o.at' o.fn (wpAny_mono (own_call I I.env0 hr F bd (v2 rx) q) ?_ fun _ _ e => e)
  rintro z s' ⟨v', H', I', rz, k, rfl, q'⟩
  obtain rfl : z = .bool k := rz
  exact wpAny_truthy_bool ⟨.bl (!k), H', I', rfl, q'⟩
/-! ### len(obj), str(obj) -/
def qLenO (C : Addr) (sp : Sp) : List V → Hp → VK → Prop := fun xs H Q => ∃ b dy gs, xs = [.ref b] ∧ H b = some (.ins C dy gs) ∧ sp xs H (fun z H' => ∃ k : Nat, z = .int k ∧ k < 2 ^ 62 ∧ Q (.int k) H') C8.E0
theorem c_lenO (o : OwnOp X.K C "__len__" g) (F : FnOk X.prog X.w X.K X.mg X.base C8.CX0 n g fd ps sp) (hr : Room (n + 1) X.A) (bd : Binds X.K fd ps []) : CallR X (.builtin "len") (qLenO C sp) := by
  intro pins s σ H xs us Q I r now
  obtain ⟨b, dy, gs, rfl, hb, q⟩ := now
  obtain ⟨u, rfl, ru⟩ := vals1 r
  obtain rfl : u = .ref b := ru
  obtain ⟨mB, J, _⟩ := ins_get I.hok hb
  obtain ⟨od, J, _⟩ := J.look
  obtain ⟨m, fr⟩ := I.fr
  refine PySem.W.len_K fr I.ok.mod.kin J o.at' o.fn (wpAny_mono (own_call I I.env0.in1 hr.in1 F bd (v1 b) q) ?_ fun _ _ e => e)
  rintro z s' ⟨v', H', I', rz, k, rfl, hk, q'⟩
  obtain ⟨t, rfl⟩ := (show ∃ t, z = Value.int k t from rz)
  exact ⟨⟨by omega, by omega⟩, .int k, H', I'.tok _, ⟨_, rfl⟩, q'⟩
def qStrO (C : Addr) (sp : Sp) : List V → Hp → VK → Prop := fun xs H Q => ∃ b dy gs, xs = [.ref b] ∧ H b = some (.ins C dy gs) ∧ sp xs H (fun z H' => ∃ t : Str, z = .str t ∧ Q (.str t) H') C8.E0
theorem c_strO (o : OwnOp X.K C "__str__" g) (F : FnOk X.prog X.w X.K X.mg X.base C8.CX0 n g fd ps sp) (hr : Room (n + 2) X.A) (bd : Binds X.K fd ps []) : CallR X (.type "str") (qStrO C sp) := by
  intro pins s σ H xs us Q I r now
  obtain ⟨b, dy, gs, rfl, hb, q⟩ := now
  obtain ⟨u, rfl, ru⟩ := vals1 r
  obtain rfl : u = .ref b := ru
  obtain ⟨mB, J, _⟩ := ins_get I.hok hb
  obtain ⟨od, J, _⟩ := J.look
  refine PySem.W.kso_call hr.in1.in1.units0 I.kIn J o.at' o.fn (wpAny_mono (own_call I I.env0.in1.in1 hr.in1.in1 F bd (v1 b) q) ?_ fun _ _ e => e)
  rintro z s' ⟨v', H', I', rz, t, rfl, q'⟩
  obtain ⟨tk, rfl⟩ := (show ∃ tk, z = Value.str t tk from rz)
  exact ⟨.str t, H', I', ⟨tk, rfl⟩, q'⟩
/-- {x}, x of a class with its own __str__ -/
def tFmtO (C : Addr) (sp : Sp) (te : TE) : TE := fun σ H Q => te σ H fun x H1 => ∃ b dy gs, x = .ref b ∧ H1 b = some (.ins C dy gs) ∧ sp [x] H1 (fun z H' => ∃ t : Str, z = .str t ∧ Q (.str t) H') C8.E0
theorem pe_fmtO {e : Expr} {te : TE} {pos : Pos} (o : OwnOp X.K C "__str__" g) (fm : PySem.W.findIn X.K (.ref C) "__format__" = some (some (.builtin "object.__format__"))) (mr : PySem.W.mroIn X.K C (.type "object") = some true)
    (F : FnOk X.prog X.w X.K X.mg X.base C8.CX0 n g fd ps sp) (hr : Room (n + 2) X.A) (bd : Binds X.K fd ps []) (he : PE X e te) : PE X (.FormattedValue e (-1) none pos) (tFmtO C sp te) := by
  constructor
  intro pins s σ H Q I now
  refine wpAny_FormattedValue_plain (thn (he.run pins s σ H _ I now) ?_)
  rintro v s1 ⟨x, H1, I1, r1, b, dy, gs, rfl, hb, q⟩
  obtain rfl : v = .ref b := r1
  have I2 : Inv X pins σ H1 { s1 with toks := s1.toks + 1 } := I1.tok _
  obtain ⟨mB, J, _⟩ := ins_get I1.hok hb
  obtain ⟨od, J, _⟩ := J.look
  refine PySem.W.kfo_fieldS hr.in1.units0 I1.kIn J fm mr o.at' o.fn (wpAny_mono (own_call I2 I2.env0.in1 (hr.in1.mono (Nat.le_succ _)) F bd (v1 b) q) ?_ fun _ _ e => e)
  rintro z s' ⟨v', H', I', rz, t, rfl, q'⟩
  obtain ⟨tk, rfl⟩ := (show ∃ tk, z = Value.str t tk from rz)
  exact ⟨.str t, H', I', ⟨tk, rfl⟩, q'⟩
/-! ### ~obj, obj[x] -/
def qInv (C : Addr) (sp : Sp) : V → Hp → VK → Prop := fun x H Q => ∃ b dy gs, x = .ref b ∧ H b = some (.ins C dy gs) ∧ sp [x] H Q C8.E0
theorem un_ownInv (o : OwnOp X.K C "__invert__" g) (F : FnOk X.prog X.w X.K X.mg X.base C8.CX0 n g fd ps sp) (hr : Room n X.A) (bd : Binds X.K fd ps []) : UnR X (unaryOp .Invert) (qInv C sp) := by
  intro pins s σ H x v Q I rx now
  obtain ⟨b, dy, gs, rfl, hb, q⟩ := now
  obtain rfl : v = .ref b := rx
  obtain ⟨mB, J, _⟩ := ins_get I.hok hb
  obtain ⟨od, J, _⟩ := J.look
  obtain ⟨m, fr⟩ := I.fr
  exact PySem.W.ksp_inv fr I.ok.mod.kin J o.at' o.fn (own_call I I.env0 hr F bd (v1 b) q)
def qItem (C : Addr) (sp : Sp) : R2 := fun x y H Q => ∃ b dy gs, x = .ref b ∧ H b = some (.ins C dy gs) ∧ sp [x, y] H Q C8.E0
end
end Ob

/-! Sz: zip over three tuples. -/
namespace Sw
open PySem PySem.Spec PyProof.Rows L2 Sx Sy
open Sem (wp)
/-- the tuples at a, b, c side by side, their items in new triples -/
def It3 (K : PySem.W.Frag) (a b c : Addr) : It :=
  ⟨fun i H => ∃ (xs ys zs : List V) (x y z : V), SqT K H a xs ∧ SqT K H b ys ∧ SqT K H c zs ∧ xs[i]? = some x ∧ ys[i]? = some y ∧ zs[i]? = some z,
   fun i H v H2 => ∃ p x y z, v = V.ref p ∧ H p = none ∧ H2 = upd H p (.tup [x, y, z]) ∧ (∀ xs, SqT K H a xs → xs[i]? = some x) ∧ (∀ ys, SqT K H b ys → ys[i]? = some y) ∧ (∀ zs, SqT K H c zs → zs[i]? = some z),
   fun i H => ∃ xs ys zs : List V, SqT K H a xs ∧ SqT K H b ys ∧ SqT K H c zs ∧ i = min (min xs.length ys.length) zs.length⟩
def At3 (N a b c : Nat) (i : Nat) (h : Heap) : Prop :=
  IsZip h (N + 5 : Nat) (N + 3 : Nat) (N + 4 : Nat) .none ∧ IsTupOf3 h (N + 3 : Nat) (.ref N) (.ref (N + 1 : Nat)) (.ref (N + 2 : Nat)) ∧ (∃ a1 a2 a3, IsTupOf3 h (N + 4 : Nat) a1 a2 a3) ∧ h.IsTupleIter N a i ∧ h.IsTupleIter (N + 1 : Nat) b i ∧ h.IsTupleIter (N + 2 : Nat) c i
def six (N : Nat) : List Addr := [(N + 5 : Nat), (N + 3 : Nat), (N + 4 : Nat), N, (N + 1 : Nat), (N + 2 : Nat)]
theorem six_mem {N : Nat} {b : Addr} : b ∈ six N ↔ b = N + 5 ∨ b = N + 3 ∨ b = N + 4 ∨ b = N ∨ b = N + 1 ∨ b = N + 2 := by unfold six; simp
section
variable {P : Program} {w : World} {K : PySem.W.Frag}
theorem walks3 {A : Around} (hh : A.handled = none) (N a b c : Nat) (ha : a < N) (hb : b < N) (hc : c < N) (xs ys zs : Array Value) :
    WalksT P w A (N + 5 : Nat) ((N + 5 : Nat) :: (N + 3 : Nat) :: (N + 4 : Nat) :: ([N, a] ++ [(N + 1 : Nat), b] ++ [(N + 2 : Nat), c])) [(N + 5 : Nat), (N + 4 : Nat), N, (N + 1 : Nat), (N + 2 : Nat)] (min (min xs.size ys.size) zs.size)
      (fun i vals => ∃ x1 x2 x3, xs[i]? = some x1 ∧ ys[i]? = some x2 ∧ zs[i]? = some x3 ∧ vals = #[x1, x2, x3])
      (fun i h => IsZip h (N + 5 : Nat) (N + 3 : Nat) (N + 4 : Nat) .none ∧ IsTupOf3 h (N + 3 : Nat) (.ref N) (.ref (N + 1 : Nat)) (.ref (N + 2 : Nat)) ∧ (∃ a1 a2 a3, IsTupOf3 h (N + 4 : Nat) a1 a2 a3) ∧ (h.IsTupleIter N a i ∧ h.IsTuple a xs) ∧ (h.IsTupleIter (N + 1 : Nat) b i ∧ h.IsTuple b ys) ∧ (h.IsTupleIter (N + 2 : Nat) c i ∧ h.IsTuple c zs))
      (fun i T h => IsZip h (N + 5 : Nat) (N + 3 : Nat) (N + 4 : Nat) (rawInt T) ∧ IsTupOf3 h (N + 3 : Nat) (.ref N) (.ref (N + 1 : Nat)) (.ref (N + 2 : Nat)) ∧ (∃ a1 a2 a3, IsTupOf3 h (N + 4 : Nat) a1 a2 a3) ∧ (h.IsTupleIter N a (i + 1) ∧ h.IsTuple a xs) ∧ (h.IsTupleIter (N + 1 : Nat) b (i + 1) ∧ h.IsTuple b ys) ∧ (h.IsTupleIter (N + 2 : Nat) c (i + 1) ∧ h.IsTuple c zs) ∧ T ≠ (N + 5 : Nat) ∧ T ≠ (N + 4 : Nat) ∧ T ≠ N ∧ T ≠ (N + 1 : Nat) ∧ T ≠ (N + 2 : Nat)) := by
  have D1 := Draws.tuple (prog := P) (w := w) (A := A.in1) hh N a (Nat.ne_of_lt ha) xs
  have D2 := Draws.tuple (prog := P) (w := w) (A := A.in1) hh (N + 1 : Nat) b (show (b : Nat) ≠ N + 1 by omega) ys
  have D3 := Draws.tuple (prog := P) (w := w) (A := A.in1) hh (N + 2 : Nat) c (show (c : Nat) ≠ N + 2 by omega) zs
  have sep := zip_sep3 (N := N) (fp1 := [a]) (fp2 := [b]) (fp3 := [c]) (by intro q m; cases List.mem_singleton.mp m; exact ha) (by intro q m; cases List.mem_singleton.mp m; exact hb) (by intro q m; cases List.mem_singleton.mp m; exact hc)
  exact WalksT.zipD3 sep D1 D2 D3
theorem turn_zip3 {tgs : List Expr} {q : Nat} {at' : Pos} {N a b c : Nat} (ha : a < N) (hb : b < N) (hc : c < N) :
    Turn P w K (.Tuple tgs q at') (It3 K a b c) (six N) (N + 5 : Nat) (fun i g => At3 N a b c i g) where
  mem := List.mem_cons_self ..
  obj := fun i g ⟨x1, x2, ⟨a1, a2, a3, x3⟩, x4, x5, x6⟩ e m => by
    have it : ∀ e t : Addr, g.IsTupleIter e t i → ∃ o, g.get? e = some o ∧ ∀ v, o.data ≠ .cell v := fun e t z => by
      obtain ⟨ob, y1, y2, y3⟩ := z
      exact ⟨ob, y1, fun v z => by rw [y3] at z; exact nomatch z⟩
    rcases six_mem.mp m with rfl | rfl | rfl | rfl | rfl | rfl
    · exact ⟨_, x1, nofun⟩
    · exact ⟨_, x2, nofun⟩
    · exact ⟨_, x3, nofun⟩
    · exact it _ _ x4
    · exact it _ _ x5
    · exact it _ _ x6
  keep := fun i g g' ⟨x1, x2, ⟨a1, a2, a3, x3⟩, x4, x5, x6⟩ same =>
    ⟨same _ (six_mem.mpr (by simp)) _ x1, same _ (six_mem.mpr (by simp)) _ x2, ⟨a1, a2, a3, same _ (six_mem.mpr (by simp)) _ x3⟩, x4.at fun ob z => same _ (six_mem.mpr (by simp)) ob z, x5.at fun ob z => same _ (six_mem.mpr (by simp)) ob z, x6.at fun ob z => same _ (six_mem.mpr (by simp)) ob z⟩
  item := by
    rintro X rfl rfl rfl calm i pins s σ H E I free st ⟨xs, ys, zs, x, y, z, h1, h2, h3, g1, g2, g3⟩
    obtain ⟨x1, x2, x3, x4, x5, x6⟩ := st
    obtain ⟨us, r1, t1, _⟩ := I.tuple h1
    obtain ⟨vs, r2, t2, _⟩ := I.tuple h2
    obtain ⟨ws, r3, t3, _⟩ := I.tuple h3
    obtain ⟨u, hu, ru⟩ := r1.get g1
    obtain ⟨v, hv, rv⟩ := r2.get g2
    obtain ⟨o, ho, ro⟩ := r3.get g3
    have W := walks3 (P := X.prog) (w := X.w) (A := X.A) (I.ok.hd calm) N a b c ha hb hc us.toArray vs.toArray ws.toArray
    have lt : i < min (min us.toArray.size vs.toArray.size) ws.toArray.size := by
      obtain ⟨l1, _⟩ := List.getElem?_eq_some_iff.mp hu
      obtain ⟨l2, _⟩ := List.getElem?_eq_some_iff.mp hv
      obtain ⟨l3, _⟩ := List.getElem?_eq_some_iff.mp ho
      simp only [List.size_toArray]; omega
    refine W.item i s _ _ lt ⟨x1, x2, x3, ⟨x4, t1⟩, ⟨x5, t2⟩, x6, t3⟩ ?_
    rintro T vals g tk ⟨b1, b2, b3, c1, c2, c3, rfl⟩ big tup mid others
    have e1 : b1 = u := by rw [List.getElem?_toArray, hu] at c1; exact (Option.some.inj c1).symm
    have e2 : b2 = v := by rw [List.getElem?_toArray, hv] at c2; exact (Option.some.inj c2).symm
    have e3 : b3 = o := by rw [List.getElem?_toArray, ho] at c3; exact (Option.some.inj c3).symm
    subst e1 e2 e3
    refine ⟨_, rfl, W.go tgs q at' i T { s with heap := g, toks := tk } _ _ mid ?_⟩
    rintro gg ⟨k1, k2, k3, ⟨k4, _⟩, ⟨k5, _⟩, k6, _⟩ others2
    have sub : ∀ e, e ∈ [((N + 5 : Nat) : Addr), (N + 4 : Nat), N, (N + 1 : Nat), (N + 2 : Nat)] → e ∈ six N := by
      intro e m
      rw [six_mem]
      simp only [List.mem_cons, List.not_mem_nil, or_false] at m
      rcases m with rfl | rfl | rfl | rfl | rfl <;> simp
    have apart := W.apart i T g mid
    obtain ⟨ot, d1, d2, d3⟩ := tup
    obtain ⟨slots, d3⟩ := d3
    have new : ObjOk X.prog X.w (upd H T (.tup [x, y, z])) gg T (.tup [x, y, z]) :=
      ⟨by rw [sizeLine_eq]; exact (by decide : 3 ≤ 16777216), [b1, b2, b3], .cons ru (.cons rv (.cons ro .nil)), ⟨ot, others2 T ot apart d1, d2, slots, d3⟩⟩
    have I2 : Inv X pins σ (upd H T (.tup [x, y, z])) { s with heap := gg, toks := tk } := by
      refine I.turnedNew (ch := [((N + 5 : Nat) : Addr), (N + 4 : Nat), N, (N + 1 : Nat), (N + 2 : Nat)]) (fun e ob m w1 => others2 e ob m (others e ob m w1)) (fun e m => free e (sub e m)) big new
    refine ⟨.ref T, _, I2, rfl, ⟨T, x, y, z, rfl, I.hok.fresh big, rfl, ?_, ?_, ?_⟩, ⟨k1, k2, k3, k4, k5, k6⟩, ?_⟩
    · intro q1 q2; rw [I.tuple_inj q2 h1]; exact g1
    · intro q1 q2; rw [I.tuple_inj q2 h2]; exact g2
    · intro q1 q2; rw [I.tuple_inj q2 h3]; exact g3
    · intro e m
      have ne : e ≠ T := by
        rintro rfl
        have old : s.heap.get? e ≠ none := by
          rcases six_mem.mp m with rfl | rfl | rfl | rfl | rfl | rfl
          · rw [show s.heap.get? (N + 5 : Nat) = some _ from x1]; simp
          · rw [show s.heap.get? (N + 3 : Nat) = some _ from x2]; simp
          · obtain ⟨_, _, _, x3⟩ := x3
            rw [show s.heap.get? (N + 4 : Nat) = some _ from x3]; simp
          · obtain ⟨ob, y1, _⟩ := x4; rw [y1]; simp
          · obtain ⟨ob, y1, _⟩ := x5; rw [y1]; simp
          · obtain ⟨ob, y1, _⟩ := x6; rw [y1]; simp
        cases old' : s.heap.get? e with
        | none => exact old old'
        | some ob => exact absurd (Heap.lt_size old') (Nat.not_lt.mpr big)
      rw [upd_ne ne]
      exact (free e m).1
  done := by
    rintro X rfl rfl rfl calm i pins s σ H E I free ⟨x1, x2, x3, x4, x5, x6⟩ ⟨xs, ys, zs, h1, h2, h3, rfl⟩
    obtain ⟨us, r1, t1, _⟩ := I.tuple h1
    obtain ⟨vs, r2, t2, _⟩ := I.tuple h2
    obtain ⟨ws, r3, t3, _⟩ := I.tuple h3
    have W := walks3 (P := X.prog) (w := X.w) (A := X.A) (I.ok.hd calm) N a b c ha hb hc us.toArray vs.toArray ws.toArray
    have e1 : xs.length = us.toArray.size := by rw [List.size_toArray]; exact r1.length
    have e2 : ys.length = vs.toArray.size := by rw [List.size_toArray]; exact r2.length
    have e3 : zs.length = ws.toArray.size := by rw [List.size_toArray]; exact r3.length
    rw [e1, e2, e3] at x4 x5 x6
    refine W.done s _ _ ⟨x1, x2, x3, ⟨x4, t1⟩, ⟨x5, t2⟩, x6, t3⟩ ?_
    intro g tk others
    refine ⟨rfl, I.turnedL (ch := [((N + 5 : Nat) : Addr), (N + 4 : Nat), N, (N + 1 : Nat), (N + 2 : Nat)]) others fun e m => free e ?_⟩
    rw [six_mem]
    simp only [List.mem_cons, List.not_mem_nil, or_false] at m
    rcases m with rfl | rfl | rfl | rfl | rfl <;> simp
  self := fun A i s Q E ⟨x1, _⟩ h => wpAny_pyIter_zip x1 h
end
def iZip3 (K : PySem.W.Frag) (ta : TA) : TI := fun σ H R => ta σ H fun vs H1 => ∃ a b c xs ys zs, vs = [V.ref a, V.ref b, V.ref c] ∧ SqT K H1 a xs ∧ SqT K H1 b ys ∧ SqT K H1 c zs ∧ R (It3 K a b c) H1
theorem pi_zip3 {X : Cx} {e1 e2 e3 : Expr} {ta : TA} {p pos tpos : Pos} {tgs : List Expr} {q : Nat} (hg : Gl X "zip") (hm : X.mg "zip" = none) (ha : PA X [e1, e2, e3] ta)
    (na : starEach [e1, e2, e3] X.env = (false, eval e1 X.env) :: starEach [e2, e3] X.env := by rfl) (nb : (backTo pos (starEach [e2, e3] X.env)).any (·.1) = false := by rfl) :
    PI X (.Tuple tgs q tpos) (.Call (.Name "zip" p) [e1, e2, e3] [] pos) (iZip3 X.K ta) := by
  constructor
  intro pins s σ H R I h
  refine Call_ (ld_blt I hg hm PyProof.Rows.boot_zip (PyProof.Rows.callWith_type1 (thn (ha.run pos pins s σ H _ I h) ?_) na nb))
  rintro us s1 ⟨vs, H1, I1, rr, a, b, c, xs, ys, zs, rfl, h1, h2, h3, next⟩
  obtain ⟨u1, us, rfl⟩ : ∃ u t, us = u :: t := by cases rr; exact ⟨_, _, rfl⟩
  cases rr with | cons ra rr =>
  cases rr with | cons rb rr =>
  cases rr with | cons rc rr =>
  cases rr
  cases ra
  cases rb
  cases rc
  obtain ⟨l1, r1, t1, _⟩ := I1.tuple h1
  obtain ⟨l2, r2, t2, _⟩ := I1.tuple h2
  obtain ⟨l3, r3, t3, _⟩ := I1.tuple h3
  have below : ∀ {t : Addr} {vs : Array Value}, s1.heap.IsTuple t vs → t < s1.heap.objs.size := by
    rintro t vs ⟨ob, y1, _⟩
    exact Heap.lt_size y1
  refine zip_begins3 (begins_tuple a l1.toArray) (begins_tuple b l2.toArray) (begins_tuple c l3.toArray) t1 t2 t3 ?_
  intro g x1 x2 x3 y1 y2 y3 size same
  refine wpAny_pyIter_zip x1 ?_
  refine ⟨_, six s1.heap.objs.size, _, It3 X.K a b c, H1, rfl, I1.kept (t' := s1.toks) same, turn_zip3 (below t1) (below t2) (below t3), ⟨x1, x2, ⟨_, _, _, x3⟩, ⟨_, y1, rfl, rfl⟩, ⟨_, y2, rfl, rfl⟩, ⟨_, y3, rfl, rfl⟩⟩, ?_, next⟩
  intro e m
  have le : s1.heap.objs.size ≤ e := by
    rcases six_mem.mp m with rfl | rfl | rfl | rfl | rfl | rfl
    · exact Nat.le_add_right _ _
    · exact Nat.le_add_right _ _
    · exact Nat.le_add_right _ _
    · exact Nat.le_refl _
    · exact Nat.le_add_right _ _
    · exact Nat.le_add_right _ _
  exact I1.fpOk le (I1.hok.fresh le)
/-- a new triple -/
def YTri (xs ys zs : Nat → Option V) : Nat → Hp → V → Hp → Prop := fun i H v H2 => ∃ p x y z, v = V.ref p ∧ H p = none ∧ H2 = upd H p (.tup [x, y, z]) ∧ xs i = some x ∧ ys i = some y ∧ zs i = some z
theorem walk_zip3 {K : PySem.W.Frag} {a b c : Addr} {xs ys zs : List V} {n : Nat} (h1 : xs.length = n) (h2 : ys.length = n) (h3 : zs.length = n) : Walk (It3 K a b c) n (fun H => SqT K H a xs ∧ SqT K H b ys ∧ SqT K H c zs) (YTri (fun i => xs[i]?) (fun i => ys[i]?) (fun i => zs[i]?)) := by
  constructor
  · intro i H hi q
    exact ⟨xs, ys, zs, xs[i], ys[i], zs[i], q.1, q.2.1, q.2.2, List.getElem?_eq_getElem _, List.getElem?_eq_getElem _, List.getElem?_eq_getElem _⟩
  · intro H q
    exact ⟨xs, ys, zs, q.1, q.2.1, q.2.2, by omega⟩
  · rintro i H v H2 _ q ⟨p, x, y, z, rfl, k1, k2, k3, k4, k5⟩
    exact ⟨p, x, y, z, rfl, k1, k2, k3 xs q.1, k4 ys q.2.1, k5 zs q.2.2⟩
section
variable {σ : L2.St} {H : Hp} {Q : VK} {te : TE} {tt : TT} {tl : TA} {g : TG} {K : PySem.W.Frag} {vs : List Nat}
theorem r_lc3 (h : tl σ H fun us H1 => ∃ a b c xs ys zs, us = [V.ref a, V.ref b, V.ref c] ∧ SqT K H1 a xs ∧ SqT K H1 b ys ∧ SqT K H1 c zs ∧ LCW (It3 K a b c) g tt te vs σ H1 Q) : tLc (iZip3 K tl) g tt te vs σ H Q := h
end
end Sw

/-! Zp: zip over two, each a list, a tuple or a text. -/
namespace Zp
open PySem PySem.Spec PyProof.Rows L2 Sx Sy
inductive SD where
  | l (a : Addr) | t (a : Addr) | s (x : Str)
def SD.v : SD → V
  | .l a => .ref a
  | .t a => .ref a
  | .s x => .str x
def chars (x : Str) : List V := x.cps.toList.map fun c => V.str ⟨#[c]⟩
/-- its items -/
def SD.has (K : PySem.W.Frag) (H : Hp) : SD → List V → Prop
  | .l a, xs => SqL K H a xs
  | .t a, xs => SqT K H a xs
  | .s x, xs => xs = chars x
/-- the iterator at n, i items gone -/
def SD.at' (n : Addr) (i : Nat) (h : Heap) : SD → Prop
  | .l a => h.IsListIter n a i
  | .t a => h.IsTupleIter n a i
  | .s x => ∃ tk, h.IsStrIter n (strIterType x) x tk i
def SD.low (N : Nat) : SD → Prop
  | .l a => a < N
  | .t a => a < N
  | .s _ => True
theorem has_inj {X : Cx} {pins : List (Addr × Obj)} {σ : L2.St} {H : Hp} {s : Shared} (I : Inv X pins σ H s) {S : SD} {xs ys : List V} (h : S.has X.K H xs) (g : S.has X.K H ys) : xs = ys := by
  cases S with
  | l a => exact I.list_inj h g
  | t a => exact I.tuple_inj h g
  | s x => exact h.trans g.symm
theorem at_keep {S : SD} {n : Addr} {i : Nat} {h h' : Heap} (z : S.at' n i h) (k : ∀ o, h.get? n = some o → h'.get? n = some o) : S.at' n i h' := by
  cases S with
  | l a => exact z.at k
  | t a => exact z.at k
  | s x => obtain ⟨tk, o, y1, y2⟩ := z; exact ⟨tk, o, k _ y1, y2⟩
theorem at_obj {S : SD} {n : Addr} {i : Nat} {h : Heap} (z : S.at' n i h) : ∃ o, h.get? n = some o ∧ ∀ v, o.data ≠ .cell v := by
  cases S with
  | l a => obtain ⟨o, y1, y2, y3⟩ := z; exact ⟨o, y1, fun v q => by rw [y3] at q; cases q⟩
  | t a => obtain ⟨o, y1, y2, y3⟩ := z; exact ⟨o, y1, fun v q => by rw [y3] at q; cases q⟩
  | s x => obtain ⟨tk, o, y1, y2, y3⟩ := z; exact ⟨o, y1, fun v q => by rw [y3] at q; cases q⟩
theorem vals_back {xs : List V} {us : List Value} (r : Vals xs us) {j : Nat} {u : Value} (h : us[j]? = some u) : ∃ x, xs[j]? = some x ∧ RelV x u := by
  have lt : j < xs.length := by rw [r.length]; exact (List.getElem?_eq_some_iff.mp h).1
  obtain ⟨u', h', r'⟩ := r.get (List.getElem?_eq_getElem lt)
  rw [h] at h'; cases h'
  exact ⟨_, List.getElem?_eq_getElem lt, r'⟩
/-- what drawing from it needs -/
theorem pack {X : Cx} {pins : List (Addr × Obj)} {σ : L2.St} {H : Hp} {s : Shared} (I : Inv X pins σ H s) (hh : X.A.handled = none) {S : SD} {xs : List V} {n i N : Nat} (h : S.has X.K H xs) (low : S.low N) (hn : N ≤ n) (z : S.at' n i s.heap) :
    ∃ (fp : List Addr) (m : Nat) (Pr : Nat → Value → Prop) (St : Nat → Heap → Prop), Draws X.prog X.w X.A.in1 n (n :: fp) m Pr St ∧ (∀ b, b ∈ fp → b < N) ∧ m = xs.length ∧ (∀ j v, Pr j v → ∃ x, xs[j]? = some x ∧ RelV x v) ∧ St i s.heap ∧ ∀ j h', St j h' → S.at' n j h' := by
  cases S with
  | l a =>
    obtain ⟨its, r, ⟨o, n0, e1, e2, e3, e4⟩, _⟩ := I.list h
    have il : s.heap.IsList a its.toArray := ⟨o, e1, e2, n0, e4⟩
    refine ⟨[a], _, _, _, Draws.list (A := X.A.in1) hh n a (Nat.ne_of_lt (Nat.lt_of_lt_of_le low hn)) its.toArray, fun b hb => by cases List.mem_singleton.mp hb; exact low, ?_, fun j v q => ?_, ⟨z, il⟩, fun j h' q => q.1⟩
    · rw [List.size_toArray]; exact r.length.symm
    · have q : its.toArray[j]? = some v := q
      rw [List.getElem?_toArray] at q
      exact vals_back r q
  | t a =>
    obtain ⟨its, r, il, _⟩ := I.tuple h
    refine ⟨[a], _, _, _, Draws.tuple (A := X.A.in1) hh n a (Nat.ne_of_lt (Nat.lt_of_lt_of_le low hn)) its.toArray, fun b hb => by cases List.mem_singleton.mp hb; exact low, ?_, fun j v q => ?_, ⟨z, il⟩, fun j h' q => q.1⟩
    · rw [List.size_toArray]; exact r.length.symm
    · have q : its.toArray[j]? = some v := q
      rw [List.getElem?_toArray] at q
      exact vals_back r q
  | s x =>
    obtain ⟨tk, z⟩ := z
    have h : xs = chars x := h
    subst h
    refine ⟨[], _, _, _, Draws.text (A := X.A.in1) hh n x tk, (by intro b hb; cases hb), ?_, fun j v q => ?_, z, fun j h' q => ⟨tk, q⟩⟩
    · unfold chars; rw [List.length_map, Array.length_toList]
    · obtain ⟨c, u, q1, rfl⟩ := q
      refine ⟨.str ⟨#[c]⟩, ?_, ⟨u, rfl⟩⟩
      unfold chars
      rw [List.getElem?_map, Array.getElem?_toList, q1]; rfl
/-! ### side by side -/
def It2 (K : PySem.W.Frag) (S R : SD) : It :=
  ⟨fun i H => ∃ (xs ys : List V) (x y : V), S.has K H xs ∧ R.has K H ys ∧ xs[i]? = some x ∧ ys[i]? = some y,
   fun i H v H2 => ∃ p x y, v = V.ref p ∧ H p = none ∧ H2 = upd H p (.tup [x, y]) ∧ (∀ xs, S.has K H xs → xs[i]? = some x) ∧ (∀ ys, R.has K H ys → ys[i]? = some y),
   fun i H => ∃ xs ys : List V, S.has K H xs ∧ R.has K H ys ∧ i = min xs.length ys.length⟩
def At2 (N : Nat) (S R : SD) (i : Nat) (h : Heap) : Prop :=
  IsZip h (N + 4 : Nat) (N + 2 : Nat) (N + 3 : Nat) .none ∧ IsTupOf2 h (N + 2 : Nat) (.ref N) (.ref (N + 1 : Nat)) ∧ (∃ a1 a2, IsTupOf2 h (N + 3 : Nat) a1 a2) ∧ S.at' N i h ∧ R.at' (N + 1 : Nat) i h
def five (N : Nat) : List Addr := [(N + 4 : Nat), (N + 2 : Nat), (N + 3 : Nat), N, (N + 1 : Nat)]
theorem five_mem {N : Nat} {b : Addr} : b ∈ five N ↔ b = N + 4 ∨ b = N + 2 ∨ b = N + 3 ∨ b = N ∨ b = N + 1 := by unfold five; simp
section
variable {P : Program} {w : World} {K : PySem.W.Frag}
theorem turn_zip2 {tgs : List Expr} {q : Nat} {at' : Pos} {N : Nat} {S R : SD} (lS : S.low N) (lR : R.low N) : Turn P w K (.Tuple tgs q at') (It2 K S R) (five N) (N + 4 : Nat) (fun i g => At2 N S R i g) where
  mem := List.mem_cons_self ..
  obj := fun i g ⟨x1, x2, ⟨a1, a2, x3⟩, x4, x5⟩ e m => by
    rcases five_mem.mp m with rfl | rfl | rfl | rfl | rfl
    · exact ⟨_, x1, nofun⟩
    · exact ⟨_, x2, nofun⟩
    · exact ⟨_, x3, nofun⟩
    · exact at_obj x4
    · exact at_obj x5
  keep := fun i g g' ⟨x1, x2, ⟨a1, a2, x3⟩, x4, x5⟩ same =>
    ⟨same _ (five_mem.mpr (by simp)) _ x1, same _ (five_mem.mpr (by simp)) _ x2, ⟨a1, a2, same _ (five_mem.mpr (by simp)) _ x3⟩, at_keep x4 fun ob z => same _ (five_mem.mpr (by simp)) ob z, at_keep x5 fun ob z => same _ (five_mem.mpr (by simp)) ob z⟩
  item := by
    rintro X rfl rfl rfl calm i pins s σ H E I free st ⟨xs, ys, x, y, h1, h2, g1, g2⟩
    obtain ⟨x1, x2, x3, x4, x5⟩ := st
    obtain ⟨fp1, m1, P1, St1, D1, b1, e1, k1, s1, t1⟩ := pack I (I.ok.hd calm) h1 lS (Nat.le_refl N) x4
    obtain ⟨fp2, m2, P2, St2, D2, b2, e2, k2, s2, t2⟩ := pack I (I.ok.hd calm) h2 lR (Nat.le_succ N) x5
    have W := WalksT.zipD2 (zip_sep2 (N := N) b1 b2) D1 D2
    have lt : i < min m1 m2 := by
      obtain ⟨l1, _⟩ := List.getElem?_eq_some_iff.mp g1
      obtain ⟨l2, _⟩ := List.getElem?_eq_some_iff.mp g2
      omega
    refine W.item i s _ _ lt ⟨x1, x2, x3, s1, s2⟩ ?_
    rintro T vals g tk ⟨c1, c2, d1, d2, rfl⟩ big tup mid others
    obtain ⟨x', q1, r1⟩ := k1 i c1 d1
    obtain ⟨y', q2, r2⟩ := k2 i c2 d2
    have ex : x' = x := by rw [g1] at q1; exact (Option.some.inj q1).symm
    have ey : y' = y := by rw [g2] at q2; exact (Option.some.inj q2).symm
    subst ex ey
    refine ⟨_, rfl, W.go tgs q at' i T { s with heap := g, toks := tk } _ _ mid ?_⟩
    rintro gg ⟨y1, y2, y3, y4, y5⟩ others2
    have sub : ∀ e, e ∈ [((N + 4 : Nat) : Addr), (N + 3 : Nat), N, (N + 1 : Nat)] → e ∈ five N := by
      intro e m
      rw [five_mem]
      simp only [List.mem_cons, List.not_mem_nil, or_false] at m
      rcases m with rfl | rfl | rfl | rfl <;> simp
    have apart := W.apart i T g mid
    obtain ⟨ot, f1, f2, f3⟩ := tup
    obtain ⟨slots, f3⟩ := f3
    have new : ObjOk X.prog X.w (upd H T (.tup [x', y'])) gg T (.tup [x', y']) :=
      ⟨by rw [sizeLine_eq]; exact (by decide : 2 ≤ 16777216), [c1, c2], .cons r1 (.cons r2 .nil), ⟨ot, others2 T ot apart f1, f2, slots, f3⟩⟩
    have I2 : Inv X pins σ (upd H T (.tup [x', y'])) { s with heap := gg, toks := tk } := by
      refine I.turnedNew (ch := [((N + 4 : Nat) : Addr), (N + 3 : Nat), N, (N + 1 : Nat)]) (fun e ob m w1 => others2 e ob m (others e ob m w1)) (fun e m => free e (sub e m)) big new
    refine ⟨.ref T, _, I2, rfl, ⟨T, x', y', rfl, I.hok.fresh big, rfl, ?_, ?_⟩, ⟨y1, y2, y3, t1 _ _ y4, t2 _ _ y5⟩, ?_⟩
    · intro q1 q2; rw [has_inj I q2 h1]; exact g1
    · intro q1 q2; rw [has_inj I q2 h2]; exact g2
    · intro e m
      have ne : e ≠ T := by
        rintro rfl
        have old : s.heap.get? e ≠ none := by
          rcases five_mem.mp m with rfl | rfl | rfl | rfl | rfl
          · rw [show s.heap.get? (N + 4 : Nat) = some _ from x1]; simp
          · rw [show s.heap.get? (N + 2 : Nat) = some _ from x2]; simp
          · obtain ⟨_, _, x3⟩ := x3
            rw [show s.heap.get? (N + 3 : Nat) = some _ from x3]; simp
          · obtain ⟨ob, z1, _⟩ := at_obj x4; rw [z1]; simp
          · obtain ⟨ob, z1, _⟩ := at_obj x5; rw [z1]; simp
        cases old' : s.heap.get? e with
        | none => exact old old'
        | some ob => exact absurd (Heap.lt_size old') (Nat.not_lt.mpr big)
      rw [upd_ne ne]
      exact (free e m).1
  done := by
    rintro X rfl rfl rfl calm i pins s σ H E I free ⟨x1, x2, x3, x4, x5⟩ ⟨xs, ys, h1, h2, rfl⟩
    obtain ⟨fp1, m1, P1, St1, D1, b1, e1, k1, s1, t1⟩ := pack I (I.ok.hd calm) h1 lS (Nat.le_refl N) x4
    obtain ⟨fp2, m2, P2, St2, D2, b2, e2, k2, s2, t2⟩ := pack I (I.ok.hd calm) h2 lR (Nat.le_succ N) x5
    have W := WalksT.zipD2 (zip_sep2 (N := N) b1 b2) D1 D2
    rw [← e1, ← e2] at s1 s2
    refine W.done s _ _ ⟨x1, x2, x3, s1, s2⟩ ?_
    intro g tk others
    refine ⟨rfl, I.turnedL (ch := [((N + 4 : Nat) : Addr), (N + 3 : Nat), N, (N + 1 : Nat)]) others fun e m => free e ?_⟩
    rw [five_mem]
    simp only [List.mem_cons, List.not_mem_nil, or_false] at m
    rcases m with rfl | rfl | rfl | rfl <;> simp
  self := fun A i s Q E ⟨x1, _⟩ h => wpAny_pyIter_zip x1 h
end
def iZip2 (K : PySem.W.Frag) (ta : TA) : TI := fun σ H R => ta σ H fun vs H1 => ∃ S T : SD, ∃ xs ys, vs = [S.v, T.v] ∧ S.has K H1 xs ∧ T.has K H1 ys ∧ R (It2 K S T) H1
/-- the iterator that iter makes -/
def SD.ob : SD → (Value → Obj → Prop)
  | .l a, v, o => v = .ref a ∧ o = { cls := .type "list_iterator", data := .fields #[.ref a, .int 0 0] }
  | .t a, v, o => v = .ref a ∧ o = { cls := .type "tuple_iterator", data := .fields #[.ref a, .int 0 0] }
  | .s x, v, o => ∃ tk, v = .str x tk ∧ o = { cls := .type (strIterType x), data := .fields #[.str x tk, .int 0 0] }
theorem begin_at {X : Cx} {pins : List (Addr × Obj)} {σ : L2.St} {H : Hp} {s : Shared} (I : Inv X pins σ H s) {S : SD} {xs : List V} {u : Value} (r : RelV S.v u) (h : S.has X.K H xs) :
    ∃ (o : Obj) (Pr : Heap → Prop), Begins u o Pr ∧ Pr s.heap ∧ S.low s.heap.objs.size ∧ ∀ (n : Addr) (h' : Heap), h'.get? n = some o → S.at' n 0 h' := by
  cases S with
  | l a =>
    obtain rfl : u = .ref a := r
    obtain ⟨its, _, ⟨o, n0, e1, e2, e3, e4⟩, _⟩ := I.list h
    exact ⟨_, _, begins_list a its.toArray, ⟨o, e1, e2, n0, e4⟩, Heap.lt_size e1, fun n h' q => ⟨_, q, rfl, rfl⟩⟩
  | t a =>
    obtain rfl : u = .ref a := r
    obtain ⟨its, _, il, _⟩ := I.tuple h
    have lt : a < s.heap.objs.size := by obtain ⟨o, e1, _⟩ := il; exact Heap.lt_size e1
    exact ⟨_, _, begins_tuple a its.toArray, il, lt, fun n h' q => ⟨_, q, rfl, rfl⟩⟩
  | s x =>
    obtain ⟨tk, rfl⟩ := (show ∃ tk, u = Value.str x tk from r)
    exact ⟨_, _, begins_text x tk, trivial, trivial, fun n h' q => ⟨tk, _, q, rfl, rfl⟩⟩
theorem pi_zip2 {X : Cx} {e1 e2 : Expr} {ta : TA} {p pos tpos : Pos} {tgs : List Expr} {q : Nat} (hg : Gl X "zip") (hm : X.mg "zip" = none) (ha : PA X [e1, e2] ta)
    (na : starEach [e1, e2] X.env = (false, eval e1 X.env) :: starEach [e2] X.env := by rfl) (nb : (backTo pos (starEach [e2] X.env)).any (·.1) = false := by rfl) :
    PI X (.Tuple tgs q tpos) (.Call (.Name "zip" p) [e1, e2] [] pos) (iZip2 X.K ta) := by
  constructor
  intro pins s σ H R I h
  refine Call_ (ld_blt I hg hm PyProof.Rows.boot_zip (PyProof.Rows.callWith_type1 (thn (ha.run pos pins s σ H _ I h) ?_) na nb))
  rintro us s1 ⟨vs, H1, I1, rr, S, T, xs, ys, rfl, h1, h2, next⟩
  obtain ⟨u1, u2, rfl, ra, rb⟩ := vals2 rr
  obtain ⟨o1, Pr1, B1, p1, l1, w1⟩ := begin_at I1 ra h1
  obtain ⟨o2, Pr2, B2, p2, l2, w2⟩ := begin_at I1 rb h2
  refine zip_begins2 B1 B2 p1 p2 ?_
  intro g x1 x2 x3 y1 y2 size same
  refine wpAny_pyIter_zip x1 ?_
  refine ⟨_, five s1.heap.objs.size, _, It2 X.K S T, H1, rfl, I1.kept (t' := s1.toks) same, turn_zip2 l1 l2, ⟨x1, x2, ⟨_, _, x3⟩, w1 _ _ y1, w2 _ _ y2⟩, ?_, next⟩
  intro e m
  have le : s1.heap.objs.size ≤ e := by
    rcases five_mem.mp m with rfl | rfl | rfl | rfl | rfl
    · exact Nat.le_add_right _ _
    · exact Nat.le_add_right _ _
    · exact Nat.le_add_right _ _
    · exact Nat.le_refl _
    · exact Nat.le_add_right _ _
  exact I1.fpOk le (I1.hok.fresh le)
/-- a new pair -/
def YTwo (xs ys : List V) : Nat → Hp → V → Hp → Prop := fun i H v H2 => ∃ p x y, v = V.ref p ∧ H p = none ∧ H2 = upd H p (.tup [x, y]) ∧ xs[i]? = some x ∧ ys[i]? = some y
theorem walk_zip2 {K : PySem.W.Frag} {S R : SD} {xs ys : List V} {n : Nat} (h1 : xs.length = n) (h2 : ys.length = n) : Walk (It2 K S R) n (fun H => S.has K H xs ∧ R.has K H ys) (YTwo xs ys) := by
  constructor
  · intro i H hi q
    exact ⟨xs, ys, xs[i], ys[i], q.1, q.2, List.getElem?_eq_getElem _, List.getElem?_eq_getElem _⟩
  · intro H q
    exact ⟨xs, ys, q.1, q.2, by omega⟩
  · rintro i H v H2 _ q ⟨p, x, y, rfl, k1, k2, k3, k4⟩
    exact ⟨p, x, y, rfl, k1, k2, k3 xs q.1, k4 ys q.2⟩
section
variable {σ : L2.St} {H : Hp} {Q : VK} {te : TE} {tt : TT} {tl : TA} {g : TG} {K : PySem.W.Frag} {vs : List Nat} {tb : TS} {D : Ends}
theorem r_lcP (h : tl σ H fun us H1 => ∃ S T : SD, ∃ xs ys, us = [S.v, T.v] ∧ S.has K H1 xs ∧ T.has K H1 ys ∧ LCW (It2 K S T) g tt te vs σ H1 Q) : tLc (iZip2 K tl) g tt te vs σ H Q := h
theorem r_forP (h : tl σ H fun us H1 => ∃ S T : SD, ∃ xs ys, us = [S.v, T.v] ∧ S.has K H1 xs ∧ T.has K H1 ys ∧ FR (It2 K S T) g tb D σ H1) : tFor (iZip2 K tl) g tb D σ H := h
end
end Zp

/-! Mj: a call of a class in a variable; a range with any step; list of it. -/
namespace Mj
open PySem PySem.Spec PyProof.Rows L2 Sx Sy
section
variable {X : Cx} {CX : CXT} {k i : Nat} {f C : Addr} {fd : FuncData} {ps : List Str} {sp : Sp} {dvs : List V} {ds : List Value} {E : XK} {x : Str} {p pos : Pos} {e : Expr} {es : List Expr} {t : TA}
def tMakeL (i : Nat) (C : Addr) (sp : Sp) (dvs : List V) (E : XK) (t : TA) : TE := fun σ H Q => σ[i]? = some (some (.ref C)) ∧ t σ H fun vs H1 => ∀ x dx, H1 x = none → H1 dx = none → dx ≠ x → sp (.ref x :: (vs ++ dvs)) (upd (upd H1 dx (.own x)) x (.ins C dx [])) (fun v H2 => v = .non ∧ Q (.ref x) H2) E
theorem pe_makeL (M : Mk X.K C f) (F : FnOk X.prog X.w X.K X.mg X.base CX k f fd ps sp) (hr : Room (k + 1) X.A) (hN : X.N[i]? = some x) (hv : Vis X.env.scope x) (hb : Binds X.K fd ps ds) (hd : Vals dvs ds) (hx : Passes CX X E) (ha : PA X (e :: es) t)
    (nd : (x == ("__debug__" : Str)) = false := by decide) (ncd : (x == ("__classdict__" : Str)) = false := by decide) (he : starEach (e :: es) X.env = (false, eval e X.env) :: starEach es X.env := by rfl) (hpl : (backTo pos (starEach es X.env)).any (·.1) = false := by rfl) :
    PE X (.Call (.Name x p) (e :: es) [] pos) (tMakeL i C sp dvs E t) := by
  constructor
  intro pins s σ H Q I now
  obtain ⟨hσ, now⟩ := now
  refine wpAny_Call_Name_kw (thn ((pe_var hN hv nd ncd).run pins s σ H (fun v H1 => v = .ref C ∧ H1 = H) I ⟨_, hσ, rfl, rfl⟩) ?_)
  rintro u s0 ⟨v, H0, I0, ru, rfl, rfl⟩
  obtain rfl : u = .ref C := ru
  refine PySem.W.callWith_K (h₀ := X.base) I.ok.mod.kin M.kp (thn (ha.run pos pins s0 σ H0 _ I0 now) ?_) he hpl
  rintro us s1 ⟨vs, H1, I1, r, wish⟩
  exact ⟨I1.kIn, run_make M F hr hb hd hx I1 r wish⟩
end
theorem hu1 {k : Nat} {A : Around} (hr : Room k A) : A.units + 1 < cLine := by have := hr.un; omega
/-! ### range(a, b, c) as a value -/
def RgH (h : Heap) (a : Addr) (i j c : Int) : Prop := ∃ t u v, IsRange h a i j c t u v
def RgO (a : Addr) (i j c : Int) : HO := .ext fun h => RgH h a i j c
theorem rgO_ok {P : Program} {w : World} {H : Hp} {h : Heap} {a : Addr} {i j c : Int} (R : RgH h a i j c) : ObjOk P w H h a (RgO a i j c) := by
  obtain ⟨t, u, v, r⟩ := R
  refine ⟨⟨t, u, v, r⟩, ⟨_, r⟩, fun h1 h2 q k => ?_⟩
  obtain ⟨t', u', v', r'⟩ := q
  exact ⟨t', u', v', k _ r'⟩
def qRng3 : List V → Hp → VK → Prop := fun xs H Q => ∃ i j c : Int, xs = [.int i, .int j, .int c] ∧ c ≠ 0 ∧ c.natAbs < 1073741824 ∧ ∀ p, H p = none → Q (.ref p) (upd H p (RgO p i j c))
def qLstR : List V → Hp → VK → Prop := fun xs H Q => ∃ (p : Addr) (i j c : Int) (n : Nat), xs = [.ref p] ∧ H p = some (RgO p i j c) ∧ RgC i j c n ∧ n ≤ 1000000 ∧ ∀ q, H q = none → Q (.ref q) (upd H q (.lst ((List.range n).map fun t : Nat => V.int (i + (t : Int) * c))))
theorem vals_at {f : Nat → V} : ∀ {ms : List Nat} {vs : List Value}, ms.length = vs.length → (∀ (j : Nat) (v : Value), vs[j]? = some v → ∃ m, ms[j]? = some m ∧ RelV (f m) v) → Vals (ms.map f) vs
  | [], [], _, _ => .nil
  | [], _ :: _, h, _ => nomatch h
  | _ :: _, [], h, _ => nomatch h
  | m :: ms, v :: vs, h, g => by
    refine .cons ?_ (vals_at (Nat.succ.inj h) fun j w hw => g (j + 1) w hw)
    obtain ⟨m', e, r⟩ := g 0 v rfl
    cases e
    exact r
section
variable {X : Cx}
theorem c_rng3 : CallR X (.type "range") qRng3 := by
  intro pins s σ H xs us Q I r h
  obtain ⟨i, j, c, rfl, c0, cs, q⟩ := h
  cases r with
  | cons r1 r =>
    cases r with
    | cons r2 r =>
      cases r with
      | cons r3 r =>
        cases r
        obtain ⟨t1, rfl⟩ := r1
        obtain ⟨t2, rfl⟩ := r2
        obtain ⟨t3, rfl⟩ := r3
        refine call_range_3 c0 ?_ (.inl ?_)
        · refine ⟨.ref s.heap.objs.size, upd H s.heap.objs.size (RgO s.heap.objs.size i j c), ?_, rfl, q _ (I.hok.fresh (Nat.le_refl _))⟩
          refine I.laid (t' := s.toks) (fun b o z => Heap.get?_push_of_some _ z) (Nat.le_refl _) (rgO_ok ⟨t1, t2, t3, Heap.get?_push_size _ rfl⟩)
        · exact PyProof.noPylong_small cs
theorem c_lstR (hc : X.calm = true) : CallR X (.type "list") qLstR := by
  intro pins s σ H xs us Q I r h
  obtain ⟨p, i, j, c, n, rfl, hp, rc, hn, q⟩ := h
  obtain ⟨u, rfl, rx⟩ := vals1 r
  obtain rfl : u = .ref p := rx
  obtain ⟨t1, t2, t3, rg⟩ := (I.hok p (RgO p i j c) hp).1
  refine call_list_range (I.ok.hd hc) rg rc.2.2.1 rc.2.2.2 (by omega) ?_
  intro h2 tk acc room keep got its
  refine ⟨.ref s.heap.objs.size, upd H s.heap.objs.size (.lst ((List.range n).map fun t : Nat => V.int (i + (t : Int) * c))), ?_, rfl, q _ (I.hok.fresh (Nat.le_refl _))⟩
  refine I.laid keep (Nat.le_refl _) ?_
  refine ⟨by rw [List.length_map, List.length_range, sizeLine_eq]; omega, acc.toList, room, ?_, got⟩
  refine vals_at (by rw [List.length_range, Array.length_toList, its.1]) fun m v hv => ?_
  rw [Array.getElem?_toList] at hv
  have hm : m < n := by
    have := (Array.getElem?_eq_some_iff.mp hv).1
    rw [its.1] at this; exact this
  obtain ⟨t, rfl⟩ := its.2 m v hv
  exact ⟨m, by rw [List.getElem?_range hm], t, rfl⟩
end
/-! ### readings -/
section
variable {ty td tv te ta : TE} {σ : L2.St} {H : Hp} {Q : VK}
theorem r_makeL {i : Nat} {C : Addr} {sp : Sp} {E : XK} {t : TA} (h : σ[i]? = some (some (.ref C)) ∧ t σ H fun vs H1 => MakeP C sp E vs H1 Q) : tMakeL i C sp [] E t σ H Q := h
theorem r_din (h : ty σ H fun y H1 => td σ H1 fun x H2 => ∃ a o, x = .ref a ∧ DGet H2 a y o ∧ Q (.bl o.isSome) H2) : tDIn ty td σ H Q := h
theorem r_dnotin (h : ty σ H fun y H1 => td σ H1 fun x H2 => ∃ a o, x = .ref a ∧ DGet H2 a y o ∧ Q (.bl (!o.isSome)) H2) : tDNotIn ty td σ H Q := h
theorem r_dget (h : td σ H fun x H1 => ty σ H1 fun y H2 => ∃ a v, x = .ref a ∧ DGet H2 a y (some v) ∧ Q v H2) : tDGet td ty σ H Q := h
theorem r_dnew (h : ∀ p, H p = none → Q (.ref p) (upd H p (.dK []))) : tDNewK σ H Q := h
theorem r_dput {D : Ends} (h : tv σ H fun v H1 => td σ H1 fun x H2 => ty σ H2 fun y H3 => ∃ a H4, x = .ref a ∧ DPut H3 a y v H4 ∧ D.nx σ H4) : sDPut td ty tv D σ H := h
theorem r_lock (h : ∃ d u, H d = some u ∧ Mut (some u) ∧ ∀ od, te σ (upd H d (.frz od u)) fun v H' => H' d = some (.frz od u) ∧ Q v (upd H' d u)) : tLockE te σ H Q := h
end
/-! ### range(g - a, 0, -a) -/
theorem fits {x : Int} (h : x.natAbs < 1000000000) : Builtin.Range.rangeFitsLong x = true := by
  unfold Builtin.Range.rangeFitsLong
  simp
  omega
theorem rg_dn {g : Int} {a : Nat} (ha : 0 < a) (ha1 : a ≤ 1000) (hg : 0 ≤ g) (hg1 : g ≤ 100000) (nd : g = 0 ∨ ¬ (a : Int) ∣ g) : RgC (g - a) 0 (-(a : Int)) (g / (a : Int)).toNat := by
  have q0 : 0 ≤ g / (a : Int) := Int.ediv_nonneg hg (by omega)
  have q1 : g / (a : Int) ≤ g := Int.ediv_le_self _ hg
  have sz : Builtin.Range.rangeSize (g - a) 0 (-(a : Int)) = g / (a : Int) := by
    unfold Builtin.Range.rangeSize
    rw [if_neg (by omega)]
    have m1 := Int.emod_add_mul_ediv g a
    have m2 := Int.emod_nonneg g (show (a : Int) ≠ 0 by omega)
    have m3 := Int.emod_lt_of_pos g (show (0 : Int) < a by omega)
    by_cases h : g - a > 0
    · rw [if_pos h]
      have nz : g % (a : Int) ≠ 0 := by
        intro z
        rcases nd with rfl | nd
        · omega
        · exact nd (Int.dvd_of_emod_eq_zero z)
      have e : (g - (a : Int) - 0 - 1) / (a : Int) = g / (a : Int) - 1 := by
        refine ((Int.ediv_emod_unique (r := g % (a : Int) - 1) (q := g / (a : Int) - 1) (show (0 : Int) < a by omega)).mpr ⟨?_, by omega, by omega⟩).1
        rw [Int.mul_sub, Int.mul_one]; omega
      rw [show -(-(a : Int)) = a by omega, e]; omega
    · rw [if_neg h]
      have gl : g < a := by
        rcases Int.lt_or_eq_of_le (show g ≤ a by omega) with h1 | h1
        · exact h1
        · rcases nd with nd | nd
          · omega
          · exact absurd ⟨1, by omega⟩ nd
      exact (Int.ediv_eq_zero_of_lt hg gl).symm
  refine ⟨by omega, by omega, ?_, by rw [sz]; omega⟩
  unfold Builtin.Range.small
  rw [sz, fits (by omega), fits (by omega), fits (by omega), fits (by omega), if_neg (by omega), fits (by omega)]
  simp
/-! ### {k: v for .. in t} -/
section
variable {K : PySem.W.Frag} {g : TG} {tt : TT} {tk tv ta : TE} {vs : List Nat} {σ : L2.St} {H1 : Hp} {Q : VK}
def DCW (J : It) (g : TG) (tt : TT) (tk tv : TE) (vs : List Nat) (σ : L2.St) (H1 : Hp) (Q : VK) : Prop := ∀ D, H1 D = none →
  ∃ W : Nat → Nat → Hp → Prop, (∃ m, W 0 m (upd H1 D (.dK []))) ∧ ∀ i m H, W i m H → (J.stop i H ∧ Q (.ref D) H) ∨ (J.go i H ∧ ∃ Nx : Hp → Prop, (∀ H', Nx H' → ∃ m', m' < m ∧ W (i + 1) m' H') ∧ ∀ x H', J.yld i H x H' → g x (wipe σ vs) H' fun σ2 H2 => wipe σ2 vs = wipe σ vs ∧ tt σ2 H2 fun b H3 => if b = true then tk σ2 H3 fun y H4 => tv σ2 H4 fun z H5 => ∃ kvs k, y = kV k ∧ H5 D = some (.dK kvs) ∧ kvs.length < sizeLine ∧ Nx (upd H5 D (.dK (putK kvs k z))) else Nx H3)
theorem r_dcT (h : ta σ H1 fun x H1 => ∃ a, x = .ref a ∧ (∃ xs, SqT K H1 a xs) ∧ DCW (Itt K a) g tt tk tv vs σ H1 Q) : tDc (iTup K ta) g tt tk tv vs σ H1 Q := h
theorem dw_tup {a : Addr} {xs : List V} (Pv : Addr → Nat → Hp → Prop) (h0 : ∀ D, H1 D = none → Pv D 0 (upd H1 D (.dK []))) (hl : ∀ D, H1 D = none → ∀ i H, i ≤ xs.length → Pv D i H → SqT K H a xs)
    (hs : ∀ D, H1 D = none → ∀ i x H, xs[i]? = some x → Pv D i H → g x (wipe σ vs) H fun σ2 H2 => wipe σ2 vs = wipe σ vs ∧ tt σ2 H2 fun b H3 => if b = true then tk σ2 H3 fun y H4 => tv σ2 H4 fun z H5 => ∃ kvs k, y = kV k ∧ H5 D = some (.dK kvs) ∧ kvs.length < sizeLine ∧ Pv D (i + 1) (upd H5 D (.dK (putK kvs k z))) else Pv D (i + 1) H3)
    (hd : ∀ D, H1 D = none → ∀ H, Pv D xs.length H → Q (.ref D) H) : DCW (Itt K a) g tt tk tv vs σ H1 Q :=
  fun D hD => dc_tup (Qd := Q (.ref D)) (Pv D) (h0 D hD) (hl D hD) (hs D hD) (hd D hD)
end
theorem r_fmt {te : TE} {σ : L2.St} {H : Hp} {Q : VK} (h : te σ H fun x H1 => (∃ y : Str, x = .str y ∧ y.length ≤ sizeLine ∧ Q (.str y) H1) ∨ ∃ i : Int, x = .int i ∧ i.natAbs.log2 < 1920 ∧ Q (.str (toString i)) H1) : tFmt te σ H Q := h
theorem r_lcK {g : TG} {tt : TT} {te td : TE} {vs : List Nat} {σ : L2.St} {H : Hp} {Q : VK} (h : td σ H fun x H1 => ∃ d o, x = .ref d ∧ ((∃ kvs, H1 d = some (.frz o (.dK kvs)) ∧ LCW (Itk d o kvs) g tt te vs σ H1 Q) ∨ ∃ kvs, H1 d = some (.frz o (.dT kvs)) ∧ LCW (Itkt d o kvs) g tt te vs σ H1 Q)) : tLc (iKeys td) g tt te vs σ H Q := h
/-! ### dicts of numbers -/
/-- the dict at d has just the keys in G -/
def TabAt (H : Hp) (d : Addr) (G : Int → Prop) : Prop := ∃ kvs : List (Key × V), H d = some (.dK kvs) ∧ ∀ x : Int, (valV kvs (.inl x)).isSome = true ↔ G x
theorem TabAt.mono {H H' : Hp} {d : Addr} {G : Int → Prop} (h : TabAt H d G) (s : ∀ b o, H b = some o → H' b = some o) : TabAt H' d G := by
  obtain ⟨kvs, e, k⟩ := h; exact ⟨kvs, s _ _ e, k⟩
theorem TabAt.get {H : Hp} {d : Addr} {G : Int → Prop} (h : TabAt H d G) (x : Int) : ∃ o, DGet H d (.int x) o ∧ (o.isSome = true ↔ G x) := by
  obtain ⟨kvs, e, k⟩ := h
  exact ⟨_, .inl ⟨kvs, .inl x, .inl e, rfl, rfl⟩, k x⟩
theorem r_isin {H : Hp} {d : Addr} {G : Int → Prop} {x : Int} {Q : VK} (h : TabAt H d G) (q : ∀ b : Bool, (b = true ↔ G x) → Q (.bl b) H) : ∃ a o, V.ref d = .ref a ∧ DGet H a (.int x) o ∧ Q (.bl o.isSome) H := by
  obtain ⟨kvs, e, k⟩ := h
  exact ⟨d, _, rfl, .inl ⟨kvs, .inl x, .inl e, rfl, rfl⟩, q _ (k x)⟩
theorem r_notin {H : Hp} {d : Addr} {G : Int → Prop} {x : Int} {Q : VK} (h : TabAt H d G) (q : ∀ b : Bool, (b = true ↔ ¬ G x) → Q (.bl b) H) : ∃ a o, V.ref d = .ref a ∧ DGet H a (.int x) o ∧ Q (.bl (!o.isSome)) H := by
  obtain ⟨kvs, e, k⟩ := h
  refine ⟨d, _, rfl, .inl ⟨kvs, .inl x, .inl e, rfl, rfl⟩, q _ ?_⟩
  rw [← k x]
  cases (valV kvs (Sum.inl x)).isSome <;> simp
theorem tab_put {kvs : List (Key × V)} {G : Int → Prop} {x : Int} {v : V} (k : ∀ x : Int, (valV kvs (.inl x)).isSome = true ↔ G x) (y : Int) : (valV (putK kvs (.inl x) v) (.inl y)).isSome = true ↔ (G y ∨ y = x) := by
  rw [valV_put]
  by_cases h : y = x
  · subst h; simp
  · rw [if_neg (by intro z; exact h (Sum.inl.inj z)), k y]; simp [h]
/-- {g: True for g in t}, of a tuple of numbers that are all unlike -/
def tabKv (ns : List Int) : List (Key × V) := ns.map fun n => (.inl n, V.bl true)
theorem tabKv_get (ns : List Int) (x : Int) : (valV (tabKv ns) (.inl x)).isSome = true ↔ x ∈ ns := by
  induction ns with
  | nil => simp [tabKv, valV]
  | cons n ns ih =>
    by_cases e : n = x
    · subst e
      rw [show tabKv (n :: ns) = (.inl n, V.bl true) :: tabKv ns from rfl, valV_pos rfl]; simp
    · rw [show tabKv (n :: ns) = (.inl n, V.bl true) :: tabKv ns from rfl, valV_neg (by intro z; exact e (Sum.inl.inj z)), ih]
      simp [Ne.symm e]
theorem tabKv_put {ns : List Int} {x : Int} (h : x ∉ ns) : putK (tabKv ns) (.inl x) (V.bl true) = tabKv (ns ++ [x]) := by
  rw [putK_new]
  · unfold tabKv; rw [List.map_append]; rfl
  · have := mt (tabKv_get ns x).mp h
    simpa using this
end Mj
namespace Mj
open PySem PySem.Spec PyProof.Rows L2 Sx Sy
section
variable {σ : L2.St} {H : Hp} {Q : VK} {tl : TA}
theorem r_makeD {C : Addr} {sp : Sp} {E : XK} {v0 : V} (h : tl σ H fun vs H1 => MakeP C sp E (vs ++ [v0]) H1 Q) : tMake C sp [v0] E tl σ H Q := by
  unfold tMake
  simpa only [MakeP, List.append_nil] using h
end
section
variable {K : PySem.W.Frag} {x qual : Str} {st : Stmt} {f ed e : Addr} {fd : FuncData} {ps : List Str} {pr : Arguments} {bd : List Stmt} {sc : Scope}
theorem fund_mk {oc kV doc pm cdv ct tc : Value} {od an td : Option Addr} {osl ts : Array (Option Value)} {tn : Nat}
    (l : K.lookup f = some ⟨oc, od, .func (PySem.W.fnOf x qual (defArgs st) (defBody st) (defScope st) (.ref ed) kV doc pm an cdv ct), osl⟩)
    (ld : K.lookup ed = some ⟨tc, td, .seq #[.ref e] tn, ts⟩) (c : PySem.W.codeIn K cdv qual = true) (k : PySem.W.keepIn K (.ref f) = true) :
    FunD K x qual (defArgs st) (defBody st) (defScope st) [.ref e] [] f (PySem.W.fnOf x qual (defArgs st) (defBody st) (defScope st) (.ref ed) kV doc pm an cdv ct) :=
  ⟨⟨_, _, _, _, _, _, _, _, _, _, rfl, l, c, .inr ⟨by simp, _, _, [.ref e], _, rfl, ld, rfl, .cons rfl .nil⟩, .inl rfl⟩, k⟩
theorem bind_a (F : FunD K x qual pr bd sc [.ref e] [] f fd) (n : Nat) (hn : n = ps.length)
    (h : ∀ (T : Addr) (kV doc pm : Value) (an : Option Addr) (cdv ct : Value) (us its : List Value), us.length = n → its.length = [V.ref e].length →
      ∃ k, bindArgs (PySem.W.fnOf x qual pr bd sc (.ref T) kV doc pm an cdv ct) { pos := us } = seqItems? (.ref T) >>= k ∧ k (some its.toArray) = pure (ps.zip (us ++ List.drop 1 its))) : Binds K fd ps [] := by
  obtain ⟨ds, hv, hb⟩ := F.binds1 n 1 (by simp) (by simpa using hn) h
  cases hv
  exact hb
theorem bind_d (F : FunD K x qual pr bd sc [.ref e] [] f fd) (n : Nat) (hn : n + 1 = ps.length)
    (h : ∀ (T : Addr) (kV doc pm : Value) (an : Option Addr) (cdv ct : Value) (us its : List Value), us.length = n → its.length = [V.ref e].length →
      ∃ k, bindArgs (PySem.W.fnOf x qual pr bd sc (.ref T) kV doc pm an cdv ct) { pos := us } = seqItems? (.ref T) >>= k ∧ k (some its.toArray) = pure (ps.zip (us ++ List.drop 0 its))) : Binds K fd ps [.ref e] := by
  obtain ⟨ds, hv, hb⟩ := F.binds1 n 0 (by simp) (by simpa using hn) h
  cases hv with
  | cons hr hn =>
    cases hn
    cases hr
    exact hb
end
end Mj

namespace Mj
open PySem
theorem kit_no {K : PySem.W.Frag} {t : Value} {C : Addr} (h1 : PySem.W.isClsIn K C = true) (h2 : PySem.W.typeIn K (.ref C) = some (.type "type")) (h3 : PySem.W.subIn K t (.ref C) = some false) (h4 : PySem.W.subIn K (.ref C) (.ref C) = some true) : PySem.W.kitOne K t (.ref C) = some false := by
  unfold PySem.W.kitOne
  split
  · rename_i e
    have e := eq_of_beq e
    subst e
    rw [h4] at h3; cases h3
  · unfold PySem.W.kitCls
    have : (PySem.W.clsIn K C).isSome = true := h1
    simp [this, h2, h3]

end Mj

namespace Mj
open PySem PySem.Spec PyProof.Rows L2
theorem r_cmeth {C : Addr} {sp : Sp} {E : XK} {ta : TE} {t : TA} {σ : L2.St} {H : Hp} {Q : VK} (h : ta σ H fun x H1 => x = .ref C ∧ t σ H1 fun vs H2 => sp (.ref C :: vs) H2 Q E) : ClX.tCMeth C sp E ta t σ H Q := h
end Mj

/-! Dk: obj[x] by a class's own def; dicts of texts; dict == dict with both answers; any value in a list of texts. -/
namespace Dk
open PySem PySem.Spec PyProof.Rows L2 Sx Sy Sw
section
variable {X : Cx} {n : Nat} {sp : Sp} {C g : Addr} {fd : FuncData} {ps : List Str}
def tSubO (C : Addr) (sp : Sp) (tt ti : TE) : TE := fun σ H Q => tt σ H fun x H1 => ti σ H1 fun y H2 => ∃ b dy gs, x = .ref b ∧ H2 b = some (.ins C dy gs) ∧ sp [x, y] H2 Q C8.E0
theorem pe_subO {o i : Expr} {tt ti : TE} {pos : Pos} (w : OwnOp X.K C "__getitem__" g) (hf : PySem.W.fnIn X.K g = true) (F : FnOk X.prog X.w X.K X.mg X.base C8.CX0 n g fd ps sp) (hr : Room (n + 1) X.A) (bd : Binds X.K fd ps [])
    (ho : PE X o tt) (hi : PE X i ti) (hs : ∀ (x : Addr) (v : Value), subscripted i true (.ref x) v = runValue (.builtin "lifetime.subscript" ⟨[.ref x, v], []⟩)) : PE X (.Subscript o i pos) (tSubO C sp tt ti) := by
  constructor
  intro pins s σ H Q I now
  refine Subscript_ (thn (ho.run pins s σ H _ I now) ?_)
  rintro v s1 ⟨x, H1, I1, r1, now1⟩
  refine thn (hi.run pins s1 σ H1 _ I1 now1) ?_
  rintro u s2 ⟨y, H2, I2, r2, b, dy, gs, rfl, hb, q⟩
  obtain rfl : v = .ref b := r1
  obtain ⟨mB, J, _⟩ := ins_get I2.hok hb
  obtain ⟨od, J, _⟩ := J.look
  obtain ⟨m, fr⟩ := I2.fr
  exact PySem.W.sub_K fr I2.ok.mod.kin J w.at' hf w.fn (Ob.own_call I2 I2.env0.in1 hr.in1 F bd (Ob.v2 r2) q) (hs _ _)
theorem r_subO {tt ti : TE} {σ : L2.St} {H : Hp} {Q : VK} (h : tt σ H fun x H1 => ti σ H1 fun y H2 => ∃ b dy gs, x = .ref b ∧ H2 b = some (.ins C dy gs) ∧ sp [x, y] H2 Q C8.E0) : tSubO C sp tt ti σ H Q := h
end
/-! ### dict == dict -/
def allInt (ks : List (Key × V)) : Prop := ∀ p ∈ ks, ∃ i : Int, p.2 = .int i
def eqKv (ks ls : List (Key × V)) : Bool := ks.all fun p => decide (valV ls p.1 = some p.2)
theorem hits {A : Around} {s : Shared} {kvs : List (Key × V)} {vb : List (Key × Value)} (rb : KV kvs vb) (hb : ∀ k v, valV kvs k = some v → ∃ i : Int, v = .int i) {ks : List (Key × V)} {va : List (Key × Value)} (ra : KV ks va) : allInt ks → PySem.W.KeqHits A s vb va (eqKv ks kvs) := by
  unfold KV at ra
  induction ra with
  | nil => intro _; exact .nil
  | @cons p q ps qs h t ih =>
    intro ai
    have ih := ih fun p' m => ai p' (List.mem_cons_of_mem _ m)
    obtain ⟨i, e⟩ := ai p List.mem_cons_self
    obtain ⟨x, y⟩ := p
    obtain ⟨k, v⟩ := q
    obtain ⟨h1, h2⟩ := h
    have h1 : x = k := h1
    subst h1
    have e : y = .int i := e
    subst e
    obtain ⟨t1, e1⟩ : ∃ t, v = Value.int i t := h2
    subst e1
    have rr : RelO (valV kvs x) (valueAt vb x) := rb.val x
    cases c : valV kvs x with
    | none =>
      rw [c] at rr
      have n : valueAt vb x = none := by
        cases d : valueAt vb x with
        | none => rfl
        | some z => rw [d] at rr; exact rr.elim
      have ee : eqKv ((x, V.int i) :: ps) kvs = false := by
        unfold eqKv; rw [List.all_cons]; simp [c]
      rw [ee]; exact .miss n
    | some z =>
      rw [c] at rr
      obtain ⟨j, rfl⟩ := hb _ _ c
      obtain ⟨y, hy, ry⟩ := rr.some_of
      obtain ⟨t2, rfl⟩ : ∃ t, y = Value.int j t := ry
      have ee : eqKv ((x, V.int i) :: ps) kvs = ((i == j) && eqKv ps kvs) := by
        unfold eqKv; rw [List.all_cons, c]
        congr 1
        by_cases q : i = j
        · subst q; simp
        · have q' : ¬ j = i := fun z => q z.symm
          simp [q, q']
      rw [ee]
      exact .hit hy (SeqAt.EqAt.int_int i t1 j t2) ih
def rEqI (neg : Bool) : R2 := fun x y H Q => ∃ a b ks ls, x = .ref a ∧ y = .ref b ∧ H a = some (.dK ks) ∧ H b = some (.dK ls) ∧ allInt ks ∧ (∀ k v, valV ls k = some v → ∃ i : Int, v = .int i) ∧
  Q (.bl (if neg then !(decide (ks.length = ls.length) && eqKv ks ls) else (decide (ks.length = ls.length) && eqKv ks ls))) H
section
variable {X : Cx}
theorem len_beq (a b : Nat) : (a == b) = decide (a = b) := by by_cases h : a = b <;> simp [h]
theorem op_eqDict (hu : X.A.units < cLine) : OpR X (compareOp .Eq) (rEqI false) := by
  intro pins s σ H x y v u Q I rx ry h
  obtain ⟨a, b, ks, ls, rfl, rfl, ea, eb, hk, hl, q⟩ := h
  obtain rfl : v = Value.ref a := rx
  obtain rfl : u = Value.ref b := ry
  obtain ⟨_, ya, va, ra, da⟩ := (show ObjOk X.prog X.w H s.heap a (.dK ks) from I.hok a _ ea)
  obtain ⟨_, yb, vb, rb, db⟩ := (show ObjOk X.prog X.w H s.heap b (.dK ls) from I.hok b _ eb)
  refine PySem.W.keq_eq (knd := mixKind X.prog X.w) (r := eqKv ks ls) ya yb da db hu (fun _ => hits rb hl ra hk) (fin_bl I q ?_)
  rw [← ra.length, ← rb.length, len_beq]; rfl
theorem op_neDict (hu : X.A.units < cLine) : OpR X (compareOp .NotEq) (rEqI true) := by
  intro pins s σ H x y v u Q I rx ry h
  obtain ⟨a, b, ks, ls, rfl, rfl, ea, eb, hk, hl, q⟩ := h
  obtain rfl : v = Value.ref a := rx
  obtain rfl : u = Value.ref b := ry
  obtain ⟨_, ya, va, ra, da⟩ := (show ObjOk X.prog X.w H s.heap a (.dK ks) from I.hok a _ ea)
  obtain ⟨_, yb, vb, rb, db⟩ := (show ObjOk X.prog X.w H s.heap b (.dK ls) from I.hok b _ eb)
  refine PySem.W.keq_ne (knd := mixKind X.prog X.w) (r := eqKv ks ls) ya yb da db hu (fun _ => hits rb hl ra hk) (fin_bl I q ?_)
  rw [← ra.length, ← rb.length, len_beq]; rfl
end
/-! ### a text is no dict -/
section
variable {A : Around} {s : Shared}
theorem str_no (b : Str) (u : Tok) (l : Addr) (o : Obj) (ho : ∃ es ep, o.data = .dict es ep) :
    Meets (Builtin.«str.__eq__» ⟨[.str b u, .ref l], []⟩) (fun _ R s => s.heap.get? l = some o ∧ R (.ok (.ret .notImplemented)) s) := by
  obtain ⟨cls, dd, data, sl⟩ := o
  obtain ⟨es, ep, ho⟩ := ho
  simp only at ho
  subst ho
  exact .of_wp fun prog w A R s h => by
    obtain ⟨hp, g, d, tk, os⟩ := s
    obtain ⟨hl, h⟩ := h
    wp_walk using AutoSeq1.wpAny_loadPart' hl, wpAny_load hl
    exact ⟨_, rfl, h⟩
theorem dict_no (b : Str) (u : Tok) (l : Addr) :
    Meets (Builtin.«dict.__eq__» ⟨[.ref l, .str b u], []⟩) (fun _ R s => s.TypeIs (.ref l) "dict" ∧ R (.ok (.ret .notImplemented)) s) := by
  refine .of_wp fun prog w A R s h => ?_
  obtain ⟨hl, h⟩ := h
  show wpAny _ _ (Builtin.Dict.dictSlotArgs "__eq__" ⟨[.ref l, .str b u], []⟩ >>= _) _ _ s
  refine wpAny_bind ?_
  unfold Builtin.Dict.dictSlotArgs
  refine wpAny_bind (wpAny_notOrdered_dict hl ?_)
  show wpAny _ _ (pure (Value.ref l, Value.str b u)) _ _ s
  refine wpAny_pure ?_
  refine wpAny_bind (wpAny_isInstance (T := "str") (typeIs_str s b u) PySem.F.sub_str_dict ?_)
  simp only [Bool.not_false, if_true]
  exact wpAny_bind (wpAny_rule (wpAny_pure ⟨_, rfl, h⟩))
theorem eq_str_dict {A : Around} {s : Shared} {l : Addr} {o : Obj} (b : Str) (u : Tok) (hu : A.units < cLine) (hl : s.heap.get? l = some o) (ho : ∃ es ep, o.data = .dict es ep) (ht : s.TypeIs (.ref l) "dict") : SeqAt.EqAt A s (.str b u) (.ref l) false := fun prog w E Q h => by
  unfold eqBool
  refine wpAny_holding ?_
  refine wpAny_ite_split (fun hab => absurd (eq_of_beq hab) nofun) (fun _ => ?_)
  refine wpAny_bind (SeqAt.rc_eq_decline_or (k := false) (typeIs_str s b u) ht (by decide) PySem.F.sub_dict_str PySem.F.slot_str_eq PySem.F.slot_dict_eq
    (fun _ hq => call_meets PySem.F.slot_str_eq (typeIs_str s b u) PySem.F.entry_str_eq (PySem.F.args_str_eq_2 _ _) (str_no b u l o ho) ⟨hl, hq⟩)
    (fun _ hq => call_meets PySem.F.slot_dict_eq ht PySem.F.entry_dict_eq (PySem.F.args_dict_eq_2 _ _) (dict_no b u l) ⟨ht, hq⟩)
    (fun _ hq => wpAny_of_eq (rfl : isSame (.str b u) (.ref l) = pure false) hq) (.inr hu) (wpAny_truthy_bool h))
end
/-! ### any value in a list of texts -/
def NoText (H : Hp) (x : V) : Prop := (∃ a, x = .ref a ∧ ((∃ ys, H a = some (.lst ys)) ∨ (∃ ys, H a = some (.tup ys)) ∨ ∃ kvs, H a = some (.dK kvs)))
def rInX (K : PySem.W.Frag) : R2 := fun x y H Q => ∃ (p : Addr) (cs : List Str), y = .ref p ∧ SqL K H p (cs.map V.str) ∧ ((flatV x = true ∧ Q (.bl (inV x (cs.map V.str))) H) ∨ NoText H x ∧ Q (.bl false) H)
theorem flat_strs (cs : List Str) : (cs.map V.str).all flatV = true := by
  rw [List.all_eq_true]
  intro x hx
  obtain ⟨y, _, rfl⟩ := List.mem_map.mp hx
  rfl
theorem strs_of : ∀ {cs : List Str} {us : List Value}, Vals (cs.map V.str) us → ∀ u ∈ us, ∃ c t, u = .str c t
  | [], _, .nil, _, m => absurd m List.not_mem_nil
  | c :: cs, u :: us, .cons r t, u', m => by
    rcases List.mem_cons.mp m with e | m
    · obtain ⟨tk, e2⟩ := (show ∃ t, u = Value.str c t from r)
      exact ⟨c, tk, e.trans e2⟩
    · exact strs_of t u' m
theorem op_inX {X : Cx} (hu : X.A.units + 64 < cLine) : OpR X (compareOp .In) (rInX X.K) := by
  intro pins s σ H x y v u Q I rx ry h
  obtain ⟨p, cs, rfl, hq, ⟨fx, q⟩ | ⟨⟨a, rfl, hx⟩, q⟩⟩ := h
  · exact op_in_seq pins s σ H x (.ref p) v u Q I rx ry ⟨p, _, rfl, .inl hq, fx, flat_strs cs, q⟩
  · cases ry
    obtain rfl : v = .ref a := rx
    obtain ⟨its, r, pl, hz⟩ := I.list hq
    have hu1 : X.A.in1.units < cLine := by
      have : X.A.in1.units ≤ X.A.units + 64 := by show X.A.units + 1 ≤ _; omega
      omega
    refine SeqAt.in_listAt (fun _ => false) pl.isList (fun w hw => ?_) ⟨.bl _, H, I, rfl, ?_⟩
    · obtain ⟨c, t, rfl⟩ := strs_of r w (by simpa using hw)
      rcases hx with ⟨ys, e⟩ | ⟨ys, e⟩ | ⟨kvs, e⟩
      · obtain ⟨is, _, pa, _⟩ := I.list (SqL.of e)
        exact SeqAt.EqAt.str_list c t pa.isList hu1
      · obtain ⟨is, _, pa, _⟩ := I.tuple (.inl (.inl e))
        exact SeqAt.EqAt.str_tuple c t pa hu1
      · obtain ⟨_, ya, va, ra, o, es, ep, h1, h2, h3, _⟩ := (show ObjOk X.prog X.w H s.heap a (.dK kvs) from I.hok a _ e)
        exact eq_str_dict c t hu1 h1 ⟨es, ep, h3⟩ ⟨o, h1, h2.1⟩
    · rw [show its.toArray.any (fun _ => false) = false by simp]
      exact q
theorem bt_dict : bootBuiltins "dict" = some (.type "dict") := by decide +kernel
/-! ### walks over texts and keys -/
section
variable {σ : L2.St} {H H1 : Hp} {nx bk ct : L2.St → Hp → Prop} {rt Q : VK} {ta te tk tv : TE} {tt : TT} {tb : TS} {g : TG} {vs : List Nat}
theorem r_dcS (h : ta σ H fun v H1 => ∃ x, v = .str x ∧ Mj.DCW (Its x) g tt tk tv vs σ H1 Q) : tDc (iStr ta) g tt tk tv vs σ H Q := h
theorem dw_str {x : Str} (Pv : Addr → Nat → Hp → Prop) (h0 : ∀ D, H1 D = none → Pv D 0 (upd H1 D (.dK [])))
    (hs : ∀ D, H1 D = none → ∀ i c H, x.cps[i]? = some c → Pv D i H → g (.str ⟨#[c]⟩) (wipe σ vs) H fun σ2 H2 => wipe σ2 vs = wipe σ vs ∧ tt σ2 H2 fun b H3 =>
      if b = true then tk σ2 H3 fun y H4 => tv σ2 H4 fun z H5 => ∃ kvs k, y = kV k ∧ H5 D = some (.dK kvs) ∧ kvs.length < sizeLine ∧ Pv D (i + 1) (upd H5 D (.dK (putK kvs k z))) else Pv D (i + 1) H3)
    (hd : ∀ D, H1 D = none → ∀ H, Pv D x.cps.size H → Q (.ref D) H) : Mj.DCW (Its x) g tt tk tv vs σ H1 Q := by
  intro D hD
  refine ⟨fun i m H => m = x.cps.size - i ∧ i ≤ x.cps.size ∧ Pv D i H, ⟨x.cps.size, by simp, Nat.zero_le _, h0 D hD⟩, ?_⟩
  rintro i m H ⟨rfl, hi, p⟩
  by_cases hlt : i < x.cps.size
  · refine .inr ⟨hlt, Pv D (i + 1), fun H' p' => ⟨x.cps.size - (i + 1), by omega, rfl, hlt, p'⟩, fun y H' z => ?_⟩
    obtain ⟨e, c, hc, e2⟩ := z
    subst e e2
    exact hs D hD i c _ hc p
  · have e : i = x.cps.size := by omega
    subst e
    exact .inl ⟨Nat.le_refl _, hd D hD H p⟩
theorem lw_str {x : Str} (Pv : Addr → Nat → Hp → Prop) (h0 : ∀ D, H D = none → Pv D 0 (upd H D (.lst [])))
    (hs : ∀ D, H D = none → ∀ i c H, x.cps[i]? = some c → Pv D i H → g (.str ⟨#[c]⟩) (wipe σ vs) H fun σ2 H2 => wipe σ2 vs = wipe σ vs ∧ tt σ2 H2 fun b H3 =>
      if b = true then te σ2 H3 fun y H4 => ∃ acc, H4 D = some (.lst acc) ∧ acc.length < sizeLine ∧ Pv D (i + 1) (upd H4 D (.lst (acc ++ [y]))) else Pv D (i + 1) H3)
    (hd : ∀ D, H D = none → ∀ H, Pv D x.cps.size H → Q (.ref D) H) : LCW (Its x) g tt te vs σ H Q := by
  intro D hD
  refine ⟨fun i m H => m = x.cps.size - i ∧ i ≤ x.cps.size ∧ Pv D i H, ⟨x.cps.size, by simp, Nat.zero_le _, h0 D hD⟩, ?_⟩
  rintro i m H ⟨rfl, hi, p⟩
  by_cases hlt : i < x.cps.size
  · refine .inr ⟨hlt, Pv D (i + 1), fun H' p' => ⟨x.cps.size - (i + 1), by omega, rfl, hlt, p'⟩, fun y H' z => ?_⟩
    obtain ⟨e, c, hc, e2⟩ := z
    subst e e2
    exact hs D hD i c _ hc p
  · have e : i = x.cps.size := by omega
    subst e
    exact .inl ⟨Nat.le_refl _, hd D hD H p⟩
theorem r_forK {D : Ends} (h : te σ H fun x H1 => ∃ d o, x = .ref d ∧ ((∃ kvs, H1 d = some (.frz o (.dK kvs)) ∧ FR (Itk d o kvs) g tb D σ H1) ∨ ∃ kvs, H1 d = some (.frz o (.dT kvs)) ∧ FR (Itkt d o kvs) g tb D σ H1)) : tFor (iKeys te) g tb D σ H := h
theorem fr_keys {d : Addr} {o : Obj} {kvs : List (Key × V)} (Pv : Nat → L2.St → Hp → Prop) (h0 : Pv 0 σ H) (hl : ∀ i σ H, i ≤ kvs.length → Pv i σ H → H d = some (.frz o (.dK kvs)))
    (hs : ∀ i k v σ H, kvs[i]? = some (k, v) → Pv i σ H → g (kV k) σ H fun σ2 H2 => tb ⟨Pv (i + 1), rt, nx, Pv (i + 1)⟩ σ2 H2) (hd : ∀ σ H, Pv kvs.length σ H → nx σ H) : FR (Itk d o kvs) g tb ⟨nx, rt, bk, ct⟩ σ H := by
  refine ⟨fun i m σ H => m = kvs.length - i ∧ i ≤ kvs.length ∧ Pv i σ H, ⟨kvs.length, by simp, Nat.zero_le _, h0⟩, ?_⟩
  rintro i m σ H ⟨rfl, hi, p⟩
  have q := hl i σ H hi p
  by_cases hlt : i < kvs.length
  · refine .inr ⟨⟨q, hlt⟩, Pv (i + 1), fun σ' H' p' => ⟨kvs.length - (i + 1), by omega, rfl, hlt, p'⟩, fun y H' z => ?_⟩
    obtain ⟨e, k, v, hk, e2⟩ := z
    subst e e2
    exact hs i k v σ _ hk p
  · have e : i = kvs.length := by omega
    subst e
    exact .inl ⟨⟨q, Nat.le_refl _⟩, hd σ H p⟩
theorem r_slock {t : TS} {D : Ends} (h : ∃ d u, H d = some u ∧ Mut (some u) ∧ ∀ od, t ⟨fun σ' H' => H' d = some (.frz od u) ∧ D.nx σ' (upd H' d u), fun v H' => H' d = some (.frz od u) ∧ D.rt v (upd H' d u), fun σ' H' => H' d = some (.frz od u) ∧ D.bk σ' (upd H' d u), fun σ' H' => H' d = some (.frz od u) ∧ D.ct σ' (upd H' d u)⟩ σ (upd H d (.frz od u))) : tLock t D σ H := h
end
end Dk

/-! Mw: words of two letters: levels, turns, periods, the lowest places. -/
namespace Mw
open PySem PySem.Builtin PySem.Builtin.Str
open SX (S)
/-! ### texts -/
theorem cnt_count (c : Nat) : ∀ l : List Nat, PyProof.Rows.cnt c l = (l.count c : Nat)
  | [] => rfl
  | n :: l => by
    rw [PyProof.Rows.cnt_cons, cnt_count c l, List.count_cons]
    by_cases h : n = c
    · subst h; simp [Int.add_comm]
    · simp [h]
theorem count_S (a : List Nat) (c : Nat) : Txt.count (S a) ⟨#[c]⟩ = (a.count c : Nat) := by
  rw [PyProof.Rows.count_is]; exact cnt_count c a
theorem sub_iff (a b : List Nat) (i : Nat) : subAt (S a) (S b) i = true ↔ (a.drop i).take b.length = b := by
  unfold subAt
  rw [beq_iff_eq, SX.S_len]
  constructor
  · intro h
    have h2 := congrArg Array.toList h
    rw [Array.toList_extract] at h2
    simpa [List.extract_eq_take_drop] using h2
  · intro h
    apply Array.toList_inj.mp
    rw [Array.toList_extract]
    simpa [List.extract_eq_take_drop] using h
theorem full_run (s sub : Str) (hi limit : Nat) : ∀ (l : List Nat) (st : Array Nat × Nat), limit ≤ st.fst.size → (forIn l st (StrLaws.occBody s sub hi limit)).run.fst = st.fst
  | [], st, h => rfl
  | a :: l, st, h => by
    rw [List.forIn_cons]
    unfold StrLaws.occBody
    rw [if_neg (by omega)]
    exact full_run s sub hi limit l (st.fst, st.snd) h
theorem first_run (s sub : Str) (hi k : Nat) (hk : k + sub.length ≤ hi) (hs : subAt s sub k = true) : ∀ (m cur free : Nat), free ≤ cur → cur ≤ k → k < cur + m → (∀ j, cur ≤ j → j < k → subAt s sub j = false) →
    (forIn (List.range' cur m) ((#[] : Array Nat), free) (StrLaws.occBody s sub hi 1)).run.fst = #[k]
  | 0, cur, free, _, _, h, _ => by omega
  | m + 1, cur, free, hf, hc, h, hn => by
    rw [List.range'_succ, List.forIn_cons]
    unfold StrLaws.occBody
    by_cases e : cur = k
    · subst e
      rw [if_pos ⟨⟨⟨by simp, hf⟩, hk⟩, hs⟩]
      exact full_run s sub hi 1 _ (#[cur], _) (Nat.le_refl 1)
    · rw [if_neg (fun z => by rw [hn cur (Nat.le_refl _) (by omega)] at z; exact absurd z.2 Bool.false_ne_true)]
      exact first_run s sub hi k hk hs m (cur + 1) free (by omega) (by omega) (by omega) fun j h1 h2 => hn j (by omega) h2
theorem find3_S {a b : List Nat} {lo k : Nat} (h1 : lo ≤ k) (h2 : k + b.length ≤ a.length) (h3 : (a.drop k).take b.length = b) (h4 : ∀ j, lo ≤ j → j < k → (a.drop j).take b.length ≠ b) : Txt.find3 (S a) (S b) (lo : Int) = k := by
  have hl : (S a).length = a.length := SX.S_len a
  have hb : (S b).length = b.length := SX.S_len b
  unfold Txt.find3
  have hlo : fromIndex (S a).length (lo : Int) = lo := by
    unfold fromIndex; omega
  rw [hlo, StrLaws.occ_eq]
  rw [first_run (S a) (S b) _ k (by rw [hb, hl]; exact h2) ((sub_iff a b k).mpr h3) _ lo lo (Nat.le_refl _) h1 (by rw [hl]; omega) fun j h5 h6 => by
    cases e : subAt (S a) (S b) j with
    | false => rfl
    | true => exact absurd ((sub_iff a b j).mp e) (h4 j h5 h6)]
/-! ### turns -/
def rot (k : Nat) (l : List Nat) : List Nat := l.drop k ++ l.take k
theorem rot_len {k : Nat} {l : List Nat} : (rot k l).length = l.length := by
  unfold rot; rw [List.length_append, List.length_drop, List.length_take]; omega
theorem rot_count {k c : Nat} {l : List Nat} : (rot k l).count c = l.count c := by
  unfold rot
  rw [List.count_append, Nat.add_comm, ← List.count_append, List.take_append_drop]
theorem rot_full {l : List Nat} : rot l.length l = l := by unfold rot; simp
theorem rot_zero {l : List Nat} : rot 0 l = l := by unfold rot; simp
theorem twice {l : List Nat} {k : Nat} (h : k ≤ l.length) : ((l ++ l).drop k).take l.length = rot k l := by
  unfold rot
  rw [List.drop_append_of_le_length h, List.take_append, List.take_of_length_le (by rw [List.length_drop]; omega), List.length_drop]
  congr 2; omega
/-- the letter at i, all around -/
def ring (l : List Nat) (i : Nat) : Option Nat := l[i % l.length]?
theorem rot_get {l : List Nat} {k i : Nat} (hk : k ≤ l.length) (hi : i < l.length) : (rot k l)[i]? = ring l (i + k) := by
  unfold rot ring
  by_cases h : i < l.length - k
  · rw [List.getElem?_append_left (by rw [List.length_drop]; exact h), List.getElem?_drop, Nat.mod_eq_of_lt (by omega), Nat.add_comm]
  · rw [List.getElem?_append_right (by rw [List.length_drop]; omega), List.length_drop, List.getElem?_take, if_pos (by omega)]
    congr 1
    rw [Nat.mod_eq_sub_mod (by omega), Nat.mod_eq_of_lt (by omega)]; omega
theorem ring_mod {l : List Nat} {i : Nat} : ring l (i % l.length) = ring l i := by unfold ring; rw [Nat.mod_mod]
theorem ring_add {l : List Nat} {i : Nat} : ring l (i + l.length) = ring l i := by unfold ring; rw [Nat.add_mod_right]
/-- turned by j it is itself: all letters all around come again after j -/
theorem rot_iff {l : List Nat} {j : Nat} (hj : j ≤ l.length) : rot j l = l ↔ ∀ i, ring l (i + j) = ring l i := by
  constructor
  · intro h i
    rcases Nat.eq_zero_or_pos l.length with e | e
    · have : l = [] := List.length_eq_zero_iff.mp e
      subst this; rfl
    · have hm := Nat.mod_lt i e
      rw [← ring_mod (i := i)]
      have e1 : ring l (i + j) = ring l (i % l.length + j) := by unfold ring; rw [Nat.mod_add_mod]
      rw [e1, ← rot_get hj hm, h]
      unfold ring; rw [Nat.mod_mod]
  · intro h
    apply List.ext_getElem?
    intro i
    by_cases hi : i < l.length
    · rw [rot_get hj hi, h]; unfold ring; rw [Nat.mod_eq_of_lt hi]
    · rw [List.getElem?_eq_none (by rw [rot_len]; omega), List.getElem?_eq_none (by omega)]
theorem ring_rot {l : List Nat} {p : Nat} (hp : p ≤ l.length) (i : Nat) : ring (rot p l) i = ring l (i + p) := by
  rcases Nat.eq_zero_or_pos l.length with e | e
  · have : l = [] := List.length_eq_zero_iff.mp e
    subst this; simp [rot, ring]
  · have hm := Nat.mod_lt i e
    show (rot p l)[i % (rot p l).length]? = _
    rw [rot_len, rot_get hp hm]
    unfold ring; rw [Nat.mod_add_mod]
theorem rot_rot_iff {l : List Nat} {p j : Nat} (hp : p ≤ l.length) (hj : j ≤ l.length) : rot j (rot p l) = rot p l ↔ rot j l = l := by
  rw [rot_iff (by rw [rot_len]; exact hj), rot_iff hj]
  constructor
  · intro h i
    rcases Nat.eq_zero_or_pos l.length with e | e
    · have : l = [] := List.length_eq_zero_iff.mp e
      subst this; rfl
    · have h2 := h (i + (l.length - p))
      rw [ring_rot hp, ring_rot hp, show i + (l.length - p) + j + p = (i + j) + l.length by omega, show i + (l.length - p) + p = i + l.length by omega, ring_add, ring_add] at h2
      exact h2
  · intro h i
    rw [ring_rot hp, ring_rot hp, show i + j + p = (i + p) + j by omega]
    exact h _
/-- k is the least number of letters, at least 1, by which l is turned into itself -/
def IsPer (l : List Nat) (k : Nat) : Prop := 1 ≤ k ∧ k ≤ l.length ∧ rot k l = l ∧ ∀ j, 1 ≤ j → j < k → rot j l ≠ l
theorem IsPer.unique {l : List Nat} {j k : Nat} (h : IsPer l j) (h' : IsPer l k) : j = k := by
  rcases Nat.lt_trichotomy j k with z | z | z
  · exact absurd h.2.2.1 (h'.2.2.2 j h.1 z)
  · exact z
  · exact absurd h'.2.2.1 (h.2.2.2 k h'.1 z)
theorem least {p : Nat → Prop} : ∀ n, p n → ∃ k, k ≤ n ∧ p k ∧ ∀ j, j < k → ¬ p j := by
  intro n
  induction n using Nat.strongRecOn with
  | _ n ih =>
    intro h
    by_cases e : ∃ j, j < n ∧ p j
    · obtain ⟨j, h1, h2⟩ := e
      obtain ⟨k, h3, h4, h5⟩ := ih j h1 h2
      exact ⟨k, by omega, h4, h5⟩
    · exact ⟨n, Nat.le_refl _, h, fun j h1 h2 => e ⟨j, h1, h2⟩⟩
theorem per_exists {l : List Nat} (h : 0 < l.length) : ∃ k, IsPer l k := by
  obtain ⟨k, h1, ⟨h2, h3⟩, h4⟩ := least (p := fun k => 1 ≤ k ∧ rot k l = l) l.length ⟨h, rot_full⟩
  exact ⟨k, h2, h1, h3, fun j h5 h6 h7 => h4 j h6 ⟨h5, h7⟩⟩
theorem per_find {l : List Nat} {k : Nat} (h : IsPer l k) : Txt.find3 (S (l ++ l)) (S l) 1 = k := by
  refine find3_S (lo := 1) h.1 (by rw [List.length_append]; have := h.2.1; omega) ?_ ?_
  · rw [twice h.2.1]; exact h.2.2.1
  · intro j h1 h2
    rw [twice (by have := h.2.1; omega)]
    exact h.2.2.2 j h1 h2
theorem per_rot {l : List Nat} {p k : Nat} (hp : p ≤ l.length) (h : IsPer l k) : IsPer (rot p l) k := by
  refine ⟨h.1, by rw [rot_len]; exact h.2.1, (rot_rot_iff hp h.2.1).mpr h.2.2.1, fun j h1 h2 h3 => ?_⟩
  exact h.2.2.2 j h1 h2 ((rot_rot_iff hp (by have := h.2.1; omega)).mp h3)
theorem ring_mul {l : List Nat} {k : Nat} (h : ∀ i, ring l (i + k) = ring l i) : ∀ q i, ring l (i + k * q) = ring l i
  | 0, i => by rw [Nat.mul_zero, Nat.add_zero]
  | q + 1, i => by rw [Nat.mul_succ, ← Nat.add_assoc, h, ring_mul h q]
theorem per_dvd {l : List Nat} {k : Nat} (h : IsPer l k) : k ∣ l.length := by
  have hk := (rot_iff h.2.1).mp h.2.2.1
  apply Nat.dvd_of_mod_eq_zero
  rcases Nat.eq_zero_or_pos (l.length % k) with e | e
  · exact e
  · exfalso
    have hlt := Nat.mod_lt l.length h.1
    refine h.2.2.2 _ e hlt ((rot_iff (Nat.mod_le _ _)).mpr fun i => ?_)
    rw [← ring_mul hk (l.length / k), Nat.add_assoc, Nat.mod_add_div, ring_add]
/-- how many of the first m letters all around are c -/
def upto (l : List Nat) (c : Nat) : Nat → Nat
  | 0 => 0
  | m + 1 => upto l c m + if ring l m = some c then 1 else 0
theorem upto_take (l : List Nat) (c : Nat) : ∀ m, m ≤ l.length → upto l c m = (l.take m).count c
  | 0, _ => by simp [upto]
  | m + 1, h => by
    have hm : m < l.length := h
    rw [upto, upto_take l c m (by omega), List.take_add_one, List.count_append]
    unfold ring
    rw [Nat.mod_eq_of_lt hm, List.getElem?_eq_getElem hm]
    congr 1
    by_cases e : l[m] = c
    · simp [e]
    · simp [e]
theorem upto_add {l : List Nat} {c k : Nat} (h : ∀ i, ring l (i + k) = ring l i) : ∀ m, upto l c (m + k) = upto l c k + upto l c m
  | 0 => by rw [Nat.zero_add]; rfl
  | m + 1 => by
    rw [show m + 1 + k = (m + k) + 1 by omega, upto, upto_add h m, h, upto]; omega
theorem upto_mul {l : List Nat} {c k : Nat} (h : ∀ i, ring l (i + k) = ring l i) : ∀ q, upto l c (q * k) = q * upto l c k
  | 0 => by rw [Nat.zero_mul, Nat.zero_mul]; rfl
  | q + 1 => by rw [Nat.add_mul, Nat.one_mul, upto_add h, upto_mul h q, Nat.add_mul]; omega
theorem per_count {l : List Nat} {c k : Nat} (h : IsPer l k) : (l.length / k) ∣ l.count c := by
  have hk := (rot_iff h.2.1).mp h.2.2.1
  have e : upto l c l.length = l.count c := by rw [upto_take l c _ (Nat.le_refl _), List.take_length]
  obtain ⟨q, hq⟩ := per_dvd h
  rw [← e, hq, Nat.mul_div_cancel_left _ h.1, Nat.mul_comm k q, upto_mul hk]
  exact Nat.dvd_mul_right _ _
/-! ### levels -/
/-- the level behind all letters -/
def lev (a b : Nat) (l : List Nat) : Int := (b : Int) * (l.count 114 : Nat) - (a : Int) * (l.length - l.count 114 : Nat)
theorem lev_nil {a b : Nat} : lev a b [] = 0 := by simp [lev]
theorem cnt_le (l : List Nat) : l.count 114 ≤ l.length := List.count_le_length
theorem lev_append {a b : Nat} (u v : List Nat) : lev a b (u ++ v) = lev a b u + lev a b v := by
  have h1 := cnt_le u
  have h2 := cnt_le v
  unfold lev
  rw [List.count_append, List.length_append, Int.ofNat_sub (by omega), Int.ofNat_sub h1, Int.ofNat_sub h2]
  push_cast
  rw [Int.mul_add, Int.mul_sub, Int.mul_sub, Int.mul_sub, Int.mul_add, Int.mul_add]; omega
theorem lev_one {a b c : Nat} : lev a b [c] = if c = 114 then (b : Int) else -(a : Int) := by
  unfold lev
  by_cases h : c = 114
  · subst h; simp
  · simp [h]
theorem lev_snoc {a b c : Nat} {u : List Nat} : lev a b (u ++ [c]) = lev a b u + if c = 114 then (b : Int) else -(a : Int) := by rw [lev_append, lev_one]
theorem lev_take {a b c i : Nat} {l : List Nat} (h : l[i]? = some c) : lev a b (l.take (i + 1)) = lev a b (l.take i) + if c = 114 then (b : Int) else -(a : Int) := by
  rw [List.take_add_one, h]; exact lev_snoc
theorem lev_abs {a b : Nat} {l : List Nat} (ha : a ≤ 60) (hb : b ≤ 60) (hl : l.length ≤ 1000) : (lev a b l).natAbs ≤ 60000 := by
  have h1 := cnt_le l
  have h2 : b * l.count 114 ≤ 60 * 1000 := Nat.mul_le_mul hb (by omega)
  have h3 : a * (l.length - l.count 114) ≤ 60 * 1000 := Nat.mul_le_mul ha (by omega)
  unfold lev
  rw [← Int.natCast_mul, ← Int.natCast_mul]; omega
/-- the levels ahead of all letters -/
def lvs (a b : Nat) (l : List Nat) : List Int := (List.range l.length).map fun i => lev a b (l.take i)
theorem lvs_len {a b : Nat} {l : List Nat} : (lvs a b l).length = l.length := by unfold lvs; simp
theorem lvs_get {a b i : Nat} {l : List Nat} (h : i < l.length) : (lvs a b l)[i]? = some (lev a b (l.take i)) := by
  unfold lvs; rw [List.getElem?_map, List.getElem?_range h]; rfl
/-- a word of a rises and b steps -/
def Wd (a b : Nat) (l : List Nat) : Prop := l.count 114 = a ∧ l.count 115 = b ∧ l.length = a + b
theorem Wd.rot {a b k : Nat} {l : List Nat} (h : Wd a b l) : Wd a b (rot k l) := ⟨by rw [rot_count]; exact h.1, by rw [rot_count]; exact h.2.1, by rw [rot_len]; exact h.2.2⟩
theorem lev_word {a b : Nat} {l : List Nat} (h : Wd a b l) : lev a b l = 0 := by
  unfold lev
  rw [h.1, h.2.2, show a + b - a = b by omega, Int.mul_comm]; omega
/-- levels of the turned word -/
theorem lvs_rot {a b p : Nat} {l : List Nat} (h : Wd a b l) (hp : p < l.length) :
    lvs a b (rot p l) = ((lvs a b l).drop p ++ (lvs a b l).take p).map fun x => x - lev a b (l.take p) := by
  apply List.ext_getElem?
  intro i
  have split : lev a b l = lev a b (l.take p) + lev a b (l.drop p) := by rw [← lev_append, List.take_append_drop]
  rw [lev_word h] at split
  by_cases hi : i < l.length
  · rw [lvs_get (by rw [rot_len]; exact hi), List.getElem?_map]
    unfold rot
    by_cases h1 : i < l.length - p
    · rw [List.getElem?_append_left (by rw [List.length_drop, lvs_len]; exact h1), List.getElem?_drop, lvs_get (by omega), List.take_append_of_le_length (by rw [List.length_drop]; omega)]
      show some _ = some _
      congr 1
      rw [List.take_add, lev_append]
      show lev a b ((l.drop p).take i) = lev a b (l.take p) + lev a b ((l.drop p).take i) - lev a b (l.take p)
      omega
    · rw [List.getElem?_append_right (by rw [List.length_drop, lvs_len]; omega), List.length_drop, lvs_len, List.getElem?_take, if_pos (by omega), lvs_get (by omega), List.take_append, List.take_of_length_le (by rw [List.length_drop]; omega), List.length_drop, List.take_take, lev_append]
      show some _ = some _
      congr 1
      rw [Nat.min_eq_left (by omega)]
      show lev a b (l.drop p) + lev a b (l.take (i - (l.length - p))) = lev a b (l.take (i - (l.length - p))) - lev a b (l.take p)
      omega
  · rw [List.getElem?_eq_none (by rw [lvs_len, rot_len]; omega), List.getElem?_eq_none (by rw [List.length_map, List.length_append, List.length_drop, List.length_take, lvs_len]; omega)]
/-- the places with the level m -/
def places (m : Int) : List Int → List Nat := fun ns => (List.range ns.length).filter fun i => decide (ns.getD i 0 = m)
theorem places_step {m : Int} {ns : List Int} {i : Nat} : (List.range (i + 1)).filter (fun i => decide (ns.getD i 0 = m)) = (List.range i).filter (fun i => decide (ns.getD i 0 = m)) ++ if ns.getD i 0 = m then [i] else [] := by
  rw [List.range_succ, List.filter_append]
  congr 1
  rw [List.filter_cons]
  by_cases h : ns.getD i 0 = m
  · rw [if_pos (decide_eq_true h), if_pos h]; rfl
  · rw [if_neg (by rw [decide_eq_false h]; exact Bool.false_ne_true), if_neg h]; rfl
theorem min_unique {ns : List Int} {m k : Int} (h1 : m ∈ ns) (h2 : ∀ y, y ∈ ns → m ≤ y) (h3 : k ∈ ns) (h4 : ∀ y, y ∈ ns → k ≤ y) : m = k := by
  have := h2 k h3; have := h4 m h1; omega
end Mw
namespace Mw
open PySem PySem.Builtin PySem.Builtin.Str L2
open SX (S)
theorem lit_r : ("r" : Str) = ⟨#[114]⟩ := by decide +kernel
theorem lit_s : ("s" : Str) = ⟨#[115]⟩ := by decide +kernel
theorem is_r {c : Nat} : ((⟨#[c]⟩ : Str) = ("r" : Str)) ↔ c = 114 := by
  rw [lit_r]
  constructor
  · intro h
    have := congrArg (fun x : Str => x.cps.toList) h
    simpa using this
  · rintro rfl; rfl
theorem is_s {c : Nat} : ((⟨#[c]⟩ : Str) = ("s" : Str)) ↔ c = 115 := by
  rw [lit_s]
  constructor
  · intro h
    have := congrArg (fun x : Str => x.cps.toList) h
    simpa using this
  · rintro rfl; rfl
theorem cut_from {a : List Nat} {i : Int} (h : 0 ≤ i) : cutS (S a) (some i) none = S (a.drop i.toNat) := by rw [C8.cutS_slice, SX.slice_from h]
theorem cut_to {a : List Nat} {i : Int} (h : 0 ≤ i) : cutS (S a) none (some i) = S (a.take i.toNat) := by rw [C8.cutS_slice, SX.slice_to h]
theorem S_get {l : List Nat} {i : Nat} : (S l).cps[i]? = l[i]? := by simp [S]
theorem S_size {l : List Nat} : (S l).cps.size = l.length := by simp [S]
theorem S_eq {a b : List Nat} : (S a = S b) ↔ a = b := ⟨SX.S_inj, fun h => by rw [h]⟩
theorem ints_snoc {ns : List Int} {i : Nat} {x : Int} (h : ns[i]? = some x) : (ns.take (i + 1)).map V.int = (ns.take i).map V.int ++ [V.int x] := by
  rw [List.take_add_one, h, List.map_append]; rfl
theorem lvs_snoc {a b i : Nat} {l : List Nat} (h : i < l.length) : ((lvs a b l).take (i + 1)).map V.int = ((lvs a b l).take i).map V.int ++ [V.int (lev a b (l.take i))] := ints_snoc (lvs_get h)
theorem r_slS {z : Str} {lo hi : Option Int} {H : Hp} {Q : VK} (h : Q (.str (cutS z lo hi)) H) (hz : z.length ≤ sizeLine) : rSlS (.str z) lo hi H Q := ⟨z, rfl, hz, h⟩
theorem small_S {l : List Nat} (h : l.length ≤ 1000) : (S l).length ≤ sizeLine := by rw [SX.S_len, sizeLine_eq]; omega
theorem small2 {a b : List Nat} (h : a.length + b.length ≤ 2000) : (S a).length + (S b).length ≤ sizeLine := by rw [SX.S_len, SX.S_len, sizeLine_eq]; omega
end Mw
namespace Mw
open PySem PySem.Builtin PySem.Builtin.Str L2 Sx Sy
open SX (S)
theorem times_S (c n : Nat) : times (S [c]) n = S (List.replicate n c) := by
  have h : ∀ (n : Nat) (z : List Nat), (List.replicate n (#[c] : Array Nat)).foldl (· ++ ·) z.toArray = (z ++ List.replicate n c).toArray := by
    intro n
    induction n with
    | zero => intro z; simp
    | succ n ih =>
      intro z
      rw [List.replicate_succ, List.foldl_cons, show z.toArray ++ #[c] = (z ++ [c]).toArray by simp, ih, List.append_assoc, List.replicate_succ]; rfl
  have := h n []
  unfold times
  exact congrArg Str.mk this
theorem join_ones : ∀ l : List Nat, TL.joinL [] (l.map fun c => [c]) = l
  | [] => rfl
  | [c] => rfl
  | c :: d :: l => by
    show [c] ++ ([] ++ TL.joinL [] ((d :: l).map fun c => [c])) = _
    rw [join_ones (d :: l)]; rfl
theorem join_letters (l : List Nat) : Txt.join ("" : Str) (l.map fun c => (⟨#[c]⟩ : Str)) = S l := by
  have h := SX.join_S [] (l.map fun c => [c])
  rw [join_ones, List.map_map] at h
  exact h
theorem lens_ones (l : List Nat) : ((l.map fun c => (⟨#[c]⟩ : Str)).map (·.length)).sum = l.length := by
  rw [List.map_map]
  induction l with
  | nil => rfl
  | cons c l ih => rw [List.map_cons, List.sum_cons, ih, List.length_cons]; show 1 + _ = _; omega
theorem len_r : ("r" : Str).length = 1 := by decide +kernel
theorem len_s : ("s" : Str).length = 1 := by decide +kernel
theorem len_0 : ("" : Str).length = 0 := by decide +kernel
theorem wd_perm {a b : Nat} {l : List Nat} (h : l.Perm (List.replicate a 114 ++ List.replicate b 115)) : Wd a b l := by
  refine ⟨?_, ?_, ?_⟩
  · rw [h.count_eq]; simp [List.count_replicate]
  · rw [h.count_eq]; simp [List.count_replicate]
  · rw [h.length_eq]; simp
theorem r_pop {l : Addr} {xs : List V} {i : Int} {y : V} {H : Hp} {Q : VK} (hH : H l = some (.lst xs)) (h0 : 0 ≤ i) (h1 : i < xs.length) (h2 : xs.length ≤ 1000000) (hy : xs[i.toNat]? = some y) (h : Q y (upd H l (.lst (xs.eraseIdx i.toNat)))) : rPopAt (.ref l) [.int i] H Q := by
  refine ⟨l, xs, i, i.toNat, y, rfl, rfl, hH, by omega, by omega, ?_, hy, h⟩
  have e : (if i < 0 then i + (xs.length : Int) else i) = i := if_neg (by omega)
  unfold seqIndex?
  simp only [e]
  rw [if_pos (by rw [Bool.and_eq_true, decide_eq_true_iff, decide_eq_true_iff]; exact ⟨h0, h1⟩)]
theorem erase_map {α β : Type} (f : α → β) : ∀ (u : List α) (k : Nat), (u.map f).eraseIdx k = (u.eraseIdx k).map f
  | [], _ => rfl
  | x :: u, 0 => rfl
  | x :: u, k + 1 => by
    show f x :: (u.map f).eraseIdx k = f x :: (u.eraseIdx k).map f
    rw [erase_map f u k]
theorem pick_perm {α : Type} : ∀ (u : List α) (k : Nat) (hk : k < u.length), ([u[k]] ++ u.eraseIdx k).Perm u
  | x :: u, 0, _ => List.Perm.refl _
  | x :: u, k + 1, h => by
    have hk : k < u.length := Nat.lt_of_succ_lt_succ h
    have ih := pick_perm u k hk
    show (u[k] :: x :: u.eraseIdx k).Perm (x :: u)
    exact (List.Perm.swap x u[k] (u.eraseIdx k)).trans (List.Perm.cons x ih)
theorem perm_pick {α : Type} {v u cs : List α} {k : Nat} (hk : k < u.length) (h : (v ++ u).Perm cs) : ((v ++ [u[k]]) ++ u.eraseIdx k).Perm cs := by
  refine List.Perm.trans ?_ h
  rw [List.append_assoc]
  exact List.Perm.append_left v (pick_perm u k hk)
/-- the numbers up to i by which l is turned into itself -/
def cand (l : List Nat) (i : Nat) : List Int := ((List.range i).filter fun j => decide (rot (j + 1) l = l)).map fun j : Nat => (1 : Int) + j
theorem cand_yes {l : List Nat} {i : Nat} (h : rot (i + 1) l = l) : (cand l (i + 1)).map V.int = (cand l i).map V.int ++ [V.int ((1 : Int) + i)] := by
  unfold cand
  rw [List.range_succ, List.filter_append, List.filter_cons, if_pos (decide_eq_true h), List.map_append, List.map_append]; rfl
theorem cand_no {l : List Nat} {i : Nat} (h : ¬ rot (i + 1) l = l) : (cand l (i + 1)).map V.int = (cand l i).map V.int := by
  unfold cand
  rw [List.range_succ, List.filter_append, List.filter_cons, if_neg (by rw [decide_eq_false h]; exact Bool.false_ne_true), List.filter_nil, List.append_nil]
theorem cand_len {l : List Nat} {i : Nat} : (cand l i).length ≤ i := by
  unfold cand
  rw [List.length_map]
  exact Nat.le_trans (List.length_filter_le _ _) (by rw [List.length_range]; exact Nat.le_refl _)
theorem cand_mem {l : List Nat} {k : Int} : k ∈ cand l l.length ↔ ∃ j : Nat, k = j ∧ 1 ≤ j ∧ j ≤ l.length ∧ rot j l = l := by
  unfold cand
  rw [List.mem_map]
  constructor
  · rintro ⟨j, h, rfl⟩
    rw [List.mem_filter, List.mem_range, decide_eq_true_iff] at h
    exact ⟨j + 1, by omega, by omega, h.1, h.2⟩
  · rintro ⟨j, rfl, h1, h2, h3⟩
    refine ⟨j - 1, ?_, by omega⟩
    rw [List.mem_filter, List.mem_range, decide_eq_true_iff, show j - 1 + 1 = j by omega]
    exact ⟨by omega, h3⟩
theorem cand_pos {l : List Nat} (h : 0 < l.length) : 0 < (cand l l.length).length := by
  have : (l.length : Int) ∈ cand l l.length := cand_mem.mpr ⟨l.length, rfl, h, Nat.le_refl _, rot_full⟩
  exact List.length_pos_of_mem this
theorem cand_per {l : List Nat} {m : Int} (h1 : m ∈ cand l l.length) (h2 : ∀ y, y ∈ cand l l.length → m ≤ y) : ∃ k : Nat, m = k ∧ IsPer l k := by
  obtain ⟨k, rfl, h3, h4, h5⟩ := cand_mem.mp h1
  refine ⟨k, rfl, h3, h4, h5, fun j j1 j2 j3 => ?_⟩
  have := h2 j (cand_mem.mpr ⟨j, rfl, j1, by omega, j3⟩)
  omega
end Mw

/-! Dl: dicts from letters to integers. -/
namespace Dl
open PySem PySem.Spec PyProof.Rows L2 Sx Sy Sw Dk
open SX (S)
def ch (c : Nat) : Str := ⟨#[c]⟩
theorem ch_inj {a b : Nat} (h : ch a = ch b) : a = b := by
  have h1 : (#[a] : Array Nat) = #[b] := congrArg Str.cps h
  simpa using h1
def wKv (ks : List Nat) (wt : Nat → Int) : List (Key × V) := ks.map fun c => (.inr (ch c), .int (wt c))
theorem wKv_len (ks : List Nat) (wt : Nat → Int) : (wKv ks wt).length = ks.length := List.length_map _
theorem key_inj {a b : Nat} (h : (Sum.inr (ch a) : Key) = .inr (ch b)) : a = b := ch_inj (Sum.inr.inj h)
theorem wKv_get (wt : Nat → Int) (c : Nat) : ∀ ks : List Nat, valV (wKv ks wt) (.inr (ch c)) = if c ∈ ks then some (.int (wt c)) else none
  | [] => by simp [wKv, valV_nil]
  | k :: ks => by
    show valV ((.inr (ch k), V.int (wt k)) :: wKv ks wt) _ = _
    by_cases e : k = c
    · subst e; rw [valV_pos rfl]; simp
    · rw [valV_neg (fun z => e (key_inj z)), wKv_get wt c ks]
      have e' : ¬ c = k := fun z => e z.symm
      simp [e']
theorem wKv_in {ks : List Nat} {wt : Nat → Int} {c : Nat} (h : c ∈ ks) : valV (wKv ks wt) (.inr (ch c)) = some (.int (wt c)) := by rw [wKv_get, if_pos h]
theorem wKv_no {ks : List Nat} {wt : Nat → Int} {c : Nat} (h : c ∉ ks) : valV (wKv ks wt) (.inr (ch c)) = none := by rw [wKv_get, if_neg h]
theorem wKv_str {wt : Nat → Int} {z : Str} : ∀ {ks : List Nat}, (∀ c, c ∈ ks → z ≠ ch c) → valV (wKv ks wt) (.inr z) = none
  | [], _ => valV_nil
  | k :: ks, h => by
    show valV ((.inr (ch k), V.int (wt k)) :: wKv ks wt) _ = _
    rw [valV_neg (fun e => h k List.mem_cons_self (Sum.inr.inj e).symm), wKv_str fun c m => h c (List.mem_cons_of_mem _ m)]
theorem wKv_int {wt : Nat → Int} {k : Key} {v : V} : ∀ {ks : List Nat}, valV (wKv ks wt) k = some v → ∃ i : Int, v = .int i
  | [], h => by rw [show wKv [] wt = [] from rfl, valV_nil] at h; cases h
  | c :: ks, h => by
    rw [show wKv (c :: ks) wt = (.inr (ch c), V.int (wt c)) :: wKv ks wt from rfl] at h
    by_cases e : (Sum.inr (ch c) : Key) = k
    · rw [valV_pos e] at h; exact ⟨_, (Option.some.inj h).symm⟩
    · rw [valV_neg e] at h; exact wKv_int h
theorem wKv_all (ks : List Nat) (wt : Nat → Int) : allInt (wKv ks wt) := by
  intro p m
  obtain ⟨c, _, rfl⟩ := List.mem_map.mp m
  exact ⟨_, rfl⟩
def setW (wt : Nat → Int) (c : Nat) (x : Int) : Nat → Int := fun d => if d = c then x else wt d
theorem wKv_same {ks : List Nat} {wt vt : Nat → Int} (h : ∀ c, c ∈ ks → wt c = vt c) : wKv ks wt = wKv ks vt :=
  List.map_congr_left fun c m => by rw [h c m]
theorem wKv_put {ks : List Nat} {wt : Nat → Int} {c : Nat} (h : c ∈ ks) (x : Int) : putK (wKv ks wt) (.inr (ch c)) (.int x) = wKv ks (setW wt c x) := by
  have i : ((wKv ks wt).any fun kv => decide (kv.1 = Sum.inr (ch c))) = true := by
    rw [valV_any, wKv_in h]; rfl
  unfold putK
  rw [if_pos i]
  unfold wKv
  rw [List.map_map]
  refine List.map_congr_left fun d m => ?_
  show (if (Sum.inr (ch d) : Key) = .inr (ch c) then _ else _) = _
  by_cases e : d = c
  · subst e; rw [if_pos rfl]; simp [setW]
  · rw [if_neg fun z => e (key_inj z)]; simp [setW, e]
theorem wKv_new {ks : List Nat} {wt : Nat → Int} {c : Nat} (h : c ∉ ks) (x : Int) : putK (wKv ks wt) (.inr (ch c)) (.int x) = wKv (ks ++ [c]) (setW wt c x) := by
  rw [putK_new _ (wKv_no h)]
  unfold wKv
  rw [List.map_append]
  congr 1
  · refine List.map_congr_left fun d m => ?_
    have e : d ≠ c := fun z => h (z ▸ m)
    simp [setW, e]
  · simp [setW]
theorem wKv_drop (ks : List Nat) (wt : Nat → Int) (c : Nat) : dropK (wKv ks wt) (.inr (ch c)) = wKv (ks.filter fun d => decide (d ≠ c)) wt := by
  unfold dropK wKv
  rw [List.filter_map]
  congr 1
  refine List.filter_congr fun d _ => ?_
  show decide ((Sum.inr (ch d) : Key) ≠ .inr (ch c)) = decide (d ≠ c)
  by_cases e : d = c
  · subst e; simp
  · have : (Sum.inr (ch d) : Key) ≠ .inr (ch c) := fun z => e (key_inj z)
    simp [e, this]
def sameB (ks ls : List Nat) (wt vt : Nat → Int) : Bool := decide (ks.length = ls.length) && ks.all fun c => decide (c ∈ ls) && decide (wt c = vt c)
theorem eq_wKv (ks ls : List Nat) (wt vt : Nat → Int) : (decide ((wKv ks wt).length = (wKv ls vt).length) && eqKv (wKv ks wt) (wKv ls vt)) = sameB ks ls wt vt := by
  unfold sameB eqKv
  rw [wKv_len, wKv_len]
  congr 1
  rw [show wKv ks wt = ks.map fun c => ((.inr (ch c) : Key), V.int (wt c)) from rfl, List.all_map]
  congr 1
  funext c
  show decide (valV (wKv ls vt) (.inr (ch c)) = some (V.int (wt c))) = _
  rw [wKv_get]
  by_cases h : c ∈ ls
  · rw [if_pos h]
    by_cases e : wt c = vt c
    · simp [h, e]
    · have e' : ¬ vt c = wt c := fun z => e z.symm
      simp [h, e, e']
  · rw [if_neg h]; simp [h]
theorem same_refl (ks : List Nat) (wt : Nat → Int) : sameB ks ks wt wt = true := by simp [sameB]
/-! ### letters in order -/
def LET : List Nat := [97, 98, 99, 100, 101]
def Cn (ks : List Nat) : List Nat := LET.filter fun c => decide (c ∈ ks)
theorem cn_mem {ks : List Nat} (h : ∀ c, c ∈ ks → c ∈ LET) {c : Nat} : c ∈ Cn ks ↔ c ∈ ks := by
  unfold Cn
  rw [List.mem_filter]
  simp only [decide_eq_true_eq]
  exact ⟨fun z => z.2, fun z => ⟨h c z, z⟩⟩
theorem cn_congr {ks ls : List Nat} (h : ∀ c, c ∈ ks ↔ c ∈ ls) : Cn ks = Cn ls := by
  unfold Cn
  refine List.filter_congr fun c _ => ?_
  by_cases e : c ∈ ls
  · simp [e, (h c).mpr e]
  · simp [e, mt (h c).mp e]
theorem cn_asc (ks : List Nat) : (Cn ks).Pairwise (· < ·) := List.Pairwise.filter _ (by decide)
theorem cn_len (ks : List Nat) : (Cn ks).length ≤ 5 := List.length_filter_le _ LET
theorem asc_eq : ∀ {u v : List Nat}, u.Pairwise (· < ·) → v.Pairwise (· < ·) → (∀ c, c ∈ u ↔ c ∈ v) → u = v
  | [], [], _, _, _ => rfl
  | [], y :: v, _, _, h => absurd ((h y).mpr List.mem_cons_self) List.not_mem_nil
  | x :: u, [], _, _, h => absurd ((h x).mp List.mem_cons_self) List.not_mem_nil
  | x :: u, y :: v, hu, hv, h => by
    have hx := List.pairwise_cons.mp hu
    have hy := List.pairwise_cons.mp hv
    have e : x = y := by
      rcases List.mem_cons.mp ((h x).mp List.mem_cons_self) with e | m
      · exact e
      · rcases List.mem_cons.mp ((h y).mpr List.mem_cons_self) with e | n
        · exact e.symm
        · have := hy.1 x m; have := hx.1 y n; omega
    subst e
    have := asc_eq hx.2 hy.2 fun c => ⟨fun m => by
      rcases List.mem_cons.mp ((h c).mp (List.mem_cons_of_mem _ m)) with e | n
      · have := hx.1 c m; omega
      · exact n, fun m => by
      rcases List.mem_cons.mp ((h c).mpr (List.mem_cons_of_mem _ m)) with e | n
      · have := hy.1 c m; omega
      · exact n⟩
    rw [this]
theorem asc_nodup : ∀ {u : List Nat}, u.Pairwise (· < ·) → u.Nodup := fun h => h.imp fun {a b} z => by omega
theorem cn_of_asc {u : List Nat} (h : u.Pairwise (· < ·)) (hl : ∀ c, c ∈ u → c ∈ LET) : Cn u = u := asc_eq (cn_asc u) h fun c => cn_mem hl
/-! ### sorted letters -/
theorem lt_ch (a b : Nat) : ltCps (ch a).cps.toList (ch b).cps.toList = decide (a < b) := by
  show ltCps [a] [b] = _
  unfold ltCps
  by_cases h : a < b
  · simp [h]
  · by_cases e : a = b
    · subst e; simp [ltCps]
    · have : b < a := by omega
      simp [h, this]
      intro z; exact absurd z e
theorem rising_ch : ∀ (p : Nat) (zs : List Nat), risingS (ch p) (zs.map ch) = true → (p :: zs).Pairwise (· ≤ ·)
  | p, [], _ => List.pairwise_singleton _ _
  | p, z :: zs, h => by
    rw [List.map_cons, risingS, lt_ch] at h
    simp only [Bool.and_eq_true, Bool.not_eq_true', decide_eq_false_iff_not] at h
    have r := rising_ch z zs h.2
    refine List.pairwise_cons.mpr ⟨fun x m => ?_, r⟩
    rcases List.mem_cons.mp m with e | m
    · omega
    · have := (List.pairwise_cons.mp r).1 x m; omega
theorem sorted_ch {ys : List Str} {ks : List Nat} (pm : ys.Perm (ks.map ch)) (hs : sortedS ys = true) (nd : ks.Nodup) : ∃ zs : List Nat, ys = zs.map ch ∧ zs.Perm ks ∧ zs.Pairwise (· < ·) := by
  obtain ⟨zs, e⟩ : ∃ zs : List Nat, ys = zs.map ch := by
    have : ∀ y, y ∈ ys → ∃ c, y = ch c := fun y m => by
      obtain ⟨c, _, e⟩ := List.mem_map.mp (pm.mem_iff.mp m); exact ⟨c, e.symm⟩
    clear pm hs
    induction ys with
    | nil => exact ⟨[], rfl⟩
    | cons y ys ih =>
      obtain ⟨c, rfl⟩ := this y List.mem_cons_self
      obtain ⟨zs, rfl⟩ := ih fun y m => this y (List.mem_cons_of_mem _ m)
      exact ⟨c :: zs, rfl⟩
  subst e
  have pz : zs.Perm ks := by
    have := pm.map fun (s : Str) => s.cps[0]?.getD 0
    rw [List.map_map, List.map_map] at this
    have f : ((fun s : Str => s.cps[0]?.getD 0) ∘ ch) = id := by funext c; rfl
    rw [f, List.map_id, List.map_id] at this
    exact this
  refine ⟨zs, rfl, pz, ?_⟩
  have nz : zs.Nodup := pz.nodup_iff.mpr nd
  have le : zs.Pairwise (· ≤ ·) := by
    cases zs with
    | nil => exact .nil
    | cons z zs => exact rising_ch z zs hs
  exact (le.and nz).imp fun {a b} z => by have := z.1; have := z.2; omega
end Dl

/-! Ss: the letters of a text, sorted. -/
namespace Ss
open PySem PySem.Spec PyProof.Rows L2 Sx Sy
def one (x : Str) : List Str := x.cps.toList.map fun c => ⟨#[c]⟩
theorem one_len (x : Str) : (one x).length = x.cps.size := by unfold one; rw [List.length_map, Array.length_toList]
theorem one_vals {x : Str} : letters x = (one x).map V.str := by unfold letters one; rw [List.map_map]; rfl
section
variable {X : Cx}
/-- the letters of a text with fewer than 64 of them, in a sorted list -/
def rSortText : List V → Hp → VK → Prop := fun xs H Q => ∃ x : Str, xs = [.str x] ∧ x.cps.size < 64 ∧
  ∀ ys p, ys.Perm (one x) → sortedS ys = true → H p = none → Q (.ref p) (upd H p (.lst (ys.map V.str)))
theorem cr_sortText (hc : X.calm = true) : CallR X (.builtin "sorted") rSortText := by
  intro pins s σ H xs us Q I r h
  obtain ⟨x, rfl, small, q⟩ := h
  obtain ⟨u, rfl, t, rfl⟩ := vals1 r
  refine Calls.call_function_entry PyProof.Rows.kind_sorted PyProof.Rows.plain_sorted PyProof.Rows.entry_sorted
    (PyProof.Rows.args_sorted1 _) ?_
  unfold Builtin.«sorted»
  refine wpAny_bind (wpAny_pure ?_)
  have big : x.cps.size ≤ sizeLine := by rw [sizeLine_eq]; omega
  have calm : X.A.in1.handled = none := I.ok.hd hc
  refine wpAny_bind (PySem.wpAny_collect_str (A := X.A.in1) (hn := big) calm x t fun s1 got keep g1 g2 g3 its => ?_)
  have same : s1 = { s with heap := s1.heap, toks := s1.toks } := by
    cases s1; cases s; simp_all
  have I1 : Inv X pins σ H s1 := by rw [same]; exact I.kept keep
  have vs := letters_vals its
  rw [one_vals] at vs
  have hS := vs.strs
  have ln : got.toList.length = x.cps.size := by rw [← vs.length, List.length_map, one_len]
  refine wpAny_bind (wpAny_newList ?_ (by rw [ln, sizeLine_eq]; omega))
  have made : (s1.heap.push (seqObj "list" got.toList.toArray 0)).get? s1.heap.objs.size = some (seqObj "list" got.toList.toArray 0) := Heap.get?_push_size _ rfl
  refine wpAny_bind (wpAny_holding (wpAny_call_entry PyProof.Rows.slot_list_sort ⟨_, made, rfl⟩
    PyProof.Rows.entry_list_sort (list_sort_treeK strKind_oneLt (s := { s1 with heap := s1.heap.push (seqObj "list" got.toList.toArray 0) }) made hS.keysOf
      (fun a b rest e => keyKind_strs (by rw [← e]; exact hS)) (by rw [ln]; exact small) fun st hp hs => ⟨_, rfl, ?_⟩) (PyProof.Rows.args_list_sort _)))
  obtain ⟨ys, z1, z2, z3⟩ := sorted_out_str hS hp hs
  obtain ⟨room, at1⟩ := PyProof.Rows.sortedHeap_at (vs := got.toList) (out := (arrOf st).map (·.2)) made
  have fits : (ys.map V.str).length ≤ sizeLine := by
    rw [List.length_map, z2.length_eq, one_len, sizeLine_eq]; omega
  refine wpAny_pure ⟨_, rfl, .ref s1.heap.objs.size, upd H s1.heap.objs.size (.lst (ys.map V.str)), ?_, rfl, q ys _ z2 z3 (I1.hok.fresh (Nat.le_refl _))⟩
  refine I1.laid (t' := s1.toks) (fun b o e => ?_) (Nat.le_refl _) ⟨fits, ((arrOf st).map (·.2)).toList, room, vals_of_strs z1, by rw [Array.toArray_toList]; exact at1⟩
  have lt : b < s1.heap.objs.size := Heap.lt_size e
  exact (PyProof.Rows.sortedHeap_old (Nat.ne_of_lt lt) (by rw [size_push']; exact Nat.lt_succ_of_lt lt)).trans (Heap.get?_push_of_some _ e)
theorem r_sortText {x : Str} {H : Hp} {Q : VK} (small : x.cps.size < 64) (h : ∀ ys p, ys.Perm (one x) → sortedS ys = true → H p = none → Q (.ref p) (upd H p (.lst (ys.map V.str)))) : rSortText [.str x] H Q := ⟨x, rfl, small, h⟩
end
end Ss

/-! Ox: an own comparison with a value of any kind. -/
namespace Ox
open PySem PySem.Spec PyProof.Rows L2 Sx Sw
section
variable {X : Cx} {n : Nat} {sp : Sp} {C g : Addr} {fd : FuncData} {ps : List Str}
def qOwnX (K : PySem.W.Frag) (C : Addr) (sp : Sp) : R2 := fun x y H Q => ∃ a dx fs t, x = .ref a ∧ H a = some (.ins C dx fs) ∧ TyX K H y t ∧ PySem.W.notFirst K C t = true ∧ sp [x, y] H Q C8.E0
theorem op_ownX {op : CmpOp} (hop : ∀ a b, compareOp op a b = richCompare op a b) (o : OwnOp X.K C (cmpInfo op).2.1 g) (F : FnOk X.prog X.w X.K X.mg X.base C8.CX0 n g fd ps sp) (hr : Room n X.A) (bd : Binds X.K fd ps []) : OpR X (compareOp op) (qOwnX X.K C sp) := by
  intro pins s σ H x y v u Q I rx ry h
  obtain ⟨a, dx, fs, t, rfl, ha, ty, nf, q⟩ := h
  obtain rfl : v = .ref a := rx
  obtain ⟨mA, J, _⟩ := ins_get I.hok ha
  obtain ⟨od, J, _⟩ := J.look
  obtain ⟨m, fr⟩ := I.fr
  obtain ⟨P, kx, hp, _⟩ := kit_of I ry ty
  rw [hop]
  refine PySem.W.cmp_K (op := op) (tb := t) hr.units0 fr I.ok.mod.kin J (kx.ty _ _ I.kIn hp) nf o.at' o.fn ?_
  have len := F.len _ _ _ _ q
  have both : Vals [V.ref a, y] [Value.ref a, u] := .cons rfl (.cons ry .nil)
  have bind := bd s [.ref a, u] I.kIn (by simpa using len)
  refine wpAny_call (codeAny_mono (F.run X.A X.stack s H ⟨[.ref a, u], []⟩ [.ref a, u] [.ref a, y] Q C8.E0 hr I.env0 (by simpa using bind) both q) ?_)
  intro r s2 hq
  cases r with
  | error e => exact False.elim hq
  | ok fl =>
    cases fl with
    | ret z =>
      obtain ⟨v, H2, I2, rz, qz⟩ := I.after hq
      exact SlX.cmpback rz ⟨v, H2, I2, rz, qz⟩
    | next => exact hq.elim
    | brk => exact hq.elim
    | cont => exact hq.elim
theorem nf_same {K : PySem.W.Frag} {C : Addr} : PySem.W.notFirst K C (.ref C) = true := by simp [PySem.W.notFirst]
end
end Ox

/-! So: sorted of two own objects; of two of data. -/
namespace So
open PySem PySem.Spec L2 Sx Sw
open PyProof.Rows hiding St
open PySem.W (sortingHeap sorting_copy_old KasT kas_sort kas_cmp kas_runs kas_kind kas_st kas_item kas_item_eq kas_range kas_lt_inst copyHeap copyHeap_at copyHeap_old sorted_of_sort)
theorem sort_two : kas_sort 2 = .ask 1 0 fun c => .ret (if c = true then #[1, 0] else #[0, 1]) := by
  show KasT.ask 1 0 _ = KasT.ask 1 0 _
  refine congrArg (KasT.ask 1 0) (funext fun c => ?_)
  cases c
  · rfl
  · rfl
section
variable {X : Cx} {pins : List (Addr × Obj)} {σ : St} {H : Hp} {s : Shared} {h' : Heap}
/-- an untracked list of ours is changed, and tracked from here on -/
theorem adopt {D : Addr} {o : HO} {t' : Nat} (I : Inv X pins σ H s) (hn : H D = none) (h1 : X.s_0.heap.objs.size ≤ D) (hL : D ≠ X.env.locals) (hc : ∀ x c, X.env.cells.lookup x = some c → c ≠ D) (hp : ∀ p ∈ X.pn ++ pins, p.1 ≠ D)
    (k : ∀ b o, b ≠ D → s.heap.get? b = some o → h'.get? b = some o) (there : ∃ o', h'.get? D = some o') (new : ObjOk X.prog X.w (upd H D o) h' D o) : Inv X pins σ (upd H D o) { s with heap := h', toks := t' } := by
  have nD : ∀ b, b ∉ [D] → b ≠ D := fun b z e => z (by simp [e])
  have nH : ∀ b u, H b = some u → b ≠ D := fun b u e => ne_of_none e hn
  refine I.step (g' := s.gens) (d' := s.drawn) (ch := [D]) (fun b hb => ?_) (fun b o _ _ h e _ => k b o (nD b h) e) (fun b o _ _ h e _ => ⟨o.slots, k b o (nD b h) e⟩) (fun b o h _ n => by rw [upd_ne (nD b h)]; exact n)
    (fun b o h e => ⟨o, k b o (nD b h) e⟩) (fun b xs e => by rw [upd_ne (nH b _ e)]; exact e) (fun b ob u e => by rw [upd_ne (nH b _ e)]; exact e) (fun b ps e => ⟨#[], by rw [upd_ne (nH b _ e), e]; simp⟩) (fun m hm => ?_) (fun b u e => ?_) I.bare
  · have e : b = D := by simpa using hb
    subst e
    exact ⟨.inr h1, hL, hc, hp⟩
  · obtain ⟨o, es, ep, ho, r⟩ := hm
    exact ⟨o, es, ep, k _ o (Ne.symm hL) ho, r⟩
  · by_cases hb : b = D
    · subst hb; rw [upd_same] at e; cases e; exact new
    · rw [upd_ne hb] at e
      refine (I.hok b u e).stay (fun c v hc' q => k c v ?_ q) (fun c q => by rw [upd_ne (nH c _ q)]; exact q) fun c xs q => by rw [upd_ne (nH c _ q)]; exact q
      rcases hc' with z | z
      · rw [z]; exact hb
      · exact nH c _ z
end
section
variable {X : Cx} {n : Nat} {sp : Sp} {C g : Addr} {fd : FuncData} {ps : List Str}
/-- sorted of a list of two own objects, by their __lt__ -/
def qSort2 (K : PySem.W.Frag) (C : Addr) (sp : Sp) : List V → Hp → VK → Prop := fun vs H Q => ∃ l a dx fs b dy gs, vs = [V.ref l] ∧ SqL K H l [.ref a, .ref b] ∧ H a = some (.ins C dx fs) ∧ H b = some (.ins C dy gs) ∧
  sp [.ref b, .ref a] H (fun z H1 => ∃ k, z = .bl k ∧ ∀ p, H1 p = none → Q (.ref p) (upd H1 p (.lst (if k = true then [.ref b, .ref a] else [.ref a, .ref b])))) C8.E0
theorem c_sort2 (o : OwnOp X.K C "__lt__" g) (F : FnOk X.prog X.w X.K X.mg X.base C8.CX0 n g fd ps sp) (hr : Room (n + 3) X.A) (bd : Binds X.K fd ps []) : CallR X (.builtin "sorted") (qSort2 X.K C sp) := by
  intro pins s σ H vs us Q I r h
  obtain ⟨l, a, dx, fs, b, dy, gs, rfl, hs, ha, hb, q⟩ := h
  obtain ⟨its, rv, hl, hz⟩ := I.list hs
  obtain ⟨u, rfl, ru⟩ := vals1 r
  obtain rfl : u = Value.ref l := ru
  obtain ⟨u1, u2, rfl, r1, r2⟩ := vals2 rv
  obtain rfl : u1 = .ref a := r1
  obtain rfl : u2 = .ref b := r2
  have hrr : Room n X.A.in1.in1 := by exact (hr.in1).in1.mono (by omega)
  have hvs : (2 : Nat) ≤ sizeLine := by rw [sizeLine_eq]; decide
  refine sorted_of_sort hl.isList hvs (args_sorted1 _) (fun _ => args_list_sort _) fun E' => ?_
  have hlD : s.heap.objs.size ≤ s.heap.objs.size + 1 := Nat.le_succ _
  have ho := copyHeap_at s.heap [Value.ref a, .ref b]
  have hkeep : ∀ b' u', s.heap.get? b' = some u' → b' ≠ s.heap.objs.size + 1 ∧ (sortingHeap (copyHeap s.heap [Value.ref a, .ref b]) (s.heap.objs.size + 1) [Value.ref a, .ref b]).get? b' = some u' :=
    fun b' u' e => ⟨Nat.ne_of_lt (Nat.lt_succ_of_lt (Heap.lt_size e)), sorting_copy_old e⟩
  generalize hDe : s.heap.objs.size + 1 = D at *
  generalize hce : copyHeap s.heap [Value.ref a, .ref b] = hc at *
  have haD : D < hc.objs.size := Heap.lt_size ho
  rw [list_sort_plain]
  refine wpAny_bind (listItems_at ho rfl ?_)
  refine wpAny_bind (listUpdate_at ho rfl ?_ (by rw [List.size_toArray]; exact hvs) (Nat.zero_le _))
  obtain ⟨e1, ho1⟩ : ∃ e1, (hc.update D (Obj.mapSeq fun _ => (#[] : Array Value))).get? D = some (seqObj "list" #[] e1) := ⟨_, get?_update_seq ho fun _ => #[]⟩
  refine wpAny_bind (seqEpoch_at ho1 rfl ?_)
  refine wpAny_bind (wpAny_newTuple ?_ (by exact hvs))
  refine wpAny_bind (wpAny_newList ?_ (Nat.zero_le _))
  refine wpAny_holding ?_
  show wpAny (model X.prog X.w) X.A.in1.in1 _ _ E' { s with heap := sortingHeap hc D [Value.ref a, .ref b] }
  have ho2 : (sortingHeap hc D [Value.ref a, .ref b]).get? D = some (seqObj "list" #[] e1) := Heap.get?_push_of_some _ (Heap.get?_push_of_some _ ho1)
  have I2 : Inv X pins σ H { s with heap := sortingHeap hc D [Value.ref a, .ref b] } := I.kept fun b' u' e => (hkeep b' u' e).2
  have hnD : H D = none := I.hok.fresh hlD
  have hLD : D ≠ X.env.locals := Nat.ne_of_gt (Nat.lt_of_lt_of_le I.lt hlD)
  have I3 : Inv X ((D, seqObj "list" #[] e1) :: pins) σ H { s with heap := sortingHeap hc D [Value.ref a, .ref b] } := by
    refine I2.pins_of fun p hp => ?_
    rcases List.mem_cons.mp hp with rfl | hp
    · exact ⟨ho2, hnD, hLD, I.nofs hlD, fun v e => nomatch e⟩
    · exact I2.pin p (List.mem_append_right _ hp)
  have hpD : ∀ p ∈ X.pn ++ pins, p.1 ≠ D := fun p hp e => by
    have := (hkeep _ _ (I.pin p hp).1).1
    exact this e
  have hcD : ∀ x c, X.env.cells.lookup x = some c → c ≠ D := fun x c e => by
    obtain ⟨v, o, ho', _⟩ := I.cell x c e
    exact (hkeep _ _ ho').1
  have hsD : X.s_0.heap.objs.size ≤ D := Nat.le_trans I.sz hlD
  obtain ⟨mA, J, _⟩ := ins_get I2.hok ha
  obtain ⟨mB, J2, _⟩ := ins_get I2.hok hb
  obtain ⟨od, J, _⟩ := J.look
  obtain ⟨od2, J2, _⟩ := J2.look
  obtain ⟨m, fr⟩ := I2.fr
  have ask : (kas_sort [Value.ref a, Value.ref b].length).kasWp (kas_cmp X.prog X.w X.A.in1.in1 oneType' (pairsOf [Value.ref a, Value.ref b])) (fun p s' => ∃ H1, Inv X ((D, seqObj "list" #[] e1) :: pins) σ H1 s' ∧ ∃ k : Bool, p = (if k = true then #[1, 0] else #[0, 1]) ∧ ∀ q, H1 q = none → Q (.ref q) (upd H1 q (.lst (if k = true then [V.ref b, V.ref a] else [V.ref a, V.ref b])))) { s with heap := sortingHeap hc D [Value.ref a, .ref b] } := by
    rw [show [Value.ref a, Value.ref b].length = 2 from rfl, sort_two]
    show kas_cmp _ _ _ _ _ 1 0 _ _
    unfold kas_cmp
    rw [kas_item_eq, kas_item_eq]
    show wpAny (model X.prog X.w) X.A.in1.in1 (keyLt' oneType' (.ref b) (.ref a)) _ _ _
    refine kas_lt_inst hrr.units0 fr I.ok.mod.kin J2 o.at' o.fn ?_
    have len := F.len _ _ _ _ q
    have both : Vals [V.ref b, V.ref a] [Value.ref b, Value.ref a] := .cons rfl (.cons rfl .nil)
    have bind := bd { s with heap := sortingHeap hc D [Value.ref a, .ref b] } [.ref b, .ref a] I2.kIn (by simpa using len)
    refine wpAny_call (codeAny_mono (F.run X.A.in1.in1 X.stack { s with heap := sortingHeap hc D [Value.ref a, .ref b] } H ⟨[.ref b, .ref a], []⟩ [.ref b, .ref a] [.ref b, .ref a] _ C8.E0 hrr I3.env0.in1.in1 (by simpa using bind) both q) ?_)
    intro r s2 hq
    cases r with
    | error e => exact False.elim hq
    | ok fl =>
      cases fl with
      | ret z =>
        obtain ⟨v, H1, I4, rz, k, rfl, qz⟩ := I3.after hq
        obtain rfl : z = .bool k := rz
        exact ⟨H1, I4, k, rfl, qz⟩
      | next => exact hq.elim
      | brk => exact hq.elim
      | cont => exact hq.elim
  dsimp only
  have hn2 : ¬ ([Value.ref a, Value.ref b].toArray.size < 2) := Nat.lt_irrefl 2
  rw [if_neg hn2, if_neg hn2]
  refine wpAny_bind (kas_kind (T := .ref C) (Nat.le_refl 2) (fun v hv => ?_) rfl (beq_self_eq_true _) ?_)
  · simp only [List.mem_cons, List.not_mem_nil, or_false] at hv
    rcases hv with rfl | rfl
    · exact J.type
    · exact J2.type
  have est : SortSt.mk' oneType' ([Value.ref a, Value.ref b].toArray.zip [Value.ref a, Value.ref b].toArray) #[] 7 none = kas_st oneType' (pairsOf [Value.ref a, Value.ref b]) (List.toArray (List.range 2)) := by
    have e := kas_range (pairsOf [Value.ref a, Value.ref b])
    rw [pairsOf_size] at e
    show SortSt.mk' oneType' (pairsOf [Value.ref a, Value.ref b]) #[] 7 none = SortSt.mk' oneType' ((List.toArray (List.range 2)).map (kas_item (pairsOf [Value.ref a, Value.ref b]))) #[] 7 none
    rw [show (2 : Nat) = [Value.ref a, Value.ref b].length from rfl, e]
  have run := kas_runs (E := E') (Q := fun _ st' s' => ∃ p : Array Nat, p.size = 2 ∧ arrOf st' = p.map (kas_item (pairsOf [Value.ref a, Value.ref b])) ∧ failedOf st' = none ∧ ∃ H1, Inv X ((D, seqObj "list" #[] e1) :: pins) σ H1 s' ∧ ∃ k : Bool, p = (if k = true then #[1, 0] else #[0, 1]) ∧ ∀ q, H1 q = none → Q (.ref q) (upd H1 q (.lst (if k = true then [V.ref b, V.ref a] else [V.ref a, V.ref b]))))
    (n := 2) (Nat.le_refl 2) (by decide) (fun p' st' s' a1 a2 a3 a4 => ⟨p', a1, a2, a3, a4⟩) ask
  rw [← est] at run
  refine wpAny_bind (wpAny_mono run ?_ fun _ _ e => e)
  rintro ⟨⟨⟩, st'⟩ s' ⟨p, hp, har, hf, H1, I4, k, rfl, q4⟩
  dsimp only
  have na : s'.heap.get? D = some (seqObj "list" #[] e1) ∧ H1 D = none := by
    have := I4.pin (D, seqObj "list" #[] e1) (List.mem_append_right _ List.mem_cons_self)
    exact ⟨this.1, this.2.1⟩
  have hout : (arrOf st').map (·.2) = List.toArray (if k = true then [Value.ref b, Value.ref a] else [Value.ref a, Value.ref b]) := by
    apply Array.toList_inj.mp
    rw [har, Array.map_map, Array.toList_map]
    cases k
    · show [(kas_item _ 0).2, (kas_item _ 1).2] = _
      rw [kas_item_eq, kas_item_eq]; rfl
    · show [(kas_item _ 1).2, (kas_item _ 0).2] = _
      rw [kas_item_eq, kas_item_eq]; rfl
  rw [hout]
  obtain ⟨c2, hc2⟩ : ∃ c2, (s'.heap.update D (Obj.mapSeq fun _ => List.toArray (if k = true then [Value.ref b, Value.ref a] else [Value.ref a, Value.ref b]))).get? D = some (seqObj "list" (List.toArray (if k = true then [Value.ref b, Value.ref a] else [Value.ref a, Value.ref b])) c2) := ⟨_, get?_update_seq na.1 fun _ => List.toArray (if k = true then [Value.ref b, Value.ref a] else [Value.ref a, Value.ref b])⟩
  refine wpAny_bind (seqEpoch_at na.1 rfl ?_)
  refine wpAny_bind (listUpdate_at na.1 rfl ?_ (Nat.zero_le _) (by cases k <;> exact Nat.le_succ_of_le hvs))
  rw [hf]
  simp only [bne_self_eq_false, Bool.false_eq_true, if_false]
  refine wpAny_pure ⟨rfl, .ref D, _, adopt (I4.pins_of fun p hp => I4.pin p (List.mem_append_right _ (List.mem_cons_of_mem _ hp))) na.2 hsD hLD hcD hpD (fun b' o' ne e => ?_) ⟨_, hc2⟩ ?_, rfl, q4 D na.2⟩
  · exact (Heap.get?_update_ne _ _ _ _ ne).trans e
  · refine ⟨?_, (if k = true then [Value.ref b, Value.ref a] else [Value.ref a, Value.ref b]), c2, ?_, hc2⟩
    · cases k <;> exact hvs
    · cases k
      · exact .cons rfl (.cons rfl .nil)
      · exact .cons rfl (.cons rfl .nil)
end
end So
namespace So
open PySem PySem.Spec L2 Sx Sw
open PyProof.Rows hiding St
open PySem.W (AllAlike Sortable dataLe dataLt EachIs sorted_data)
section
variable {X : Cx} {pins : List (Addr × Obj)} {σ : St} {H : Hp} {s : Shared}
theorem each_of (I : Inv X pins σ H s) : ∀ {xs : List V} {us : List Value} {ds : List PyData}, Vals xs us → DpAll X.K H xs ds →
    EachIs (fun u (b : V × PyData) => RelV b.1 u) us (xs.zip ds) ∧ EachIs (fun u (b : V × PyData) => ∃ as, PySem.Reads s.heap u b.2 as) us (xs.zip ds) ∧ (xs.zip ds).map Prod.snd = ds
  | _, _, _, .nil, .nil => ⟨.nil, .nil, rfl⟩
  | _, _, _, .cons r rs, .cons h hs => by
    obtain ⟨h1, h2, h3⟩ := each_of I rs hs
    refine ⟨.cons r h1, .cons (Dp.reads I _ _ _ h r) h2, ?_⟩
    rw [List.zip_cons_cons, List.map_cons, h3]
theorem vals_each : ∀ {us : List Value} {bs : List (V × PyData)}, EachIs (fun u (b : V × PyData) => RelV b.1 u) us bs → Vals (bs.map Prod.fst) us
  | _, _, .nil => .nil
  | _, _, .cons h t => .cons h (vals_each t)
/-- sorted of a list of data of one kind -/
def qSortD (K : PySem.W.Frag) : List V → Hp → VK → Prop := fun vs H Q => ∃ l xs ds, vs = [V.ref l] ∧ SqL K H l xs ∧ DpAll K H xs ds ∧ AllAlike ds ∧ Sortable ds ∧ (∀ d ∈ ds, d.depth ≤ 60) ∧
  ∀ p, H p = none → Q (.ref p) (upd H p (.lst (((xs.zip ds).mergeSort (dataLe false Prod.snd)).map Prod.fst)))
theorem c_sortD (hu : X.A.units + 64 < cLine) : CallR X (.builtin "sorted") (qSortD X.K) := by
  intro pins s σ H vs us Q I r h
  obtain ⟨l, xs, ds, rfl, hs, hd, al, so, dep, q⟩ := h
  obtain ⟨its, rv, hl, hz⟩ := I.list hs
  obtain ⟨u, rfl, ru⟩ := vals1 r
  obtain rfl : u = Value.ref l := ru
  obtain ⟨e1, e2, e3⟩ := each_of I rv hd
  have hlen : (xs.zip ds).length = xs.length := by
    have h1 := e1.length
    have h2 := rv.length
    omega
  refine sorted_data (enc := Prod.snd) hl.isList e1 e2 (by rw [e3]; exact al) (by rw [e3]; exact so) (by rw [hlen]; exact hz) (fun b hb => ?_) fun out hout he => ?_
  · have : b.2 ∈ ds := by rw [← e3]; exact List.mem_map.mpr ⟨b, hb, rfl⟩
    have := dep _ this
    omega
  · obtain ⟨n, hn⟩ := PyProof.Rows.sortedAll_at s.heap its (List.toArray out)
    refine ⟨.ref _, upd H (s.heap.objs.size + 1) (.lst _), I.laid (t' := s.toks) (fun _ _ => PyProof.Rows.sortedAll_old) (Nat.le_succ _) ⟨?_, out, n, vals_each he, hn⟩, rfl, q _ (I.hok.fresh (Nat.le_succ _))⟩
    rw [List.length_map, List.length_mergeSort, hlen]; exact hz
theorem merge_two {α : Type} {le : α → α → Bool} {x y : α} : [x, y].mergeSort le = if le x y = true then [x, y] else [y, x] := by
  simp [List.mergeSort, List.MergeSort.Internal.splitInTwo, List.merge]
theorem two_data {K : PySem.W.Frag} {H : Hp} {Q : VK} {l : Addr} {x y : V} {d e : PyData} (hs : SqL K H l [x, y]) (hx : Dp K H x d) (hy : Dp K H y e) (al : PySem.W.alike d e = true) (al' : PySem.W.alike e d = true) (al1 : PySem.W.alike d d = true) (al2 : PySem.W.alike e e = true)
    (so : Sortable [d, e]) (h1 : d.depth ≤ 60) (h2 : e.depth ≤ 60) (q : ∀ p, H p = none → Q (.ref p) (upd H p (.lst (if dataLt e d = true then [y, x] else [x, y])))) : qSortD K [.ref l] H Q := by
  refine ⟨l, [x, y], [d, e], rfl, hs, .cons hx (.cons hy .nil), ?_, so, ?_, fun p hp => ?_⟩
  · intro a ha b hb
    simp only [List.mem_cons, List.not_mem_nil, or_false] at ha hb
    rcases ha with rfl | rfl <;> rcases hb with rfl | rfl <;> assumption
  · intro a ha
    simp only [List.mem_cons, List.not_mem_nil, or_false] at ha
    rcases ha with rfl | rfl <;> assumption
  · have := q p hp
    rw [show [x, y].zip [d, e] = [(x, d), (y, e)] from rfl, merge_two]
    have e0 : dataLe false Prod.snd (x, d) (y, e) = !dataLt e d := by rw [PySem.W.dataLe_eq]; rfl
    rw [e0]
    cases hk : dataLt e d
    · rw [hk] at this; simpa using this
    · rw [hk] at this; simpa using this
end
end So

/-! Lo: places in the order of their levels. -/
namespace Lo
open PySem PySem.W PyProof.Rows
def rk (x : Int) : Int := if x < 0 then 0 else 1
def at' (lv : List Int) (i : Nat) : Int := lv.getD i 0
/-- place i stands ahead of place j -/
def bef (lv : List Int) (i j : Nat) : Prop :=
  rk (at' lv i) < rk (at' lv j) ∨ (rk (at' lv i) = rk (at' lv j) ∧ (at' lv j < at' lv i ∨ (at' lv i = at' lv j ∧ j < i)))
instance {lv : List Int} {i j : Nat} : Decidable (bef lv i j) := by unfold bef; infer_instance
theorem bef_asym {lv : List Int} {i j : Nat} (h : bef lv i j) (g : bef lv j i) : False := by
  unfold bef at h g; omega
theorem bef_total {lv : List Int} {i j : Nat} (h : i ≠ j) : bef lv i j ∨ bef lv j i := by
  unfold bef; omega
theorem only {lv : List Int} {u v : List Nat} (hu : u.Pairwise (bef lv)) (hv : v.Pairwise (bef lv)) (p : u.Perm v) : u = v :=
  List.Perm.eq_of_pairwise (fun a b _ _ h g => absurd g fun g => bef_asym h g) hu hv p
theorem bef_nodup {lv : List Int} {u : List Nat} (h : u.Pairwise (bef lv)) : u.Nodup := h.imp fun {a b} z e => by subst e; exact bef_asym z z
/-! ### level by level -/
def inord (fl : List Int) : List Int := (fl.filter fun x => decide (x < 0)) ++ fl.filter fun x => decide (0 ≤ x)
def plc (lv : List Int) (x : Int) : List Nat := (List.range lv.length).reverse.filter fun i => decide (at' lv i = x)
def ord (lv fl : List Int) : List Nat := (inord fl).flatMap (plc lv)
theorem plc_mem {lv : List Int} {x : Int} {i : Nat} : i ∈ plc lv x ↔ i < lv.length ∧ at' lv i = x := by
  unfold plc
  rw [List.mem_filter, List.mem_reverse, List.mem_range, decide_eq_true_iff]
theorem inord_mem {fl : List Int} {x : Int} : x ∈ inord fl ↔ x ∈ fl := by
  unfold inord
  rw [List.mem_append, List.mem_filter, List.mem_filter]
  simp only [decide_eq_true_eq]
  constructor
  · rintro (h | h) <;> exact h.1
  · intro h
    by_cases c : x < 0
    · exact .inl ⟨h, c⟩
    · exact .inr ⟨h, by omega⟩
theorem ord_pair {lv fl : List Int} (h : fl.Pairwise (· > ·)) : (ord lv fl).Pairwise (bef lv) := by
  unfold ord
  rw [List.pairwise_flatMap]
  refine ⟨fun x _ => ?_, ?_⟩
  · have p : (plc lv x).Pairwise (· > ·) := by
      unfold plc
      refine List.Pairwise.filter _ ?_
      rw [List.pairwise_reverse]
      exact List.pairwise_lt_range
    refine List.Pairwise.imp_of_mem (fun {i j} mi mj hij => ?_) p
    have h1 := (plc_mem.mp mi).2
    have h2 := (plc_mem.mp mj).2
    unfold bef
    rw [h1, h2]
    omega
  · have key : ∀ x y, (rk x < rk y ∨ (rk x = rk y ∧ y < x)) → ∀ i, i ∈ plc lv x → ∀ j, j ∈ plc lv y → bef lv i j := fun x y hk i mi j mj => by
      have h1 := (plc_mem.mp mi).2
      have h2 := (plc_mem.mp mj).2
      unfold bef
      rw [h1, h2]
      omega
    unfold inord
    rw [List.pairwise_append]
    refine ⟨?_, ?_, ?_⟩
    · refine List.Pairwise.imp_of_mem (fun {x y} mx my hxy => ?_) (List.Pairwise.filter _ h)
      have h1 := of_decide_eq_true (List.mem_filter.mp mx).2
      have h2 := of_decide_eq_true (List.mem_filter.mp my).2
      exact key x y (by unfold rk; rw [if_pos h1, if_pos h2]; exact .inr ⟨rfl, hxy⟩)
    · refine List.Pairwise.imp_of_mem (fun {x y} mx my hxy => ?_) (List.Pairwise.filter _ h)
      have h1 : 0 ≤ x := of_decide_eq_true (List.mem_filter.mp mx).2
      have h2 : 0 ≤ y := of_decide_eq_true (List.mem_filter.mp my).2
      exact key x y (by unfold rk; rw [if_neg (by omega), if_neg (by omega)]; exact .inr ⟨rfl, hxy⟩)
    · intro x mx y my
      have h1 : x < 0 := of_decide_eq_true (List.mem_filter.mp mx).2
      have h2 : 0 ≤ y := of_decide_eq_true (List.mem_filter.mp my).2
      exact key x y (by unfold rk; rw [if_pos h1, if_neg (by omega)]; exact .inl (by decide))
theorem ord_perm {lv fl : List Int} (h : fl.Pairwise (· > ·)) (hm : ∀ i, i < lv.length → at' lv i ∈ fl) : (ord lv fl).Perm (List.range lv.length) := by
  refine (List.perm_ext_iff_of_nodup (bef_nodup (ord_pair h)) List.nodup_range).mpr fun i => ?_
  unfold ord
  rw [List.mem_flatMap, List.mem_range]
  constructor
  · rintro ⟨x, _, m⟩; exact (plc_mem.mp m).1
  · intro hi; exact ⟨_, inord_mem.mpr (hm i hi), plc_mem.mpr ⟨hi, rfl⟩⟩
/-- the one order of the places -/
def IsOrd (lv : List Int) (u : List Nat) : Prop := u.Pairwise (bef lv) ∧ u.Perm (List.range lv.length)
theorem ord_is {lv fl : List Int} (h : fl.Pairwise (· > ·)) (hm : ∀ i, i < lv.length → at' lv i ∈ fl) : IsOrd lv (ord lv fl) := ⟨ord_pair h, ord_perm h hm⟩
theorem IsOrd.eq {lv : List Int} {u v : List Nat} (h : IsOrd lv u) (g : IsOrd lv v) : u = v := only h.1 g.1 (h.2.trans g.2.symm)
theorem ord_len {lv fl : List Int} (h : IsOrd lv (ord lv fl)) (i : Nat) : (((inord fl).take i).flatMap (plc lv)).length ≤ lv.length := by
  have e : (ord lv fl) = ((inord fl).take i).flatMap (plc lv) ++ ((inord fl).drop i).flatMap (plc lv) := by
    rw [← List.flatMap_append, List.take_append_drop]; rfl
  have l := h.2.length_eq
  rw [e, List.length_append, List.length_range] at l
  omega
theorem flat_snoc {lv xs : List Int} {i : Nat} {x : Int} (h : xs[i]? = some x) : (xs.take (i + 1)).flatMap (plc lv) = (xs.take i).flatMap (plc lv) ++ plc lv x := by
  rw [List.take_add_one, h, List.flatMap_append]; simp
theorem down_of {fl : List Int} (h : fl.Pairwise (· ≥ ·)) (nd : fl.Nodup) : fl.Pairwise (· > ·) := by
  refine List.Pairwise.imp (fun {a b} z => ?_) (h.and (List.nodup_iff_pairwise_ne.mp nd))
  have := z.1; have := z.2; omega
/-! ### by sorted rows -/
def rowD (lv : List Int) (i : Nat) : PyData := .tuple [.tuple [.int (rk (at' lv i)), .int (0 - at' lv i)], .int (0 - (i : Int))]
theorem row_lt (lv : List Int) (i j : Nat) : dataLt (rowD lv i) (rowD lv j) = decide (bef lv i j) := by
  unfold rowD
  rw [dataLt_pair (by simp [alike, alikeAll]) (by simp [alike]), dataLt_ii, dataLt_int]
  simp only [PyData.eqv, PyData.eqvAll, beq_iff_eq, Bool.and_true]
  unfold bef
  by_cases h1 : rk (at' lv i) = rk (at' lv j)
  · by_cases h2 : at' lv i = at' lv j
    · by_cases h3 : (i : Int) = j
      · simp [h1, h2, h3]; omega
      · simp [h1, h2, h3]
    · have : ¬ (0 - at' lv i = 0 - at' lv j) := by omega
      simp [h1, h2, this]
  · simp [h1]
theorem sorted_is {α : Type} {lv : List Int} {zs : List (α × PyData)} (f : α → Nat) (hf : ∀ z, z ∈ zs → z.2 = rowD lv (f z.1)) (nd : (zs.map fun z => f z.1).Perm (List.range lv.length)) :
    IsOrd lv (((zs.mergeSort (dataLe false Prod.snd)).map Prod.fst).map f) := by
  have pm := List.mergeSort_perm zs (dataLe false Prod.snd)
  have pz : (((zs.mergeSort (dataLe false Prod.snd)).map Prod.fst).map f).Perm (List.range lv.length) := by
    rw [List.map_map]; exact (pm.map _).trans nd
  refine ⟨?_, pz⟩
  have hb : ∀ z y : α × PyData, z ∈ zs → y ∈ zs → (dataLe false Prod.snd z y = true ↔ ¬ bef lv (f y.1) (f z.1)) := fun z y mz my => by
    rw [dataLe_eq]
    show (!dataLt y.2 z.2) = true ↔ _
    rw [hf z mz, hf y my, row_lt]
    simp
  have sp := sort_pairwise (sortLe_total (listOrd itemOrd) false fun z : α × PyData => keyToks z.2) zs
  have nz : (((zs.mergeSort (dataLe false Prod.snd)).map Prod.fst).map f).Nodup := pz.nodup_iff.mpr List.nodup_range
  rw [List.map_map] at nz ⊢
  rw [List.pairwise_map]
  have ne := List.pairwise_map.mp (List.nodup_iff_pairwise_ne.mp nz)
  refine List.Pairwise.imp_of_mem (fun {z y} mz my h => ?_) (sp.and ne)
  have h1 := (hb z y (pm.mem_iff.mp mz) (pm.mem_iff.mp my)).mp h.1
  rcases bef_total (lv := lv) h.2 with g | g
  · exact g
  · exact absurd g h1
/-! ### places from the end -/
def pl (lv : List Int) (i : Nat) (x : Int) : List Nat := ((List.range lv.length).reverse.take i).filter fun j => decide (at' lv j = x)
theorem rev_at {n i : Nat} (h : i < n) : (List.range n).reverse[i]? = some (n - 1 - i) := by
  rw [List.getElem?_reverse (by rw [List.length_range]; exact h), List.length_range, List.getElem?_range (by omega)]
theorem pl_succ {lv : List Int} {i : Nat} (h : i < lv.length) (x : Int) : pl lv (i + 1) x = pl lv i x ++ (if at' lv (lv.length - 1 - i) = x then [lv.length - 1 - i] else []) := by
  unfold pl
  rw [List.take_add_one, rev_at h, List.filter_append]
  congr 1
  by_cases e : at' lv (lv.length - 1 - i) = x <;> simp [e]
theorem pl_all (lv : List Int) (x : Int) : pl lv lv.length x = plc lv x := by
  unfold pl plc
  rw [List.take_of_length_le (by rw [List.length_reverse, List.length_range]; exact Nat.le_refl _)]
theorem pl_zero (lv : List Int) (x : Int) : pl lv 0 x = [] := rfl
theorem pl_len (lv : List Int) (i : Nat) (x : Int) : (pl lv i x).length ≤ lv.length := by
  unfold pl
  refine Nat.le_trans (List.length_filter_le _ _) (Nat.le_trans (List.length_take_le' _ _) ?_)
  rw [List.length_reverse, List.length_range]; exact Nat.le_refl _
theorem at_get {lv : List Int} {i : Nat} (h : i < lv.length) : lv[i]? = some (at' lv i) := by
  unfold at'; rw [List.getD_eq_getElem?_getD, List.getElem?_eq_getElem h]; rfl
/-! ### running sums -/
def sums (ns : List Int) : List Int := (List.range ns.length).map fun i => (ns.take (i + 1)).sum
theorem sums_len (ns : List Int) : (sums ns).length = ns.length := by unfold sums; rw [List.length_map, List.length_range]
theorem sums_at {ns : List Int} {i : Nat} (h : i < ns.length) : (sums ns)[i]? = some (ns.take (i + 1)).sum := by
  unfold sums; rw [List.getElem?_map, List.getElem?_range h]; rfl
theorem sums_snoc {ns : List Int} {i : Nat} (h : i < ns.length) : (sums ns).take (i + 1) = (sums ns).take i ++ [(ns.take (i + 1)).sum] := by
  rw [List.take_add_one, sums_at h]; rfl
theorem sum_snoc {ns : List Int} {i : Nat} {x : Int} (h : ns[i]? = some x) : (ns.take (i + 1)).sum = (ns.take i).sum + x := by
  rw [List.take_add_one, h, List.sum_append]; simp
theorem sum_bound {ns : List Int} {b : Int} (h : ∀ x, x ∈ ns → -b ≤ x ∧ x ≤ b) : -(b * ns.length) ≤ ns.sum ∧ ns.sum ≤ b * ns.length := by
  induction ns with
  | nil => simp
  | cons x ns ih =>
    have h1 := h x List.mem_cons_self
    have h2 := ih fun y m => h y (List.mem_cons_of_mem _ m)
    have e : b * ((x :: ns).length : Int) = b * ns.length + b := by rw [List.length_cons]; push_cast; rw [Int.mul_add, Int.mul_one]
    rw [e, List.sum_cons]; omega
end Lo

/-! Se: enumerate of a text. -/
namespace Se
open PySem PySem.Spec PyProof.Rows L2 Sx Sy
section
variable {P : Program} {w : World} {K : PySem.W.Frag}
/-- the letters of x, each behind its number in a new pair -/
def Itc (x : Str) : It :=
  ⟨fun i _ => i < x.cps.size,
   fun i H v H2 => ∃ p c, v = V.ref p ∧ H p = none ∧ H2 = upd H p (.tup [.int (i : Nat), .str ⟨#[c]⟩]) ∧ x.cps[i]? = some c,
   fun i _ => x.cps.size = i⟩
theorem turn_letters {tgs : List Expr} {q : Nat} {at' : Pos} (x : Str) (t : Tok) (en it : Addr) :
    Turn P w K (.Tuple tgs q at') (Itc x) [en, it] en (fun i g => (∃ last, IsEnum g en it ((i : Nat) : Int) last) ∧ g.IsStrIter it (strIterType x) x t i ∧ en ≠ it) where
  mem := List.mem_cons_self ..
  obj := fun i g ⟨⟨last, x1⟩, x2, _⟩ b m => by
    rcases List.mem_cons.mp m with rfl | m
    · exact ⟨_, x1, nofun⟩
    · cases List.mem_singleton.mp m
      obtain ⟨ob, y1, y2, y3⟩ := x2
      exact ⟨ob, y1, fun v z => by rw [y3] at z; exact nomatch z⟩
  keep := fun i g g' ⟨⟨last, x1⟩, x2, x3⟩ same => ⟨⟨last, same en (List.mem_cons_self ..) _ x1⟩, by
    obtain ⟨ob, y1, y2⟩ := x2
    exact ⟨ob, same it (by simp) ob y1, y2⟩, x3⟩
  item := by
    rintro X rfl rfl rfl calm i pins s σ H E I free ⟨⟨last, x1⟩, x2, apart⟩ lt
    have lt : i < x.cps.size := lt
    have below : ∀ b ∈ [en, it], b < s.heap.objs.size := fun b m => by
      rcases List.mem_cons.mp m with rfl | m
      · exact Heap.lt_size x1
      · cases List.mem_singleton.mp m
        obtain ⟨ob, y1, _⟩ := x2
        exact Heap.lt_size y1
    have dif2 : en ∉ [it] := fun z => apart (List.mem_singleton.mp z)
    have drawn := Draws.text (prog := X.prog) (w := X.w) (A := X.A.in1) (I.ok.hd calm) it x t
    refine wpAny_pyNext_enum_itemD drawn x1 x2 lt apart dif2 ?_
    rintro w1 g1 k1 ⟨c, u, hc, rfl⟩ out it1 new1 size1 others
    refine ⟨_, rfl, wpAny_letOwnedTupleGo_enum (s := { s with heap := g1, toks := k1 + 1 }) out fun g2 en2 but => ?_⟩
    have far : s.heap.objs.size ≠ en := Nat.ne_of_gt (below en (List.mem_cons_self ..))
    have new2 := (but.2 _ far).trans new1
    have I2 : Inv X pins σ (upd H s.heap.objs.size (.tup [.int (i : Nat), .str ⟨#[c]⟩])) { s with heap := g2, toks := k1 + 1 } := by
      refine I.turnedNew (ch := [en, it]) ?_ free (Nat.le_refl _) ?_
      · intro b ob m y
        exact (but.2 b fun e => m (e ▸ List.mem_cons_self ..)).trans (others b ob (fun e => m (e ▸ List.mem_cons_self ..)) (fun e => m (by rw [e]; simp)) y)
      · exact ⟨by rw [sizeLine_eq]; exact (by decide : 2 ≤ 16777216), _, .cons ⟨k1, rfl⟩ (.cons ⟨u, rfl⟩ .nil), _, new2, rfl, _, rfl⟩
    refine ⟨.ref s.heap.objs.size, _, I2, rfl, ⟨_, c, rfl, I.hok.fresh (Nat.le_refl _), rfl, hc⟩, ⟨⟨.str ⟨#[c]⟩ u, ?_⟩, ?_, apart⟩, fun b m => ?_⟩
    · rw [Int.natCast_add]; exact en2
    · obtain ⟨ob, y1, y2⟩ := it1
      exact ⟨ob, (but.2 it (Ne.symm apart)).trans y1, y2⟩
    · rw [upd_ne (Nat.ne_of_lt (below b m))]
      exact (free b m).1
  done := by
    rintro X rfl rfl rfl calm i pins s σ H E I free ⟨⟨last, x1⟩, x2, apart⟩ z
    have z : x.cps.size = i := z
    subst z
    have drawn := Draws.text (prog := X.prog) (w := X.w) (A := X.A.in1) (I.ok.hd calm) it x t
    obtain ⟨f0, f1, f2, f3, f4, f5⟩ := free it (by simp)
    refine wpAny_pyNext_enum_endD drawn x1 x2 fun g ext => ⟨rfl, ?_⟩
    exact I.turned (t' := s.toks) (fun b ob m y => ext b ob m y) f0 f1 f3 f4 f5
  self := fun A i s Q E ⟨⟨_, x1⟩, _⟩ h => wpAny_pyIter_enum x1 h
def iNumS (ta : TA) : TI := fun σ H R => ta σ H fun vs H1 => ∃ x, vs = [V.str x] ∧ R (Itc x) H1
theorem walk_letters {x : Str} : Walk (Itc x) x.cps.size (fun _ => True) (YPair (fun i => some (.int (i : Nat))) (fun i => (x.cps[i]?).map fun c => V.str ⟨#[c]⟩)) := by
  constructor
  · intro i H hi _; exact hi
  · intro H _; exact rfl
  · rintro i H v H2 _ _ ⟨p, c, rfl, h1, h2, h3⟩
    exact ⟨p, .int (i : Nat), .str ⟨#[c]⟩, rfl, h1, h2, rfl, by show (x.cps[i]?).map _ = _; rw [h3]; rfl⟩
end
section
variable {X : Cx}
theorem pi_enumS {e : Expr} {ta : TA} {p pos tpos : Pos} {tgs : List Expr} {q : Nat} (hg : Gl X "enumerate") (hm : X.mg "enumerate" = none) (ha : PA X [e] ta) (na : starEach [e] X.env = [(false, eval e X.env)] := by rfl) :
    PI X (.Tuple tgs q tpos) (.Call (.Name "enumerate" p) [e] [] pos) (iNumS ta) := by
  constructor
  intro pins s σ H R I h
  refine Call_ (ld_blt I hg hm bt_enumerate (PyProof.Rows.callWith_type1 (thn (ha.run pos pins s σ H _ I h) ?_) na rfl))
  rintro us s1 ⟨vs, H1, I1, r1, x, rfl, next⟩
  obtain ⟨u, rfl, rx⟩ := vals1 r1
  obtain ⟨t, rfl⟩ := (show ∃ t, u = Value.str x t from rx)
  have B := begins_text x t
  refine callType_new F.called_enumerate (by decide) (F.typeCall_enumerate_1 _) (F.newCall_enumerate_1 _) (fun ob => F.args_object_init_2 ob _) F.entry_enumerate_new (meets_number B) ⟨trivial, ?_⟩
  let t1 := s1.heap.push { cls := .type (strIterType x), data := .fields #[.str x t, .int 0 0] }
  have n1 : t1.objs.size = s1.heap.objs.size + 1 := Heap.size_push ..
  show _ ∧ _
  rw [n1]
  have x1 : IsEnum (t1.push { cls := .type "enumerate", data := .fields #[.none, .bool false, .ref s1.heap.objs.size, rawInt 0, .none, .none] }) (s1.heap.objs.size + 1) s1.heap.objs.size 0 .none := by
    have z := Heap.get?_push_size t1 (o := { cls := .type "enumerate", data := .fields #[.none, .bool false, .ref s1.heap.objs.size, rawInt 0, .none, .none] }) rfl
    rw [n1] at z; exact z
  have same : ∀ b ob, s1.heap.get? b = some ob → (t1.push { cls := .type "enumerate", data := .fields #[.none, .bool false, .ref s1.heap.objs.size, rawInt 0, .none, .none] }).get? b = some ob :=
    fun b ob z => Heap.get?_push_of_some _ (Heap.get?_push_of_some _ z)
  refine ⟨⟨_, x1, rfl⟩, wpAny_pyIter_enum x1 ?_⟩
  have it1 : (t1.push { cls := .type "enumerate", data := .fields #[.none, .bool false, .ref s1.heap.objs.size, rawInt 0, .none, .none] }).IsStrIter s1.heap.objs.size (strIterType x) x t 0 :=
    ⟨_, Heap.get?_push_of_some _ (Heap.get?_push_size _ rfl), rfl, rfl⟩
  refine ⟨s1.heap.objs.size + 1, [s1.heap.objs.size + 1, s1.heap.objs.size], _, Itc x, H1, rfl, I1.kept (t' := s1.toks) same, turn_letters x t (s1.heap.objs.size + 1) s1.heap.objs.size, ⟨⟨.none, x1⟩, it1, Nat.succ_ne_self _⟩, ?_, next⟩
  intro b m
  have le : s1.heap.objs.size ≤ b := by
    rcases List.mem_cons.mp m with rfl | m
    · exact Nat.le_succ _
    · exact Nat.le_of_eq (List.mem_singleton.mp m).symm
  exact I1.fpOk le (I1.hok.fresh le)
end
section
variable {σ : L2.St} {H : Hp} {Q : VK} {te : TE} {tt : TT} {tb : TS} {tl : TA} {g : TG} {vs : List Nat}
theorem r_lcNS (h : tl σ H fun us H1 => ∃ x, us = [V.str x] ∧ LCW (Itc x) g tt te vs σ H1 Q) : tLc (iNumS tl) g tt te vs σ H Q := h
theorem r_forNS {D : Ends} (h : tl σ H fun us H1 => ∃ x, us = [V.str x] ∧ FR (Itc x) g tb D σ H1) : tFor (iNumS tl) g tb D σ H := h
end
end Se

/-! Lk: comprehensions over a dict's keys, and over lists within a list. -/
namespace Lk
open PySem PySem.Spec PyProof.Rows L2 Sx Sy Dk
section
variable {K : PySem.W.Frag} {σ : L2.St} {H : Hp} {Q : VK} {g : TG} {tt : TT} {te td : TE} {vs : List Nat}
theorem lw_keys {d : Addr} {o : Obj} {kvs : List (Key × V)} (Pv : Addr → Nat → Hp → Prop) (h0 : ∀ D, H D = none → Pv D 0 (upd H D (.lst []))) (hl : ∀ D, H D = none → ∀ i H, i ≤ kvs.length → Pv D i H → H d = some (.frz o (.dK kvs)))
    (hs : ∀ D, H D = none → ∀ i k v H, kvs[i]? = some (k, v) → Pv D i H → g (kV k) (wipe σ vs) H fun σ2 H2 => wipe σ2 vs = wipe σ vs ∧ tt σ2 H2 fun b H3 =>
      if b = true then te σ2 H3 fun y H4 => ∃ acc, H4 D = some (.lst acc) ∧ acc.length < sizeLine ∧ Pv D (i + 1) (upd H4 D (.lst (acc ++ [y]))) else Pv D (i + 1) H3)
    (hd : ∀ D, H D = none → ∀ H, Pv D kvs.length H → Q (.ref D) H) : LCW (Itk d o kvs) g tt te vs σ H Q := by
  intro D hD
  refine ⟨fun i m H => m = kvs.length - i ∧ i ≤ kvs.length ∧ Pv D i H, ⟨kvs.length, by simp, Nat.zero_le _, h0 D hD⟩, ?_⟩
  rintro i m H ⟨rfl, hi, p⟩
  have q := hl D hD i H hi p
  rcases Nat.lt_or_ge i kvs.length with hlt | hge
  · refine .inr ⟨⟨q, hlt⟩, Pv D (i + 1), fun H' p' => ⟨kvs.length - (i + 1), by omega, rfl, hlt, p'⟩, fun y H' z => ?_⟩
    obtain ⟨e, k, v, hk, e2⟩ := z
    subst e e2
    exact hs D hD i k v _ hk p
  · have e : i = kvs.length := by omega
    subst e
    exact .inl ⟨⟨q, Nat.le_refl _⟩, hd D hD H p⟩
/-- one walk over a list, from any heap on -/
theorem in_list {a : Addr} {xs : List V} {H0 : Hp} {Qd : Hp → Prop} {B : V → Hp → (Hp → Prop) → Prop} (Pv : Nat → Hp → Prop) (h0 : Pv 0 H0) (hl : ∀ i H, i ≤ xs.length → Pv i H → SqL K H a xs)
    (hs : ∀ i x H, xs[i]? = some x → Pv i H → B x H (Pv (i + 1))) (hd : ∀ H, Pv xs.length H → Qd H) :
    ∃ W : Nat → Nat → Hp → Prop, (∃ m, W 0 m H0) ∧ ∀ i m H, W i m H → ((Itl K a).stop i H ∧ Qd H) ∨ ((Itl K a).go i H ∧ ∃ Nx : Hp → Prop, (∀ H', Nx H' → ∃ m', m' < m ∧ W (i + 1) m' H') ∧ ∀ x H', (Itl K a).yld i H x H' → B x H' Nx) := by
  refine ⟨fun i m H => m = xs.length - i ∧ i ≤ xs.length ∧ Pv i H, ⟨xs.length, by simp, Nat.zero_le _, h0⟩, ?_⟩
  rintro i m H ⟨rfl, hi, p⟩
  have q := hl i H hi p
  rcases Nat.lt_or_ge i xs.length with hlt | hge
  · refine .inr ⟨⟨xs, xs[i], q, by simp [hlt]⟩, Pv (i + 1), fun H' p' => ⟨xs.length - (i + 1), by omega, rfl, hlt, p'⟩, fun x H' z => ?_⟩
    obtain ⟨e, y⟩ := z
    subst e
    exact hs i x _ (y xs q) p
  · have e : i = xs.length := by omega
    subst e
    exact .inl ⟨⟨xs, q, Nat.le_refl _⟩, hd H p⟩
theorem r_lc2 {wi wi1 : TI} {g1 : TG} {tt1 : TT} {vs1 : List Nat} (h : wi σ H fun J H1 => ∀ D, H1 D = none → ∃ W : Nat → Nat → Hp → Prop, (∃ m, W 0 m (upd H1 D (.lst []))) ∧ ∀ i m H, W i m H →
    (J.stop i H ∧ Q (.ref D) H) ∨ (J.go i H ∧ ∃ Nx : Hp → Prop, (∀ H', Nx H' → ∃ m', m' < m ∧ W (i + 1) m' H') ∧ ∀ x H', J.yld i H x H' → g x (wipe σ vs) H' fun σ2 H2 => wipe σ2 vs = wipe σ vs ∧ tt σ2 H2 fun b H3 =>
      if b = true then wi1 σ2 H3 fun J1 H4 => ∃ W1 : Nat → Nat → Hp → Prop, (∃ m, W1 0 m H4) ∧ ∀ j k H, W1 j k H →
        (J1.stop j H ∧ Nx H) ∨ (J1.go j H ∧ ∃ Nx1 : Hp → Prop, (∀ H', Nx1 H' → ∃ k', k' < k ∧ W1 (j + 1) k' H') ∧ ∀ x H', J1.yld j H x H' → g1 x (wipe σ2 vs1) H' fun σ3 H5 => wipe σ3 vs1 = wipe σ2 vs1 ∧ tt1 σ3 H5 fun b H6 =>
          if b = true then te σ3 H6 fun y H7 => ∃ acc, H7 D = some (.lst acc) ∧ acc.length < sizeLine ∧ Nx1 (upd H7 D (.lst (acc ++ [y]))) else Nx1 H6)
      else Nx H3)) : tLc2 wi g tt wi1 g1 tt1 te vs vs1 σ H Q := h
theorem r_iL {ta : TE} {R : It → Hp → Prop} (h : ta σ H fun x H1 => ∃ a, x = .ref a ∧ (∃ xs, SqL K H1 a xs) ∧ R (Itl K a) H1) : iList K ta σ H R := h
theorem r_dsetd {ty tx : TE} (h : td σ H fun x H1 => ∃ a, x = .ref a ∧ IsD H1 a ∧ ty σ H1 fun y H2 => tx σ H2 fun z H3 => ∃ (kvs : List (Key × V)) (k : Key), H3 a = some (.dK kvs) ∧ y = kV k ∧ kvs.length < sizeLine ∧
    (∀ v, valV kvs k = some v → Q v H3) ∧ (valV kvs k = none → Q z (upd H3 a (.dK (putK kvs k z))))) : tDSetd td ty tx σ H Q := h
end
/-! ### rows of numbers and lists -/
def rows (zs : List (Int × Addr)) : List (Key × V) := zs.map fun z => (.inl z.1, .ref z.2)
theorem rows_val {zs : List (Int × Addr)} {x : Int} {q : Addr} (nd : (zs.map Prod.fst).Nodup) (m : (x, q) ∈ zs) : valV (rows zs) (.inl x) = some (.ref q) := by
  induction zs with
  | nil => cases m
  | cons z zs ih =>
    rw [List.map_cons, List.nodup_cons] at nd
    rcases List.mem_cons.mp m with rfl | m
    · exact valV_pos rfl
    · rw [show rows (z :: zs) = (.inl z.1, V.ref z.2) :: rows zs from rfl, valV_neg, ih nd.2 m]
      intro e
      exact nd.1 (List.mem_map.mpr ⟨_, m, (Sum.inl.inj e).symm⟩)
theorem rows_none {zs : List (Int × Addr)} {x : Int} (n : ∀ q, (x, q) ∉ zs) : valV (rows zs) (.inl x) = none := by
  induction zs with
  | nil => rfl
  | cons z zs ih =>
    rw [show rows (z :: zs) = (.inl z.1, V.ref z.2) :: rows zs from rfl, valV_neg, ih fun q m => n q (List.mem_cons_of_mem _ m)]
    intro e
    exact n z.2 (by rw [← Sum.inl.inj e]; exact List.mem_cons_self)
theorem rows_inv {zs : List (Int × Addr)} {x : Int} {v : V} (h : valV (rows zs) (.inl x) = some v) : ∃ q, (x, q) ∈ zs ∧ v = .ref q := by
  induction zs with
  | nil => cases h
  | cons z zs ih =>
    rw [show rows (z :: zs) = (.inl z.1, V.ref z.2) :: rows zs from rfl] at h
    by_cases e : z.1 = x
    · rw [valV_pos (by rw [e])] at h
      exact ⟨z.2, by rw [← e]; exact List.mem_cons_self, (Option.some.inj h).symm⟩
    · rw [valV_neg (by intro z; exact e (Sum.inl.inj z))] at h
      obtain ⟨q, m, e⟩ := ih h
      exact ⟨q, List.mem_cons_of_mem _ m, e⟩
theorem rows_put {zs : List (Int × Addr)} {x : Int} {q : Addr} (n : ∀ q, (x, q) ∉ zs) : putK (rows zs) (.inl x) (.ref q) = rows (zs ++ [(x, q)]) := by
  rw [putK_new _ (rows_none n)]
  unfold rows; rw [List.map_append]; rfl
theorem rows_len (zs : List (Int × Addr)) : (rows zs).length = zs.length := List.length_map ..
theorem rows_at {zs : List (Int × Addr)} {i : Nat} {k : Key} {v : V} (h : (rows zs)[i]? = some (k, v)) : ∃ z, zs[i]? = some z ∧ k = .inl z.1 ∧ v = .ref z.2 := by
  unfold rows at h
  rw [List.getElem?_map] at h
  obtain ⟨z, h1, h2⟩ := Option.map_eq_some_iff.mp h
  obtain ⟨rfl, rfl⟩ := Prod.mk.inj h2
  exact ⟨z, h1, rfl, rfl⟩
theorem uniq_fst {zs : List (Int × Addr)} {x : Int} {p q : Addr} (nd : (zs.map Prod.fst).Nodup) (a : (x, p) ∈ zs) (b : (x, q) ∈ zs) : p = q := by
  have h1 := rows_val nd a
  rw [rows_val nd b] at h1
  exact (V.ref.inj (Option.some.inj h1)).symm
theorem uniq_snd {zs : List (Int × Addr)} {x y : Int} {q : Addr} (nd : (zs.map Prod.snd).Nodup) (a : (x, q) ∈ zs) (b : (y, q) ∈ zs) : x = y := by
  induction zs with
  | nil => cases a
  | cons z zs ih =>
    rw [List.map_cons, List.nodup_cons] at nd
    rcases List.mem_cons.mp a with e1 | a1 <;> rcases List.mem_cons.mp b with e2 | b1
    · exact congrArg Prod.fst (e1.trans e2.symm)
    · exact (nd.1 (List.mem_map.mpr ⟨_, b1, by rw [← e1]⟩)).elim
    · exact (nd.1 (List.mem_map.mpr ⟨_, a1, by rw [← e2]⟩)).elim
    · exact ih nd.2 a1 b1
theorem r_ckw {r : List V → List V → Hp → VK → Prop} {t tk : TA} {σ : L2.St} {H : Hp} {Q : VK} (h : t σ H fun us H1 => tk σ H1 fun ws H2 => r us ws H2 Q) : tCKw r t tk σ H Q := h
def nv (u : List Nat) : List V := u.map fun j : Nat => V.int (j : Int)
/-- the table behind i places -/
def Tb (lv : List Int) (H H' : Hp) (e : Addr) (i : Nat) (zs : List (Int × Addr)) : Prop :=
  H' e = some (.dK (rows zs)) ∧ (zs.map Prod.fst).Nodup ∧ (zs.map Prod.snd).Nodup ∧ zs.length ≤ i ∧ (∀ x q, (x, q) ∈ zs → H q = none ∧ q ≠ e ∧ Lo.pl lv i x ≠ [] ∧ H' q = some (.lst (nv (Lo.pl lv i x)))) ∧ ∀ x, Lo.pl lv i x ≠ [] → ∃ q, (x, q) ∈ zs
theorem tb_old {lv : List Int} {H H2 : Hp} {e z qa : Addr} {i : Nat} {zs : List (Int × Addr)} (t : Tb lv H H2 e i zs) (hi : i < lv.length) (m : (Lo.at' lv (lv.length - 1 - i), qa) ∈ zs) (hz : H2 z = none) :
    Tb lv H (upd (upd H2 z (.lst [])) qa (.lst (nv (Lo.pl lv i (Lo.at' lv (lv.length - 1 - i))) ++ [V.int ((lv.length - 1 - i : Nat) : Int)]))) e (i + 1) zs := by
  obtain ⟨t1, t2, t3, t4, t5, t6⟩ := t
  obtain ⟨a1, a2, a3, a4⟩ := t5 _ _ m
  refine ⟨?_, t2, t3, by omega, fun x q mq => ?_, fun x hx => ?_⟩
  · rw [upd_ne a2.symm, upd_ne (ne_of_none t1 hz)]; exact t1
  · obtain ⟨b1, b2, b3, b4⟩ := t5 _ _ mq
    refine ⟨b1, b2, ?_, ?_⟩
    · rw [Lo.pl_succ hi]; intro z; exact b3 (List.append_eq_nil_iff.mp z).1
    · rw [Lo.pl_succ hi]
      by_cases ex : Lo.at' lv (lv.length - 1 - i) = x
      · subst ex
        have := uniq_fst t2 m mq
        subst this
        rw [upd_same, if_pos rfl]
        unfold nv; rw [List.map_append]; rfl
      · have nq : q ≠ qa := by
          rintro rfl
          exact ex (uniq_snd t3 m mq)
        rw [upd_ne nq, upd_ne (ne_of_none b4 hz), b4, if_neg ex, List.append_nil]
  · rw [Lo.pl_succ hi] at hx
    by_cases ex : Lo.at' lv (lv.length - 1 - i) = x
    · subst ex; exact ⟨_, m⟩
    · rw [if_neg ex, List.append_nil] at hx
      exact t6 x hx
theorem tb_new {lv : List Int} {H H2 : Hp} {e z : Addr} {i : Nat} {zs : List (Int × Addr)} (t : Tb lv H H2 e i zs) (hi : i < lv.length) (n : ∀ q, (Lo.at' lv (lv.length - 1 - i), q) ∉ zs) (hz : H2 z = none) (hz0 : H z = none) (o : HO) :
    Tb lv H (upd (upd (upd H2 z o) e (.dK (rows (zs ++ [(Lo.at' lv (lv.length - 1 - i), z)])))) z (.lst [V.int ((lv.length - 1 - i : Nat) : Int)])) e (i + 1) (zs ++ [(Lo.at' lv (lv.length - 1 - i), z)]) := by
  obtain ⟨t1, t2, t3, t4, t5, t6⟩ := t
  have ez : e ≠ z := ne_of_none t1 hz
  have np : Lo.pl lv i (Lo.at' lv (lv.length - 1 - i)) = [] := by
    refine Classical.byContradiction fun h => ?_
    obtain ⟨q, m⟩ := t6 _ h
    exact n q m
  refine ⟨?_, ?_, ?_, by rw [List.length_append, List.length_singleton]; omega, fun x q mq => ?_, fun x hx => ?_⟩
  · rw [upd_ne ez, upd_same]
  · rw [List.map_append, List.nodup_append]
    refine ⟨t2, by simp, fun a ma b mb => ?_⟩
    rw [List.map_singleton, List.mem_singleton] at mb
    subst mb
    rintro rfl
    obtain ⟨y, my, e⟩ := List.mem_map.mp ma
    have e : y.1 = Lo.at' lv (lv.length - 1 - i) := e
    exact n y.2 (by rw [← e]; exact my)
  · rw [List.map_append, List.nodup_append]
    refine ⟨t3, by simp, fun a ma b mb => ?_⟩
    rw [List.map_singleton, List.mem_singleton] at mb
    subst mb
    rintro rfl
    obtain ⟨y, my, e⟩ := List.mem_map.mp ma
    have := (t5 y.1 y.2 my).2.2.2
    rw [e, hz] at this; cases this
  · rcases List.mem_append.mp mq with mq | mq
    · obtain ⟨b1, b2, b3, b4⟩ := t5 _ _ mq
      have ex : ¬ Lo.at' lv (lv.length - 1 - i) = x := by rintro rfl; exact n q mq
      have qz : q ≠ z := ne_of_none b4 hz
      rw [Lo.pl_succ hi, if_neg ex, List.append_nil]
      exact ⟨b1, b2, b3, by rw [upd_ne qz, upd_ne b2, upd_ne qz]; exact b4⟩
    · obtain ⟨rfl, rfl⟩ := Prod.mk.inj (List.mem_singleton.mp mq)
      rw [Lo.pl_succ hi, np, if_pos rfl]
      exact ⟨hz0, ez.symm, by simp, upd_same⟩
  · rw [Lo.pl_succ hi] at hx
    by_cases ex : Lo.at' lv (lv.length - 1 - i) = x
    · subst ex; exact ⟨z, List.mem_append_right _ (List.mem_singleton.mpr rfl)⟩
    · rw [if_neg ex, List.append_nil] at hx
      obtain ⟨q, m⟩ := t6 x hx
      exact ⟨q, List.mem_append_left _ m⟩
end Lk

/-! Pq: power series as functions; multiplying by 1 - x^k and dividing by it. -/
namespace Pq
/-- times 1 - x^k -/
def D (k : Nat) (f : Nat → Int) : Nat → Int := fun i => if k ≤ i then f i - f (i - k) else f i
/-- divided by 1 - x^k -/
def U (k : Nat) (f : Nat → Int) (i : Nat) : Int := if h : 0 < k ∧ k ≤ i then f i + U k f (i - k) else f i
termination_by i
decreasing_by omega
theorem U_lo {k i : Nat} {f : Nat → Int} (h : i < k) : U k f i = f i := by
  rw [U, dif_neg (by omega)]
theorem U_hi {k i : Nat} {f : Nat → Int} (h0 : 0 < k) (h : k ≤ i) : U k f i = f i + U k f (i - k) := by
  rw [U, dif_pos ⟨h0, h⟩]
theorem D_lo {k i : Nat} {f : Nat → Int} (h : i < k) : D k f i = f i := by unfold D; rw [if_neg (by omega)]
theorem D_hi {k i : Nat} {f : Nat → Int} (h : k ≤ i) : D k f i = f i - f (i - k) := by unfold D; rw [if_pos h]
theorem D_U {k : Nat} (h : 0 < k) (f : Nat → Int) : D k (U k f) = f := by
  funext i
  by_cases c : k ≤ i
  · rw [D_hi c, U_hi h c]; omega
  · rw [D_lo (by omega), U_lo (by omega)]
theorem U_D {k : Nat} (h : 0 < k) (f : Nat → Int) : U k (D k f) = f := by
  funext i
  induction i using Nat.strongRecOn with
  | ind i ih =>
    by_cases c : k ≤ i
    · rw [U_hi h c, D_hi c, ih (i - k) (by omega)]; omega
    · rw [U_lo (by omega), D_lo (by omega)]
theorem D_D (j k : Nat) (f : Nat → Int) : D j (D k f) = D k (D j f) := by
  funext i
  unfold D
  by_cases c1 : j ≤ i <;> by_cases c2 : k ≤ i
  · rw [if_pos c1, if_pos c2, if_pos c1, if_pos c2]
    by_cases c3 : k ≤ i - j
    · rw [if_pos c3, if_pos (show j ≤ i - k by omega), show i - j - k = i - k - j by omega]; omega
    · rw [if_neg c3, if_neg (show ¬ j ≤ i - k by omega)]; omega
  · rw [if_pos c1, if_neg c2, if_neg c2, if_pos c1, if_neg (show ¬ k ≤ i - j by omega)]
  · rw [if_neg c1, if_pos c2, if_pos c2, if_neg c1, if_neg (show ¬ j ≤ i - k by omega)]
  · rw [if_neg c1, if_neg c2, if_neg c2, if_neg c1]
theorem U_D' {j : Nat} (k : Nat) (h : 0 < j) (f : Nat → Int) : U j (D k f) = D k (U j f) := by
  have := U_D h (D k (U j f))
  rwa [D_D, D_U h] at this
theorem U_U {j k : Nat} (hj : 0 < j) (f : Nat → Int) : U j (U k f) = U k (U j f) := by
  by_cases hk : 0 < k
  · have := U_D hj (U k (U j f))
    rwa [← U_D' j hk, D_U hj] at this
  · have z : ∀ g, U k g = g := fun g => by funext i; rw [U, dif_neg (by omega)]
    rw [z, z]
def Ds (ns : List Nat) (f : Nat → Int) : Nat → Int := ns.foldl (fun g n => D n g) f
def Us (ns : List Nat) (f : Nat → Int) : Nat → Int := ns.foldl (fun g n => U n g) f
theorem Ds_app (u v : List Nat) (f : Nat → Int) : Ds (u ++ v) f = Ds v (Ds u f) := List.foldl_append
theorem Us_app (u v : List Nat) (f : Nat → Int) : Us (u ++ v) f = Us v (Us u f) := List.foldl_append
theorem D_Ds (k : Nat) : ∀ (u : List Nat) (f : Nat → Int), D k (Ds u f) = Ds u (D k f)
  | [], _ => rfl
  | n :: u, f => by
    show D k (Ds u (D n f)) = Ds u (D n (D k f))
    rw [D_Ds k u, D_D]
theorem Ds_Ds : ∀ (u v : List Nat) (f : Nat → Int), Ds u (Ds v f) = Ds v (Ds u f)
  | [], _, _ => rfl
  | n :: u, v, f => by
    show Ds u (D n (Ds v f)) = Ds v (Ds u (D n f))
    rw [D_Ds, Ds_Ds u v]
theorem U_Us {k : Nat} (h : 0 < k) : ∀ (u : List Nat) (f : Nat → Int), U k (Us u f) = Us u (U k f)
  | [], _ => rfl
  | n :: u, f => by
    show U k (Us u (U n f)) = Us u (U n (U k f))
    rw [U_Us h u, U_U h]
theorem Us_Us : ∀ (u v : List Nat) (f : Nat → Int), (∀ n, n ∈ u → 0 < n) → Us u (Us v f) = Us v (Us u f)
  | [], _, _, _ => rfl
  | n :: u, v, f, h => by
    show Us u (U n (Us v f)) = Us v (Us u (U n f))
    rw [U_Us (h n List.mem_cons_self), Us_Us u v _ fun m hm => h m (List.mem_cons_of_mem _ hm)]
theorem Us_D (k : Nat) : ∀ (u : List Nat) (f : Nat → Int), (∀ n, n ∈ u → 0 < n) → Us u (D k f) = D k (Us u f)
  | [], _, _ => rfl
  | n :: u, f, h => by
    show Us u (U n (D k f)) = D k (Us u (U n f))
    rw [U_D' k (h n List.mem_cons_self), Us_D k u _ fun m hm => h m (List.mem_cons_of_mem _ hm)]
theorem Us_Ds : ∀ (u : List Nat) (f : Nat → Int), (∀ n, n ∈ u → 0 < n) → Us u (Ds u f) = f
  | [], _, _ => rfl
  | n :: u, f, h => by
    have h' : ∀ m, m ∈ u → 0 < m := fun m hm => h m (List.mem_cons_of_mem _ hm)
    show Us u (U n (Ds u (D n f))) = f
    rw [← D_Ds, U_D (h n List.mem_cons_self), Us_Ds u f h']
def dl : Nat → Int := fun i => if i = 0 then 1 else 0
/-- from lo on, n numbers -/
def rg (lo n : Nat) : List Nat := (List.range n).map fun i => lo + i
theorem rg_pos {lo n : Nat} (h : 0 < lo) : ∀ m, m ∈ rg lo n → 0 < m := by
  intro m hm
  obtain ⟨i, _, rfl⟩ := List.mem_map.mp hm
  omega
theorem rg_app (lo n m : Nat) : rg lo (n + m) = rg lo n ++ rg (lo + n) m := by
  unfold rg
  rw [List.range_add, List.map_append, List.map_map]
  congr 1
  apply List.map_congr_left
  intro i _
  show lo + (n + i) = lo + n + i
  omega
theorem rg_cons (lo n : Nat) : rg lo (n + 1) = lo :: rg (lo + 1) n := by
  rw [Nat.add_comm, rg_app]; rfl
theorem rg_snoc (lo n : Nat) : rg lo (n + 1) = rg lo n ++ [lo + n] := by rw [rg_app]; rfl
/-- what the program makes: n turns, from 2 on -/
def pr (more : Nat) : Nat → (Nat → Int)
  | 0 => dl
  | n + 1 => U (n + 2) (D (more + n + 1) (pr more n))
theorem pr_is (more : Nat) : ∀ n, pr more n = Us (rg 2 n) (Ds (rg (more + 1) n) dl)
  | 0 => rfl
  | n + 1 => by
    rw [pr, pr_is more n, rg_snoc, rg_snoc, Us_app, Ds_app, show more + 1 + n = more + n + 1 by omega, show 2 + n = n + 2 by omega]
    show U (n + 2) (D (more + n + 1) (Us (rg 2 n) (Ds (rg (more + 1) n) dl))) = U (n + 2) (Us (rg 2 n) (D (more + n + 1) (Ds (rg (more + 1) n) dl)))
    rw [Us_D _ _ _ (rg_pos (by omega))]
/-- what the law makes -/
theorem law_le {a b : Nat} (ha : 0 < a) : Us (rg 1 a ++ rg 1 b) (Ds (1 :: rg 1 (a + b - 1)) dl) = pr b (a - 1) := by
  obtain ⟨n, rfl⟩ : ∃ n, a = n + 1 := ⟨a - 1, by omega⟩
  rw [show n + 1 + b - 1 = b + n by omega, show n + 1 - 1 = n by omega, pr_is, rg_app 1 b n, show 1 + b = b + 1 by omega]
  rw [show (1 :: (rg 1 b ++ rg (b + 1) n)) = [1] ++ (rg 1 b ++ rg (b + 1) n) from rfl, Ds_app, Ds_app, Us_app, Ds_Ds (rg (b + 1) n), Us_Us (rg 1 b) (rg 1 (n + 1)) _ (rg_pos (by omega)), Us_Ds _ _ (rg_pos (by omega)), rg_cons]
  show Us (rg 2 n) (U 1 (Ds (rg (b + 1) n) (D 1 dl))) = _
  rw [← D_Ds, U_D (by omega)]
theorem law_ge {a b : Nat} (hb : 0 < b) : Us (rg 1 a ++ rg 1 b) (Ds (1 :: rg 1 (a + b - 1)) dl) = pr a (b - 1) := by
  rw [Us_app, Us_Us (rg 1 b) (rg 1 a) _ (rg_pos (by omega)), ← Us_app, Nat.add_comm a b]
  exact law_le hb
theorem law_is {a b : Nat} (ha : 0 < a) (hb : 0 < b) : Us (rg 1 a ++ rg 1 b) (Ds (1 :: rg 1 (a + b - 1)) dl) = pr (max a b) (min a b - 1) := by
  by_cases c : a ≤ b
  · rw [Nat.max_eq_right c, Nat.min_eq_left c]; exact law_le ha
  · rw [Nat.max_eq_left (by omega), Nat.min_eq_right (by omega)]; exact law_ge hb
/-! ### lists -/
def tab (n : Nat) (f : Nat → Int) : List Int := (List.range n).map f
theorem tab_len {n : Nat} {f : Nat → Int} : (tab n f).length = n := by unfold tab; simp
theorem tab_get {n i : Nat} {f : Nat → Int} (h : i < n) : (tab n f)[i]? = some (f i) := by
  unfold tab; rw [List.getElem?_map, List.getElem?_range h]; rfl
theorem tab_set {n i : Nat} {f : Nat → Int} {v : Int} : (tab n f).set i v = tab n fun x => if x = i then v else f x := by
  apply List.ext_getElem?
  intro j
  rw [List.getElem?_set]
  by_cases c : j < n
  · rw [tab_get c]
    by_cases e : i = j
    · subst e; rw [if_pos rfl, if_pos (by rw [tab_len]; exact c), tab_get c]; simp
    · rw [if_neg e, tab_get c, if_neg fun z => e z.symm]
  · have h1 : (tab n f)[j]? = none := List.getElem?_eq_none (by rw [tab_len]; omega)
    have h2 : (tab n fun x => if x = i then v else f x)[j]? = none := List.getElem?_eq_none (by rw [tab_len]; omega)
    rw [h1, h2]
    by_cases e : i = j
    · subst e; rw [if_pos rfl, if_neg (by rw [tab_len]; exact c)]
    · rw [if_neg e]
theorem tab_congr {n : Nat} {f g : Nat → Int} (h : ∀ i, i < n → f i = g i) : tab n f = tab n g := by
  unfold tab
  exact List.map_congr_left fun i hi => h i (List.mem_range.mp hi)
/-! ### the same on lists, for reckoning -/
def dnL (k : Nat) (t : List Int) : List Int := List.zipWith (· - ·) t (List.replicate k 0 ++ t)
theorem dnL_tab {k n : Nat} {f : Nat → Int} : dnL k (tab n f) = tab n (D k f) := by
  apply List.ext_getElem?
  intro j
  unfold dnL
  rw [List.getElem?_zipWith]
  by_cases c : j < n
  · rw [tab_get c, tab_get c]
    by_cases e : k ≤ j
    · rw [List.getElem?_append_right (by simpa using e), List.length_replicate, tab_get (by omega), D_hi e]
    · rw [List.getElem?_append_left (by rw [List.length_replicate]; omega), List.getElem?_replicate, if_pos (by omega), D_lo (by omega)]
      simp
  · rw [List.getElem?_eq_none (by rw [tab_len]; omega : (tab n f).length ≤ j), List.getElem?_eq_none (by rw [tab_len]; omega : (tab n (D k f)).length ≤ j)]
def upG (k : Nat) : List Int → List Int → List Int
  | [], acc => acc.reverse
  | x :: t, acc => upG k t ((x + acc.getD (k - 1) 0) :: acc)
theorem upG_is {k : Nat} (hk : 0 < k) {f : Nat → Int} : ∀ (m i : Nat), upG k ((List.range m).map fun j => f (i + j)) (tab i (U k f)).reverse = tab (i + m) (U k f)
  | 0, i => by simp [upG]
  | m + 1, i => by
    rw [List.range_succ_eq_map, List.map_cons, upG]
    have e : f (i + 0) + (tab i (U k f)).reverse.getD (k - 1) 0 = U k f i := by
      rw [List.getD_eq_getElem?_getD, Nat.add_zero]
      by_cases c : k ≤ i
      · rw [List.getElem?_reverse (by rw [tab_len]; omega), tab_len, tab_get (by omega), U_hi hk c, show i - 1 - (k - 1) = i - k by omega]; rfl
      · rw [List.getElem?_eq_none (by rw [List.length_reverse, tab_len]; omega), U_lo (by omega)]; simp
    rw [e]
    have e2 : U k f i :: (tab i (U k f)).reverse = (tab (i + 1) (U k f)).reverse := by
      unfold tab
      rw [List.range_succ, List.map_append, List.reverse_append]; rfl
    rw [e2, List.map_map]
    have e3 : ((fun j => f (i + j)) ∘ Nat.succ) = fun j => f (i + 1 + j) := by
      funext j; show f (i + (j + 1)) = _; rw [show i + (j + 1) = i + 1 + j by omega]
    rw [e3, upG_is hk m (i + 1), show i + 1 + m = i + (m + 1) by omega]
def upL (k : Nat) (t : List Int) : List Int := upG k t []
theorem upL_tab {k n : Nat} (hk : 0 < k) {f : Nat → Int} : upL k (tab n f) = tab n (U k f) := by
  have := upG_is hk (f := f) n 0
  unfold upL
  rw [show tab n f = (List.range n).map fun j => f (0 + j) by unfold tab; apply List.map_congr_left; intro j _; rw [Nat.zero_add]]
  rw [show ([] : List Int) = (tab 0 (U k f)).reverse from rfl, this, Nat.zero_add]
def prL (sz more : Nat) : Nat → List Int
  | 0 => (1 : Int) :: List.replicate (sz - 1) 0
  | n + 1 => upL (n + 2) (dnL (more + n + 1) (prL sz more n))
theorem prL_tab {sz more : Nat} (h : 0 < sz) : ∀ n, prL sz more n = tab sz (pr more n)
  | 0 => by
    obtain ⟨s, rfl⟩ : ∃ s, sz = s + 1 := ⟨sz - 1, by omega⟩
    unfold prL tab pr
    rw [List.range_succ_eq_map, List.map_cons, List.map_map]
    congr 1
    rw [show s + 1 - 1 = s by omega]
    apply List.ext_getElem?
    intro j
    rw [List.getElem?_replicate, List.getElem?_map]
    by_cases c : j < s
    · rw [if_pos c, List.getElem?_range c]; rfl
    · rw [if_neg c, List.getElem?_eq_none (by simpa using c)]; rfl
  | n + 1 => by
    rw [prL, prL_tab h n, dnL_tab, upL_tab (by omega)]; rfl
/-! ### what is asked of the row of a:b -/
def qt (a b : Nat) : List Int := prL ((a - 1) * (b - 1) + 1) b (a - 1)
def lowG : List Int → Bool
  | [] => true
  | .ofNat n :: t => (n.blt (2 ^ 64)) && lowG t
  | .negSucc _ :: _ => false
end Pq

/-! Lp: loops over ranges of any step; lists that are told by a function. -/
namespace Lp
open PySem PySem.Spec PyProof.Rows L2 Sx
section
variable {σ : L2.St} {H : Hp} {nx bk ct : L2.St → Hp → Prop} {rt Q : VK} {tb : TS} {tl : TA} {g : TG} {K : PySem.W.Frag}
theorem r_for3 {D : Ends} (h : tl σ H fun vs H1 => ∃ (i j c : Int) (n : Nat), vs = [.int i, .int j, .int c] ∧ RgC i j c n ∧ FR (Itc i c n) g tb D σ H1) : tFor (iRng3 tl) g tb D σ H := h
theorem r_rng3 {P : Int → Int → Nat → Prop} {x y c : Int} (n : Nat) (r : RgC x y c n) (h : P x c n) : ∃ (i j c' : Int) (n : Nat), [V.int x, V.int y, V.int c] = [.int i, .int j, .int c'] ∧ RgC i j c' n ∧ P i c' n := ⟨x, y, c, n, rfl, r, h⟩
theorem fr_down {lo : Int} {n : Nat} (Pv : Nat → L2.St → Hp → Prop) (h0 : Pv 0 σ H) (hs : ∀ i σ H, i < n → Pv i σ H → g (.int (lo + (i : Nat) * (-1))) σ H fun σ2 H2 => tb ⟨Pv (i + 1), rt, nx, Pv (i + 1)⟩ σ2 H2)
    (hd : ∀ σ H, Pv n σ H → nx σ H) : FR (Itc lo (-1) n) g tb ⟨nx, rt, bk, ct⟩ σ H := for_rangeC Pv h0 hs hd
end
open Pq
def tb (n : Nat) (f : Nat → Int) : List V := (tab n f).map V.int
theorem tb_len {n : Nat} {f : Nat → Int} : (tb n f).length = n := by unfold tb; rw [List.length_map, tab_len]
theorem tb_at {n x : Nat} {f : Nat → Int} (h : x < n) : atI (tb n f) (x : Int) = some (.int (f x)) :=
  atI_nat (by unfold tb; rw [List.getElem?_map, tab_get h]; rfl)
theorem tb_ix {n x : Nat} (f : Nat → Int) (h : x < n) : ixN (tb n f).length (x : Int) = some x := by
  rw [tb_len]; unfold ixN; rw [if_pos (by omega), if_pos (by omega), Int.toNat_natCast]
theorem tb_set {n x : Nat} {f : Nat → Int} {v : Int} : (tb n f).set x (.int v) = tb n fun y => if y = x then v else f y := by
  unfold tb; rw [← List.map_set, tab_set]
theorem tb_congr {n : Nat} {f g : Nat → Int} (h : ∀ i, i < n → f i = g i) : tb n f = tb n g := by unfold tb; rw [tab_congr h]
theorem tb_dl {n : Nat} : tb (n + 1) dl = [V.int 1] ++ List.replicate n (V.int 0) := by
  unfold tb
  rw [show tab (n + 1) Pq.dl = prL (n + 1) 0 0 from (prL_tab (more := 0) (by omega) 0).symm]
  show [V.int 1] ++ (List.replicate (n + 1 - 1) (0 : Int)).map V.int = _
  rw [List.map_replicate, Nat.add_sub_cancel]
theorem flat_one {n : Nat} {x : V} : (List.replicate n [x]).flatten = List.replicate n x := by
  induction n with
  | zero => rfl
  | succ n ih => rw [List.replicate_succ, List.flatten_cons, ih, List.replicate_succ]; rfl
/-- after j turns downwards -/
def dnF (n k j : Nat) (f : Nat → Int) : Nat → Int := fun x => if n - j ≤ x then D k f x else f x
theorem dnF_0 {n k : Nat} {f : Nat → Int} : tb n (dnF n k 0 f) = tb n f := tb_congr fun i hi => by unfold dnF; rw [if_neg (by omega)]
theorem dnF_end {n k j : Nat} {f : Nat → Int} (h : j = n - k) : tb n (dnF n k j f) = tb n (D k f) := tb_congr fun i hi => by
  unfold dnF
  by_cases c : n - j ≤ i
  · rw [if_pos c]
  · rw [if_neg c, D_lo (by omega)]
theorem dnF_at {n k j x : Nat} {f : Nat → Int} (h : x < n - j) : dnF n k j f x = f x := by unfold dnF; rw [if_neg (by omega)]
theorem dnF_step {n k j : Nat} {f : Nat → Int} (hj : j < n - k) (hk : 0 < k) : (tb n (dnF n k j f)).set (n - 1 - j) (.int (dnF n k j f (n - 1 - j) - dnF n k j f (n - 1 - j - k))) = tb n (dnF n k (j + 1) f) := by
  rw [tb_set, dnF_at (by omega), dnF_at (by omega)]
  refine tb_congr fun i hi => ?_
  by_cases e : i = n - 1 - j
  · rw [if_pos e]; unfold dnF; rw [if_pos (by omega), D_hi (by omega), e]
  · rw [if_neg e]; unfold dnF
    by_cases c : n - j ≤ i
    · rw [if_pos c, if_pos (by omega)]
    · rw [if_neg c, if_neg (by omega)]
/-- after j turns upwards -/
def upF (k j : Nat) (f : Nat → Int) : Nat → Int := fun x => if x < k + j then U k f x else f x
theorem upF_0 {n k : Nat} {f : Nat → Int} : tb n (upF k 0 f) = tb n f := tb_congr fun i hi => by
  unfold upF
  by_cases c : i < k + 0
  · rw [if_pos c, U_lo (by omega)]
  · rw [if_neg c]
theorem upF_end {n k j : Nat} {f : Nat → Int} (h : n ≤ k + j) : tb n (upF k j f) = tb n (U k f) := tb_congr fun i hi => by unfold upF; rw [if_pos (by omega)]
theorem upF_step {n k j : Nat} {f : Nat → Int} (hk : 0 < k) : (tb n (upF k j f)).set (k + j) (.int (upF k j f (k + j) + upF k j f (k + j - k))) = tb n (upF k (j + 1) f) := by
  rw [tb_set]
  refine tb_congr fun i hi => ?_
  by_cases e : i = k + j
  · rw [if_pos e]; subst e; unfold upF; rw [if_neg (by omega), if_pos (by omega), if_pos (by omega), U_hi hk (show k ≤ k + j by omega)]
  · rw [if_neg e]; unfold upF
    by_cases c : i < k + j
    · rw [if_pos c, if_pos (by omega)]
    · rw [if_neg c, if_neg (by omega)]
end Lp

/-! Lq: sorted rows of places. -/
namespace Lq
open PySem PySem.Spec PyProof.Rows L2 Sx Sy
def RowAt (H : Hp) (lv : List Int) (p : Addr) (j : Nat) : Prop :=
  ∃ r, H p = some (.tup [.ref r, .int (0 - (j : Int))]) ∧ H r = some (.tup [.int (Lo.rk (Lo.at' lv j)), .int (0 - Lo.at' lv j)])
theorem RowAt.mono {H H' : Hp} {lv : List Int} {p : Addr} {j : Nat} (h : RowAt H lv p j) (s : Same H H') : RowAt H' lv p j := by
  obtain ⟨r, a, b⟩ := h; exact ⟨r, s _ _ a, s _ _ b⟩
def num (H : Hp) (v : V) : Nat := match v with
  | .ref p => (match H p with | some (.tup [_, .int m]) => (0 - m).toNat | _ => 0)
  | _ => 0
theorem num_at {H : Hp} {lv : List Int} {p : Addr} {j : Nat} (h : RowAt H lv p j) : num H (.ref p) = j := by
  obtain ⟨r, a, _⟩ := h
  unfold num
  simp only [a]
  omega
theorem dp_row {K : PySem.W.Frag} {H : Hp} {lv : List Int} {p : Addr} {j : Nat} (h : RowAt H lv p j) : Dp K H (.ref p) (Lo.rowD lv j) := by
  obtain ⟨r, a, b⟩ := h
  exact .tup (SqT.of a) (.cons (.tup (SqT.of b) (.cons (.int _) (.cons (.int _) .nil))) (.cons (.int _) .nil))
theorem dp_rows {K : PySem.W.Frag} {H : Hp} {lv : List Int} : ∀ (ps : List Addr) (k : Nat), (∀ j p, ps[j]? = some p → RowAt H lv p (k + j)) → DpAll K H (ps.map V.ref) ((List.range' k ps.length).map (Lo.rowD lv))
  | [], _, _ => .nil
  | p :: ps, k, h => by
    rw [List.map_cons, List.length_cons, List.range'_succ, List.map_cons]
    refine .cons (dp_row (h 0 p rfl)) (dp_rows ps (k + 1) fun j q e => ?_)
    have := h (j + 1) q e
    rw [show k + 1 + j = k + (j + 1) by omega]; exact this
theorem alike_rows (lv : List Int) (i j : Nat) : PySem.W.alike (Lo.rowD lv i) (Lo.rowD lv j) = true := by
  unfold Lo.rowD; simp [PySem.W.alike, PySem.W.alikeAll]
theorem deep_row (lv : List Int) (i : Nat) : (Lo.rowD lv i).depth ≤ 60 := by
  unfold Lo.rowD; simp [PyData.depth, PyData.depthAll]
theorem sort_rows {K : PySem.W.Frag} {H : Hp} {Q : VK} {l : Addr} {lv : List Int} {ps : List Addr} (hs : H l = some (.lst (ps.map V.ref))) (hl : ps.length = lv.length) (hr : ∀ j p, ps[j]? = some p → RowAt H lv p j)
    (q : ∀ p ws, H p = none → (∀ w, w ∈ ws → ∃ a, w = V.ref a ∧ RowAt H lv a (num H w)) → Lo.IsOrd lv (ws.map (num H)) → Q (.ref p) (upd H p (.lst ws))) : So.qSortD K [.ref l] H Q := by
  have at_ : ∀ j z, ((ps.map V.ref).zip ((List.range' 0 ps.length).map (Lo.rowD lv)))[j]? = some z → ∃ p, ps[j]? = some p ∧ z = (V.ref p, Lo.rowD lv j) := fun j z e => by
    rw [List.getElem?_zip_eq_some] at e
    obtain ⟨e1, e2⟩ := e
    rw [List.getElem?_map] at e1 e2
    obtain ⟨p, hp, e3⟩ := Option.map_eq_some_iff.mp e1
    obtain ⟨k, hk, e4⟩ := Option.map_eq_some_iff.mp e2
    have kj : k = j := by
      rw [List.getElem?_range' (List.getElem?_eq_some_iff.mp hp).1] at hk
      have := Option.some.inj hk
      omega
    subst kj
    exact ⟨p, hp, Prod.ext e3.symm e4.symm⟩
  refine ⟨l, _, _, rfl, SqL.of hs, dp_rows ps 0 (fun j p e => by rw [Nat.zero_add]; exact hr j p e), ?_, .inl ?_, ?_, fun p hp => ?_⟩
  · intro d hd e he
    obtain ⟨i, _, rfl⟩ := List.mem_map.mp hd
    obtain ⟨j, _, rfl⟩ := List.mem_map.mp he
    exact alike_rows lv i j
  · intro d hd
    obtain ⟨i, _, rfl⟩ := List.mem_map.mp hd
    exact ⟨_, _, rfl⟩
  · intro d hd
    obtain ⟨i, _, rfl⟩ := List.mem_map.mp hd
    exact deep_row lv i
  · refine q p _ hp (fun w mw => ?_) ?_
    · obtain ⟨z, mz, rfl⟩ := List.mem_map.mp mw
      obtain ⟨j, hj⟩ := List.getElem?_of_mem ((List.mergeSort_perm _ _).mem_iff.mp mz)
      obtain ⟨a, ha, rfl⟩ := at_ j z hj
      refine ⟨a, rfl, ?_⟩
      rw [num_at (hr j a ha)]
      exact hr j a ha
    · refine Lo.sorted_is (num H) (fun z mz => ?_) ?_
      · obtain ⟨j, hj⟩ := List.getElem?_of_mem mz
        obtain ⟨a, ha, rfl⟩ := at_ j z hj
        rw [num_at (hr j a ha)]
      · refine List.Perm.of_eq (List.ext_getElem? fun j => ?_)
        rw [List.getElem?_map]
        cases e : ((ps.map V.ref).zip ((List.range' 0 ps.length).map (Lo.rowD lv)))[j]? with
        | some z =>
          obtain ⟨a, ha, rfl⟩ := at_ j z e
          have := (List.getElem?_eq_some_iff.mp ha).1
          rw [Option.map_some, num_at (hr j a ha), List.getElem?_range (by omega)]
        | none =>
          have := List.getElem?_eq_none_iff.mp e
          rw [List.length_zip, List.length_map, List.length_map, List.length_range'] at this
          rw [Option.map_none, List.getElem?_eq_none (by rw [List.length_range]; omega)]
end Lq

/-! Ct: sums and parts of tuples, empty ones too. -/
namespace Ct
open PySem PySem.Spec PyProof.Rows L2 Sx
variable {K : PySem.W.Frag} {H : Hp} {Q : VK} {a b : Addr} {xs ys : List V}
theorem r_catA (ha : H a = some (.tup xs)) (hb : H b = some (.tup ys)) (hz : xs.length + ys.length ≤ sizeLine) (q : ∀ g H', Same H H' → H' g = some (.tup (xs ++ ys)) → Q (.ref g) H') : rCatA K (.ref a) (.ref b) H Q := by
  refine ⟨a, b, xs, ys, rfl, rfl, SqT.of ha, SqT.of hb, hz, fun e => ?_, fun _ e => ?_, fun _ _ p hp => q p _ (same_new hp) upd_same⟩
  · subst e; exact q b H (Same.refl H) hb
  · subst e; exact q a H (Same.refl H) (by rw [List.append_nil]; exact ha)
theorem r_slA {lo hi : Option Int} (ha : H a = some (.tup xs)) (q : ∀ g H', Same H H' → H' g = some (.tup (cutV xs lo hi)) → Q (.ref g) H') : rSlA K (.ref a) lo hi H Q := by
  refine ⟨a, xs, rfl, SqT.of ha, fun e => ?_, fun _ p hp => q p _ (same_new hp) upd_same⟩
  refine q a H (Same.refl H) ?_
  unfold cutV
  rw [e.1, e.2, List.drop_zero, Nat.sub_zero, List.take_length]
  exact ha
theorem cut_fr {k : Nat} : cutV xs (some (k : Int)) none = xs.drop k := by
  unfold cutV
  rw [HT.sIx_none, HT.sIx_nat]
  rcases Nat.le_total k xs.length with h | h
  · rw [Nat.min_eq_left h]
    exact List.take_of_length_le (by rw [List.length_drop]; exact Nat.le_refl _)
  · rw [Nat.min_eq_right h, Nat.sub_self, List.take_zero, List.drop_of_length_le h]
theorem cut_up {k : Nat} : cutV xs none (some (k : Int)) = xs.take k := by
  unfold cutV
  rw [HT.sIx_none, HT.sIx_nat, List.drop_zero, Nat.sub_zero, List.take_eq_take_iff]
  omega
theorem cut_last : cutV xs none (some (-1)) = xs.take (xs.length - 1) := by
  unfold cutV
  have e : HT.sIx xs.length xs.length (some (-1)) = xs.length - 1 := by
    show (if (-1 : Int) < 0 then ((-1 : Int) + (xs.length : Int)).toNat else min (-1 : Int).toNat xs.length) = xs.length - 1
    rw [if_pos (by decide)]; omega
  rw [e, HT.sIx_none, List.drop_zero, Nat.sub_zero]
theorem r_tupRg1 {ta : TE} {σ : L2.St} (h : ta σ H fun x H1 => ∃ n, x = .int n ∧ RgOk 0 n ∧ ∀ q, H1 q = none → Q (.ref q) (upd H1 q (.tup (rgV 0 n)))) : tTupRg (tRg1 ta) σ H Q := h
end Ct

/-! Sl: sorted letters, lists of truth values. -/
namespace Sl
open PySem PySem.Spec PyProof.Rows L2 Sx Sy Dl Me
open SX (S)
theorem one_S (u : List Nat) : Ss.one (S u) = u.map ch := by
  unfold Ss.one
  rw [show (S u).cps.toList = u from List.toList_toArray]
  rfl
theorem sorted_le {ys : List Str} {ks : List Nat} (pm : ys.Perm (ks.map ch)) (hs : sortedS ys = true) : ∃ zs : List Nat, ys = zs.map ch ∧ zs.Perm ks ∧ zs.Pairwise (· ≤ ·) := by
  obtain ⟨zs, rfl⟩ : ∃ zs : List Nat, ys = zs.map ch := by
    have all : ∀ y, y ∈ ys → ∃ c, y = ch c := fun y m => by
      obtain ⟨c, _, e⟩ := List.mem_map.mp (pm.mem_iff.mp m); exact ⟨c, e.symm⟩
    clear pm hs
    induction ys with
    | nil => exact ⟨[], rfl⟩
    | cons y ys ih =>
      obtain ⟨c, rfl⟩ := all y List.mem_cons_self
      obtain ⟨zs, rfl⟩ := ih fun y m => all y (List.mem_cons_of_mem _ m)
      exact ⟨c :: zs, rfl⟩
  refine ⟨zs, rfl, ?_, ?_⟩
  · have q := pm.map fun s : Str => s.cps[0]?.getD 0
    rw [List.map_map, List.map_map] at q
    rw [show ((fun s : Str => s.cps[0]?.getD 0) ∘ ch) = id from rfl, List.map_id, List.map_id] at q
    exact q
  · cases zs with
    | nil => exact .nil
    | cons z zs => exact rising_ch z zs hs
theorem same_sorted {ys zs : List Str} {u v : List Nat} (p1 : ys.Perm (Ss.one (S u))) (s1 : sortedS ys = true) (p2 : zs.Perm (Ss.one (S v))) (s2 : sortedS zs = true) (h : u.Perm v) : ys = zs := by
  rw [one_S] at p1 p2
  obtain ⟨a, rfl, pa, la⟩ := sorted_le p1 s1
  obtain ⟨b, rfl, pb, lb⟩ := sorted_le p2 s2
  rw [List.Perm.eq_of_pairwise (fun x y _ _ h1 h2 => Nat.le_antisymm h1 h2) la lb (pa.trans (h.trans pb.symm))]
theorem ok_let : ∀ c, c ∈ LET → PyData.strOk (ch c) = true := by decide +kernel
theorem ok_all {ys : List Str} {u : List Nat} (p : ys.Perm (Ss.one (S u))) (h : ∀ c, c ∈ u → c ∈ LET) : ys.all PyData.strOk = true := by
  rw [one_S] at p
  refine List.all_eq_true.mpr fun y m => ?_
  obtain ⟨c, mc, rfl⟩ := List.mem_map.mp (p.mem_iff.mp m)
  exact ok_let c (h c mc)
theorem dpB {K : PySem.W.Frag} {H : Hp} : ∀ bs : List Bool, DpAll K H (bs.map V.bl) (bs.map PyData.bool)
  | [] => .nil
  | b :: bs => .cons (.bl b) (dpB bs)
theorem lay_bools : ∀ bs : List Bool, PyData.canLayAll0 (bs.map PyData.bool) = true
  | [] => rfl
  | b :: bs => by
    rw [List.map_cons]
    simp only [PyData.canLayAll0, PyData.canLay0, lay_bools bs, Bool.and_self]
theorem deep_bools : ∀ bs : List Bool, PyData.depthAll (bs.map PyData.bool) ≤ 1
  | [] => by simp [PyData.depthAll]
  | b :: bs => by
    have := deep_bools bs
    rw [List.map_cons]
    simp only [PyData.depthAll, PyData.depth]
    omega
theorem sh_bools (bs : List Bool) : SeqAt.shaped (.list (bs.map PyData.bool)) = true := lst_ok (lay_bools bs) (Nat.le_trans (deep_bools bs) (by decide))
theorem getD_all {u o : List Nat} (h : o.Perm (List.range u.length)) : (o.map fun j => u.getD j 0).Perm u := by
  refine (h.map _).trans (List.Perm.of_eq ?_)
  refine List.ext_getElem? fun j => ?_
  rw [List.getElem?_map]
  rcases Nat.lt_or_ge j u.length with l | l
  · rw [List.getElem?_range l, List.getElem?_eq_getElem l, Option.map_some, List.getD_eq_getElem?_getD, List.getElem?_eq_getElem l]; rfl
  · rw [List.getElem?_eq_none (by rw [List.length_range]; exact l), List.getElem?_eq_none l]; rfl
end Sl

/-! Er: error classes over any built-in one, whose own __init__ keeps one value. -/
namespace Er
open PySem PySem.Spec PyProof.Rows L2 Sx PySem.Builtin.ObjectAttr
/-- the class at C, its __init__ a def at fI, the mro of its built-in base bmB, made by nw -/
structure Own (K : PySem.W.Frag) (C fI : Addr) (bmB : List Value) (nw : String) : Prop where
  made : PySem.W.excInitIn K C bmB nw = true
  over : PySem.W.excOver K C bmB = true
  dict : PySem.W.hasDictIn K C = true
  sets : PySem.W.findIn K (.ref C) "__setattr__" = some (some (.builtin "object.__setattr__"))
  init : PySem.W.findIn K (.ref C) "__init__" = some (some (.ref fI))
  fn : PySem.W.isFn K (.ref fI) = true
  kept : PySem.W.keepIn K (.ref C) = true
  exc : PySem.W.subIn K (.ref C) (.type "BaseException") = some true
  ty : PySem.W.typeIn K (.ref C) = some (.type "type")
  gets : PySem.W.findIn K (.ref C) "__getattribute__" = some (some (.builtin "BaseException.__getattribute__"))
  none' : PySem.W.findIn K (.ref C) "__getattr__" = some none
theorem Own.raises {X : Cx} {C fI : Addr} {bm : List Value} {nw : String} (T : Own X.K C fI bm nw) : Raises X (.ref C) := raises_own T.exc T.ty
theorem Own.field {K : PySem.W.Frag} {C fI : Addr} {bm : List Value} {nw : String} (T : Own K C fI bm nw) : XfC K C := ⟨T.gets, T.none', T.exc, T.dict⟩
section
variable {X : Cx} {pins : List (Addr × Obj)} {σ : L2.St} {H : Hp} {s : Shared} {C fI : Addr} {bm : List Value} {nw B : String}
/-- the first field of a fresh error -/
theorem first_field {a : Addr} {f : Str} {y : V} {u : Value} {Q : Unit → Shared → Prop} {E : Value → Shared → Prop} {A : Around} (T : Own X.K C fI bm nw) (SF : StoreFacts B bm "object.__setattr__" "object")
    (no : PySem.W.findIn X.K (.ref C) f = some none) (I : Inv X pins σ H s) (ha : H a = some (exo a C none)) (r : RelV y u)
    (go : ∀ dx s', H dx = none → dx ≠ a → Inv X pins σ (upd (upd H dx (exd dx [(f, y)])) a (exo a C (some dx))) s' → Q () s') : wpAny (model X.prog X.w) A (setAttr (.ref a) f u) Q E s := by
  obtain ⟨t1, at0⟩ := exo_at I.hok ha
  obtain ⟨cd, hcd, hdict⟩ : ∃ cd, PySem.W.clsIn X.K C = some cd ∧ cd.hasDict = true := PySem.W.any_some T.dict
  obtain ⟨hp, gs, dr, tk, os⟩ := s
  have inst : PySem.W.InstAt hp a { cls := .ref C, dict := none, data := .fields #[.ref t1, .none, .none, .none, .bool false, .none] } C none := ⟨at0, rfl, rfl, trivial⟩
  refine PySem.W.set_plain I.kIn inst T.sets ?_
  have taker : PySem.W.takerIn X.K C f = some none := by unfold PySem.W.takerIn; rw [no]; rfl
  refine PySem.W.osa_openX SF I.kIn inst T.over taker fun bb => ?_
  have know : PySem.W.Looks (model X.prog X.w) hp (classData C) cd := PySem.W.looks_clsIn I.kIn hcd
  have apart : hp.objs.size ≠ a := fun z => Nat.lt_irrefl _ (by have q := Heap.lt_size at0; rw [← z] at q; exact q)
  show wpAny _ _ (storeInOwnDict (.ref a) (.ref C) (.str f tk) f u bb) _ _ _
  obtain ⟨nm, bs, mro, ns, qn, hd, sn, sb, ab, col, dl⟩ := cd
  dsimp only at hdict
  subst hdict
  unfold storeInOwnDict ownDictForStores
  repeat (first | with_reducible refine HandSPX.store_in_new ?_ ?_ | with_reducible refine wpAny_loadPart_at at0 ?_ | with_reducible refine know.at ?_ | wp_step)
  · refine ⟨_, #[], _, (Heap.get?_update_ne _ _ _ _ apart).trans (Heap.get?_push_at rfl rfl), rfl, ?_, fun _ => rfl⟩
    intro z hz
    exact absurd hz (by simp)
  · intro h3 t3 named same
    have at1 : (hp.push { cls := .type "dict", data := .dict #[] }).get? a = some _ := Heap.get?_push_of_some _ at0
    have old : ∀ b o, b ≠ a → hp.get? b = some o → h3.get? b = some o := fun b o hb e => (same.2 b (Nat.ne_of_lt (Heap.lt_size e))).trans ((Heap.get?_update_ne _ _ _ _ hb).trans (Heap.get?_push_of_some _ e))
    have at3 : h3.get? a = some { cls := .ref C, dict := some hp.objs.size, data := .fields #[.ref t1, .none, .none, .none, .bool false, .none] } := (same.2 a (Ne.symm apart)).trans (Heap.get?_update_self _ at1 rfl)
    have newD : H hp.objs.size = none := I.hok.fresh (Nat.le_refl _)
    -- in two steps: the dict beside the error as it was, then the error
    have back : (h3.update a fun _ => { cls := .ref C, dict := none, data := .fields #[.ref t1, .none, .none, .none, .bool false, .none] }).get? a = some { cls := .ref C, dict := none, data := .fields #[.ref t1, .none, .none, .none, .bool false, .none] } := Heap.get?_update_self _ at3 rfl
    have beside : ∀ b, b ≠ a → (h3.update a fun _ => { cls := .ref C, dict := none, data := .fields #[.ref t1, .none, .none, .none, .bool false, .none] }).get? b = h3.get? b := fun b hb => Heap.get?_update_ne _ _ _ _ hb
    have I1 : Inv X pins σ (upd H hp.objs.size (exd hp.objs.size [(f, y)])) ⟨h3.update a fun _ => { cls := .ref C, dict := none, data := .fields #[.ref t1, .none, .none, .none, .bool false, .none] }, gs, dr, t3, os⟩ := by
      refine I.laid (t' := t3) (fun b o e => ?_) (Nat.le_refl _) (exd_ok (named.at fun o q => (beside _ apart).trans q) (relO_put (fs := []) r fun g => True.intro))
      by_cases hb : b = a
      · subst hb; rw [at0] at e; cases e; exact back
      · rw [beside b hb]; exact old b o hb e
    have ha1 : upd H hp.objs.size (exd hp.objs.size [(f, y)]) a = some (exo a C none) := by rw [upd_ne (Ne.symm apart)]; exact ha
    have I2 := I1.write (t' := t3) (h' := h3) (x := a) (e := a) (o := exo a C (some hp.objs.size)) (by rw [ha1]; exact True.intro) (.inl rfl) (fun b o hb e => by rw [beside b hb] at e; exact e) ⟨_, at3⟩ (exo_ok at3)
    exact go _ _ newD apart I2
/-- self.f = e in such an __init__ -/
def tSelf (C : Addr) (f : Str) (to te : TE) : TS := fun D σ H => te σ H fun y H1 => to σ H1 fun x H2 => ∃ a : Addr, x = .ref a ∧ H2 a = some (exo a C none) ∧
  ∀ dx, H2 dx = none → dx ≠ a → D.nx σ (upd (upd H2 dx (exd dx [(f, y)])) a (exo a C (some dx)))
theorem ps_self {o e : Expr} {f : Str} {p1 pos : Pos} {to te : TE} (T : Own X.K C fI bm nw) (SF : StoreFacts B bm "object.__setattr__" "object") (no : PySem.W.findIn X.K (.ref C) f = some none) (ho : PE X o to) (he : PE X e te)
    (sw : swapsWith e (some (.Attribute o f p1)) pos.line X.env = pure false := by rfl) : PS X (.Assign [.Attribute o f p1] e pos) (tSelf C f to te) := by
  constructor
  intro pn s σ H D I now
  refine plainObj_wpAny_Assign_Attribute (thn (he.run pn s σ H _ I now) ?_) sw
  rintro v s1 ⟨y, H1, I1, r1, now1⟩
  refine thn (ho.run pn s1 σ H1 _ I1 now1) ?_
  rintro z s2 ⟨x, H2, I2, r2, a, rfl, ha, go⟩
  obtain rfl : z = Value.ref a := r2
  exact first_field T SF no I2 ha r1 fun dx s' n ne J => ⟨σ, _, J, go dx n ne⟩
end
/-- what __init__ promises -/
def spInit (C : Addr) (f : Str) : Sp := fun vs H Q _ => ∃ (a : Addr) (v : V), vs = [.ref a, v] ∧ H a = some (exo a C none) ∧ ∀ dx, H dx = none → dx ≠ a → Q .non (upd (upd H dx (exd dx [(f, v)])) a (exo a C (some dx)))
theorem r_self {C a : Addr} {f : Str} {to te : TE} {nx bk ct : L2.St → Hp → Prop} {rt : VK} {σ : L2.St} {H : Hp}
    (h : te σ H fun y H1 => to σ H1 fun x H2 => ∃ a : Addr, x = .ref a ∧ H2 a = some (exo a C none) ∧ ∀ dx, H2 dx = none → dx ≠ a → nx σ (upd (upd H2 dx (exd dx [(f, y)])) a (exo a C (some dx)))) : tSelf C f to te ⟨nx, rt, bk, ct⟩ σ H := h
/-- C(e) -/
def tErr (C : Addr) (f : Str) (ta : TA) : L2.St → Hp → XK → Prop := fun σ H Q => ta σ H fun vs H1 => ∃ v, vs = [v] ∧ ∀ d, H1 d = none → Q (.ref C) (some d) (upd H1 d (.xd [(f, v)]))
theorem pmk_err {X : Cx} {x f : Str} {C fI : Addr} {bm : List Value} {nw B ini : String} {k : Nat} {fd : FuncData} {ps : List Str} {e : Expr} {ta : TA} {p pos : Pos} (T : Own X.K C fI bm nw) (F : ExcBaseFacts B nw ini bm)
    (F1 : FnOk X.prog X.w X.K X.mg X.base C8.CX0 k fI fd ps (spInit C f)) (hr : Room (k + 1) X.A) (hb : Binds X.K fd ps []) (hg : Gl X x) (hm : X.mg x = some (.ref C)) (ha : PA X [e] ta)
    (nd : (x == ("__debug__" : Str)) = false := by decide) (he : starEach (e :: []) X.env = (false, eval e X.env) :: starEach [] X.env := by rfl) (hpl : (backTo pos (starEach [] X.env)).any (·.1) = false := by rfl) :
    PMk X (.Call (.Name x p) [e] [] pos) (tErr C f ta) := by
  intro pins s σ H Q I now
  refine wpAny_Call_Name_kw (ld_glob I hg hm ?_ nd)
  refine PySem.W.callWith_K (h₀ := X.base) I.ok.mod.kin T.kept (thn (ha.run pos pins s σ H _ I now) ?_) he hpl
  rintro us s1 ⟨vs, H1, I1, r1, v, rfl, go⟩
  refine ⟨I1.kIn, ?_⟩
  show wpAny _ _ (call (.ref C) us) _ _ _
  obtain ⟨nm, N', qn, bs, bm', hdct, sn, sub, ab, col, dd, k0, k1, k2, k3, k5, hC, tail⟩ := PySem.W.excInit_of I1.kIn T.made
  obtain ⟨hp, g, dr, tk, os⟩ := s1
  cases r1 with
  | @cons _ v' _ us' rv rest =>
    cases rest
    have grow : hp.objs.size ≤ hp.objs.size + 1 := Nat.le_succ _
    have fresh : H1 (hp.objs.size + 1) = none := I1.hok.fresh grow
    have kept : ∀ b o, hp.get? b = some o → ((hp.push (PySem.W.kdv_tup [v'])).push (PySem.HandSPX.excO C hp.objs.size)).get? b = some o := fun b o z => Heap.get?_push_of_some _ (Heap.get?_push_of_some _ z)
    have there : ((hp.push (PySem.W.kdv_tup [v'])).push (PySem.HandSPX.excO C hp.objs.size)).get? (hp.objs.size + 1) = some (PySem.HandSPX.excO C hp.objs.size) := by heap_get
    have I2 : Inv X pins σ (upd H1 (hp.objs.size + 1) (exo (hp.objs.size + 1) C none)) ⟨(hp.push (PySem.W.kdv_tup [v'])).push (PySem.HandSPX.excO C hp.objs.size), g, dr, tk, os⟩ := I1.laid (t' := tk) kept grow (exo_ok there)
    have wish : spInit C f [.ref (hp.objs.size + 1), v] (upd H1 (hp.objs.size + 1) (exo (hp.objs.size + 1) C none))
        (fun w H2 => w = .non ∧ ∃ d : Addr, H2 (hp.objs.size + 1) = some (exo (hp.objs.size + 1) C (some d)) ∧ H2 d = some (exd d [(f, v)]) ∧ H1 d = none ∧ Q (.ref C) (some d) (upd (del H2 (hp.objs.size + 1)) d (.xd [(f, v)]))) (fun _ _ _ => False) := by
      refine ⟨_, v, rfl, upd_same, fun dx n ne => ⟨rfl, dx, upd_same, by rw [upd_ne ne, upd_same], by rw [upd_ne ne] at n; exact n, ?_⟩⟩
      have n1 : H1 dx = none := by rw [upd_ne ne] at n; exact n
      have same : upd (del (upd (upd (upd H1 (hp.objs.size + 1) (exo (hp.objs.size + 1) C none)) dx (exd dx [(f, v)])) (hp.objs.size + 1) (exo (hp.objs.size + 1) C (some dx))) (hp.objs.size + 1)) dx (.xd [(f, v)]) = upd H1 dx (.xd [(f, v)]) := by
        funext b
        by_cases h1 : b = dx
        · subst h1; rw [upd_same, upd_same]
        · rw [upd_ne h1, upd_ne h1]
          by_cases h2 : b = hp.objs.size + 1
          · subst h2; rw [del_same, fresh]
          · rw [del_ne h2, upd_ne h2, upd_ne h1, upd_ne h2]
      rw [same]
      exact go dx n1
    have args : Vals [V.ref (hp.objs.size + 1), v] [Value.ref (hp.objs.size + 1), v'] := .cons rfl (.cons rv .nil)
    have len : ([Value.ref (hp.objs.size + 1), v'] : List Value).length = ps.length := by have z := F1.len _ _ _ _ wish; exact z ▸ rfl
    have isf : PySem.W.typeIn X.K (.ref fI) = some (.type "function") := by
      have z := T.fn
      unfold PySem.W.isFn at z
      exact beq_iff_eq.mp z
    refine wpAny_call (PySem.HandSPX.call_own F tail hC (PySem.W.looks_findIn I1.kIn T.init) (fun self => PySem.W.bind_fn I1.kIn self isf) (by rw [sizeLine_eq]; exact (by decide : (1 : Nat) ≤ 16777216)) ?_)
    refine codeAny_mono (F1.run _ X.stack _ _ ⟨[Value.ref (hp.objs.size + 1), v'], []⟩ [Value.ref (hp.objs.size + 1), v'] _ _ (fun _ _ _ => False) (hr.make C _ []) (I2.env0.make C _ []) ?_ args wish) ?_
    · have z := hb ⟨(hp.push (PySem.W.kdv_tup [v'])).push (PySem.HandSPX.excO C hp.objs.size), g, dr, tk, os⟩ [Value.ref (hp.objs.size + 1), v'] I2.kIn
      rw [List.append_nil] at z
      exact z len
    · intro res s' got
      cases res with
      | error er => exact (show False from got).elim
      | ok fl =>
        cases fl with
        | next => exact False.elim got
        | brk => exact False.elim got
        | cont => exact False.elim got
        | ret u =>
          obtain ⟨w', H2, os2, bare2, un2, hok2, rw', ew, d, ea, ed, hd1, q2⟩ := got
          subst ew
          obtain ⟨h2, g2, d2, t2, os'⟩ := s'
          exact ⟨rw', mk_end T.raises I1 grow kept un2 hok2 os2 bare2 ea ed hd1 q2⟩
theorem ps_err {X : Cx} {W : WX} {x f : Str} {C fI : Addr} {bm : List Value} {nw B ini : String} {k : Nat} {fd : FuncData} {ps : List Str} {e : Expr} {ta : TA} {p pos pos2 : Pos} (hc : X.calm = true) (tk : Takes X W) (T : Own X.K C fI bm nw) (F : ExcBaseFacts B nw ini bm)
    (F1 : FnOk X.prog X.w X.K X.mg X.base C8.CX0 k fI fd ps (spInit C f)) (hr : Room (k + 1) X.A) (hb : Binds X.K fd ps []) (hg : Gl X x) (hm : X.mg x = some (.ref C)) (ha : PA X [e] ta)
    (nd : (x == ("__debug__" : Str)) = false := by decide) (he : starEach (e :: []) X.env = (false, eval e X.env) :: starEach [] X.env := by rfl) (hpl : (backTo pos (starEach [] X.env)).any (·.1) = false := by rfl) :
    PS X (.Raise (some (.Call (.Name x p) [e] [] pos)) none pos2) (fun _ σ H => tErr C f ta σ H fun cls d H' => W cls d σ H') :=
  ps_raise hc tk (pmk_err T F F1 hr hb hg hm ha nd he hpl)
/-- raise C(e), raise C('m'): what comes out -/
def tRaise (C : Addr) (f : Str) (E : XK) (ta : TA) : TS := fun _ σ H => tErr C f ta σ H fun cls d H' => E cls d H'
def tRaise0 (C : Addr) (E : XK) : TS := fun _ _ H => E (.ref C) none H
theorem ps_raise1 {X : Cx} {E : XK} {x f : Str} {C fI : Addr} {bm : List Value} {nw B ini : String} {k : Nat} {fd : FuncData} {ps : List Str} {e : Expr} {ta : TA} {p pos pos2 : Pos} (hc : X.calm = true) (tk : Takes X (fun cls d _ H => E cls d H)) (T : Own X.K C fI bm nw) (F : ExcBaseFacts B nw ini bm)
    (F1 : FnOk X.prog X.w X.K X.mg X.base C8.CX0 k fI fd ps (spInit C f)) (hr : Room (k + 1) X.A) (hb : Binds X.K fd ps []) (hg : Gl X x) (hm : X.mg x = some (.ref C)) (ha : PA X [e] ta)
    (nd : (x == ("__debug__" : Str)) = false := by decide) (he : starEach (e :: []) X.env = (false, eval e X.env) :: starEach [] X.env := by rfl) (hpl : (backTo pos (starEach [] X.env)).any (·.1) = false := by rfl) :
    PS X (.Raise (some (.Call (.Name x p) [e] [] pos)) none pos2) (tRaise C f E ta) := ps_err hc tk T F F1 hr hb hg hm ha nd he hpl
theorem ps_raise0 {X : Cx} {E : XK} {x m : Str} {C : Addr} {bm : List Value} {nw B ini : String} {j : Nat} {p p2 pos pos2 : Pos} (hc : X.calm = true) (tk : Takes X (fun cls d _ H => E cls d H)) (F : ExcBaseFacts B nw ini bm)
    (q : PySem.W.excIn X.K C bm nw = true) (hm : X.mg x = some (.ref C)) (kp : PySem.W.keepIn X.K (.ref C) = true) (ex : PySem.W.subIn X.K (.ref C) (.type "BaseException") = some true) (ty : PySem.W.typeIn X.K (.ref C) = some (.type "type")) (hg : Gl X x)
    (nd : (x == ("__debug__" : Str)) = false := by decide) : PS X (.Raise (some (.Call (.Name x p) [.Constant (.str m) j p2] [] pos)) none pos2) (tRaise0 C E) := ps_raise hc tk (pmk_own F q hm kp (raises_own ex ty) hg nd)
theorem r_raise {C : Addr} {f : Str} {E : XK} {ta : TA} {D : Ends} {σ : L2.St} {H : Hp} (h : ta σ H fun vs H1 => ∃ v, vs = [v] ∧ ∀ d, H1 d = none → E (.ref C) (some d) (upd H1 d (.xd [(f, v)]))) : tRaise C f E ta D σ H := h
theorem r_raise0 {C : Addr} {E : XK} {D : Ends} {σ : L2.St} {H : Hp} (h : E (.ref C) none H) : tRaise0 C E D σ H := h
/-! ### the built-in classes above -/
abbrev bmValueError : List Value := [.type "ValueError", .type "Exception", .type "BaseException", .type "object"]
abbrev bmIndexError : List Value := [.type "IndexError", .type "LookupError", .type "Exception", .type "BaseException", .type "object"]
abbrev bmArithmeticError : List Value := [.type "ArithmeticError", .type "Exception", .type "BaseException", .type "object"]
abbrev bmOverflowError : List Value := [.type "OverflowError", .type "ArithmeticError", .type "Exception", .type "BaseException", .type "object"]
abbrev bmLookupError : List Value := [.type "LookupError", .type "Exception", .type "BaseException", .type "object"]
/-- which class an error is of, for an except clause -/
theorem exm {K : PySem.W.Frag} {R C : Addr} {b : Bool} (h1 : PySem.W.subIn K (.ref R) (.type "BaseException") = some true) (c1 : PySem.W.subIn K (.ref C) (.type "BaseException") = some true) (h2 : PySem.W.isClsIn K C = true) (h3 : PySem.W.typeIn K (.ref C) = some (.type "type")) (h4 : PySem.W.subIn K (.ref R) (.ref C) = some b) :
    PySem.W.exmOne K (.ref R) (.ref C) = some b := by
  have z1 : (PySem.W.subIn K (.ref C) (.type "BaseException") == some true) = true := by rw [c1] <;> rfl
  have z2 : ((PySem.W.clsIn K C).isSome && PySem.W.typeIn K (.ref C) == some (.type "type")) = true := by
    have h2' : (PySem.W.clsIn K C).isSome = true := h2
    rw [h2', h3] <;> rfl
  show (if (PySem.W.subIn K (.ref C) (.type "BaseException") == some true) = true then (if ((PySem.W.clsIn K C).isSome && PySem.W.typeIn K (.ref C) == some (.type "type")) = true then PySem.W.subIn K (.ref R) (.ref C) else none) else none) = some b
  rw [if_pos z1, if_pos z2]
  exact h4
end Er

/-! En: functions that are run where nothing is being shown (repr of a list asks for it), calls of them, and the end of a law with tables. -/
namespace En
open PySem PySem.Spec PyProof.Rows L2 LamX
/-- as FnOk, but only where the guards are known to be none -/
structure FnG (P : Program) (w : World) (K : PySem.W.Frag) (mg : Str → Option Value) (base : Heap) (CX : CXT) (k : Nat) (f : Addr) (fd : FuncData) (ps : List Str) (sp : Sp) : Prop where
  many : ∀ vs H Q E, sp vs H Q E → vs.length = ps.length
  goes : ∀ (A : Around) (outer : List Env) (s : Shared) (H : Hp) (args : Args) (us : List Value) (vs : List V) (Q : VK) (E : XK), A.guards = some [] → Room k A → Env0 P w K mg base A outer s H → BindsTo s fd args (ps.zip us) → Vals vs us → sp vs H Q E →
    codeAny (model P w) A (.call (.ref f) args) (CR CX outer P w H s Q E) s
section
variable {P : Program} {w : World} {K : PySem.W.Frag} {mg : Str → Option Value} {base : Heap} {k : Nat} {f : Addr} {fd : FuncData} {ps : List Str} {sp : Sp}
theorem fnG {x qual : Str} {st : Stmt} {N : List Str} (F : Fun K x qual st f fd) (S : FnScope N ps (defScope st)) (many : ∀ vs H Q E, sp vs H Q E → vs.length = ps.length)
    (go : ∀ (cdv : Value) (A : Around) (outer : List Env) (s : Shared) (H : Hp) (vs : List V) (Q : VK) (E : XK), fd.code = cdv → (A.deeper (envOfC qual (defScope st) s.heap.objs.size f cdv)).guards = some [] → Room k (A.deeper (envOfC qual (defScope st) s.heap.objs.size f cdv)) → sp vs H Q E →
      ∃ t, PSs (cxOf CX0 P w K mg base N qual (defScope st) f cdv A outer s H E).nox (defBody st) t ∧ t { nx := fun _ H' => Q .non H', rt := Q } (start N vs) H) : FnG P w K mg base CX0 (k + 1) f fd ps sp := by
  obtain ⟨oc, od, kV, doc, pm, an, cdv, ct, osl, rfl, lk, code⟩ := F.ex
  refine ⟨many, ?_⟩
  intro A outer s H args us vs Q E clear room e0 binds args' wish
  exact run_ofS lk code S room e0 binds args' (many _ _ _ _ wish) fun room' => (go cdv A outer s H vs Q E rfl clear room' wish).imp fun t z => ⟨z.1.nox, z.2⟩
end
section
variable {X : Cx} {CX : CXT} {k : Nat} {f : Addr} {fd : FuncData} {ps : List Str} {sp : Sp} {E : XK} {x : Str} {p pos : Pos} {e : Expr} {es : List Expr} {t : TA}
/-- a call of such a function, from one of its kind -/
theorem pe_callG (clear : X.A.guards = some []) (F : FnG X.prog X.w X.K X.mg X.base CX k f fd ps sp) (room : Room k X.A) (hg : Gl X x) (hm : X.mg x = some (.ref f)) (hk : PySem.W.keepIn X.K (.ref f) = true) (hb : Binds X.K fd ps []) (pass : Passes CX X E) (ha : PA X (e :: es) t)
    (nd : (x == ("__debug__" : Str)) = false := by decide) (he : starEach (e :: es) X.env = (false, eval e X.env) :: starEach es X.env := by rfl) (hpl : (backTo pos (starEach es X.env)).any (·.1) = false := by rfl) :
    PE X (.Call (.Name x p) (e :: es) [] pos) (tCall sp [] E t) := by
  constructor
  intro pins s σ H Q I now
  refine wpAny_Call_Name_kw (ld_glob I hg hm ?_ nd)
  refine PySem.W.callWith_K (h₀ := X.base) I.ok.mod.kin hk (thn (ha.run pos pins s σ H _ I now) ?_) he hpl
  rintro us s1 ⟨vs, H1, I1, r, wish⟩
  refine ⟨I1.kIn, ?_⟩
  rw [List.append_nil] at wish
  have len : us.length = ps.length := by rw [← r.length]; exact F.many _ _ _ _ wish
  have b := hb s1 us I1.kIn (by rw [List.append_nil]; exact len)
  rw [List.append_nil] at b
  refine wpAny_call (codeAny_mono (F.goes X.A X.stack s1 H1 ⟨us, []⟩ us vs Q E clear room I1.env0 b r wish) ?_)
  intro res s' got
  cases res with
  | error er => exact pass pins σ H1 s1 er s' I1 got
  | ok fl =>
    cases fl with
    | ret u => exact I1.after got
    | next => exact False.elim got
    | brk => exact False.elim got
    | cont => exact False.elim got
end
/-- nothing comes out where nothing may -/
theorem passN {X : Cx} : Passes (L2.CX X.prog X.w) X (fun _ _ _ => False) := fun _ _ _ _ _ _ _ c => by
  obtain ⟨_, _, _, _, _, _, _, _, _, _, _, _, _, _, z⟩ := c

/-- f(lambda: body), told by f's own facts -/
theorem pe_lam {X : Cx} {T : List (Addr × Str)} {TT : (XK → Hp → VK → Prop) → Hp → VK → Prop} {x a : Str} {st : Stmt} {g c P : Addr} {fd : FuncData} {k : Nat} {Ng : List Str} {params : Arguments} {body : Expr} {scope : Scope} {t : XK → TE} {p lpos pos : Pos}
    (F : Fun X.K x x st g fd) (hm : X.mg x = some (.ref g)) (hb : L2.Binds X.K fd [a] []) (Sg : FnScope Ng [a] (defScope st)) (gives : ∀ cdv, GivesTo X Ng x (defScope st) g cdv (defBody st) a (X.env.qual ++ "<lambda>") TT)
    (TB : TabB X.base X.mg c P) (code : X.env.code = .ref c) (hmT : (P, X.env.qual ++ "<lambda>") ∈ T) (hu : ∀ p ∈ T, p.1 = P → p.2 = X.env.qual ++ "<lambda>") (room : Room (k + 2) X.A) (L : LamS X.env.scope scope)
    (run : ∀ (A : Around) (outer : List Env) (s : Shared) (H : Hp) (E : XK) (f c' : Addr), Room k (A.deeper (lamEnv X scope s.heap.objs.size f c')) → PE (lamCx X A outer s H E scope f c') body (t E))
    (hNg : Ng[0]? = some a := by rfl) (hva : Vis (defScope st) a := by exact .inl rfl) (hg : Gl X x := by rfl) (hdef : defaultsOf params X.env = ([], []) := by rfl) (hbind : ∀ (q : Str) (cl : List (Str × Addr)) (pm cv ctv : Value), bindArgs (PySem.W.kla_fn "<lambda>" q params body scope cl pm cv ctv) ⟨[], []⟩ = pure [] := by intros; rfl)
    (hdb : (x == ("__debug__" : Str)) = false := by decide) (hd : (a == ("__debug__" : Str)) = false := by decide) (hcd : (a == ("__classdict__" : Str)) = false := by decide) :
    PE X (.Call (.Name x p) [.Lambda params body scope lpos] [] pos) (tLam T TT t) := by
  obtain ⟨oc, od, kV, doc, pm, an, cdv, ct, osl, rfl, lk, codeF⟩ := F.ex
  exact pe_lamcall hg hm F.kp lk codeF hb Sg hNg hva (gives cdv) TB code hmT hu room L hdef hbind run hdb hd hcd
/-! ### values that are no integers -/
theorem TyOf_mono {K : PySem.W.Frag} {H H' : Hp} (s : ∀ b o, H b = some o → H' b = some o) {x : V} {t : Value} (h : TyOf K H x t) : TyOf K H' x t := by
  cases h with
  | non => exact .non
  | bl x => exact .bl x
  | int i => exact .int i
  | str x => exact .str x
  | flt x => exact .flt x
  | lst e => exact .lst (s _ _ e)
  | frz e => exact .frz (s _ _ e)
  | tup e => exact .tup (s _ _ e)
  | dK e => exact .dK (s _ _ e)
  | dT e => exact .dT (s _ _ e)
  | ins e cl ha hn hk hm => exact .ins (s _ _ e) cl ha hn hk hm
theorem TyX_mono {K : PySem.W.Frag} {H H' : Hp} (s : ∀ b o, H b = some o → H' b = some o) {x : V} {t : Value} (h : TyX K H x t) : TyX K H' x t := by
  cases h with
  | base h => exact .base (TyOf_mono s h)
  | byt b => exact .byt b
  | set e => exact .set (s _ _ e)
  | kList e c => exact .kList e c
  | kTuple e c => exact .kTuple e c
  | kDict e c => exact .kDict e c
  | fTuple e => exact .fTuple (s _ _ e)
  | fDict e => exact .fDict (s _ _ e)
def NoNum (K : PySem.W.Frag) (H : Hp) (v : V) : Prop := ∃ t b1 b2, TyX K H v t ∧ PySem.W.kitOne K t (.type "int") = some b1 ∧ PySem.W.kitOne K t (.type "bool") = some b2 ∧ (b1 && !b2) = false
theorem NoNum.mono {K : PySem.W.Frag} {H H' : Hp} {v : V} (h : NoNum K H v) (s : ∀ b o, H b = some o → H' b = some o) : NoNum K H' v := by
  obtain ⟨t, b1, b2, h1, h2, h3, h4⟩ := h
  exact ⟨t, b1, b2, TyX_mono s h1, h2, h3, h4⟩
theorem noNum_none {K : PySem.W.Frag} {H : Hp} : NoNum K H .non := ⟨_, false, false, .base .non, by rfl, by rfl, rfl⟩
theorem noNum_bl {K : PySem.W.Frag} {H : Hp} (b : Bool) : NoNum K H (.bl b) := ⟨_, true, true, .base (.bl b), by rfl, by rfl, rfl⟩
theorem noNum_str {K : PySem.W.Frag} {H : Hp} (z : Str) : NoNum K H (.str z) := ⟨_, false, false, .base (.str z), by rfl, by rfl, rfl⟩
theorem noNum_lst {K : PySem.W.Frag} {H : Hp} {a : Addr} {xs : List V} (e : H a = some (.lst xs)) : NoNum K H (.ref a) := ⟨_, false, false, .base (.lst e), by rfl, by rfl, rfl⟩
theorem noNum_tup {K : PySem.W.Frag} {H : Hp} {a : Addr} {xs : List V} (e : H a = some (.tup xs)) : NoNum K H (.ref a) := ⟨_, false, false, .base (.tup e), by rfl, by rfl, rfl⟩
theorem noNum_dK {K : PySem.W.Frag} {H : Hp} {a : Addr} {xs : List (Key × V)} (e : H a = some (.dK xs)) : NoNum K H (.ref a) := ⟨_, false, false, .base (.dK e), by rfl, by rfl, rfl⟩
/-! ### the end -/
/-- a tracked heap with which a law begins: the tables, empty, and the script, frozen unless the written part tells it -/
structure Begin (K : PySem.W.Frag) (T : List Addr) (a : Addr) (ns : List Int) (P : Program) (w : World) (h : Heap) (H : Hp) : Prop where
  tab : ∀ b, b ∈ T → H b = some (.tbl #[])
  only : ∀ b, H b = none ∨ b ∈ T ∨ ∃ o u, H b = some (.frz o (.lst u))
  where' : ∀ b, H b ≠ none → b = a ∨ b ∈ T
  script : SqL K H a (ns.map V.int)
  good : HOk P w H h
  out : H a ≠ none → K.lookup a = none
section
variable {P : Program} {w : World} {K : PySem.W.Frag} {mg mb : Str → Option Value} {k : Nat} {fa a : Addr} {cs : List (Addr × Addr)} {fd : FuncData} {x : Str} {sp : Sp} {s₁ : Shared} {vs : List Value} {ns : List Int} {H : Hp}
theorem law_goes (KX : K.In s₁.heap) (G : s₁.heap.Ns mainGlobals mg) (GB : s₁.heap.Ns builtinsNs mb) (boot : ∀ y : Str, y ≠ "__name__" → mb y = bootBuiltins y) (lim : s₁.heap.NoLimit) (bare : s₁.gens = #[])
    (empty : ∀ p ∈ cs, s₁.heap.get? p.2 = some { cls := .none, data := .fields #[] }) (outside : ∀ p ∈ cs, K.lookup p.2 = none) (codes : ∀ p ∈ cs, PySem.W.CodeHd s₁.heap p.1 p.2)
    (bmod : ∃ (bm : Addr) (ob : Obj), mg "__builtins__" = some (.ref bm) ∧ bm ≠ builtinsNs ∧ s₁.heap.get? bm = some ob ∧ ob.cls = .type "module" ∧ ob.dict = some builtinsNs ∧ ob.data = .plain)
    (there : s₁.heap.get? a = some { cls := .type "list", data := .seq vs.toArray }) (room : Room k callerA)
    (F : ∀ base : Heap, K.In base → base.Ns mainGlobals mg → (∀ p ∈ cs, TabB base mg p.1 p.2) → FnG P w K mg base CX0 k fa fd [x] sp) (binds : ∀ (s : Shared) (u : Value), BindsTo s fd ⟨[u], []⟩ [(x, u)])
    (B : Begin K (cs.map (·.2)) a ns P w s₁.heap H) (wish : sp [.ref a] H (fun v _ => v = .bl true) fun _ _ _ => False) :
    codeAny (model P w) callerA (.call (.ref fa) ⟨[.ref a], []⟩) (fun r s' => r = .ok (.ret (.bool true)) ∧ OldK s₁.heap s'.heap ∧ s'.os = s₁.os ∧ AllBare s'.gens) s₁ := by
  have inT : ∀ p ∈ cs, p.2 ∈ cs.map (·.2) := fun p m => List.mem_map.mpr ⟨p, m, rfl⟩
  have atT : ∀ b, b ∈ cs.map (·.2) → s₁.heap.get? b = some { cls := .none, data := .fields #[] } := by
    intro b m
    obtain ⟨p, mp, rfl⟩ := List.mem_map.mp m
    exact empty p mp
  have untracked : ∀ {b : Addr} {o : Obj}, s₁.heap.get? b = some o → (∀ y n, o.data ≠ .seq y n) → o.data ≠ .fields #[] → H b = none := by
    intro b o e n1 n2
    by_cases q : H b = none
    · exact q
    · rcases B.where' b q with rfl | m
      · rw [there] at e; cases e; exact absurd rfl (n1 _ _)
      · rw [atT b m] at e; cases e; exact absurd rfl n2
  have seen : ∀ {b : Addr} {o : Obj}, s₁.heap.get? b = some o → H b = none → (hidT s₁.heap H).get? b = some o := fun e n => hidT_get e n
  have names : ∀ {b : Addr} {m : Str → Option Value}, s₁.heap.Ns b m → (hidT s₁.heap H).Ns b m := by
    rintro b m ⟨o, es, ep, e, dd, r⟩
    refine ⟨o, es, ep, seen e (untracked e ?_ ?_), dd, r⟩
    · intro y n z; rw [dd] at z; cases z
    · intro z; rw [dd] at z; cases z
  have known : K.In (hidT s₁.heap H) := by
    intro b o e
    refine seen (KX b o e) ?_
    by_cases q : H b = none
    · exact q
    · rcases B.where' b q with rfl | m
      · rw [B.out q] at e; cases e
      · obtain ⟨p, mp, rfl⟩ := List.mem_map.mp m
        rw [outside p mp] at e; cases e
  have notDict : ∀ {b : Addr} {m : Str → Option Value} {q : Addr}, s₁.heap.Ns b m → q ∈ cs.map (·.2) → b ≠ q := by
    rintro b m q ⟨o, es, ep, e, dd, _⟩ mq rfl
    rw [atT b mq] at e; cases e; cases dd
  have tabs : ∀ p ∈ cs, TabB (hidT s₁.heap H) mg p.1 p.2 := by
    intro p mp
    refine ⟨?_, ?_, notDict G (inT p mp)⟩
    · obtain ⟨o, us, file, tf, flags, tg, inF, text, tt, e1, r1, r2, r3, r4, rest⟩ := codes p mp
      refine ⟨o, us, file, tf, flags, tg, inF, text, tt, seen e1 (untracked e1 ?_ ?_), r1, r2, r3, r4, rest⟩
      · intro y n z; rw [r2] at z; cases z
      · intro z; rw [r2] at z; cases z; simp at r3
    · obtain ⟨bm, ob, b1, b2, b3, b4, b5, b6⟩ := bmod
      refine ⟨bm, ob, b1, b2, ?_, ?_, seen b3 (untracked b3 ?_ ?_), b4, b5, b6⟩
      · rintro rfl
        obtain ⟨o, es, ep, e, dd, _⟩ := G
        rw [e] at b3; cases b3; rw [dd] at b6; cases b6
      · rintro rfl
        rw [empty p mp] at b3; cases b3; cases b6
      · intro y n z; rw [b6] at z; cases z
      · intro z; rw [b6] at z; cases z
  have base : L2.Mod K mg (hidT s₁.heap H) := ⟨known, names G, ⟨mb, names GB, boot⟩, lim.elim fun mc ⟨h1, h2⟩ => ⟨mc, names h1, h2⟩⟩
  have e0 : Env0 P w K mg (hidT s₁.heap H) callerA [] s₁ H := ⟨rfl, base, fun b o e => of_hidT e, Nat.le_of_eq (hidT_size _ _), trivial, fun b hb => absurd (show b ∈ ([] : List Addr) from hb) (by simp), B.good, .of_eq bare⟩
  refine codeAny_mono ((F _ known (names G) tabs).goes callerA [] s₁ H ⟨[.ref a], []⟩ [.ref a] [.ref a] _ _ rfl room e0 (binds s₁ (.ref a)) (.cons rfl .nil) wish) ?_
  intro r s' got
  cases r with
  | error er => exact (show False from got).elim
  | ok fl =>
    cases fl with
    | next => exact False.elim got
    | brk => exact False.elim got
    | cont => exact False.elim got
    | ret u =>
      obtain ⟨v, H', os, bare', un, good', rv, rfl⟩ := got
      obtain rfl : u = Value.bool true := rv
      have stays : ∀ b o, b ∉ cs.map (·.2) → s₁.heap.get? b = some o → s'.heap.get? b = some o := by
        intro b o nb e
        by_cases q : H b = none
        · exact un.keep b o e q (by intro z; exact absurd (show b ∈ ([] : List Addr) from z) (by simp)) (by simp)
        · rcases B.only b with z | z | ⟨ob, u', z⟩
          · exact absurd z q
          · exact absurd z nb
          · obtain ⟨e1, _⟩ := B.good b _ z
            obtain ⟨e2, _⟩ := good' b _ (un.frzs b ob _ z)
            rw [e] at e1; cases e1; exact e2
      have grown : ∀ p ∈ cs, ∃ more : Array Value, s'.heap.get? p.2 = some { cls := .none, data := .fields more } := by
        intro p mp
        obtain ⟨more, z⟩ := un.tbls p.2 #[] (B.tab _ (inT p mp))
        exact ⟨_, good' p.2 _ z⟩
      refine ⟨rfl, ⟨?_, ?_⟩, os, bare'⟩
      · intro b o e
        by_cases hb : b ∈ cs.map (·.2)
        · obtain ⟨p, mp, rfl⟩ := List.mem_map.mp hb
          obtain ⟨more, hm⟩ := grown p mp
          rw [empty p mp] at e; cases e
          exact .inr (.inl ⟨((codes p mp).tab (empty p mp)).isCodeTable, rfl, #[], more, rfl, by rw [Array.empty_append]; exact hm⟩)
        · exact .inl (stays b o hb e)
      · intro b o e
        by_cases hb : b ∈ cs.map (·.2)
        · obtain ⟨p, mp, rfl⟩ := List.mem_map.mp hb
          obtain ⟨more, hm⟩ := grown p mp
          exact ⟨_, hm⟩
        · exact ⟨o, stays b o hb e⟩
/-- there is such a heap -/
theorem begin_is (KX : K.In s₁.heap) (T : List Addr) (empty : ∀ b ∈ T, s₁.heap.get? b = some { cls := .none, data := .fields #[] }) (there : s₁.heap.get? a = some { cls := .type "list", data := .seq vs.toArray }) (numb : IntsAre vs ns) (few : ns.length ≤ sizeLine) :
    ∃ H, Begin K T a ns P w s₁.heap H := by
  have rv := vals_ints numb
  have lenV := numb.length
  have apart : a ∉ T := by
    intro m
    have q := empty a m
    rw [there] at q; cases q
  have tabOk : ∀ {H : Hp} {b : Addr}, b ∈ T → ObjOk P w H s₁.heap b (.tbl #[]) := fun m => empty _ m
  cases known : K.lookup a with
  | some o =>
    have e := KX a o known
    rw [there] at e; cases e
    refine ⟨fun b => if b ∈ T then some (.tbl #[]) else none, fun b m => if_pos m, fun b => ?_, fun b z => ?_, ?_, fun b u z => ?_, fun z => absurd (if_neg apart) z⟩
    · by_cases m : b ∈ T
      · exact .inr (.inl m)
      · exact .inl (if_neg m)
    · by_cases m : b ∈ T
      · exact .inr m
      · exact absurd (if_neg m) z
    · exact .inr ⟨_, vs.toArray, _, known, rfl, rfl, rfl, by rw [List.size_toArray, lenV]; exact few, by simpa using rv⟩
    · by_cases m : b ∈ T
      · simp only [if_pos m] at z; cases z; exact tabOk m
      · simp only [if_neg m] at z; cases z
  | none =>
    refine ⟨fun b => if b ∈ T then some (.tbl #[]) else if b = a then some (.frz { cls := .type "list", data := .seq vs.toArray } (.lst (ns.map V.int))) else none, fun b m => if_pos m, fun b => ?_, fun b z => ?_, ?_, fun b u z => ?_, fun _ => known⟩
    · by_cases m : b ∈ T
      · exact .inr (.inl m)
      · by_cases q : b = a
        · exact .inr (.inr ⟨{ cls := .type "list", data := .seq vs.toArray }, ns.map V.int, by simp only [if_neg m, if_pos q]⟩)
        · exact .inl (by simp only [if_neg m, if_neg q])
    · by_cases m : b ∈ T
      · exact .inr m
      · by_cases q : b = a
        · exact .inl q
        · exact absurd (show (if b ∈ T then some (HO.tbl #[]) else if b = a then some (HO.frz { cls := .type "list", data := .seq vs.toArray } (.lst (ns.map V.int))) else none) = none by simp only [if_neg m, if_neg q]) z
    · exact .inl (.inr ⟨{ cls := .type "list", data := .seq vs.toArray }, by simp only [if_neg apart, if_pos]⟩)
    · by_cases m : b ∈ T
      · simp only [if_pos m] at z; cases z; exact tabOk m
      · by_cases q : b = a
        · simp only [if_neg m, if_pos q] at z; cases z
          subst q
          exact ⟨there, by rw [List.length_map]; exact few, vs, _, rv, there⟩
        · simp only [if_neg m, if_neg q] at z; cases z
end
/-- what a law's own text has to give at the head's heap -/
def Law (l : PySem.W.OpenLaw) (w : World) (K : PySem.W.Frag) (k n : Nat) (x : Str) (mg : Str → Option Value) (fa : Addr) (h : Heap) : Prop :=
  ∃ (fd : FuncData) (cs : List (Addr × Addr)) (sp : Sp), (∀ p ∈ cs, h.get? p.2 = some { cls := .none, data := .fields #[] } ∧ K.lookup p.2 = none ∧ PySem.W.CodeHd h p.1 p.2) ∧ (∀ (s : Shared) (u : Value), BindsTo s fd ⟨[u], []⟩ [(x, u)]) ∧
    (∀ (H : Hp) (a : Addr) (ns : List Int), ns.length ≤ n → (∀ p ∈ cs, H p.2 = some (.tbl #[])) → SqL K H a (ns.map V.int) → sp [.ref a] H (fun v _ => v = .bl true) fun _ _ _ => False) ∧
    ∀ base : Heap, K.In base → base.Ns mainGlobals mg → (∀ p ∈ cs, TabB base mg p.1 p.2) → FnG l.prog w K mg base CX0 k fa fd [x] sp
theorem walkG {l : PySem.W.OpenLaw} {n k : Nat} {q : Program} {loose : List Str} {XP : (Str → Option Value) → Heap → Prop} {YP : World → Heap → Prop} {d : DefRec} {K : Params → PySem.W.Frag} {x : Str}
    (hn : l.most = some n) (hn2 : n ≤ sizeLine) (hdf : d.params.defaults = []) (room : Room k callerA) (hY : ∀ (w : World) (h : Heap), YP w h → (K w.params).In h)
    (F : ∀ (w : World) (mg : Str → Option Value) (fa : Addr) (h : Heap), YP w h → (K w.params).In h → h.Ns mainGlobals mg → mg d.name = some (.ref fa) → Law l w (K w.params) k n x mg fa h) :
    PySem.W.WalkO q loose XP YP l.row.toRowW d [] (fun f vs => PySem.call f vs) := by
  refine Att.attach_callB hn hdf ?_
  intro w s₀ s₁ mg mb fa o pm cd doc a vs ns G Y ho hd hcd hmg there numb many bits bare
  have KX := hY w _ Y
  obtain ⟨fd, cs, sp, facts, binds, wish, run⟩ := F w mg fa _ Y KX G.T.g hmg
  obtain ⟨H, B⟩ := begin_is (P := l.prog) (w := w) KX (cs.map (·.2)) (by
    intro b m
    obtain ⟨p, mp, rfl⟩ := List.mem_map.mp m
    exact (facts p mp).1) there numb (Nat.le_trans many hn2)
  exact law_goes KX G.T.g G.T.b G.T.builtins G.T.nolimit bare (fun p m => (facts p m).1) (fun p m => (facts p m).2.1) (fun p m => (facts p m).2.2) G.T.bmain there room run binds B (wish H a ns many (fun p m => B.tab _ (List.mem_map.mpr ⟨p, m, rfl⟩)) B.script)
end En

/-! Rt: t[::-1] of a tuple -/
namespace Rt
open PySem PySem.Spec PyProof.Rows L2 Sx Sy
theorem fm_congr {α β : Type} {f g : α → Option β} : ∀ {l : List α}, (∀ x, x ∈ l → f x = g x) → l.filterMap f = l.filterMap g
  | [], _ => rfl
  | x :: l, h => by
    rw [List.filterMap_cons, List.filterMap_cons, h x (List.mem_cons_self ..), fm_congr fun y hy => h y (List.mem_cons_of_mem _ hy)]
theorem pick_all {α : Type} (m : List α) : ∀ n, (List.range n).filterMap (fun k => m[k]?) = m.take n
  | 0 => by simp
  | n + 1 => by
    rw [List.range_succ, List.filterMap_append, pick_all m n, List.take_add_one]
    cases h : m[n]? with
    | none => simp [h]
    | some x => simp [h]
theorem pick_rev {α : Type} (l : List α) : (List.range l.length).filterMap (fun k : Nat => l[((l.length : Int) - 1 + (k : Int) * -1).toNat]?) = l.reverse := by
  have e : (List.range l.length).filterMap (fun k : Nat => l[((l.length : Int) - 1 + (k : Int) * -1).toNat]?) = (List.range l.length).filterMap (fun k => l.reverse[k]?) := by
    apply fm_congr
    intro k hk
    rw [List.mem_range] at hk
    rw [List.getElem?_reverse hk]
    congr 1
    omega
  rw [e, pick_all, List.take_of_length_le (by rw [List.length_reverse]; exact Nat.le_refl _)]
section
variable {prog : Program} {w : World} {A : Around} {E : Value → Shared → Prop} {s : Shared}
theorem applied_back {sl : Addr} {u : Tok} {n : Nat} {Q : Int × Int × Nat → Shared → Prop} (hs : s.heap.IsSliceOf sl .none .none (.int (-1) u)) (h : Q ((n : Int) - 1, -1, n) s) : wpAny (model prog w) A (Builtin.Slice.sliceApplied (.ref sl) (pure (n : Int))) Q E s := by
  obtain ⟨os, hos, hcs, hds⟩ := hs
  unfold Builtin.Slice.sliceApplied Builtin.Slice.sliceFields
  refine wpAny_bind (wpAny_bind (wpAny_field hos hds rfl (wpAny_bind (wpAny_field hos hds rfl (wpAny_bind (wpAny_field hos hds rfl (wpAny_pure ?_)))))))
  refine wpAny_bind (slicePart_int ?_)
  show wpAny _ _ (if ((-1 : Int) == 0) = true then _ else _) _ _ _
  rw [if_neg (by decide)]
  refine wpAny_bind (slicePart_none (wpAny_bind (slicePart_none (wpAny_bind (wpAny_pure ?_)))))
  have e : Builtin.Slice.slicePlaces ((n : Int) - 1) (-1) (-1) = n := by
    unfold Builtin.Slice.slicePlaces
    rw [if_neg (by decide)]
    by_cases z : n = 0
    · subst z; decide
    · rw [if_pos (by omega)]
      show (((n : Int) - 1 - -1 - 1) / 1 + 1).toNat = n
      rw [Int.ediv_one]; omega
  show wpAny _ _ (pure (((n : Int) - 1), (-1 : Int), Builtin.Slice.slicePlaces ((n : Int) - 1) (-1) (-1))) _ _ _
  rw [e]
  exact wpAny_pure h
theorem get_rev {t sl : Addr} {items : Array Value} {u : Tok} {Q : Value → Shared → Prop} (ht : IsTup s.heap t items) (hs : s.heap.IsSliceOf sl .none .none (.int (-1) u))
    (h : Q (.ref s.heap.objs.size) { s with heap := s.heap.push { cls := .type "tuple", data := .seq items.toList.reverse.toArray } }) (n0 : items.size ≤ sizeLine) : wpAny (model prog w) A (getItem (.ref t) (.ref sl)) Q E s := by
  obtain ⟨os, hos, hcs, hds⟩ := id hs
  refine wpAny_holding (wpAny_bind (wpAny_sequenceKey ht.typeIs (by decide) (wpAny_bind (wpAny_callSpecial?_slot ht.typeIs slot_tuple_getitem (wpAny_call_entry slot_tuple_getitem ht.typeIs entry_tuple_getitem ?_ (args_tuple_getitem _ _))))))
  show wpAny (model prog w) A.in1 (Builtin.Tuple.tupleItemsOf (.ref t) >>= _) _ _ _
  refine wpAny_bind (tupleItemsOf_ ht (wpAny_bind (wpAny_typeOf (by exact ⟨os, hos, hcs⟩) ?_)))
  rw [if_pos (by decide)]
  refine wpAny_bind (applied_back hs ?_)
  show wpAny _ _ (if _ then _ else _) _ _ _
  rw [if_neg (by intro z; rw [Bool.and_eq_true, Bool.and_eq_true] at z; exact absurd z.1.2 (by decide))]
  have e : (List.filterMap (fun k : Nat => items[((items.size : Int) - 1 + (k : Int) * -1).toNat]?) (List.range items.size)) = items.toList.reverse := by
    have := pick_rev items.toList
    rw [Array.length_toList] at this
    rw [← this]
    apply fm_congr
    intro k _
    rw [Array.getElem?_toList]
  show wpAny _ _ (Builtin.Tuple.tupleExact (List.filterMap (fun k : Nat => items[((items.size : Int) - 1 + (k : Int) * -1).toNat]?) (List.range items.size)).toArray >>= _) _ _ _
  rw [e]
  refine wpAny_bind (wpAny_newObj_type (wpAny_pure ⟨.ref s.heap.objs.size, rfl, wpAny_pure h⟩) ?_)
  show items.toList.reverse.toArray.size ≤ sizeLine
  rw [List.size_toArray, List.length_reverse, Array.length_toList]; exact n0
end
theorem vals_snoc {x : V} {u : Value} (r : RelV x u) : ∀ {xs : List V} {us : List Value}, Vals xs us → Vals (xs ++ [x]) (us ++ [u])
  | _, _, .nil => .cons r .nil
  | _, _, .cons a b => .cons a (vals_snoc r b)
theorem vals_rev : ∀ {xs : List V} {us : List Value}, Vals xs us → Vals xs.reverse us.reverse
  | _, _, .nil => .nil
  | _, _, .cons a b => by
    rw [List.reverse_cons, List.reverse_cons]
    exact vals_snoc a (vals_rev b)
section
variable {X : Cx}
def tRevT (K : PySem.W.Frag) (te : TE) : TE := fun σ H Q => te σ H fun x H1 => ∃ a xs, x = .ref a ∧ SqT K H1 a xs ∧ ∀ p, H1 p = none → Q (.ref p) (upd H1 p (.tup xs.reverse))
theorem r_revT {K : PySem.W.Frag} {te : TE} {σ : L2.St} {H : Hp} {Q : VK} (h : te σ H fun x H1 => ∃ a xs, x = .ref a ∧ SqT K H1 a xs ∧ ∀ p, H1 p = none → Q (.ref p) (upd H1 p (.tup xs.reverse))) : tRevT K te σ H Q := h
theorem pe_revT {e : Expr} {te : TE} {k : Nat} {p1 p2 p3 pos : Pos} (he : PE X e te) : PE X (.Subscript e (.Slice none none (some (.UnaryOp .USub (.Constant (.int 1) k p1) p2)) p3) pos) (tRevT X.K te) := by
  constructor
  intro pins s σ H Q I h
  refine Subscript_ (thn (he.run pins s σ H _ I h) ?_)
  rintro v s1 ⟨x, H1, I1, r1, a, xs, rfl, hx, q⟩
  obtain rfl : v = .ref a := r1
  have step : PO X (some (.UnaryOp .USub (.Constant (.int 1) k p1) p2)) (tPart (tUn (rU fun i => .int (-i)) (tC (.int 1)))) := po_some (pe_un un_neg pe_int)
  refine wpAny_Slice (thn (po_none.run pins s1 σ H1 (fun o H2 => o = none ∧ H2 = H1) I1 ⟨rfl, rfl⟩) ?_)
  rintro v1 s2 ⟨o1, H2, I2, w1, rfl, rfl⟩
  refine thn (po_none.run pins s2 σ H2 (fun o H3 => o = none ∧ H3 = H2) I2 ⟨rfl, rfl⟩) ?_
  rintro v2 s3 ⟨o2, H3, I3, w2, rfl, rfl⟩
  refine thn (step.run pins s3 σ H3 (fun o H4 => o = some (-1) ∧ H4 = H3) I3 ⟨1, rfl, -1, rfl, rfl, rfl⟩) ?_
  rintro v3 s4 ⟨o3, H4, I4, w3, rfl, rfl⟩
  obtain ⟨b1, rfl, e1⟩ := IsPart.raw w1
  obtain ⟨b2, rfl, e2⟩ := IsPart.raw w2
  obtain ⟨b3, rfl, e3⟩ := IsPart.raw w3
  have n1 : b1 = none := Option.map_eq_none_iff.mp e1
  have n2 : b2 = none := Option.map_eq_none_iff.mp e2
  obtain ⟨⟨i3, t3⟩, rfl, e4⟩ := Option.map_eq_some_iff.mp e3
  subst n1 n2
  obtain rfl : i3 = -1 := e4
  have I5 : Inv X pins σ H4 { s4 with heap := s4.heap.push { cls := .type "slice", data := .fields #[partValue none, partValue none, partValue (some (-1, t3))] } } := I4.kept (t' := s4.toks) fun b ob z => Heap.get?_push_of_some _ z
  obtain ⟨its, rel, tp, big⟩ := I5.tuple hx
  refine tail_any (ops := [.ref a, .ref s4.heap.objs.size]) tp.typeIs slot_tuple_getitem.lookup ?_ (by with_unfolding_all rfl)
  refine get_rev (u := t3) tp ⟨_, Heap.get?_push_size _ rfl, rfl, rfl⟩ ?_ (by rw [List.size_toArray, ← rel.length]; exact big)
  refine ⟨.ref _, _, I5.laid (t' := s4.toks) (fun b ob z => Heap.get?_push_of_some _ z) (Nat.le_refl _) ?_, rfl, q _ (I5.hok.fresh (Nat.le_refl _))⟩
  refine ⟨by rw [List.length_reverse]; exact big, its.reverse, vals_rev rel, ?_⟩
  exact ⟨_, Heap.get?_push_size _ rfl, rfl, 0, rfl⟩
end
end Rt

/-! Tr: a try with several clauses, some of them with a name. -/
namespace Tr
open PySem PySem.Spec PyProof.Rows L2 Sx
abbrev Clause := Value × Option Nat × (Addr → Value → Option Addr → TS)
/-- behind a suite with a name: its slot is empty again -/
def out (i : Nat) (D : Ends) : Ends := ⟨fun σ H => D.nx (σ.set i none) H, D.rt, fun σ H => D.bk (σ.set i none) H, fun σ H => D.ct (σ.set i none) H⟩
def wAll (K : PySem.W.Frag) (Wout : WX) (D : Ends) : List Clause → WX
  | [] => Wout
  | (c, none, ts) :: r => fun cls d σ H => ∃ k, PySem.W.exmOne K cls c = some k ∧ (k = true → ∀ a, H a = none → ts a cls d D σ H) ∧ (k = false → wAll K Wout D r cls d σ H)
  | (c, some i, ts) :: r => fun cls d σ H => ∃ k, PySem.W.exmOne K cls c = some k ∧ (k = true → ∀ a, H a = none → i < σ.length → ts a cls d (out i D) (σ.set i (some (.ref a))) H) ∧ (k = false → wAll K Wout D r cls d σ H)
inductive Clauses (X : Cx) : List ExceptHandler → List Clause → Prop
  | nil : Clauses X [] []
  | plain {x : Str} {c : Value} {ts : Addr → Value → Option Addr → TS} {st : Stmt} {sts : List Stmt} {p1 p2 : Pos} {hs : List ExceptHandler} {l : List Clause} (n : Names X x c)
      (run : ∀ (a : Addr) (ob : Obj) (cls : Value) (d : Option Addr) (pn : List (Addr × Obj)), Zc cls d ob → (∃ vs, ob.data = .fields vs) → PSs (X.suite a ((a, ob) :: pn)) (st :: sts) (ts a cls d)) (rest : Clauses X hs l) :
      Clauses X (.ExceptHandler (some (.Name x p1)) none (st :: sts) p2 :: hs) ((c, none, ts) :: l)
  | named {x y : Str} {c : Value} {i : Nat} {ts : Addr → Value → Option Addr → TS} {st : Stmt} {sts : List Stmt} {p1 p2 : Pos} {hs : List ExceptHandler} {l : List Clause} (n : Names X x c) (at' : X.N[i]? = some y) (lo : X.env.kindOf y = some .local)
      (run : ∀ (a : Addr) (ob : Obj) (cls : Value) (d : Option Addr) (pn : List (Addr × Obj)), Zc cls d ob → (∃ vs, ob.data = .fields vs) → PSs (X.suite a ((a, ob) :: pn)) (st :: sts) (ts a cls d)) (rest : Clauses X hs l) :
      Clauses X (.ExceptHandler (some (.Name x p1)) (some y) (st :: sts) p2 :: hs) ((c, some i, ts) :: l)
section
variable {X : Cx} {body : List Stmt} {h1 : ExceptHandler} {hs : List ExceptHandler} {l : List Clause} {pos : Pos} {tb : WX → TS} {Wout : WX}
theorem ps_try_all (stk : X.stack = X.env :: X.outer) (frm : X.env.frame = some X.env.locals) (uniq : X.N.Nodup) (tk : Takes X Wout)
    (hb : ∀ (W : WX) (pn : List (Addr × Obj)) (xe : Value → Shared → Prop), Takes (X.tr pn xe) W → PassesOwn (model X.prog X.w) X.A X.env xe → PSs (X.tr pn xe) body (tb W))
    (cl : Clauses X (h1 :: hs) l) : PS X (.Try body (h1 :: hs) [] [] pos) (fun D σ H => tb (wAll X.K Wout D l) D σ H) := by
  constructor
  intro pins s σ H D I now
  have good := I.ok
  have frames : X.A.frames = some (X.env :: X.outer) := by rw [good.frames, stk]
  apply wpAny_Try_except
  have landing : ∀ u s', XE X (wAll X.K Wout D l) u s' → True := fun _ _ _ => trivial
  refine wpAny_mono ((hb (wAll X.K Wout D l) (X.pn ++ pins) _ ?caught PassesOwn.looking).run [] s σ H D (I.toTry _) now) ?ended (fun _ _ z => z)
  case ended =>
    intro f s1 got
    cases f with
    | next => obtain ⟨σ1, H1, J, q⟩ := got; exact wpAny_execs_nil ⟨σ1, H1, J.ofTry good, q⟩
    | brk => obtain ⟨σ1, H1, J, q⟩ := got; exact ⟨σ1, H1, J.ofTry good, q⟩
    | cont => obtain ⟨σ1, H1, J, q⟩ := got; exact ⟨σ1, H1, J.ofTry good, q⟩
    | ret u => obtain ⟨v, σ1, H1, J, r, q⟩ := got; exact ⟨v, σ1, H1, J.ofTry good, r, q⟩
  case caught =>
    rintro u s1 ⟨a, B, s0, pins1, σ1, H1, cls, d, rfl, J0, keep0, same0, air, na, os, gens, wish⟩
    have J : Inv X pins σ1 H1 s0 := J0.ofTry good
    have air1 : Sky B (X.env :: X.outer) a (Zc cls d) X.env.locals s1.heap := stk ▸ air
    show wpAny (model X.prog X.w) X.A (noteFrame (.ref a) X.env) _ _ _
    refine Sky.land Zc.steady frames frm air1 ?_
    intro g2 down2 same2
    have J2 : Inv X pins σ1 H1 { s1 with heap := g2 } := J.landed keep0 down2.1 (same0.trans same2) os gens
    obtain ⟨ob2, vs2, at2, z2, data2⟩ := down2.there
    have noframe : a ∉ frs (X.env :: X.outer) := by
      intro m
      obtain ⟨_, ob3, at3, nf⟩ := down2.2.2.1.mem m
      rw [at2] at at3; cases at3
      exact nf _ data2
    have nL : a ≠ X.env.locals := by
      intro e
      exact noframe (List.mem_filterMap.mpr ⟨X.env, List.mem_cons_self, by rw [frm, e]⟩)
    have nF : a ∉ X.fs := by
      intro m
      obtain ⟨v, hv, q⟩ := List.mem_filterMap.mp m
      exact noframe (List.mem_filterMap.mpr ⟨v, List.mem_cons_of_mem _ hv, q⟩)
    have S2 := J2.suite at2 data2 na nL nF
    have look2 : PySem.W.Looks (model X.prog X.w) g2 (typeOf (.ref a)) cls := fun A Q E s k q => wpAny_typeOf_ref (k _ _ at2) (by rw [z2.1]; exact q)
    have each : ∀ {hs' : List ExceptHandler} {l' : List Clause}, Clauses X hs' l' → wAll X.K Wout D l' cls d σ1 H1 → wpAny (model X.prog X.w) X.A (handleBy (.ref a) X.env hs') (SP X pins D) X.xe { s1 with heap := g2 } := by
      intro hs' l' ok
      induction ok with
      | nil =>
        intro w
        apply wpAny_handleBy_nil
        obtain ⟨k1, k2, k3, ob, vs, T, oT, ts', e1, e2, e3, e4, e5⟩ := id down2
        unfold PySem.passOn
        refine wpAny_bind (wpAny_field e1 e3 e4 ?_)
        rw [if_neg (show ¬ ((Value.ref T == Value.none) = true) by simp)]
        have last : wpAny (model X.prog X.w) X.A (setFlight (.ref a) X.env.frame) (fun _ s4 => wpAny (model X.prog X.w) X.A (throw (.ref a) : Sem Flow) (SP X pins D) X.xe s4) X.xe { s1 with heap := g2 } := by
          rw [frm]
          refine HandSPX.setFlight_upZ down2 ?_
          intro g4 held4 same4
          refine wpAny_throw (tk _ _ ⟨a, B, s0, pins, σ1, H1, cls, d, rfl, J, keep0, (same0.trans same2).trans same4, .inr (.inr ?_), na, os, gens, w⟩)
          rw [stk]; exact held4
        first
          | exact wpAny_bind (wpAny_pure (wpAny_bind last))
          | exact wpAny_bind last
      | @plain x c ts st sts p1 p2 hs2 l2 n run rest ih =>
        rintro ⟨k, hk, yes, no⟩
        refine wpAny_handleBy_cons (codeAny_handlers_test ?_) nofun
        have asked := PySem.W.exm_one (M := model X.prog X.w) J2.kIn look2 hk
        have name : ∀ {Q E : Value → Shared → Prop}, Q c { s1 with heap := g2 } → wpAny (model X.prog X.w) (X.A.mark (some (.ref a))) (eval (.Name x p1) X.env) Q E { s1 with heap := g2 } := by
          intro Q E q
          obtain ⟨gl, nd, m | ⟨m, b, nn⟩⟩ := n
          · exact ld_glob (X := X.suite a ((a, ob2) :: (X.pn ++ pins))) S2 gl m q nd
          · exact ld_blt (X := X.suite a ((a, ob2) :: (X.pn ++ pins))) S2 gl m b q nn nd
        refine name (asked.here ?_)
        cases k with
        | false =>
          show wpAny _ X.A (handleBy (.ref a) X.env hs2) _ _ _
          exact ih (no rfl)
        | true =>
          apply codeAny_handlers_suite
          refine HandSPX.lands_againZ down2 ?_
          intro g4 down4 same4
          have J4 : Inv X pins σ1 H1 { s1 with heap := g4 } := J.landed keep0 down4.1 ((same0.trans same2).trans same4) os gens
          obtain ⟨ob4, vs4, at4, z4, data4⟩ := down4.there
          have S4 := J4.suite at4 data4 na nL nF
          refine wpAny_mono ((run a ob4 cls d (X.pn ++ pins) z4 ⟨_, data4⟩).run [] _ _ H1 _ S4 (yes rfl a na)) ?_ (fun _ _ z => z.elim)
          intro f s6 got
          cases f with
          | next => obtain ⟨σ6, H6, S6, q6⟩ := got; exact ⟨_, _, S6.unsuite good, q6⟩
          | brk => obtain ⟨σ6, H6, S6, q6⟩ := got; exact ⟨_, _, S6.unsuite good, q6⟩
          | cont => obtain ⟨σ6, H6, S6, q6⟩ := got; exact ⟨_, _, S6.unsuite good, q6⟩
          | ret u => obtain ⟨v6, σ6, H6, S6, r6, q6⟩ := got; exact ⟨_, _, _, S6.unsuite good, r6, q6⟩
      | @named x y c i ts st sts p1 p2 hs2 l2 n at' lo run rest ih =>
        rintro ⟨k, hk, yes, no⟩
        refine wpAny_handleBy_cons (codeAny_handlers_test ?_) nofun
        have asked := PySem.W.exm_one (M := model X.prog X.w) J2.kIn look2 hk
        have name : ∀ {Q E : Value → Shared → Prop}, Q c { s1 with heap := g2 } → wpAny (model X.prog X.w) (X.A.mark (some (.ref a))) (eval (.Name x p1) X.env) Q E { s1 with heap := g2 } := by
          intro Q E q
          obtain ⟨gl, nd, m | ⟨m, b, nn⟩⟩ := n
          · exact ld_glob (X := X.suite a ((a, ob2) :: (X.pn ++ pins))) S2 gl m q nd
          · exact ld_blt (X := X.suite a ((a, ob2) :: (X.pn ++ pins))) S2 gl m b q nn nd
        refine name (asked.here ?_)
        cases k with
        | false =>
          show wpAny _ X.A (handleBy (.ref a) X.env hs2) _ _ _
          exact ih (no rfl)
        | true =>
          apply codeAny_handlers_suite_as
          refine HandSPX.lands_againZ down2 ?_
          intro g4 down4 same4
          have J4 : Inv X pins σ1 H1 { s1 with heap := g4 } := J.landed keep0 down4.1 ((same0.trans same2).trans same4) os gens
          obtain ⟨ob4, vs4, at4, z4, data4⟩ := down4.there
          have S4 := J4.suite at4 data4 na nL nF
          refine store_ok (X := X.suite a ((a, ob4) :: (X.pn ++ pins))) (v := .ref a) S4 uniq at' (.inl lo) rfl ?_ (.inr lo)
          intro s5 S5
          have slot : i < σ1.length := by rw [J.len]; exact (List.getElem?_eq_some_iff.mp at').1
          refine wpAny_mono ((run a ob4 cls d (X.pn ++ pins) z4 ⟨_, data4⟩).run [] s5 _ H1 _ S5 (yes rfl a na slot)) ?_ (fun _ _ z => z.elim)
          intro f s6 got
          have gone : ∀ {σ6 : L2.St} {H6 : Hp} {Q : Shared → Prop}, Inv (X.suite a ((a, ob4) :: (X.pn ++ pins))) [] σ6 H6 s6 → (∀ s7, Inv X pins (σ6.set i none) H6 s7 → Q s7) →
              wpAny (model X.prog X.w) X.A (do bindName X.env y .none; unbindBehindTheSuite X.env y p2) (fun _ s7 => Q s7) X.xe s6 := by
            intro σ6 H6 Q S6 hq
            exact gone_ok (S6.unsuite good) uniq at' lo hq
          cases f with
          | next => obtain ⟨σ6, H6, S6, q6⟩ := got; exact gone S6 fun s7 J7 => ⟨_, _, J7, q6⟩
          | brk => obtain ⟨σ6, H6, S6, q6⟩ := got; exact gone S6 fun s7 J7 => ⟨_, _, J7, q6⟩
          | cont => obtain ⟨σ6, H6, S6, q6⟩ := got; exact gone S6 fun s7 J7 => ⟨_, _, J7, q6⟩
          | ret u => obtain ⟨v6, σ6, H6, S6, r6, q6⟩ := got; exact gone S6 fun s7 J7 => ⟨_, _, _, J7, r6, q6⟩
    exact each cl wish
end
end Tr

/-! Px: a property that raises. -/
namespace Px
open PySem PySem.Spec PyProof.Rows L2
theorem note_no {M : Model} {A : Around} {a R : Addr} {oe oR : Obj} {cd : ClassData} {s : Shared} {o nm : Value} {Q : Unit → Shared → Prop} {E : Value → Shared → Prop}
    (h1 : s.heap.get? a = some oe) (h2 : oe.cls = .ref R) (h3 : s.heap.get? R = some oR) (h4 : oR.data = .cls cd) (h5 : cd.mro.isEmpty = false) (h6 : cd.mro.contains (.type "AttributeError") = false) (q : Q () s) :
    wpAny M A (noteIf true o nm (.ref a)) Q E s := by
  unfold noteIf noteAttr lacksNameAndObj isInstance isSubtype mroOf classData
  simp only [if_true]
  wp_step
  wp_step
  wp_step
  refine wpAny_typeOf_ref h1 ?_
  rw [h2]
  wp_step
  wp_step
  wp_step
  refine wpAny_load h3 ?_
  rw [h4]
  wp_step
  wp_step
  simp only [h5, h6, Bool.false_eq_true, if_false]
  wp_step
  simp only [Bool.not_false, if_true]
  wp_step
  simp only [Bool.false_eq_true, if_false]
  wp_step
  exact q
/-- the class R is none that a look-up would note -/
def NoAtt (K : PySem.W.Frag) (cls : Value) : Prop := ∃ R, cls = .ref R ∧ PySem.W.mroIn K R (.type "AttributeError") = some false
def tPropX (K : PySem.W.Frag) (C : Addr) (sp : Sp) (dvs : List V) (E : XK) (ta : TE) : TE := fun σ H Q => ta σ H fun x H1 => ∃ a dx fs, x = .ref a ∧ H1 a = some (.ins C dx fs) ∧ sp (.ref a :: dvs) H1 Q (fun cls d H' => NoAtt K cls ∧ E cls d H')
section
variable {X : Cx} {k : Nat} {C p g a dx : Addr} {fs : List (Str × V)} {f : Str} {fd : FuncData} {ps : List Str} {sp : Sp} {dvs : List V} {ds : List Value} {E : XK} {pins : List (Addr × Obj)} {σ : L2.St} {H : Hp} {s : Shared} {Q : VK} {b : Bool}
theorem getprop_okX (I : Inv X pins σ H s) (ea : H a = some (.ins C dx fs)) (c : Cls X.K C) (hp : PropOf X.K C f p g) (F : FnOk X.prog X.w X.K X.mg X.base (L2.CX X.prog X.w) k g fd ps sp) (hr : Room (k + 1) X.A) (hb : Binds X.K fd ps ds) (hd : Vals dvs ds) (hx : Passes (L2.CX X.prog X.w) X E)
    (h : sp (.ref a :: dvs) H Q (fun cls d H' => NoAtt X.K cls ∧ E cls d H')) : wpAny (model X.prog X.w) X.A (getAttr (.ref a) f b) (EP X pins σ Q) X.xe s := by
  obtain ⟨mA, O, _⟩ := ins_get I.hok ea
  obtain ⟨od, J, _⟩ := O.look
  obtain ⟨rest, hrec⟩ := hp.rec_
  have I1 := I.tok (s.toks + 1)
  have hl : ([Value.ref a] ++ ds).length = ps.length := by
    rw [← F.len _ _ _ _ h]
    simp [hd.length]
  obtain ⟨cd, hcd, _⟩ : ∃ cd, PySem.W.clsIn X.K C = some cd ∧ cd.hasDict = true := PySem.W.any_some c.hd
  refine PySem.W.get_bind I.kIn J (PySem.W.plainGet_of (c.get f)).1 (PySem.W.findObj_data (by rw [hcd]; rfl) hp.at_ hp.get hp.tak) (PySem.W.plainGet_of (c.get f)).2 ?_
  refine wpAny_call (PySem.W.prop_get I.kIn hrec (codeAny_mono (F.run X.A.in1 X.stack _ H ⟨[.ref a], []⟩ (.ref a :: ds) (.ref a :: dvs) Q _ hr.in1 I1.env0.in1 (hb _ [.ref a] I1.kIn hl) (.cons rfl hd) h) ?_))
  intro r s' hq
  cases r with
  | error er =>
    have hq : L2.CX X.prog X.w X.stack H { s with toks := s.toks + 1 } (fun cls d H' => NoAtt X.K cls ∧ E cls d H') er s' := hq
    obtain ⟨a3, B3, H3, cls3, d3, u1, u2, u3, u4, u5, u6, u7, ⟨⟨R, rfl, hm⟩, u8⟩⟩ := id hq
    subst u1
    have hE : L2.CX X.prog X.w X.stack H { s with toks := s.toks + 1 } E (.ref a3) s' := ⟨a3, B3, H3, _, d3, rfl, u2, u3, u4, u5, u6, u7, u8⟩
    have last := hx pins σ H _ _ s' I1 hE
    obtain ⟨oe, vs, T, oT, ts, g1, g2, _⟩ := u2.2.2.2
    obtain ⟨a2, B, sI, pins2, σ2, H2, cls, d, e1, I2, hB, hU, _⟩ := XE.of_call (W := fun cls d _ H' => NoAtt X.K cls ∧ E cls d H') I1 (fun _ _ _ z => z) hq
    obtain ⟨cdR, hcl, he⟩ := Option.bind_eq_some_iff.mp (show (PySem.W.clsIn X.K R).bind _ = some false from hm)
    have h5 : cdR.mro.isEmpty = false := by
      cases e : cdR.mro.isEmpty with
      | false => rfl
      | true => rw [if_pos e] at he; cases he
    rw [if_neg (by rw [h5]; decide)] at he
    have h6 := Option.some.inj he
    obtain ⟨oR, hR, hd4⟩ : ∃ o, X.K.lookup R = some o ∧ o.data = .cls cdR := by
      unfold PySem.W.clsIn at hcl
      split at hcl
      · rename_i heq
        cases hcl
        exact ⟨_, heq, rfl⟩
      · cases hcl
    have hI := I2.kIn R oR hR
    obtain ⟨sl, hs'⟩ := hU R oR hI (fun vs z => by rw [hd4] at z; cases z)
    show wpAny _ _ (noteIf true _ _ (.ref a3)) _ _ _
    exact note_no g1 g2.1 hs' hd4 h5 h6 last
  | ok fl =>
    cases fl with
    | ret u =>
      obtain ⟨v, H', I3, rv, q3⟩ := I1.after hq
      show wpAny _ _ (handedOut u) _ _ _
      rw [PySem.W.handedOut_of (handed_of rv)]
      exact wpAny_pure ⟨v, H', I3, rv, q3⟩
    | next => exact False.elim hq
    | brk => exact False.elim hq
    | cont => exact False.elim hq
theorem pe_propX {e : Expr} {pos : Pos} {ta : TE} (he : PE X e ta) (c : Cls X.K C) (hp : PropOf X.K C f p g) (F : FnOk X.prog X.w X.K X.mg X.base (L2.CX X.prog X.w) k g fd ps sp) (hr : Room (k + 1) X.A) (hb : Binds X.K fd ps ds) (hd : Vals dvs ds) (hx : Passes (L2.CX X.prog X.w) X E)
    (hab : attributeBase e f X.env (eval e X.env) = eval e X.env) : PE X (.Attribute e f pos) (tPropX X.K C sp dvs E ta) := by
  constructor
  intro pins s σ H Q I h
  refine attr_of hab (thn (he.run pins s σ H _ I h) ?_)
  rintro u s1 ⟨x, H1, I1, rx, a, dx, fs, rfl, ea, q⟩
  obtain rfl : u = .ref a := rx
  exact getprop_okX I1 ea c hp F hr hb hd hx q
theorem pe_propXK {K : PySem.W.Frag} {e : Expr} {pos : Pos} {ta : TE} (hK : X.K = K) (he : PE X e ta) (c : Cls K C) (hp : PropOf K C f p g) (F : FnOk X.prog X.w K X.mg X.base (L2.CX X.prog X.w) k g fd ps sp) (hr : Room (k + 1) X.A) (hb : Binds K fd ps ds) (hd : Vals dvs ds) (hx : Passes (L2.CX X.prog X.w) X E)
    (hab : attributeBase e f X.env (eval e X.env) = eval e X.env) : PE X (.Attribute e f pos) (tPropX K C sp dvs E ta) := by
  subst hK; exact pe_propX he c hp F hr hb hd hx hab
theorem r_tpropX {K : PySem.W.Frag} {ta : TE} (h : ta σ H fun x H1 => ∃ a dx fs, x = .ref a ∧ H1 a = some (.ins C dx fs) ∧ sp (.ref a :: []) H1 Q (fun cls d H' => NoAtt K cls ∧ E cls d H')) : tPropX K C sp [] E ta σ H Q := h
end
end Px

local macro_rules | `(tactic| walk_at "sx1") => `(tactic| with_reducible first
  | refine Sx.r_seq ?_ | refine Sx.r_asg ?_ | refine Sx.r_name ?_ | refine Sx.r_c ?_ | refine Sx.r_op ?_ | refine Sx.r_cons ?_ | refine Sx.r_nil ?_
  | (refine' Sx.r_var ?vxe ?_; (case vxe => with_unfolding_all exact rfl))
  | refine Sx.r_I0 ?_ | refine Sx.r_Ih ?_ ?_ | refine Sx.r_U ?_ | refine Sx.r_eqI ?_ | refine Sx.r_neI ?_ | refine Sx.r_eqS ?_ | refine Sx.r_neS ?_ | refine Sx.r_eqB ?_ | refine Sx.r_neB ?_
  | refine Sx.r_test ?_ | refine Sx.r_B ?_ | refine Sx.r_bl ?_ | refine Sx.r_int ?_ | refine Sx.r_ret ?_ | refine Sx.r_retN ?_ | refine Sx.r_drop ?_ | refine Sx.r_next ?_
  | refine Sx.r_and ?_ | refine Sx.r_or ?_ | refine Sx.r_not ?_ | refine Sx.r_andV ?_ | refine Sx.r_orV ?_ | refine Sx.r_notV ?_ | refine Sx.r_chain ?_
  | refine Sx.r_call ?_ | refine Sx.r_cb ?_ | refine Sx.r_make ?_ | refine Sx.r_tup ?_ | refine Sx.r_lst ?_ | refine Sx.r_tprop ?_ | refine Sx.r_meth ?_ | refine Sx.r_fld ?_ | refine Sx.r_sFld ?_ | refine Sx.r_BM ?_ | refine Sx.r_BM0 ?_
  | refine Sx.r_sub ?_ | refine Sx.r_sl ?_ | refine Sx.r_noPart ?_ | refine Sx.r_part ?_ | refine Sx.r_un ?_ | refine Sx.r_par ?_ | refine Sx.r_par3 ?_ | refine Sx.r_two ?_ | refine Sx.r_three ?_
  | refine Sx.r_isi_int_bool ?_ | refine Sx.r_isi_int_int ?_ | refine Sx.r_isi_str_str ?_
  | refine Sx.iteT' ?_ | refine Sx.iteF' ?_ | refine Sx.iteNT ?_ | refine Sx.iteNF ?_
  | refine Sx.r_for1 ?_ | refine Sx.r_for2 ?_ | refine Sx.r_forL ?_ | refine Sx.r_forT ?_ | refine Sx.r_forS ?_ | refine Sx.r_lc1 ?_ | refine Sx.r_lc2 ?_ | refine Sx.r_lcL ?_ | refine Sx.r_lcT ?_ | refine Sx.r_lcS ?_ | refine Sx.r_yes ?_ | refine Sx.r_seqS ?_
  | refine Sx.r_int1 ?_ | refine Sx.r_intB ?_ | refine Sx.r_abs ?_ | refine Sx.r_max ?_ | refine Sx.r_min ?_ | refine Sx.r_lenS ?_ ?_ | refine Sx.r_strI ?_ ?_ | refine Sx.r_strS ?_ | refine Sx.r_addS ?_ ?_ | refine Sx.r_ltS ?_ | refine Sx.r_cntS ?_ | refine Sx.r_findS ?_ | refine Sx.r_find3 ?_ | refine ⟨Sx.tyS, ?_⟩
  | refine Sy.r_lcN ?_ | refine Sy.r_forN ?_ | refine Sy.r_lcE ?_ | refine Sy.r_forE ?_ | refine Sy.r_mulS ?_ ?_ ?_ | refine Sy.r_listS ?_ ?_ | refine Mw.r_slS ?_ ?_
  | refine Rt.r_revT ?_ | refine Mj.r_din ?_ | refine Mj.r_dnotin ?_ | refine Mj.r_dget ?_ | refine Mj.r_dnew ?_ | refine Mj.r_dput ?_ | refine Mj.r_makeL ?_ | refine Mj.r_makeD ?_ | refine Px.r_tpropX ?_ | refine Mj.r_cmeth ?_ | refine Mj.r_dcT ?_ | refine Mj.r_lock ?_ | refine Mj.r_lcK ?_
  | refine Sx.r_gcons ?_ | refine Sx.r_gnil ?_
  | refine Sx.r_gcd ?_ | refine Sx.r_break ?_ | refine Sx.r_cont ?_)
local macro_rules | `(tactic| walk_at "sx") => `(tactic| (repeat walk_at "sx1"))
local macro_rules | `(tactic| walk_at "sd") => `(tactic| first | omega | assumption | decide | (exact Sx.cmA_l (by omega)) | (exact Sx.cmA_r (by omega)) | (exact ⟨by decide, by decide⟩) | (exact ⟨by decide, by decide, by decide⟩) | (exact Sx.cdivw (b := 64) (by omega) (by omega) (by decide)) | (exact Sx.cmA_w (Sx.cmulw (a := 64) (b := 64) (by omega) (by omega) (by decide))))
local macro_rules | `(tactic| walk_at "sxi") => `(tactic| (walk_at "sx"; refine Sx.r_ifs ?_; walk_at "sx"))

namespace Lw
open PySem PySem.Spec PyProof.Rows L2 Sx Sy Sw Dk Dl Me Mw
open En (NoNum)
open SX (S)
open C8 (pe_gc)
open SkE (call_repr_int call_str_str)
open RZ (pi_zipA)
def top (i : Nat) : Stmt := PySem.Challenge.pw_slantways_k35_levels_and_orders.main.body.getD i (.Pass ⟨0, 0, 0, 0⟩)
abbrev st_is_number : Stmt := top 7
abbrev N_is_number : List Str := ["value"]
theorem sc_is_number : FnScope N_is_number ["value"] (defScope st_is_number) := ⟨rfl, rfl, rfl, by decide +kernel, rfl, by decide +kernel, by decide +kernel⟩
abbrev st_is_whole_between : Stmt := top 8
abbrev N_is_whole_between : List Str := ["value", "least", "most"]
theorem sc_is_whole_between : FnScope N_is_whole_between ["value", "least", "most"] (defScope st_is_whole_between) := ⟨rfl, rfl, rfl, by decide +kernel, rfl, by decide +kernel, by decide +kernel⟩
abbrev st_is_same_row : Stmt := top 9
abbrev N_is_same_row : List Str := ["value", "row", "number"]
theorem sc_is_same_row : FnScope N_is_same_row ["value", "row"] (defScope st_is_same_row) := ⟨rfl, rfl, rfl, by decide +kernel, rfl, by decide +kernel, by decide +kernel⟩
abbrev st_running_sums : Stmt := top 11
abbrev N_running_sums : List Str := ["weights", "level", "sums", "weight"]
theorem sc_running_sums : FnScope N_running_sums ["weights"] (defScope st_running_sums) := ⟨rfl, rfl, rfl, by decide +kernel, rfl, by decide +kernel, by decide +kernel⟩
abbrev st_places_by_level : Stmt := top 12
abbrev N_places_by_level : List Str := ["levels", "places", "place", "falling", "in_order", "level"]
theorem sc_places_by_level : FnScope N_places_by_level ["levels"] (defScope st_places_by_level) := ⟨rfl, rfl, rfl, by decide +kernel, rfl, by decide +kernel, by decide +kernel⟩
abbrev st_Scale_init : Stmt := inClass (top 17) 0
abbrev N_Scale_init : List Str := ["self", "weights", "letter"]
theorem sc_Scale_init : FnScope N_Scale_init ["self", "weights"] (defScope st_Scale_init) := ⟨rfl, rfl, rfl, by decide +kernel, rfl, by decide +kernel, by decide +kernel⟩
abbrev st_Scale_weights : Stmt := inClass (top 17) 1
abbrev N_Scale_weights : List Str := ["self"]
theorem sc_Scale_weights : FnScope N_Scale_weights ["self"] (defScope st_Scale_weights) := ⟨rfl, rfl, rfl, by decide +kernel, rfl, by decide +kernel, by decide +kernel⟩
abbrev st_Scale_letters : Stmt := inClass (top 17) 2
abbrev N_Scale_letters : List Str := ["self"]
theorem sc_Scale_letters : FnScope N_Scale_letters ["self"] (defScope st_Scale_letters) := ⟨rfl, rfl, rfl, by decide +kernel, rfl, by decide +kernel, by decide +kernel⟩
abbrev st_Scale_place_levels : Stmt := inClass (top 17) 3
abbrev N_Scale_place_levels : List Str := ["self", "text"]
theorem sc_Scale_place_levels : FnScope N_Scale_place_levels ["self", "text"] (defScope st_Scale_place_levels) := ⟨rfl, rfl, rfl, by decide +kernel, rfl, by decide +kernel, by decide +kernel⟩
abbrev st_Scale_order : Stmt := inClass (top 17) 4
abbrev N_Scale_order : List Str := ["self", "text"]
theorem sc_Scale_order : FnScope N_Scale_order ["self", "text"] (defScope st_Scale_order) := ⟨rfl, rfl, rfl, by decide +kernel, rfl, by decide +kernel, by decide +kernel⟩
abbrev st_Scale_sorted_text : Stmt := inClass (top 17) 5
abbrev N_Scale_sorted_text : List Str := ["self", "text", "place"]
theorem sc_Scale_sorted_text : FnScope N_Scale_sorted_text ["self", "text"] (defScope st_Scale_sorted_text) := ⟨rfl, rfl, rfl, by decide +kernel, rfl, by decide +kernel, by decide +kernel⟩
abbrev st_Scale_is_order : Stmt := inClass (top 17) 9
abbrev N_Scale_is_order : List Str := ["self", "text", "value"]
theorem sc_Scale_is_order : FnScope N_Scale_is_order ["self", "text", "value"] (defScope st_Scale_is_order) := ⟨rfl, rfl, rfl, by decide +kernel, rfl, by decide +kernel, by decide +kernel⟩
abbrev st_Scale_getitem : Stmt := inClass (top 17) 13
abbrev N_Scale_getitem : List Str := ["self", "at"]
theorem sc_Scale_getitem : FnScope N_Scale_getitem ["self", "at"] (defScope st_Scale_getitem) := ⟨rfl, rfl, rfl, by decide +kernel, rfl, by decide +kernel, by decide +kernel⟩
abbrev st_Scale_contains : Stmt := inClass (top 17) 16
abbrev N_Scale_contains : List Str := ["self", "x"]
theorem sc_Scale_contains : FnScope N_Scale_contains ["self", "x"] (defScope st_Scale_contains) := ⟨rfl, rfl, rfl, by decide +kernel, rfl, by decide +kernel, by decide +kernel⟩
abbrev st_Scale_len : Stmt := inClass (top 17) 17
abbrev N_Scale_len : List Str := ["self"]
theorem sc_Scale_len : FnScope N_Scale_len ["self"] (defScope st_Scale_len) := ⟨rfl, rfl, rfl, by decide +kernel, rfl, by decide +kernel, by decide +kernel⟩
abbrev st_is_weights : Stmt := top 18
abbrev N_is_weights : List Str := ["value", "letter"]
theorem sc_is_weights : FnScope N_is_weights ["value"] (defScope st_is_weights) := ⟨rfl, rfl, rfl, by decide +kernel, rfl, by decide +kernel, by decide +kernel⟩
abbrev st_check_text : Stmt := top 19
abbrev N_check_text : List Str := ["scale", "text", "letter"]
theorem sc_check_text : FnScope N_check_text ["scale", "text"] (defScope st_check_text) := ⟨rfl, rfl, rfl, by decide +kernel, rfl, by decide +kernel, by decide +kernel⟩
abbrev st_weights_of : Stmt := top 20
abbrev N_weights_of : List Str := ["scale", "text", "letter"]
theorem sc_weights_of : FnScope N_weights_of ["scale", "text"] (defScope st_weights_of) := ⟨rfl, rfl, rfl, by decide +kernel, rfl, by decide +kernel, by decide +kernel⟩
abbrev st_law_dice : Stmt := top 22
abbrev N_law_dice : List Str := ["_law_script", "_law_spot", "_law_cell", "_law_left"]
theorem sc_law_dice : FnScope N_law_dice ["_law_script", "_law_spot"] (defScope st_law_dice) := ⟨rfl, rfl, rfl, by decide +kernel, rfl, by decide +kernel, by decide +kernel⟩
abbrev st_law_roll : Stmt := top 23
abbrev N_law_roll : List Str := ["_law_dice_here", "_law_total", "_law_found", "_law_one", "_law_two"]
theorem sc_law_roll : FnScope N_law_roll ["_law_dice_here", "_law_total"] (defScope st_law_roll) := ⟨rfl, rfl, rfl, by decide +kernel, rfl, by decide +kernel, by decide +kernel⟩
abbrev st_law_pick : Stmt := top 24
abbrev N_law_pick : List Str := ["_law_dice_here", "_law_items"]
theorem sc_law_pick : FnScope N_law_pick ["_law_dice_here", "_law_items"] (defScope st_law_pick) := ⟨rfl, rfl, rfl, by decide +kernel, rfl, by decide +kernel, by decide +kernel⟩
abbrev st_law_mixed : Stmt := top 25
abbrev N_law_mixed : List Str := ["_law_dice_here", "_law_items", "_law_left", "_law_found", "_law_turn"]
theorem sc_law_mixed : FnScope N_law_mixed ["_law_dice_here", "_law_items"] (defScope st_law_mixed) := ⟨rfl, rfl, rfl, by decide +kernel, rfl, by decide +kernel, by decide +kernel⟩
abbrev st_law_weights : Stmt := top 26
abbrev N_law_weights : List Str := ["_law_dice_here", "_law_most", "_law_letters", "_law_size", "_law_found", "_law_letter"]
theorem sc_law_weights : FnScope N_law_weights ["_law_dice_here", "_law_most"] (defScope st_law_weights) := ⟨rfl, rfl, rfl, by decide +kernel, rfl, by decide +kernel, by decide +kernel⟩
abbrev st_law_weighed : Stmt := top 27
abbrev N_law_weighed : List Str := ["_law_dice_here", "_law_weights_here", "_law_most", "_law_turn"]
theorem sc_law_weighed : FnScope N_law_weighed ["_law_dice_here", "_law_weights_here", "_law_most"] (defScope st_law_weighed) := ⟨rfl, rfl, rfl, by decide +kernel, rfl, by decide +kernel, by decide +kernel⟩
abbrev st_law_behind : Stmt := top 28
abbrev N_law_behind : List Str := ["_law_weights_here", "_law_text", "_law_found", "_law_level", "_law_sign"]
theorem sc_law_behind : FnScope N_law_behind ["_law_weights_here", "_law_text"] (defScope st_law_behind) := ⟨rfl, rfl, rfl, by decide +kernel, rfl, by decide +kernel, by decide +kernel⟩
abbrev st_law_rank : Stmt := top 29
abbrev N_law_rank : List Str := ["_law_level"]
theorem sc_law_rank : FnScope N_law_rank ["_law_level"] (defScope st_law_rank) := ⟨rfl, rfl, rfl, by decide +kernel, rfl, by decide +kernel, by decide +kernel⟩
abbrev st_law_place_order : Stmt := top 30
abbrev N_law_place_order : List Str := ["_law_weights_here", "_law_text", "_law_levels", "_law_rows", "_law_rank_here", "_law_back", "_law_at", "_law_level"]
theorem sc_law_place_order : FnScope N_law_place_order ["_law_weights_here", "_law_text"] (defScope st_law_place_order) := ⟨rfl, rfl, rfl, by decide +kernel, rfl, by decide +kernel, by decide +kernel⟩
abbrev st_law_sorted_by : Stmt := top 31
abbrev N_law_sorted_by : List Str := ["_law_weights_here", "_law_text", "_law_at"]
theorem sc_law_sorted_by : FnScope N_law_sorted_by ["_law_weights_here", "_law_text"] (defScope st_law_sorted_by) := ⟨rfl, rfl, rfl, by decide +kernel, rfl, by decide +kernel, by decide +kernel⟩
abbrev st_law_is_right : Stmt := top 32
abbrev N_law_is_right : List Str := ["_law_scale", "_law_weights_here", "_law_text", "_law_levels", "_law_order"]
theorem sc_law_is_right : FnScope N_law_is_right ["_law_scale", "_law_weights_here", "_law_text"] (defScope st_law_is_right) := ⟨rfl, rfl, rfl, by decide +kernel, rfl, by decide +kernel, by decide +kernel⟩
abbrev st_law_others : Stmt := top 33
abbrev N_law_others : List Str := ["_law_dice_here", "_law_order", "_law_found", "_law_one", "_law_at"]
theorem sc_law_others : FnScope N_law_others ["_law_dice_here", "_law_order"] (defScope st_law_others) := ⟨rfl, rfl, rfl, by decide +kernel, rfl, by decide +kernel, by decide +kernel⟩
abbrev st_law_case : Stmt := top 34
abbrev N_law_case : List Str := ["_law_dice_here", "_law_weights_here", "_law_scale", "_law_text", "_law_some", "_law_order", "_law_told", "_law_value"]
theorem sc_law_case : FnScope N_law_case ["_law_dice_here"] (defScope st_law_case) := ⟨rfl, rfl, rfl, by decide +kernel, rfl, by decide +kernel, by decide +kernel⟩
abbrev st_law : Stmt := top 35
abbrev N_law : List Str := ["_law_script", "_law_spot", "_law_tilt"]
theorem sc_law : FnScope N_law ["_law_script"] (defScope st_law) := ⟨rfl, rfl, rfl, by decide +kernel, rfl, by decide +kernel, by decide +kernel⟩
structure Tx (K : PySem.W.Frag) (mg : Str → Option Value) where
  C_Scale : Addr
  a_is_number : Addr
  d_is_number : FuncData
  F_is_number : Fun K "is_number" "is_number" st_is_number a_is_number d_is_number
  b_is_number : Binds K d_is_number ["value"] []
  g_is_number : mg "is_number" = some (.ref a_is_number)
  a_is_whole_between : Addr
  d_is_whole_between : FuncData
  F_is_whole_between : Fun K "is_whole_between" "is_whole_between" st_is_whole_between a_is_whole_between d_is_whole_between
  b_is_whole_between : Binds K d_is_whole_between ["value", "least", "most"] []
  g_is_whole_between : mg "is_whole_between" = some (.ref a_is_whole_between)
  a_is_same_row : Addr
  d_is_same_row : FuncData
  F_is_same_row : Fun K "is_same_row" "is_same_row" st_is_same_row a_is_same_row d_is_same_row
  b_is_same_row : Binds K d_is_same_row ["value", "row"] []
  g_is_same_row : mg "is_same_row" = some (.ref a_is_same_row)
  a_running_sums : Addr
  d_running_sums : FuncData
  F_running_sums : Fun K "running_sums" "running_sums" st_running_sums a_running_sums d_running_sums
  b_running_sums : Binds K d_running_sums ["weights"] []
  g_running_sums : mg "running_sums" = some (.ref a_running_sums)
  a_places_by_level : Addr
  d_places_by_level : FuncData
  F_places_by_level : Fun K "places_by_level" "places_by_level" st_places_by_level a_places_by_level d_places_by_level
  b_places_by_level : Binds K d_places_by_level ["levels"] []
  g_places_by_level : mg "places_by_level" = some (.ref a_places_by_level)
  a_Scale_init : Addr
  d_Scale_init : FuncData
  F_Scale_init : Fun K "__init__" "Scale.__init__" st_Scale_init a_Scale_init d_Scale_init
  b_Scale_init : Binds K d_Scale_init ["self", "weights"] []
  a_Scale_weights : Addr
  d_Scale_weights : FuncData
  F_Scale_weights : Fun K "weights" "Scale.weights" st_Scale_weights a_Scale_weights d_Scale_weights
  b_Scale_weights : Binds K d_Scale_weights ["self"] []
  a_Scale_letters : Addr
  d_Scale_letters : FuncData
  F_Scale_letters : Fun K "letters" "Scale.letters" st_Scale_letters a_Scale_letters d_Scale_letters
  b_Scale_letters : Binds K d_Scale_letters ["self"] []
  a_Scale_place_levels : Addr
  d_Scale_place_levels : FuncData
  F_Scale_place_levels : Fun K "place_levels" "Scale.place_levels" st_Scale_place_levels a_Scale_place_levels d_Scale_place_levels
  b_Scale_place_levels : Binds K d_Scale_place_levels ["self", "text"] []
  a_Scale_order : Addr
  d_Scale_order : FuncData
  F_Scale_order : Fun K "order" "Scale.order" st_Scale_order a_Scale_order d_Scale_order
  b_Scale_order : Binds K d_Scale_order ["self", "text"] []
  a_Scale_sorted_text : Addr
  d_Scale_sorted_text : FuncData
  F_Scale_sorted_text : Fun K "sorted_text" "Scale.sorted_text" st_Scale_sorted_text a_Scale_sorted_text d_Scale_sorted_text
  b_Scale_sorted_text : Binds K d_Scale_sorted_text ["self", "text"] []
  a_Scale_is_order : Addr
  d_Scale_is_order : FuncData
  F_Scale_is_order : Fun K "is_order" "Scale.is_order" st_Scale_is_order a_Scale_is_order d_Scale_is_order
  b_Scale_is_order : Binds K d_Scale_is_order ["self", "text", "value"] []
  a_Scale_getitem : Addr
  d_Scale_getitem : FuncData
  F_Scale_getitem : Fun K "__getitem__" "Scale.__getitem__" st_Scale_getitem a_Scale_getitem d_Scale_getitem
  b_Scale_getitem : Binds K d_Scale_getitem ["self", "at"] []
  a_Scale_contains : Addr
  d_Scale_contains : FuncData
  F_Scale_contains : Fun K "__contains__" "Scale.__contains__" st_Scale_contains a_Scale_contains d_Scale_contains
  b_Scale_contains : Binds K d_Scale_contains ["self", "x"] []
  a_Scale_len : Addr
  d_Scale_len : FuncData
  F_Scale_len : Fun K "__len__" "Scale.__len__" st_Scale_len a_Scale_len d_Scale_len
  b_Scale_len : Binds K d_Scale_len ["self"] []
  a_is_weights : Addr
  d_is_weights : FuncData
  F_is_weights : Fun K "is_weights" "is_weights" st_is_weights a_is_weights d_is_weights
  b_is_weights : Binds K d_is_weights ["value"] []
  g_is_weights : mg "is_weights" = some (.ref a_is_weights)
  a_check_text : Addr
  d_check_text : FuncData
  F_check_text : Fun K "check_text" "check_text" st_check_text a_check_text d_check_text
  b_check_text : Binds K d_check_text ["scale", "text"] []
  g_check_text : mg "check_text" = some (.ref a_check_text)
  a_weights_of : Addr
  d_weights_of : FuncData
  F_weights_of : Fun K "weights_of" "weights_of" st_weights_of a_weights_of d_weights_of
  b_weights_of : Binds K d_weights_of ["scale", "text"] []
  g_weights_of : mg "weights_of" = some (.ref a_weights_of)
  a_law_dice : Addr
  d_law_dice : FuncData
  F_law_dice : Fun K "_law_dice" "_law_dice" st_law_dice a_law_dice d_law_dice
  b_law_dice : Binds K d_law_dice ["_law_script", "_law_spot"] []
  g_law_dice : mg "_law_dice" = some (.ref a_law_dice)
  a_law_roll : Addr
  d_law_roll : FuncData
  F_law_roll : Fun K "_law_roll" "_law_roll" st_law_roll a_law_roll d_law_roll
  b_law_roll : Binds K d_law_roll ["_law_dice_here", "_law_total"] []
  g_law_roll : mg "_law_roll" = some (.ref a_law_roll)
  a_law_pick : Addr
  d_law_pick : FuncData
  F_law_pick : Fun K "_law_pick" "_law_pick" st_law_pick a_law_pick d_law_pick
  b_law_pick : Binds K d_law_pick ["_law_dice_here", "_law_items"] []
  g_law_pick : mg "_law_pick" = some (.ref a_law_pick)
  a_law_mixed : Addr
  d_law_mixed : FuncData
  F_law_mixed : Fun K "_law_mixed" "_law_mixed" st_law_mixed a_law_mixed d_law_mixed
  b_law_mixed : Binds K d_law_mixed ["_law_dice_here", "_law_items"] []
  g_law_mixed : mg "_law_mixed" = some (.ref a_law_mixed)
  a_law_weights : Addr
  d_law_weights : FuncData
  F_law_weights : Fun K "_law_weights" "_law_weights" st_law_weights a_law_weights d_law_weights
  b_law_weights : Binds K d_law_weights ["_law_dice_here", "_law_most"] []
  g_law_weights : mg "_law_weights" = some (.ref a_law_weights)
  a_law_weighed : Addr
  d_law_weighed : FuncData
  F_law_weighed : Fun K "_law_weighed" "_law_weighed" st_law_weighed a_law_weighed d_law_weighed
  b_law_weighed : Binds K d_law_weighed ["_law_dice_here", "_law_weights_here", "_law_most"] []
  g_law_weighed : mg "_law_weighed" = some (.ref a_law_weighed)
  a_law_behind : Addr
  d_law_behind : FuncData
  F_law_behind : Fun K "_law_behind" "_law_behind" st_law_behind a_law_behind d_law_behind
  b_law_behind : Binds K d_law_behind ["_law_weights_here", "_law_text"] []
  g_law_behind : mg "_law_behind" = some (.ref a_law_behind)
  a_law_rank : Addr
  d_law_rank : FuncData
  F_law_rank : Fun K "_law_rank" "_law_rank" st_law_rank a_law_rank d_law_rank
  b_law_rank : Binds K d_law_rank ["_law_level"] []
  g_law_rank : mg "_law_rank" = some (.ref a_law_rank)
  a_law_place_order : Addr
  d_law_place_order : FuncData
  F_law_place_order : Fun K "_law_place_order" "_law_place_order" st_law_place_order a_law_place_order d_law_place_order
  b_law_place_order : Binds K d_law_place_order ["_law_weights_here", "_law_text"] []
  g_law_place_order : mg "_law_place_order" = some (.ref a_law_place_order)
  a_law_sorted_by : Addr
  d_law_sorted_by : FuncData
  F_law_sorted_by : Fun K "_law_sorted_by" "_law_sorted_by" st_law_sorted_by a_law_sorted_by d_law_sorted_by
  b_law_sorted_by : Binds K d_law_sorted_by ["_law_weights_here", "_law_text"] []
  g_law_sorted_by : mg "_law_sorted_by" = some (.ref a_law_sorted_by)
  a_law_is_right : Addr
  d_law_is_right : FuncData
  F_law_is_right : Fun K "_law_is_right" "_law_is_right" st_law_is_right a_law_is_right d_law_is_right
  b_law_is_right : Binds K d_law_is_right ["_law_scale", "_law_weights_here", "_law_text"] []
  g_law_is_right : mg "_law_is_right" = some (.ref a_law_is_right)
  a_law_others : Addr
  d_law_others : FuncData
  F_law_others : Fun K "_law_others" "_law_others" st_law_others a_law_others d_law_others
  b_law_others : Binds K d_law_others ["_law_dice_here", "_law_order"] []
  g_law_others : mg "_law_others" = some (.ref a_law_others)
  a_law_case : Addr
  d_law_case : FuncData
  F_law_case : Fun K "_law_case" "_law_case" st_law_case a_law_case d_law_case
  b_law_case : Binds K d_law_case ["_law_dice_here"] []
  g_law_case : mg "_law_case" = some (.ref a_law_case)
  a_law : Addr
  d_law : FuncData
  F_law : Fun K "law" "law" st_law a_law d_law
  b_law : Binds K d_law ["_law_script"] []
  g_law : mg "law" = some (.ref a_law)
  g_Scale : mg "Scale" = some (.ref C_Scale)
  cl_Scale : Cls K C_Scale
  na_Scale_letters : NoAttr K C_Scale "_letters"
  na_Scale_weights : NoAttr K C_Scale "_weights"
  mk_Scale : Mk K C_Scale a_Scale_init
  me_Scale_place_levels : Meth K C_Scale "place_levels" a_Scale_place_levels
  me_Scale_order : Meth K C_Scale "order" a_Scale_order
  me_Scale_sorted_text : Meth K C_Scale "sorted_text" a_Scale_sorted_text
  me_Scale_is_order : Meth K C_Scale "is_order" a_Scale_is_order
  me_Scale_getitem : Meth K C_Scale "__getitem__" a_Scale_getitem
  me_Scale_contains : Meth K C_Scale "__contains__" a_Scale_contains
  me_Scale_len : Meth K C_Scale "__len__" a_Scale_len
  fn_Scale : PySem.W.fnIn K a_Scale_getitem = true
  p_Scale_weights : Addr
  pr_Scale_weights : PropOf K C_Scale "weights" p_Scale_weights a_Scale_weights
  p_Scale_letters : Addr
  pr_Scale_letters : PropOf K C_Scale "letters" p_Scale_letters a_Scale_letters
  ic_Scale : PySem.W.findIn K (.ref C_Scale) "__class__" = some (some (.builtin "object.__class__"))
  mr_Scale : PySem.W.mroIn K C_Scale (.type "object") = some true
  ks_Scale : PySem.W.kitOne K (.ref C_Scale) (.ref C_Scale) = some true
  cg : PySem.W.specialIn K (.builtin "object.__class__") "__get__" = some (some (.builtin "getset_descriptor.__get__"))
  ct : PySem.W.takesIn K (.builtin "object.__class__") = some true
  n_abs : mg "abs" = none
  n_all : mg "all" = none
  n_any : mg "any" = none
  n_bool : mg "bool" = none
  n_dict : mg "dict" = none
  n_enumerate : mg "enumerate" = none
  n_int : mg "int" = none
  n_isinstance : mg "isinstance" = none
  n_len : mg "len" = none
  n_list : mg "list" = none
  n_max : mg "max" = none
  n_min : mg "min" = none
  n_range : mg "range" = none
  n_sorted : mg "sorted" = none
  n_str : mg "str" = none
  n_tuple : mg "tuple" = none
  c_MAX_WEIGHT : ∃ u, mg "MAX_WEIGHT" = some u ∧ RelV (.int 12) u
  c_MAX_TEXT : ∃ u, mg "MAX_TEXT" = some u ∧ RelV (.int 24) u
  c_LETTERS : ∃ u, mg "LETTERS" = some u ∧ RelV (.str "abcde") u
section
variable {P : Program} {w : World} {K : PySem.W.Frag} {mg : Str → Option Value} {base : Heap}
/-! ### is_number, is_whole_between -/
def sp_is_number (K : PySem.W.Frag) : Sp := fun vs H Q _ => (∃ i : Int, vs = [.int i] ∧ Q (.bl true) H) ∨ ∃ v, vs = [v] ∧ NoNum K H v ∧ Q (.bl false) H
theorem ok_is_number (T : Tx K mg) : FnOk P w K mg base CX0 1 T.a_is_number T.d_is_number ["value"] (sp_is_number K) := by
  refine T.F_is_number.ok sc_is_number (fun vs H Q E h => ?_) (fun cdv A outer s H vs Q E hr h => ?_)
  · obtain ⟨i, rfl, _⟩ | ⟨v, rfl, _⟩ := h <;> rfl
  · refine ⟨_, (pss_one (ps_ret (pe_and (pe_callB call_isi (by rfl) T.n_isinstance Sx.bt_isinstance (pa_cons (pv 0) (pa_cons (pe_bltn (v := .ty "int") (by rfl) T.n_int Sx.bt_int rfl) pa_nil))) (pe_one (pe_not (pe_callB call_isi (by rfl) T.n_isinstance Sx.bt_isinstance (pa_cons (pv 0) (pa_cons (pe_bltn (v := .ty "bool") (by rfl) T.n_bool Sx.bt_bool rfl) pa_nil)))))))), ?_⟩
    obtain ⟨i, rfl, q⟩ | ⟨v, rfl, ⟨t, b1, b2, ht, h1, h2, h3⟩, q⟩ := h
    · refine Sx.r_st (σ' := [some (.int i)]) rfl ?_
      walk_at "sx"
      exact q
    · refine Sx.r_st (σ' := [some (v)]) rfl ?_
      walk_at "sx"
      refine ⟨v, .ty "int", t, .type "int", b1, rfl, .ty _, ht, h1, ?_⟩
      cases b1 with
      | false => walk_at "sx"; exact q
      | true =>
        have e2 : b2 = true := by simpa using h3
        subst e2
        walk_at "sx"
        refine ⟨v, .ty "bool", t, .type "bool", true, rfl, .ty _, ht, h2, ?_⟩
        walk_at "sx"
        exact q
def sp_is_whole_between (K : PySem.W.Frag) : Sp := fun vs H Q _ => (∃ v a b : Int, vs = [.int v, .int a, .int b] ∧ Q (.bl (decide (a ≤ v ∧ v ≤ b))) H) ∨ ∃ v, ∃ a b : Int, vs = [v, .int a, .int b] ∧ NoNum K H v ∧ Q (.bl false) H
theorem ok_is_whole_between (T : Tx K mg) : FnOk P w K mg base CX0 2 T.a_is_whole_between T.d_is_whole_between ["value", "least", "most"] (sp_is_whole_between K) := by
  refine T.F_is_whole_between.ok sc_is_whole_between (fun vs H Q E h => ?_) (fun cdv A outer s H vs Q E hr h => ?_)
  · obtain ⟨v, a, b, rfl, _⟩ | ⟨v, a, b, rfl, _⟩ := h <;> rfl
  · refine ⟨_, (pss_one (ps_ret (pe_and (pe_call (ok_is_number T) (hr.mono (by decide)) (by rfl) T.g_is_number T.F_is_number.kp T.b_is_number .nil pass0 (pa_cons (pv 0) pa_nil)) (pe_one (pe_chain op_le op_le (pv 1) (pv 0) (pv 2)))))), ?_⟩
    obtain ⟨v, a, b, rfl, q⟩ | ⟨v, a, b, rfl, hn, q⟩ := h
    · refine Sx.r_st (σ' := [some (.int v), some (.int a), some (.int b)]) rfl ?_
      walk_at "sx"
      refine .inl ⟨v, rfl, ?_⟩
      walk_at "sx"
      refine ite_d (fun h1 => ?_) (fun h1 => ?_)
      · walk_at "sx"
        have e : decide (a ≤ v ∧ v ≤ b) = decide (v ≤ b) := by simp [h1]
        rw [← e]; exact q
      · have e : decide (a ≤ v ∧ v ≤ b) = false := by simp [h1]
        rw [← e]; exact q
    · refine Sx.r_st (σ' := [some (v), some (.int a), some (.int b)]) rfl ?_
      walk_at "sx"
      refine .inr ⟨v, rfl, hn, ?_⟩
      walk_at "sx"
      exact q
def sp_law_dice (K : PySem.W.Frag) : Sp := fun vs H Q _ => ∃ (a : Addr) (ns : List Int) (i : Nat), vs = [.ref a, .int i] ∧ SqL K H a (ns.map V.int) ∧ i ≤ 63 ∧ ∀ d H', Same H H' → H d = none → Dice H' d → Q (.ref d) H'
theorem ok_law_dice (T : Tx K mg) : FnOk P w K mg base CX0 1 T.a_law_dice T.d_law_dice ["_law_script", "_law_spot"] (sp_law_dice K) := by
  refine T.F_law_dice.ok sc_law_dice (fun vs H Q E h => ?_) (fun cdv A outer s H vs Q E hr h => ?_)
  · obtain ⟨a, ns, i, rfl, _⟩ := h; rfl
  · obtain ⟨a, ns, i, rfl, hS, hi, q⟩ := h
    refine ⟨_, (pss_cons (ps_set (i := 2) sc_law_dice.nd rfl (.inl rfl) (pe_ifExp (pt_cmpR op_lt (pv 1) (pe_callB Sx.c_len (by rfl) T.n_len Sx.bt_len (pa_cons (pv 0) pa_nil)) (nomark _)) (pe_callTy Sx.c_int (by rfl) T.n_int Sx.bt_int (pa_cons (pe_ix ix_list (pv 0) (pv 1) (fun _ _ => rfl)) pa_nil)) (pe_op op_add (pe_op Sx.op_mulA pe_int (pv 1)) pe_int)))
      (pss_cons (ps_set (i := 3) sc_law_dice.nd rfl (.inl rfl) (pe_op op_mod (pe_callB (Sx.c_max rfl) (by rfl) T.n_max Sx.bt_max (pa_cons pe_int (pa_cons (pe_op op_sub (pe_callB Sx.c_abs (by rfl) T.n_abs Sx.bt_abs (pa_cons (pv 2) pa_nil)) (pe_op op_pow pe_int pe_int)) pa_nil))) (pe_op Sx.op_mulA (pe_op op_pow pe_int pe_int) (pe_op op_pow pe_int pe_int))))
      (pss_one (ps_ret (pe_lst (pa_cons (pv 3) (pa_cons (pe_op op_add (pe_op op_add (pe_op op_add (pe_op Sx.op_mulA (pe_op op_mod (pe_callB Sx.c_abs (by rfl) T.n_abs Sx.bt_abs (pa_cons (pv 2) pa_nil)) pe_int) pe_int) (pe_op Sx.op_mulA pe_int (pv 1))) (pe_op Sx.op_mulA pe_int (pe_callTy Sx.c_int (by rfl) T.n_int Sx.bt_int (pa_cons (pe_cmpR op_lt (pv 2) pe_int (nomark _)) pa_nil)))) pe_int) (pa_cons pe_int pa_nil)))))))), ?_⟩
    refine Sx.r_st (σ' := [some (.ref a), some (.int i), none, none]) rfl ?_
    walk_at "sx"
    refine r_cutQ (fun v H1 => H1 = H ∧ ∃ x : Int, v = .int x) (fun Q' k => ?_) ?_
    · refine r_ifE ?_
      walk_at "sx"
      refine r_lenL hS ?_
      walk_at "sx"
      rw [List.length_map]
      refine ite_d (fun h => ?_) (fun h => ?_)
      · have h' : i < ns.length := by omega
        walk_at "sx"
        refine ⟨a, _, _, _, rfl, rfl, hS, atI_nat (j := i) (v := .int ns[i]) (by rw [List.getElem?_map, List.getElem?_eq_getElem h']; rfl), ?_⟩
        walk_at "sx"
        exact k _ _ ⟨rfl, _, rfl⟩
      · walk_at "sx"
        · exact k _ _ ⟨rfl, _, rfl⟩
        all_goals walk_at "sd"
    · rintro v H1 ⟨rfl, x, rfl⟩
      walk_at "sx"
      · refine ⟨sz _ (Nat.le_of_ble_eq_true rfl), fun d hd => ?_⟩
        exact q _ _ (same_new hd) hd ⟨_, _, _, upd_same⟩
      all_goals first | walk_at "sd" | exact cmA_w (by unfold CMulW; decide +kernel)
def sp_law_roll : Sp := fun vs H Q _ => ∃ (d : Addr) (n : Int), vs = [.ref d, .int n] ∧ Dice H d ∧ 0 < n ∧ n.natAbs.log2 < 9000 ∧ ∀ r H', 0 ≤ r → r < n → Kp d H H' → Q (.int r) H'
theorem ok_law_roll (T : Tx K mg) : FnOk P w K mg base CX0 1 T.a_law_roll T.d_law_roll ["_law_dice_here", "_law_total"] sp_law_roll := by
  refine T.F_law_roll.ok sc_law_roll (fun vs H Q E h => ?_) (fun cdv A outer s H vs Q E hr h => ?_)
  · obtain ⟨d, n, rfl, _⟩ := h; rfl
  · obtain ⟨d, n, rfl, ⟨x, y, z, hd⟩, hn, hl, q⟩ := h
    refine ⟨_, (pss_cons (ps_if (pt_cmpR op_gt (pe_ix ix_list (pv 0) pe_int (fun _ _ => rfl)) pe_int (nomark _)) (pss_cons (ps_set (i := 2) sc_law_roll.nd rfl (.inl rfl) (pe_op op_mod (pe_callTy Sx.c_int (by rfl) T.n_int Sx.bt_int (pa_cons (pe_ix ix_list (pv 0) pe_int (fun _ _ => rfl)) pa_nil)) (pv 1)))
      (pss_cons (ps_asg (pe_op op_fdivW (pe_ix ix_list (pv 0) pe_int (fun _ _ => rfl)) (pv 1)) (pg_sub (pv 0) pe_int set_list))
      (pss_one (ps_ret (pv 2))))) pss_nil)
      (pss_cons (ps_asg (pe_op op_add (pe_ix ix_list (pv 0) pe_int (fun _ _ => rfl)) pe_int) (pg_sub (pv 0) pe_int set_list))
      (pss_cons (ps_set (i := 3) sc_law_roll.nd rfl (.inl rfl) (pe_op op_mod (pe_callTy Sx.c_int (by rfl) T.n_int Sx.bt_int (pa_cons (pe_op op_add (pe_ix ix_list (pv 0) pe_int (fun _ _ => rfl)) (pe_op Sx.op_mulA pe_int (pe_ix ix_list (pv 0) pe_int (fun _ _ => rfl)))) pa_nil)) pe_int))
      (pss_cons (ps_set (i := 4) sc_law_roll.nd rfl (.inl rfl) (pe_op op_add (pe_op Sx.op_mulA (pe_op op_mod (pe_callTy Sx.c_int (by rfl) T.n_int Sx.bt_int (pa_cons (pe_op op_add (pe_op Sx.op_mulA (pv 3) (pv 3)) (pe_op Sx.op_mulA pe_int (pe_ix ix_list (pv 0) pe_int (fun _ _ => rfl)))) pa_nil)) pe_int) pe_int) (pv 3)))
      (pss_one (ps_ret (pe_op op_mod (pe_callTy Sx.c_int (by rfl) T.n_int Sx.bt_int (pa_cons (pe_op op_fdivW (pv 4) pe_int) pa_nil)) (pv 1)))))))), ?_⟩
    refine Sx.r_st (σ' := [some (.ref d), some (.int n), none, none, none]) rfl ?_
    walk_at "sxi"
    refine r_ixL hd (v := .int x) rfl ?_
    walk_at "sx"
    refine ite_d (fun h => ?_) (fun h => ?_)
    · walk_at "sx"
      refine r_ixL hd (v := .int x) rfl ?_
      walk_at "sx"
      · refine r_ixL hd (v := .int x) rfl ?_
        walk_at "sx"
        · refine r_setL hd (j := 0) rfl ?_
          walk_at "sx"
          refine q _ _ (Int.emod_nonneg _ (by omega)) (Int.emod_lt_of_pos _ hn) (Kp.put ⟨x, y, z, hd⟩)
        · exact ⟨hn, hl⟩
      · exact hn
    · walk_at "sx"
      refine r_ixL hd (v := .int z) rfl ?_
      walk_at "sx"
      refine r_setL hd (j := 2) rfl ?_
      walk_at "sx"
      refine r_ixL upd_same (v := .int y) rfl ?_
      walk_at "sx"
      refine r_ixL upd_same (v := .int (z + 1)) rfl ?_
      walk_at "sx"
      refine r_ixL upd_same (v := .int (z + 1)) rfl ?_
      walk_at "sx"
      · exact q _ _ (Int.emod_nonneg _ (by omega)) (Int.emod_lt_of_pos _ hn) (Kp.put ⟨x, y, z, hd⟩)
      all_goals walk_at "sd"
theorem log_small {n : Int} (h0 : 0 ≤ n) (h : n ≤ 1000) : n.natAbs.log2 < 9000 := PySem.Flt.log2_lt_of (by decide) (Nat.lt_of_le_of_lt (show n.natAbs ≤ 1000 by omega) (by decide +kernel))
def sp_law_pick : Sp := fun vs H Q _ => ∃ (d l : Addr) (xs : List V), vs = [.ref d, .ref l] ∧ Dice H d ∧ l ≠ d ∧ H l = some (.lst xs) ∧ 0 < xs.length ∧ xs.length ≤ 1000 ∧ ∀ v H', v ∈ xs → Kp d H H' → Q v H'
theorem ok_law_pick (T : Tx K mg) : FnOk P w K mg base CX0 2 T.a_law_pick T.d_law_pick ["_law_dice_here", "_law_items"] sp_law_pick := by
  refine T.F_law_pick.ok sc_law_pick (fun vs H Q E h => ?_) (fun cdv A outer s H vs Q E hr h => ?_)
  · obtain ⟨d, n, xs, rfl, _⟩ := h; rfl
  · obtain ⟨d, l, xs, rfl, hd, hld, hl, h0, hn, q⟩ := h
    refine ⟨_, (pss_one (ps_ret (pe_ix ix_list (pv 1) (pe_call (ok_law_roll T) (hr.mono (by decide)) (by rfl) T.g_law_roll T.F_law_roll.kp T.b_law_roll .nil pass0 (pa_cons (pv 0) (pa_cons (pe_callB Sx.c_len (by rfl) T.n_len Sx.bt_len (pa_cons (pv 1) pa_nil)) pa_nil))) (fun _ _ => rfl)))), ?_⟩
    refine Sx.r_st (σ' := [some (.ref d), some (.ref l)]) rfl ?_
    walk_at "sx"
    refine r_lenL (SqL.of hl) ?_
    walk_at "sx"
    refine ⟨d, xs.length, rfl, hd, by omega, ?_, fun r H' h1 h2 kp => ?_⟩
    · exact PySem.Flt.log2_lt_of (by decide) (Nat.lt_of_le_of_lt (show (xs.length : Int).natAbs ≤ 1000 by omega) (by decide +kernel))
    have hr : r.toNat < xs.length := by omega
    refine r_ixL (kp.k l _ hld hl) (v := xs[r.toNat]) ?_ ?_
    · have := atI_nat (xs := xs) (j := r.toNat) (v := xs[r.toNat]) (List.getElem?_eq_getElem hr)
      rw [Int.toNat_of_nonneg h1] at this; exact this
    exact q _ _ (List.getElem_mem hr) kp
/-! ### drawn orders -/
def sp_law_mixed : Sp := fun vs H Q _ => ∃ (d l : Addr) (α : Type) (f : α → V) (cs : List α), vs = [.ref d, .ref l] ∧ Dice H d ∧ H l = some (.lst (cs.map f)) ∧ cs.length ≤ 1000 ∧ ∀ (p : Addr) (zs : List α) (H' : Hp), zs.Perm cs → Kp d H H' → H p = none → H' p = some (.lst (zs.map f)) → Q (.ref p) H'
theorem kp_none {d : Addr} {H H1 : Hp} (k : Kp d H H1) {p : Addr} (h : H1 p = none) : H p = none := k.free h
theorem dice_ne {H : Hp} {d p : Addr} (h : Dice H d) (e : H p = none) : p ≠ d := by
  obtain ⟨x, y, z, h⟩ := h
  exact (ne_of_none h e).symm
theorem ok_law_mixed (T : Tx K mg) : FnOk P w K mg base CX0 2 T.a_law_mixed T.d_law_mixed ["_law_dice_here", "_law_items"] sp_law_mixed := by
  refine T.F_law_mixed.ok sc_law_mixed (fun vs H Q E h => ?_) (fun cdv A outer s H vs Q E hr h => ?_)
  · obtain ⟨d, l, α, f, cs, rfl, _⟩ := h; rfl
  · obtain ⟨d, l, α, f, cs, rfl, hd, hl, hn, q⟩ := h
    refine ⟨_, (pss_cons (ps_par (i := 2) (j := 3) (by rfl) sc_law_mixed.nd rfl rfl (by decide) rfl rfl (pa_cons (pe_callTy Sx.c_lstOf (by rfl) T.n_list Sx.bt_list (pa_cons (pv 1) pa_nil)) (pa_cons (pe_lst pa_nil) pa_nil)) (by rfl))
      (pss_cons (ps_for PassesOwn.never rfl (pi_range1 (by rfl) T.n_range (pa_cons (pe_callB Sx.c_len (by rfl) T.n_len Sx.bt_len (pa_cons (pv 1) pa_nil)) pa_nil)) (pg_name (i := 4) sc_law_mixed.nd rfl (.inl rfl)) (pss_one (ps_expr (pe_bm PySem.F.plainAttrs_list PySem.F.slot_list_append PySem.F.type_list_append mt_append (pv 3) (pa_cons (pe_bm PySem.F.plainAttrs_list PySem.F.slot_list_pop PySem.F.type_list_pop mt_popAt (pv 2) (pa_cons (pe_call (ok_law_roll T) (hr.mono (by decide)) (by rfl) T.g_law_roll T.F_law_roll.kp T.b_law_roll .nil pass0 (pa_cons (pv 0) (pa_cons (pe_callB Sx.c_len (by rfl) T.n_len Sx.bt_len (pa_cons (pv 2) pa_nil)) pa_nil))) pa_nil)) pa_nil)))))
      (pss_one (ps_ret (pv 3))))), ?_⟩
    refine Sx.r_st (σ' := [some (.ref d), some (.ref l), none, none, none]) rfl ?_
    walk_at "sx"
    refine r_lstOfL (SqL.of hl) (fun u hu => ?_)
    walk_at "sx"
    refine ⟨Nat.zero_le _, fun v hv => ?_⟩
    have hud := dice_ne hd hu
    have hvu : v ≠ u := fun e => by rw [e, upd_same] at hv; cases hv
    have hvd : v ≠ d := dice_ne (let ⟨x, y, z, e⟩ := hd; ⟨x, y, z, by rw [upd_ne (ne_of_none e hu)]; exact e⟩) hv
    rw [upd_ne hvu] at hv
    walk_at "sx"
    have hlu : l ≠ u := ne_of_none hl hu
    have hlv : l ≠ v := ne_of_none hl hv
    have hl1 : (upd (upd H u (.lst (cs.map f))) v (.lst [])) l = some (.lst (cs.map f)) := by rw [upd_ne hlv, upd_ne hlu]; exact hl
    refine r_lenL (SqL.of hl1) ?_
    walk_at "sx"
    rw [List.length_map]
    refine r_rng1 ?_ (by omega) (by omega)
    refine fr_range (fun i σ' H' => Kp d H H' ∧ (∃ y4, σ' = [some (.ref d), some (.ref l), some (.ref u), some (.ref v), y4]) ∧ ∃ us ws : List α, (ws ++ us).Perm cs ∧ ws.length = i ∧ H' u = some (.lst (us.map f)) ∧ H' v = some (.lst (ws.map f))) ⟨((Kp.refl hd).mut hu).mut hv, ⟨none, rfl⟩, cs, [], List.Perm.refl _, rfl, by rw [upd_ne hvu.symm, upd_same], upd_same⟩ ?_ ?_
    · rintro i σ' H1 hi ⟨k1, ⟨y4, rfl⟩, us, ws, pm, hw, hu1, hv1⟩
      have hlen := pm.length_eq
      rw [List.length_append] at hlen
      walk_at "sx"
      refine ⟨tyL hv1, ?_⟩
      walk_at "sx"
      refine ⟨tyL hu1, ?_⟩
      walk_at "sx"
      refine r_lenL (SqL.of hu1) ?_
      walk_at "sx"
      rw [List.length_map]
      refine ⟨d, us.length, rfl, k1.d1, by omega, log_small (by omega) (by omega), fun r H2 r0 r1 k2 => ?_⟩
      have hr : r.toNat < us.length := by omega
      walk_at "sx"
      have hu2 := k2.k u _ hud hu1
      have hv2 := k2.k v _ hvd hv1
      refine r_pop (y := f us[r.toNat]) hu2 r0 (by rw [List.length_map]; exact r1) (by rw [List.length_map]; omega) (by rw [List.getElem?_map, List.getElem?_eq_getElem hr]; rfl) ?_
      walk_at "sx"
      refine r_app (xs := ws.map f) (by rw [upd_ne hvu]; exact hv2) ?_ (by rw [List.length_map]; exact sz' _ (by omega))
      refine ⟨((k1.trans k2).mut hu).mut hv, ⟨_, rfl⟩, us.eraseIdx r.toNat, ws ++ [us[r.toNat]], perm_pick hr pm, by rw [List.length_append, hw]; rfl, ?_, ?_⟩
      · rw [upd_ne hvu.symm, upd_same, erase_map]
      · rw [upd_same, List.map_append]; rfl
    · rintro σ' H1 ⟨k1, ⟨y4, rfl⟩, us, ws, pm, hw, hu1, hv1⟩
      have hlen := pm.length_eq
      rw [List.length_append] at hlen
      have e : us = [] := List.length_eq_zero_iff.mp (by omega)
      subst e
      rw [List.append_nil] at pm
      walk_at "sx"
      exact q v ws H1 pm k1 hv hv1
end
end Lw

namespace Lw
open PySem PySem.Spec PyProof.Rows L2 Sx Sy Sw Dk Dl Me Mw
open En (NoNum)
open SX (S)
open C8 (pe_gc)
open SkE (call_repr_int call_str_str)
open RZ (pi_zipA)
section
variable {P : Program} {w : World} {K : PySem.W.Frag} {mg : Str → Option Value} {base : Heap}
/-! ### weights -/
def WOk (ks : List Nat) (wt : Nat → Int) : Prop := ks ≠ [] ∧ (∀ c, c ∈ ks → c ∈ LET) ∧ (∀ c, c ∈ ks → -12 ≤ wt c ∧ wt c ≤ 12) ∧ ks.length ≤ 5
theorem WOk.cn {ks : List Nat} {wt : Nat → Int} (h : WOk ks wt) : WOk (Cn ks) wt := by
  obtain ⟨h0, h1, h2, h3⟩ := h
  refine ⟨fun e => ?_, fun c m => h1 c ((cn_mem h1).mp m), fun c m => h2 c ((cn_mem h1).mp m), cn_len ks⟩
  cases ks with
  | nil => exact h0 rfl
  | cons c ks => have := (cn_mem h1).mpr (List.mem_cons_self (a := c) (l := ks)); rw [e] at this; cases this
theorem let_len (c : Nat) : (ch c).length = 1 := rfl
theorem let_in : ∀ c, c ∈ LET → (!(Builtin.Str.occurrences ("abcde" : Str) (ch c) 0 ("abcde" : Str).length 1).isEmpty) = true := by decide +kernel
theorem tyDK {H : Hp} {d : Addr} {kvs : List (Key × V)} (h : H d = some (.dK kvs)) : TyX K H (.ref d) (.type "dict") := .base (.dK h)
def sp_is_weights : Sp := fun vs H Q _ => ∃ d ks wt, vs = [.ref d] ∧ H d = some (.dK (wKv ks wt)) ∧ WOk ks wt ∧ Q (.bl true) H
theorem upd_back {H : Hp} {d : Addr} {u o : HO} (h : H d = some u) : upd (upd H d o) d u = H := by
  funext b
  by_cases e : b = d
  · subst e; rw [upd_same, h]
  · rw [upd_ne e, upd_ne e]
theorem ok_is_weights (T : Tx K mg) : FnOk P w K mg base CX0 3 T.a_is_weights T.d_is_weights ["value"] (sp_is_weights) := by
  refine T.F_is_weights.ok sc_is_weights (fun vs H Q E h => ?_) (fun cdv A outer s H vs Q E hr h => ?_)
  · obtain ⟨d, ks, wt, rfl, _⟩ := h; rfl
  · obtain ⟨d, ks, wt, rfl, hd, ⟨w0, w1, w2, w3⟩, q⟩ := h
    refine ⟨_, (pss_cons (ps_if (PW.pt (pw_or (pt_not (pt_val (pe_callB call_isi (by rfl) T.n_isinstance Sx.bt_isinstance (pa_cons (pv 0) (pa_cons (pe_bltn (v := .ty "dict") (by rfl) T.n_dict Dk.bt_dict rfl) pa_nil))))) (pw_or1 (pt_cmpR op_eq (pe_callB call_lenD (by rfl) T.n_len Sx.bt_len (pa_cons (pv 0) pa_nil)) pe_int (nomark _))))) (pss_one (ps_ret pe_bl)) pss_nil)
      (pss_cons (ps_lock (ps_for PassesOwn.never rfl (pi_keys (pv 0)) (pg_name (i := 1) sc_is_weights.nd rfl (.inl rfl)) (pss_cons (ps_if (PW.pt (pw_or (pt_not (pt_val (pe_callB call_isi (by rfl) T.n_isinstance Sx.bt_isinstance (pa_cons (pv 1) (pa_cons (pe_bltn (v := .ty "str") (by rfl) T.n_str Sx.bt_str rfl) pa_nil))))) (pw_or (pt_cmpR op_ne (pe_callB Sx.c_lenS (by rfl) T.n_len Sx.bt_len (pa_cons (pv 1) pa_nil)) pe_int (nomark _)) (pw_or1 (pt_cmpR op_notin_str (pv 1) (pe_gc (by rfl) T.c_LETTERS) (by rfl)))))) (pss_one (ps_ret pe_bl)) pss_nil)
      (pss_one (ps_if (pt_not (pt_val (pe_call (ok_is_whole_between T) (hr.mono (by decide)) (by rfl) T.g_is_whole_between T.F_is_whole_between.kp T.b_is_whole_between .nil pass0 (pa_cons (pe_dget (Mj.hu1 hr) (pv 0) (pv 1) (fun _ _ => rfl)) (pa_cons (pe_un un_neg (pe_gc (by rfl) T.c_MAX_WEIGHT)) (pa_cons (pe_gc (by rfl) T.c_MAX_WEIGHT) pa_nil)))))) (pss_one (ps_ret pe_bl)) pss_nil)))))
      (pss_one (ps_ret pe_bl)))), ?_⟩
    refine Sx.r_st (σ' := [some (.ref d), none]) rfl ?_
    walk_at "sxi"
    refine ⟨_, _, _, _, true, rfl, .ty _, tyDK hd, kit_ty (by decide +kernel), ?_⟩
    walk_at "sx"
    refine ⟨d, _, rfl, hd, ?_⟩
    walk_at "sx"
    rw [wKv_len, show decide ((ks.length : Int) = 0) = false from decide_eq_false (fun z => w0 (List.length_eq_zero_iff.mp (by omega)))]
    walk_at "sx"
    refine r_slock ⟨d, _, hd, trivial, fun od => ?_⟩
    refine r_forK ?_
    walk_at "sx"
    have hl : (upd H d (.frz od (.dK (wKv ks wt)))) d = some (.frz od (.dK (wKv ks wt))) := upd_same
    refine ⟨d, od, rfl, .inl ⟨_, hl, ?_⟩⟩
    refine fr_keys (fun i σ' H' => H' = upd H d (.frz od (.dK (wKv ks wt))) ∧ ∃ y, σ' = [some (.ref d), y]) ⟨rfl, none, rfl⟩ (fun i σ' H' _ z => z.1 ▸ hl) ?_ ?_
    · rintro i k v σ' H' hk ⟨rfl, y, rfl⟩
      obtain ⟨c, hc, e⟩ : ∃ c, ks[i]? = some c ∧ (Sum.inr (ch c), V.int (wt c)) = (k, v) := by
        unfold wKv at hk
        rw [List.getElem?_map] at hk
        obtain ⟨c, h1, h2⟩ := Option.map_eq_some_iff.mp hk
        exact ⟨c, h1, h2⟩
      obtain ⟨rfl, rfl⟩ := Prod.mk.inj e
      have mc : c ∈ ks := List.mem_of_getElem? hc
      have bc := w2 c mc
      show gName 1 (.str (ch c)) _ _ _
      walk_at "sxi"
      rotate_left
      · rw [let_len, sizeLine_eq]; omega
      rw [show (!decide (((ch c).length : Int) = 1)) = false from rfl]
      walk_at "sx"
      refine ⟨_, _, rfl, rfl, ?_⟩
      rw [let_in c (w1 c mc)]
      walk_at "sxi"
      refine ⟨d, .int (wt c), rfl, .inl ⟨_, .inr (ch c), .inr ⟨od, hl⟩, rfl, (wKv_in mc).symm⟩, ?_⟩
      walk_at "sx"
      refine .inl ⟨wt c, -12, 12, rfl, ?_⟩
      walk_at "sx"
      rw [decide_eq_true bc]
      walk_at "sx"
      exact ⟨rfl, _, rfl⟩
    · rintro σ' H' ⟨rfl, y, rfl⟩
      refine ⟨hl, ?_⟩
      rw [upd_back hd]
      walk_at "sx"
      exact q
/-! ### Scale -/
def scF (t : Str) (d : Addr) : List (Str × V) := putF "_weights" (.ref d) (putF "_letters" (.str t) [])
theorem scF_l (t : Str) (d : Addr) : (scF t d).lookup ("_letters" : Str) = some (.str t) := by
  unfold scF; rw [lookup_putF, if_neg (by decide +kernel), lookup_putF, if_pos rfl]
theorem scF_w (t : Str) (d : Addr) : (scF t d).lookup ("_weights" : Str) = some (.ref d) := by
  unfold scF; rw [lookup_putF, if_pos rfl]
/-- v is the scale with these letters and weights -/
def ScaleAt (C : Addr) (H : Hp) (v : V) (L : List Nat) (wt : Nat → Int) : Prop := (WOk L wt ∧ Cn L = L) ∧ ∃ p dx t, v = .ref p ∧ H p = some (.ins C dx (scF (S L) t)) ∧ H t = some (.dK (wKv L wt))
theorem ScaleAt.mono {C : Addr} {H H' : Hp} {v : V} {L : List Nat} {wt : Nat → Int} (h : ScaleAt C H v L wt) (s : Same H H') : ScaleAt C H' v L wt := by
  obtain ⟨h1, p, dx, t, h2, h3, h4⟩ := h; exact ⟨h1, p, dx, t, h2, s _ _ h3, s _ _ h4⟩
theorem Kp_dk {d : Addr} {H H1 : Hp} (a : Kp d H H1) {p : Addr} {kvs : List (Key × V)} (e : H p = some (.dK kvs)) : H1 p = some (.dK kvs) := a.k p _ (by
  rintro rfl
  obtain ⟨x, y, z, h⟩ := a.d0
  rw [e] at h; cases h) e
theorem ScaleAt.kp {C : Addr} {H H' : Hp} {v : V} {L : List Nat} {wt : Nat → Int} {d : Addr} (h : ScaleAt C H v L wt) (s : Kp d H H') : ScaleAt C H' v L wt := by
  obtain ⟨h1, p, dx, t, h2, h3, h4⟩ := h; exact ⟨h1, p, dx, t, h2, s.ins h3, Kp_dk s h4⟩
/-- another object is written -/
theorem ScaleAt.off {C : Addr} {H H' : Hp} {v : V} {L : List Nat} {wt : Nat → Int} {g : Addr} {o : HO} (h : ScaleAt C H v L wt) (n : ∀ b x, b ≠ g → H b = some x → H' b = some x) (hg : ∀ p dx t, v = .ref p → H p = some (.ins C dx (scF (S L) t)) → g ≠ p ∧ g ≠ t) : ScaleAt C H' v L wt := by
  obtain ⟨h1, p, dx, t, h2, h3, h4⟩ := h
  obtain ⟨n1, n2⟩ := hg p dx t h2 h3
  exact ⟨h1, p, dx, t, h2, n _ _ n1.symm h3, n _ _ n2.symm h4⟩
theorem S_let : ("abcde" : Str) = S LET := rfl
theorem let_at {i c : Nat} (h : ("abcde" : Str).cps[i]? = some c) : LET[i]? = some c := by
  have : ("abcde" : Str).cps[i]? = LET[i]? := by rw [S_let]; exact List.getElem?_toArray
  rw [← this]; exact h
theorem S_at {L : List Nat} {i c : Nat} (h : (S L).cps[i]? = some c) : L[i]? = some c := by
  have : (S L).cps[i]? = L[i]? := List.getElem?_toArray
  rw [← this]; exact h
theorem S_size (L : List Nat) : (S L).cps.size = L.length := List.size_toArray
theorem asc_take {u : List Nat} (h : u.Pairwise (· < ·)) {i c : Nat} (hc : u[i]? = some c) : c ∉ u.take i := by
  intro m
  obtain ⟨j, hj⟩ := List.getElem?_of_mem m
  have hj1 := (List.getElem?_eq_some_iff.mp hj).1
  rw [List.length_take] at hj1
  rw [List.getElem?_take, if_pos (by omega)] at hj
  obtain ⟨hi, e1⟩ := List.getElem?_eq_some_iff.mp hc
  obtain ⟨hj2, e2⟩ := List.getElem?_eq_some_iff.mp hj
  have := List.pairwise_iff_getElem.mp h j i hj2 hi (by omega)
  omega
def sp_Scale_init (C : Addr) : Sp := fun vs H Q _ => ∃ p dx d ks wt, vs = [.ref p, .ref d] ∧ H p = some (.ins C dx []) ∧ H d = some (.dK (wKv ks wt)) ∧ WOk ks wt ∧
  ∀ t H', H t = none → (∀ c o, c ≠ p → H c = some o → H' c = some o) → H' p = some (.ins C dx (scF (S (Cn ks)) t)) → H' t = some (.dK (wKv (Cn ks) wt)) → Q .non H'
theorem ok_Scale_init (T : Tx K mg) : FnOk P w K mg base CX0 4 T.a_Scale_init T.d_Scale_init ["self", "weights"] (sp_Scale_init T.C_Scale) := by
  refine T.F_Scale_init.ok sc_Scale_init (fun vs H Q E h => ?_) (fun cdv A outer s H vs Q E hr h => ?_)
  · obtain ⟨p, dx, d, ks, wt, rfl, _⟩ := h; rfl
  · obtain ⟨p, dx, d, ks, wt, rfl, hp, hd, hw, q⟩ := h
    refine ⟨_, (pss_cons (ps_if (pt_not (pt_val (pe_call (ok_is_weights T) (hr.mono (by decide)) (by rfl) T.g_is_weights T.F_is_weights.kp T.b_is_weights .nil pass0 (pa_cons (pv 1) pa_nil)))) pss_never pss_nil)
      (pss_cons (ps_fld (pv 0) (pe_bm PySem.F.plainAttrs_str PySem.F.slot_str_join PySem.F.type_str_join Sx.m_join pe_str (pa_cons (pe_lc (own := [("letter", 2)]) (g := (gName 2)) rfl sc_Scale_init.nd (pi_str (pe_gc (by rfl) T.c_LETTERS)) (blkOk_by (N := N_Scale_init) (sc := defScope st_Scale_init) (by decide +kernel)) (fun _ _ _ _ _ => (pg_name (i := 2) sc_Scale_init.nd rfl (.inl rfl))) (fun _ _ _ _ _ => (pts_one (pt_cmp (pc_din (Mj.hu1 hr) (pv 2) (pv 1))))) (fun _ _ _ _ _ => (pv 2))) pa_nil)) rfl)
      (pss_one (ps_fld (pv 0) (pe_dc (own := [("letter", 2)]) (g := (gName 2)) (tt := tYes) rfl sc_Scale_init.nd (pi_str (pe_fld (pv 0) rfl)) (blkOk_by (N := N_Scale_init) (sc := defScope st_Scale_init) (by decide +kernel)) (fun _ _ _ _ _ => (pg_name (i := 2) sc_Scale_init.nd rfl (.inl rfl))) (fun _ _ _ _ _ => pts_nil) (fun _ _ _ _ _ => (pv 2)) (fun _ _ _ _ _ => (pe_dget (Mj.hu1 hr) (pv 1) (pv 2) (fun _ _ => rfl)))) rfl)))), ?_⟩
    refine Sx.r_st (σ' := [some (.ref p), some (.ref d), none]) rfl ?_
    walk_at "sxi"
    refine ⟨d, ks, wt, rfl, hd, hw, ?_⟩
    walk_at "sx"
    refine lw_str (fun D i H' => Same H H' ∧ H' D = some (.lst (((LET.take i).filter fun c => decide (c ∈ ks)).map fun c => V.str (ch c)))) (fun D hD => ⟨same_new hD, upd_same⟩) ?_ ?_
    · rintro D hD i c H1 hc ⟨s1, h1⟩
      have hc := let_at hc
      walk_at "sx"
      refine ⟨rfl, ?_⟩
      walk_at "sx"
      refine ⟨d, valV (wKv ks wt) (.inr (ch c)), rfl, .inl ⟨_, .inr (ch c), .inl (s1 _ _ hd), rfl, rfl⟩, ?_⟩
      by_cases m : c ∈ ks
      · rw [wKv_in m, Option.isSome_some]
        walk_at "sx"
        refine ⟨_, h1, ?_, same_mut s1 hD, ?_⟩
        · rw [List.length_map, sizeLine_eq]
          have := List.length_filter_le (fun c => decide (c ∈ ks)) (LET.take i)
          have h5 : (LET.take i).length ≤ 5 := List.length_take_le' i LET
          omega
        · rw [upd_same, List.take_add_one, hc, List.filter_append, List.map_append]
          simp [m, ch]
      · rw [wKv_no m, Option.isSome_none]
        walk_at "sx"
        refine ⟨s1, ?_⟩
        rw [h1, List.take_add_one, hc, List.filter_append]
        simp [m]
    · rintro D hD H1 ⟨s1, h1⟩
      rw [show ("abcde" : Str).cps.size = 5 from rfl, show LET.take 5 = LET from rfl] at h1
      have h1 : H1 D = some (.lst (((Cn ks).map fun c => (⟨#[c]⟩ : Str)).map V.str)) := by rw [h1, List.map_map]; rfl
      walk_at "sx"
      refine r_joinL (SqL.of h1) ?_ ?_
      · rw [join_letters]
        walk_at "sx"
        refine r_insput (s1 _ _ hp) T.cl_Scale T.na_Scale_letters (by decide) ?_
        have k2 : ∀ c o, c ≠ p → H c = some o → (upd H1 p (.ins T.C_Scale dx (putF "_letters" (.str (S (Cn ks))) []))) c = some o := fun c o n e => by rw [upd_ne n]; exact s1 _ _ e
        have p2 : (upd H1 p (.ins T.C_Scale dx (putF "_letters" (.str (S (Cn ks))) []))) p = some (.ins T.C_Scale dx (putF "_letters" (.str (S (Cn ks))) [])) := upd_same
        generalize upd H1 p (.ins T.C_Scale dx (putF "_letters" (.str (S (Cn ks))) [])) = H2 at k2 p2 ⊢
        have dp : d ≠ p := fun e => by rw [e, hp] at hd; cases hd
        have hd2 := k2 _ _ dp hd
        walk_at "sx"
        refine r_dcS ?_
        walk_at "sx"
        refine ⟨p, _, dx, _, _, rfl, p2, T.cl_Scale, T.na_Scale_letters, by rw [lookup_putF, if_pos rfl], ?_⟩
        walk_at "sx"
        refine dw_str (fun D i H' => Same H2 H' ∧ H' D = some (.dK (wKv ((Cn ks).take i) wt))) (fun D hD => ⟨same_new hD, upd_same⟩) ?_ ?_
        · rintro D hD i c H3 hc ⟨s3, h3⟩
          have hc := S_at hc
          have mc : c ∈ ks := (cn_mem hw.2.1).mp (List.mem_of_getElem? hc)
          walk_at "sx"
          refine ⟨rfl, ?_⟩
          walk_at "sx"
          refine ⟨d, .int (wt c), rfl, .inl ⟨_, .inr (ch c), .inl (s3 _ _ hd2), rfl, (wKv_in mc).symm⟩, ?_⟩
          walk_at "sx"
          refine ⟨_, .inr (ch c), rfl, h3, ?_, same_mut s3 hD, ?_⟩
          · rw [wKv_len, sizeLine_eq]
            have := cn_len ks
            have := List.length_take_le i (Cn ks)
            have := List.length_take_le' i (Cn ks)
            omega
          · have nm : c ∉ (Cn ks).take i := asc_take (cn_asc ks) hc
            rw [upd_same, wKv_new nm, List.take_add_one, hc]
            congr 2
            refine wKv_same fun x m => ?_
            unfold setW
            by_cases e : x = c
            · rw [if_pos e, e]
            · rw [if_neg e]
        · rintro D hD H3 ⟨s3, h3⟩
          rw [S_size, List.take_length] at h3
          have np : D ≠ p := (ne_of_none p2 hD).symm
          walk_at "sx"
          refine ⟨p, _, dx, _, rfl, s3 _ _ p2, T.cl_Scale, T.na_Scale_weights, len1, ?_⟩
          have fD : H D = none := by
            cases z : H D with
            | none => rfl
            | some o => have := k2 _ _ np z; rw [hD] at this; cases this
          exact q D _ fD (fun c o n e => by rw [upd_ne n]; exact s3 _ _ (k2 _ _ n e)) upd_same (by rw [upd_ne np]; exact h3)
      · rw [List.map_map]
        have : ((Cn ks).map (Str.length ∘ fun c => (⟨#[c]⟩ : Str))) = (Cn ks).map fun _ => 1 := List.map_congr_left fun _ _ => rfl
        rw [this, List.map_const', List.sum_replicate_nat, List.length_map]
        have := cn_len ks
        have e0 : ("" : Str).length = 0 := rfl
        rw [e0, Nat.mul_zero]
        omega
theorem cn_cn {ks : List Nat} : Cn (Cn ks) = Cn ks := cn_of_asc (cn_asc ks) fun c m => by unfold Cn at m; exact (List.mem_filter.mp m).1
theorem mk_scaleX {C : Addr} {H : Hp} {Q : VK} {E : XK} {d : Addr} {ks : List Nat} {wt : Nat → Int} (hd : H d = some (.dK (wKv ks wt))) (hw : WOk ks wt)
    (q : ∀ p dx t H', Same H H' → H p = none → H t = none → H' p = some (.ins C dx (scF (S (Cn ks)) t)) → H' t = some (.dK (wKv (Cn ks) wt)) → Q (.ref p) H') :
    MakeP C (sp_Scale_init C) E [.ref d] H Q := by
  intro x dx hx hdx hne
  have k0 : ∀ c o, H c = some o → c ≠ x ∧ c ≠ dx := fun c o e => ⟨ne_of_none e hx, ne_of_none e hdx⟩
  have k1 : ∀ c o, H c = some o → (upd (upd H dx (.own x)) x (.ins C dx [])) c = some o := fun c o e => by
    obtain ⟨n1, n2⟩ := k0 _ _ e
    rw [upd_ne n1, upd_ne n2]; exact e
  refine ⟨x, dx, d, ks, wt, rfl, upd_same, ?_, hw, fun t H' ft k e1 e2 => ⟨rfl, q x dx t H' ?_ hx ?_ e1 e2⟩⟩
  · obtain ⟨n1, n2⟩ := k0 _ _ hd
    rw [upd_ne n1, upd_ne n2]; exact hd
  · intro c o e
    obtain ⟨n1, n2⟩ := k0 _ _ e
    refine k _ _ n1 ?_
    rw [upd_ne n1, upd_ne n2]; exact e
  · cases z : H t with
    | none => rfl
    | some o =>
      obtain ⟨n1, n2⟩ := k0 _ _ z
      rw [upd_ne n1, upd_ne n2, z] at ft; cases ft
theorem mk_scale {C : Addr} {H : Hp} {Q : VK} {E : XK} {d : Addr} {ks : List Nat} {wt : Nat → Int} (hd : H d = some (.dK (wKv ks wt))) (hw : WOk ks wt) (q : ∀ v H', Same H H' → ScaleAt C H' v (Cn ks) wt → Q v H') :
    MakeP C (sp_Scale_init C) E [.ref d] H Q :=
  mk_scaleX hd hw fun p dx t H' s _ _ e1 e2 => q _ _ s ⟨⟨hw.cn, cn_cn⟩, p, dx, t, rfl, e1, e2⟩
theorem ok_Scale_letters (T : Tx K mg) : FnOk P w K mg base CX0 1 T.a_Scale_letters T.d_Scale_letters ["self"] (getSp T.C_Scale "_letters") := by
  refine T.F_Scale_letters.ok sc_Scale_letters (fun vs H Q E h => ?_) (fun cdv A outer s H vs Q E hr h => ?_)
  · obtain ⟨a, dx, fs, v, rfl, _⟩ := h; rfl
  · obtain ⟨a, dx, fs, v, rfl, e, l, q⟩ := h
    refine ⟨_, (pss_one (ps_ret (pe_fld (pv 0) rfl))), ?_⟩
    refine Sx.r_st (σ' := [some (.ref a)]) rfl ?_
    walk_at "sx"
    exact ⟨a, _, dx, fs, v, rfl, e, T.cl_Scale, T.na_Scale_letters, l, q⟩
def sp_Scale_weights (C : Addr) : Sp := fun vs H Q _ => ∃ v L wt, vs = [v] ∧ ScaleAt C H v L wt ∧ ∀ q, H q = none → Q (.ref q) (upd H q (.dK (wKv L wt)))
theorem ok_Scale_weights (T : Tx K mg) : FnOk P w K mg base CX0 1 T.a_Scale_weights T.d_Scale_weights ["self"] (sp_Scale_weights T.C_Scale) := by
  refine T.F_Scale_weights.ok sc_Scale_weights (fun vs H Q E h => ?_) (fun cdv A outer s H vs Q E hr h => ?_)
  · obtain ⟨v, L, wt, rfl, _⟩ := h; rfl
  · obtain ⟨v, L, wt, rfl, ⟨_, p, dx, t, rfl, h1, h2⟩, q⟩ := h
    refine ⟨_, (pss_one (ps_ret (pe_callTy call_dictD (by rfl) T.n_dict Dk.bt_dict (pa_cons (pe_fld (pv 0) rfl) pa_nil)))), ?_⟩
    refine Sx.r_st (σ' := [some (.ref p)]) rfl ?_
    walk_at "sx"
    refine ⟨p, _, dx, _, _, rfl, h1, T.cl_Scale, T.na_Scale_weights, scF_w _ _, ?_⟩
    walk_at "sx"
    exact ⟨t, _, rfl, .inl h2, q⟩
def NoStr (K : PySem.W.Frag) (H : Hp) (v : V) : Prop := ∃ t, TyX K H v t ∧ PySem.W.kitOne K t (.type "str") = some false
def isLet (L : List Nat) (z : Str) : Bool := L.any fun c => decide (z = ch c)
theorem get_let (wt : Nat → Int) (z : Str) : ∀ L : List Nat, (valV (wKv L wt) (.inr z)).isSome = isLet L z
  | [] => rfl
  | c :: L => by
    rw [show wKv (c :: L) wt = (.inr (ch c), V.int (wt c)) :: wKv L wt from rfl]
    by_cases e : ch c = z
    · rw [valV_pos (by rw [e])]
      simp [isLet, e]
    · rw [valV_neg (fun h => e (Sum.inr.inj h)), get_let wt z L]
      have e' : ¬ z = ch c := fun h => e h.symm
      simp [isLet, e']
def sp_Scale_contains (K : PySem.W.Frag) (C : Addr) : Sp := fun vs H Q _ => ∃ v x L wt, vs = [v, x] ∧ ScaleAt C H v L wt ∧ ((∃ z, x = .str z ∧ Q (.bl (isLet L z)) H) ∨ NoStr K H x ∧ Q (.bl false) H)
theorem ok_Scale_contains (T : Tx K mg) : FnOk P w K mg base CX0 1 T.a_Scale_contains T.d_Scale_contains ["self", "x"] (sp_Scale_contains K T.C_Scale) := by
  refine T.F_Scale_contains.ok sc_Scale_contains (fun vs H Q E h => ?_) (fun cdv A outer s H vs Q E hr h => ?_)
  · obtain ⟨v, x, L, wt, rfl, _⟩ := h; rfl
  · obtain ⟨v, x, L, wt, rfl, ⟨_, p, dx, t, rfl, h1, h2⟩, q⟩ := h
    refine ⟨_, (pss_one (ps_ret (pe_and (pe_callB call_isi (by rfl) T.n_isinstance Sx.bt_isinstance (pa_cons (pv 1) (pa_cons (pe_bltn (v := .ty "str") (by rfl) T.n_str Sx.bt_str rfl) pa_nil))) (pe_one (pe_cmp (pc_din (Mj.hu1 hr) (pv 1) (pe_fld (pv 0) rfl))))))), ?_⟩
    obtain ⟨z, rfl, q⟩ | ⟨⟨ty, t1, t2⟩, q⟩ := q
    · refine Sx.r_st (σ' := [some (.ref p), some (.str z)]) rfl ?_
      walk_at "sx"
      refine ⟨p, _, dx, _, _, rfl, h1, T.cl_Scale, T.na_Scale_weights, scF_w _ _, ?_⟩
      refine ⟨t, _, rfl, .inl ⟨_, .inr z, .inl h2, rfl, rfl⟩, ?_⟩
      rw [get_let]
      exact q
    · refine Sx.r_st (σ' := [some (.ref p), some (x)]) rfl ?_
      walk_at "sx"
      refine ⟨x, .ty "str", ty, .type "str", false, rfl, .ty _, t1, t2, ?_⟩
      walk_at "sx"
      exact q
def sp_Scale_getitem (C : Addr) : Sp := fun vs H Q _ => ∃ v c L wt, vs = [v, .str (ch c)] ∧ ScaleAt C H v L wt ∧ c ∈ L ∧ Q (.int (wt c)) H
theorem isLet_ch {L : List Nat} {c : Nat} : isLet L (ch c) = decide (c ∈ L) := by
  unfold isLet
  rw [Bool.eq_iff_iff, List.any_eq_true, decide_eq_true_iff]
  constructor
  · rintro ⟨x, m, e⟩
    rw [decide_eq_true_iff] at e
    rw [ch_inj e]; exact m
  · intro m
    exact ⟨c, m, by rw [decide_eq_true_iff]⟩
theorem ok_Scale_getitem (T : Tx K mg) : FnOk P w K mg base CX0 5 T.a_Scale_getitem T.d_Scale_getitem ["self", "at"] (sp_Scale_getitem T.C_Scale) := by
  refine T.F_Scale_getitem.ok sc_Scale_getitem (fun vs H Q E h => ?_) (fun cdv A outer s H vs Q E hr h => ?_)
  · obtain ⟨v, c, L, wt, rfl, _⟩ := h; rfl
  · obtain ⟨v, c, L, wt, rfl, hS, m, q⟩ := h
    obtain ⟨_, p, dx, t, rfl, h1, h2⟩ := id hS
    refine ⟨_, (pss_cons (ps_if (pt_cmpR (Ob.op_ownNotIn ⟨T.me_Scale_contains.1, T.me_Scale_contains.2⟩ (ok_Scale_contains T) (hr.mono (by decide)) T.b_Scale_contains) (pv 1) (pv 0) (by rfl)) pss_never pss_nil)
      (pss_one (ps_ret (pe_dget (Mj.hu1 hr) (pe_fld (pv 0) rfl) (pv 1) (fun _ _ => rfl))))), ?_⟩
    refine Sx.r_st (σ' := [some (.ref p), some (.str (ch c))]) rfl ?_
    walk_at "sxi"
    refine ⟨p, dx, _, rfl, h1, .ref p, .str (ch c), L, wt, rfl, hS, .inl ⟨_, rfl, ?_⟩⟩
    rw [isLet_ch, decide_eq_true m]
    refine ⟨_, rfl, ?_⟩
    walk_at "sx"
    refine ⟨p, _, dx, _, _, rfl, h1, T.cl_Scale, T.na_Scale_weights, scF_w _ _, ?_⟩
    walk_at "sx"
    exact ⟨t, _, rfl, .inl ⟨_, .inr (ch c), .inl h2, rfl, (wKv_in m).symm⟩, q⟩
def sp_Scale_len (C : Addr) : Sp := fun vs H Q _ => ∃ v L wt, vs = [v] ∧ ScaleAt C H v L wt ∧ Q (.int (L.length : Int)) H
theorem ok_Scale_len (T : Tx K mg) : FnOk P w K mg base CX0 1 T.a_Scale_len T.d_Scale_len ["self"] (sp_Scale_len T.C_Scale) := by
  refine T.F_Scale_len.ok sc_Scale_len (fun vs H Q E h => ?_) (fun cdv A outer s H vs Q E hr h => ?_)
  · obtain ⟨v, L, wt, rfl, _⟩ := h; rfl
  · obtain ⟨v, L, wt, rfl, ⟨⟨hw, _⟩, p, dx, t, rfl, h1, h2⟩, q⟩ := h
    refine ⟨_, (pss_one (ps_ret (pe_callB Sx.c_lenS (by rfl) T.n_len Sx.bt_len (pa_cons (pe_fld (pv 0) rfl) pa_nil)))), ?_⟩
    refine Sx.r_st (σ' := [some (.ref p)]) rfl ?_
    walk_at "sx"
    refine ⟨p, _, dx, _, _, rfl, h1, T.cl_Scale, T.na_Scale_letters, scF_l _ _, ?_⟩
    walk_at "sx"
    · rw [SX.S_len]; exact q
    · have := hw.2.2.2; rw [SX.S_len, sizeLine_eq]; omega
end
end Lw

namespace Lw
open PySem PySem.Spec PyProof.Rows L2 Sx Sy Sw Dk Dl Me Mw
open En (NoNum)
open SX (S)
open C8 (pe_gc)
open SkE (call_repr_int call_str_str)
open RZ (pi_zipA)
section
variable {P : Program} {w : World} {K : PySem.W.Frag} {mg : Str → Option Value} {base : Heap}
/-! ### drawn weights -/
theorem cut_to {xs : List V} {k : Nat} : cutV xs none (some (k : Int)) = xs.take k := by
  unfold cutV
  rw [HT.sIx_none, HT.sIx_nat, List.drop_zero, Nat.sub_zero, List.take_eq_take_iff]
  omega
theorem letters_let : letters "abcde" = LET.map fun c => V.str (ch c) := rfl
theorem size_mem {v : V} (h : v ∈ ([.int 1, .int 2, .int 3, .int 4, .int 6, .int 12] : List V)) : ∃ n : Int, v = .int n ∧ 1 ≤ n ∧ n ≤ 12 := by
  simp only [List.mem_cons, List.not_mem_nil, or_false] at h
  rcases h with rfl | rfl | rfl | rfl | rfl | rfl <;> exact ⟨_, rfl, by omega, by omega⟩
def sp_law_weights : Sp := fun vs H Q _ => ∃ d, vs = [.ref d, .int 5] ∧ Dice H d ∧ ∀ e L wt H', WOk L wt → Cn L = L → Kp d H H' → H e = none → H' e = some (.dK (wKv L wt)) → Q (.ref e) H'
theorem ok_law_weights (T : Tx K mg) : FnOk P w K mg base CX0 3 T.a_law_weights T.d_law_weights ["_law_dice_here", "_law_most"] sp_law_weights := by
  refine T.F_law_weights.ok sc_law_weights (fun vs H Q E h => ?_) (fun cdv A outer s H vs Q E hr h => ?_)
  · obtain ⟨d, rfl, _⟩ := h; rfl
  · obtain ⟨d, rfl, hd, q⟩ := h
    refine ⟨_, (pss_cons (ps_set (i := 2) sc_law_weights.nd rfl (.inl rfl) (pe_callB cr_sortedS (by rfl) T.n_sorted Sx.bt_sorted (pa_cons (pe_slice sl_list (pe_call (ok_law_mixed T) (hr.mono (by decide)) (by rfl) T.g_law_mixed T.F_law_mixed.kp T.b_law_mixed .nil pass0 (pa_cons (pv 0) (pa_cons (pe_callTy (Sy.call_list_str rfl) (by rfl) T.n_list Sx.bt_list (pa_cons pe_str pa_nil)) pa_nil))) po_none (po_some (pe_op op_add pe_int (pe_call (ok_law_roll T) (hr.mono (by decide)) (by rfl) T.g_law_roll T.F_law_roll.kp T.b_law_roll .nil pass0 (pa_cons (pv 0) (pa_cons (pv 1) pa_nil)))))) pa_nil)))
      (pss_cons (ps_par (i := 3) (j := 4) (by rfl) sc_law_weights.nd rfl rfl (by decide) rfl rfl (pa_cons (pe_call (ok_law_pick T) (hr.mono (by decide)) (by rfl) T.g_law_pick T.F_law_pick.kp T.b_law_pick .nil pass0 (pa_cons (pv 0) (pa_cons (pe_lst (pa_cons pe_int (pa_cons pe_int (pa_cons pe_int (pa_cons pe_int (pa_cons pe_int (pa_cons pe_int pa_nil))))))) pa_nil))) (pa_cons pe_dnewK pa_nil)) (by rfl))
      (pss_cons (ps_for PassesOwn.never rfl (pi_list (pv 2)) (pg_name (i := 5) sc_law_weights.nd rfl (.inl rfl)) (pss_one (ps_dput (Mj.hu1 hr) (pv 4) (pv 5) (pe_op op_sub (pe_call (ok_law_roll T) (hr.mono (by decide)) (by rfl) T.g_law_roll T.F_law_roll.kp T.b_law_roll .nil pass0 (pa_cons (pv 0) (pa_cons (pe_op op_add (pe_op Sx.op_mulA pe_int (pv 3)) pe_int) pa_nil))) (pv 3)) (by rfl))))
      (pss_one (ps_ret (pv 4)))))), ?_⟩
    refine Sx.r_st (σ' := [some (.ref d), some (.int 5), none, none, none, none]) rfl ?_
    walk_at "sx"
    rotate_left
    · decide +kernel
    intro l hl
    rw [show letters (Str.ofString "abcde") = LET.map fun c => V.str (ch c) from rfl]
    have kd : Kp d H (upd H l (.lst (LET.map fun c => V.str (ch c)))) := (Kp.refl hd).new hl
    walk_at "sx"
    refine ⟨d, l, Nat, (fun c => V.str (ch c)), LET, rfl, kd.d1, upd_same, by decide, fun p zs H1 pm k1 hp0 hp => ?_⟩
    have hpn : H p = none := kd.free hp0
    have k1 := kd.trans k1
    walk_at "sx"
    refine ⟨d, 5, rfl, k1.d1, by omega, log_small (by omega) (by omega), fun r H2 r0 r1 k2 => ?_⟩
    have hpd : p ≠ d := dice_ne hd hpn
    have hp2 := k2.k _ _ hpd hp
    have k2 := k1.trans k2
    walk_at "sx"
    refine ⟨p, _, rfl, SqL.of hp2, fun t ht => ?_⟩
    obtain ⟨n, hn, hn1, hn5⟩ : ∃ n : Nat, 1 + r = (n : Int) ∧ 1 ≤ n ∧ n ≤ 5 := ⟨(1 + r).toNat, by omega, by omega, by omega⟩
    rw [hn, cut_to, ← List.map_take]
    have k3 := k2.new (o := .lst ((zs.take n).map fun c => V.str (ch c))) ht
    have nz : zs.Nodup := pm.nodup_iff.mpr (by decide)
    have lz := pm.length_eq
    walk_at "sx"
    refine ⟨t, (zs.take n).map ch, rfl, .inl (.inl (by rw [List.map_map]; exact upd_same)), ?_, fun ys q1 pq hs hq1 => ?_⟩
    · rw [List.length_map, List.length_take, lz]; have : LET.length = 5 := rfl; omega
    obtain ⟨L, rfl, pL, aL⟩ := sorted_ch pq hs (nz.sublist (List.take_sublist n zs))
    have mL : ∀ c, c ∈ L → c ∈ LET := fun c m => pm.mem_iff.mp (List.mem_of_mem_take (pL.mem_iff.mp m))
    have eL : Cn L = L := cn_of_asc aL mL
    have lL : L.length = n := by rw [pL.length_eq, List.length_take, lz]; have : LET.length = 5 := rfl; omega
    have k4 := k3.new (o := .lst ((L.map ch).map V.str)) hq1
    have hL : (upd (upd H2 t (.lst ((zs.take n).map fun c => V.str (ch c)))) q1 (.lst ((L.map ch).map V.str))) q1 = some (.lst ((L.map ch).map V.str)) := upd_same
    have hq0 : H q1 = none := k3.free hq1
    generalize upd (upd H2 t (.lst ((zs.take n).map fun c => V.str (ch c)))) q1 (.lst ((L.map ch).map V.str)) = H4 at k4 hL ⊢
    walk_at "sx"
    refine ⟨by decide, fun u hu => ?_⟩
    have k5 := k4.new (o := .lst [.int 1, .int 2, .int 3, .int 4, .int 6, .int 12]) hu
    walk_at "sx"
    refine ⟨d, u, _, rfl, k5.d1, dice_ne hd (k4.free hu), upd_same, by decide, by decide, fun v H5 hv k6 => ?_⟩
    obtain ⟨sz, rfl, s1, s2⟩ := size_mem hv
    have hqd : q1 ≠ d := dice_ne hd hq0
    have hL5 := k6.k _ _ hqd (same_new hu _ _ hL)
    have k6 := k5.trans k6
    walk_at "sx"
    intro e he
    have he0 : H e = none := k6.free he
    have ed : e ≠ d := dice_ne hd he0
    have qe : q1 ≠ e := ne_of_none hL5 he
    have k7 := k6.new (o := .dK []) he
    have hL7 : (upd H5 e (.dK [])) q1 = some (.lst ((L.map ch).map V.str)) := by rw [upd_ne qe]; exact hL5
    have h7 : (upd H5 e (.dK [])) e = some (.dK []) := upd_same
    generalize upd H5 e (.dK []) = H7 at k7 hL7 h7 ⊢
    walk_at "sx"
    refine r_seqL (SqL.of hL7) ?_
    refine fr_list (fun i σ' H' => Kp d H H' ∧ H' q1 = some (.lst ((L.map ch).map V.str)) ∧ (∃ y, σ' = [some (.ref d), some (.int 5), some (.ref q1), some (.int sz), some (.ref e), y]) ∧ ∃ wt, H' e = some (.dK (wKv (L.take i) wt)) ∧ ∀ c, c ∈ L.take i → -12 ≤ wt c ∧ wt c ≤ 12)
      ⟨k7, hL7, ⟨_, rfl⟩, fun _ => 0, h7, fun c m => absurd m List.not_mem_nil⟩ (fun i σ' H' _ z => SqL.of z.2.1) ?_ ?_
    · rintro i x σ' H8 hx ⟨k8, hL8, ⟨y, rfl⟩, wt, hw, bw⟩
      obtain ⟨c, hc, rfl⟩ : ∃ c, L[i]? = some c ∧ V.str (ch c) = x := by
        rw [List.getElem?_map, List.getElem?_map] at hx
        obtain ⟨z, h1, h2⟩ := Option.map_eq_some_iff.mp hx
        obtain ⟨c, h3, h4⟩ := Option.map_eq_some_iff.mp h1
        exact ⟨c, h3, by rw [h4]; exact h2⟩
      walk_at "sx"
      refine ⟨d, _, rfl, k8.d1, by omega, log_small (by omega) (by omega), fun r2 H9 r3 r4 k9 => ?_⟩
      have hw9 := Kp_dk k9 hw
      have hL9 := k9.k _ _ hqd hL8
      have k9 := k8.trans k9
      walk_at "sx"
      refine ⟨_, _, rfl, .inl ⟨_, .inr (ch c), hw9, rfl, ?_, rfl⟩, ?_⟩
      · rw [wKv_len, sizeLine_eq]
        have := List.length_take_le' i L
        omega
      rw [wKv_new (asc_take aL hc)]
      refine ⟨k9.mut he0, by rw [upd_ne qe]; exact hL9, ⟨_, rfl⟩, _, by rw [upd_same, List.take_add_one, hc]; rfl, fun b m => ?_⟩
      unfold setW
      by_cases e2 : b = c
      · rw [if_pos e2]; omega
      · rw [if_neg e2]
        rw [List.take_add_one, hc] at m
        rcases List.mem_append.mp m with m | m
        · exact bw b m
        · exact absurd (List.mem_singleton.mp m) e2
      all_goals exact cmA_l (by omega)
    · rintro σ' H8 ⟨k8, hL8, ⟨y, rfl⟩, wt, hw, bw⟩
      rw [List.length_map, List.length_map, List.take_length] at hw bw
      walk_at "sx"
      exact q e L wt H8 ⟨fun e3 => by rw [e3] at lL; simp at lL; omega, mL, bw, by omega⟩ eL k8 he0 hw
end
end Lw

namespace Lw
open PySem PySem.Spec PyProof.Rows L2 Sx Sy Sw Dk Dl Me Mw
open En (NoNum)
open SX (S)
open C8 (pe_gc)
open SkE (call_repr_int call_str_str)
open RZ (pi_zipA)
section
variable {P : Program} {w : World} {K : PySem.W.Frag} {mg : Str → Option Value} {base : Heap}
/-! ### texts -/
def TOk (L u : List Nat) : Prop := (∀ c, c ∈ u → c ∈ L) ∧ u.length ≤ 24
def sp_check_text (C : Addr) : Sp := fun vs H Q _ => ∃ v u L wt, vs = [v, .str (S u)] ∧ ScaleAt C H v L wt ∧ TOk L u ∧ ∀ H', Same H H' → Q .non H'
theorem ok_check_text (T : Tx K mg) : FnOk P w K mg base CX0 5 T.a_check_text T.d_check_text ["scale", "text"] (sp_check_text T.C_Scale) := by
  refine T.F_check_text.ok sc_check_text (fun vs H Q E h => ?_) (fun cdv A outer s H vs Q E hr h => ?_)
  · obtain ⟨v, u, L, wt, rfl, _⟩ := h; rfl
  · obtain ⟨v, u, L, wt, rfl, hS, ⟨h1, h2⟩, q⟩ := h
    refine ⟨_, (pss_one (ps_if (PW.pt (pw_or (pt_not (pt_val (pe_callB call_isi (by rfl) T.n_isinstance Sx.bt_isinstance (pa_cons (pv 1) (pa_cons (pe_bltn (v := .ty "str") (by rfl) T.n_str Sx.bt_str rfl) pa_nil))))) (pw_or (pt_cmpR op_gt (pe_callB Sx.c_lenS (by rfl) T.n_len Sx.bt_len (pa_cons (pv 1) pa_nil)) (pe_gc (by rfl) T.c_MAX_TEXT) (nomark _)) (pw_or1 (pt_val (pe_callB (cr_any rfl) (by rfl) T.n_any Sx.bt_any (pa_cons (pe_lc (own := [("letter", 2)]) (g := (gName 2)) (tt := tYes) rfl sc_check_text.nd (pi_str (pv 1)) (blkOk_by (N := N_check_text) (sc := defScope st_check_text) (by decide +kernel)) (fun _ _ _ _ _ => (pg_name (i := 2) sc_check_text.nd rfl (.inl rfl))) (fun _ _ _ _ _ => pts_nil) (fun _ _ _ _ _ => (pe_cmpR (Ob.op_ownNotIn ⟨T.me_Scale_contains.1, T.me_Scale_contains.2⟩ (ok_Scale_contains T) (hr.mono (by decide)) T.b_Scale_contains) (pv 2) (pv 0) (by rfl)))) pa_nil))))))) pss_never pss_nil)), ?_⟩
    refine Sx.r_st (σ' := [some (v), some (.str (S u)), none]) rfl ?_
    walk_at "sxi"
    rotate_left
    · rw [SX.S_len, sizeLine_eq]; omega
    rw [SX.S_len, show decide ((24 : Int) < (u.length : Int)) = false from decide_eq_false (by omega)]
    walk_at "sx"
    refine lw_str (fun D i H' => Same H H' ∧ H' D = some (.lst ((List.replicate i false).map V.bl))) (fun D hD => ⟨same_new hD, upd_same⟩) ?_ ?_
    · rintro D hD i c H2 hc ⟨s2, h2⟩
      have hc := S_at hc
      have mc := h1 c (List.mem_of_getElem? hc)
      obtain ⟨_, p, dx, t, rfl, hp, ht⟩ := id (hS.mono s2)
      walk_at "sx"
      refine ⟨rfl, ?_⟩
      walk_at "sx"
      refine ⟨p, dx, _, rfl, hp, .ref p, .str (ch c), L, wt, rfl, hS.mono s2, .inl ⟨_, rfl, ?_⟩⟩
      rw [isLet_ch, decide_eq_true mc]
      refine ⟨_, rfl, ?_⟩
      refine ⟨_, h2, ?_, same_mut s2 hD, ?_⟩
      · have := (List.getElem?_eq_some_iff.mp hc).1
        rw [List.length_map, List.length_replicate, sizeLine_eq]; omega
      · rw [upd_same, List.replicate_succ', List.map_append]; rfl
    · rintro D hD H2 ⟨s2, h2⟩
      walk_at "sx"
      refine ⟨D, _, rfl, SqL.of h2, ?_⟩
      rw [show ∀ n : Nat, (List.replicate n false).any id = false from fun n => by induction n with | zero => rfl | succ n ih => rw [List.replicate_succ, List.any_cons, ih]; rfl]
      walk_at "sx"
      exact q H2 s2
def wts (wt : Nat → Int) (u : List Nat) : List Int := u.map wt
def sp_weights_of (C : Addr) : Sp := fun vs H Q _ => ∃ v u L wt, vs = [v, .str (S u)] ∧ ScaleAt C H v L wt ∧ TOk L u ∧ ∀ p H', Same H H' → H p = none → H' p = some (.lst ((wts wt u).map V.int)) → Q (.ref p) H'
theorem ok_weights_of (T : Tx K mg) : FnOk P w K mg base CX0 9 T.a_weights_of T.d_weights_of ["scale", "text"] (sp_weights_of T.C_Scale) := by
  refine T.F_weights_of.ok sc_weights_of (fun vs H Q E h => ?_) (fun cdv A outer s H vs Q E hr h => ?_)
  · obtain ⟨v, u, L, wt, rfl, _⟩ := h; rfl
  · obtain ⟨v, u, L, wt, rfl, hS, hu, q⟩ := h
    refine ⟨_, (pss_cons (ps_expr (pe_call (ok_check_text T) (hr.mono (by decide)) (by rfl) T.g_check_text T.F_check_text.kp T.b_check_text .nil pass0 (pa_cons (pv 0) (pa_cons (pv 1) pa_nil))))
      (pss_one (ps_ret (pe_lc (own := [("letter", 2)]) (g := (gName 2)) (tt := tYes) rfl sc_weights_of.nd (pi_str (pv 1)) (blkOk_by (N := N_weights_of) (sc := defScope st_weights_of) (by decide +kernel)) (fun _ _ _ _ _ => (pg_name (i := 2) sc_weights_of.nd rfl (.inl rfl))) (fun _ _ _ _ _ => pts_nil) (fun _ _ _ _ _ => (Dk.pe_subO ⟨T.me_Scale_getitem.1, T.me_Scale_getitem.2⟩ T.fn_Scale (ok_Scale_getitem T) (hr.mono (by decide)) T.b_Scale_getitem (pv 0) (pv 2) (by intro _ _; with_unfolding_all rfl))))))), ?_⟩
    refine Sx.r_st (σ' := [some (v), some (.str (S u)), none]) rfl ?_
    walk_at "sx"
    refine ⟨v, u, L, wt, rfl, hS, hu, fun H1 s1 => ?_⟩
    have hS1 := hS.mono s1
    walk_at "sx"
    refine lw_str (fun D i H' => Same H1 H' ∧ H' D = some (.lst (((wts wt u).take i).map V.int))) (fun D hD => ⟨same_new hD, upd_same⟩) ?_ ?_
    · rintro D hD i c H2 hc ⟨s2, h2⟩
      have hc := S_at hc
      have mc := hu.1 c (List.mem_of_getElem? hc)
      obtain ⟨_, p, dx, t, rfl, hp, ht⟩ := id (hS1.mono s2)
      walk_at "sx"
      refine ⟨rfl, ?_⟩
      walk_at "sx"
      refine r_subO ?_
      walk_at "sx"
      refine ⟨p, dx, _, rfl, hp, .ref p, c, L, wt, rfl, hS1.mono s2, mc, ?_⟩
      refine ⟨_, h2, ?_, same_mut s2 hD, ?_⟩
      · have := hu.2
        have := (List.getElem?_eq_some_iff.mp hc).1
        rw [List.length_map, List.length_take, sizeLine_eq]; omega
      · rw [upd_same, List.take_add_one]
        unfold wts
        rw [List.getElem?_map, hc, List.map_append]; rfl
    · rintro D hD H2 ⟨s2, h2⟩
      rw [S_size, show u.length = (wts wt u).length from (List.length_map ..).symm, List.take_length] at h2
      refine q D H2 (s1.trans s2) ?_ h2
      cases z : H D with
      | none => rfl
      | some o => rw [s1 _ _ z] at hD; cases hD
def sp_running_sums (K : PySem.W.Frag) : Sp := fun vs H Q _ => ∃ a ns, vs = [.ref a] ∧ SqL K H a (ns.map V.int) ∧ ns.length ≤ 24 ∧ ∀ p H', Same H H' → H p = none → H' p = some (.lst ((Lo.sums ns).map V.int)) → Q (.ref p) H'
theorem ok_running_sums (T : Tx K mg) : FnOk P w K mg base CX0 1 T.a_running_sums T.d_running_sums ["weights"] (sp_running_sums K) := by
  refine T.F_running_sums.ok sc_running_sums (fun vs H Q E h => ?_) (fun cdv A outer s H vs Q E hr h => ?_)
  · obtain ⟨a, ns, rfl, _⟩ := h; rfl
  · obtain ⟨a, ns, rfl, ha, hl, q⟩ := h
    refine ⟨_, (pss_cons (ps_set (i := 1) sc_running_sums.nd rfl (.inl rfl) pe_int)
      (pss_cons (ps_set (i := 2) sc_running_sums.nd rfl (.inl rfl) (pe_lst pa_nil))
      (pss_cons (ps_for PassesOwn.never rfl (pi_list (pv 0)) (pg_name (i := 3) sc_running_sums.nd rfl (.inl rfl)) (pss_cons (ps_set (i := 1) sc_running_sums.nd rfl (.inl rfl) (pe_op op_add (pv 1) (pv 3)))
      (pss_one (ps_expr (pe_bm PySem.F.plainAttrs_list PySem.F.slot_list_append PySem.F.type_list_append mt_append (pv 2) (pa_cons (pv 1) pa_nil))))))
      (pss_one (ps_ret (pv 2)))))), ?_⟩
    refine Sx.r_st (σ' := [some (.ref a), none, none, none]) rfl ?_
    walk_at "sx"
    refine ⟨Nat.zero_le _, fun p hp => ?_⟩
    walk_at "sx"
    refine r_seqL ((same_new hp).seq ha) ?_
    refine fr_list (fun i σ' H' => Same H H' ∧ (∃ y, σ' = [some (.ref a), some (.int (ns.take i).sum), some (.ref p), y]) ∧ H' p = some (.lst (((Lo.sums ns).take i).map V.int))) ⟨same_new hp, ⟨none, rfl⟩, upd_same⟩ (fun i σ' H' _ z => z.1.seq ha) ?_ ?_
    · rintro i x σ' H1 hx ⟨sm, ⟨y, rfl⟩, hpp⟩
      rw [List.getElem?_map] at hx
      obtain ⟨n, hn, rfl⟩ := Option.map_eq_some_iff.mp hx
      have hi : i < ns.length := (List.getElem?_eq_some_iff.mp hn).1
      walk_at "sx"
      rw [← Lo.sum_snoc hn]
      refine ⟨tyL hpp, ?_⟩
      walk_at "sx"
      refine r_app hpp ?_ ?_
      · refine ⟨same_mut sm hp, ⟨_, rfl⟩, ?_⟩
        rw [upd_same, Lo.sums_snoc hi, List.map_append]; rfl
      · rw [List.length_map, List.length_take, Lo.sums_len, sizeLine_eq]; omega
    · rintro σ' H1 ⟨sm, ⟨y, rfl⟩, hpp⟩
      rw [List.length_map, ← Lo.sums_len, List.take_length] at hpp
      walk_at "sx"
      exact q p H1 sm hp hpp
end
end Lw

namespace Lw
open PySem PySem.Spec PyProof.Rows L2 Sx Sy Sw Dk Dl Me Mw
open En (NoNum)
open SX (S)
open C8 (pe_gc)
open SkE (call_repr_int call_str_str)
open RZ (pi_zipA)
section
variable {P : Program} {w : World} {K : PySem.W.Frag} {mg : Str → Option Value} {base : Heap}
/-! ### places by level -/
def sp_places_by_level (K : PySem.W.Frag) : Sp := fun vs H Q _ => ∃ a lv, vs = [.ref a] ∧ SqL K H a (lv.map V.int) ∧ lv.length ≤ 24 ∧ ∀ p u H', Lo.IsOrd lv u → Same H H' → H p = none → H' p = some (.lst (Lk.nv u)) → Q (.ref p) H'
theorem ok_places_by_level (T : Tx K mg) : FnOk P w K mg base CX0 1 T.a_places_by_level T.d_places_by_level ["levels"] (sp_places_by_level K) := by
  refine T.F_places_by_level.ok sc_places_by_level (fun vs H Q E h => ?_) (fun cdv A outer s H vs Q E hr h => ?_)
  · obtain ⟨a, lv, rfl, _⟩ := h; rfl
  · obtain ⟨a, lv, rfl, ha, hl, q⟩ := h
    refine ⟨_, (pss_cons (ps_set (i := 1) sc_places_by_level.nd rfl (.inr rfl) pe_dnewK)
      (pss_cons (ps_for PassesOwn.never rfl (pi_range3 (by rfl) T.n_range (pa_cons (pe_op op_sub (pe_callB Sx.c_len (by rfl) T.n_len Sx.bt_len (pa_cons (pv 0) pa_nil)) pe_int) (pa_cons (pe_un un_neg pe_int) (pa_cons (pe_un un_neg pe_int) pa_nil)))) (pg_name (i := 2) sc_places_by_level.nd rfl (.inl rfl)) (pss_one (ps_expr (pe_bm PySem.F.plainAttrs_list PySem.F.slot_list_append PySem.F.type_list_append mt_append (pe_dsetd (pv 1) (pe_ix ix_list (pv 0) (pv 2) (fun _ _ => rfl)) (pe_lst pa_nil) ⟨rfl, rfl, rfl, rfl⟩) (pa_cons (pv 2) pa_nil)))))
      (pss_cons (ps_set (i := 3) sc_places_by_level.nd rfl (.inl rfl) (pe_callBK (cr_sortedRev (b := true)) (by rfl) T.n_sorted Sx.bt_sorted (pa_cons (pe_lock (pe_lc (own := [("level", 5)]) (g := (gName 5)) (tt := tYes) rfl sc_places_by_level.nd (pi_keys (pv 1)) (blkOk_by (N := N_places_by_level) (sc := defScope st_places_by_level) (by decide +kernel)) (fun _ _ _ _ _ => (pg_name (i := 5) sc_places_by_level.nd rfl (.inl rfl))) (fun _ _ _ _ _ => pts_nil) (fun _ _ _ _ _ => (pe_callTy Sx.c_int (by rfl) T.n_int Sx.bt_int (pa_cons (pv 5) pa_nil))))) pa_nil) (pk_cons pe_bl pk_nil)))
      (pss_cons (ps_set (i := 4) sc_places_by_level.nd rfl (.inl rfl) (pe_op op_cat (pe_lc (own := [("level", 5)]) (g := (gName 5)) rfl sc_places_by_level.nd (pi_list (pv 3)) (blkOk_by (N := N_places_by_level) (sc := defScope st_places_by_level) (by decide +kernel)) (fun _ _ _ _ _ => (pg_name (i := 5) sc_places_by_level.nd rfl (.inl rfl))) (fun _ _ _ _ _ => (pts_one (pt_cmpR op_lt (pv 5) pe_int (nomark _)))) (fun _ _ _ _ _ => (pv 5))) (pe_lc (own := [("level", 5)]) (g := (gName 5)) rfl sc_places_by_level.nd (pi_list (pv 3)) (blkOk_by (N := N_places_by_level) (sc := defScope st_places_by_level) (by decide +kernel)) (fun _ _ _ _ _ => (pg_name (i := 5) sc_places_by_level.nd rfl (.inl rfl))) (fun _ _ _ _ _ => (pts_one (pt_cmpR op_ge (pv 5) pe_int (nomark _)))) (fun _ _ _ _ _ => (pv 5)))))
      (pss_one (ps_ret (pe_lc2 (own := [("level", 5), ("place", 2)]) (vs1 := [2]) (g := (gName 5)) (g1 := (gName 2)) (tt := tYes) (tt1 := tYes) rfl sc_places_by_level.nd (pi_list (pv 4)) (blkOk_by (N := N_places_by_level) (sc := defScope st_places_by_level) (by decide +kernel)) (by decide) (fun _ _ _ _ _ => (pg_name (i := 5) sc_places_by_level.nd rfl (.inl rfl))) (fun _ _ _ _ _ => pts_nil) (fun _ _ _ _ _ => (show PI _ _ _ (iList K _) from (pi_list (pe_dget (Mj.hu1 hr) (pv 1) (pv 5) (fun _ _ => rfl))))) (fun _ _ _ _ _ => (pg_name (i := 2) sc_places_by_level.nd rfl (.inl rfl))) (fun _ _ _ _ _ => pts_nil) (fun _ _ _ _ _ => (pv 2))))))))), ?_⟩
    refine Sx.r_st (σ' := [some (.ref a), none, none, none, none, none]) rfl ?_
    walk_at "sx"
    intro e he
    have s1 := same_new (o := .dK []) he
    have e1 : (upd H e (.dK [])) e = some (.dK (Lk.rows [])) := upd_same
    generalize upd H e (.dK []) = H1 at s1 e1 ⊢
    have ha1 := s1.seq ha
    walk_at "sx"
    refine Lp.r_for3 ?_
    walk_at "sx"
    refine r_lenL ha1 ?_
    rw [List.length_map]
    walk_at "sx"
    refine Lp.r_rng3 _ (RgC.neg (by omega) (by omega) (by omega) (by omega)) ?_
    rw [show ((lv.length : Int) - 1 - (-1)).toNat = lv.length by omega]
    refine Lp.fr_down (fun i σ' H' => i ≤ lv.length ∧ Same H H' ∧ (∃ zs, Lk.Tb lv H H' e i zs) ∧ ∃ y, σ' = [some (.ref a), some (.ref e), y, none, none, none]) ⟨Nat.zero_le _, s1, ⟨[], e1, List.nodup_nil, List.nodup_nil, Nat.zero_le _, fun x q m => (nomatch m), fun x n => absurd (Lo.pl_zero lv x) n⟩, none, rfl⟩ ?_ ?_
    · rintro i σ' H2 hi ⟨_, s2, ⟨zs, tb⟩, y, rfl⟩
      rw [show (lv.length : Int) - 1 + (i : Nat) * (-1) = ((lv.length - 1 - i : Nat) : Int) by omega]
      have hj : lv.length - 1 - i < lv.length := by omega
      have tb' := tb
      obtain ⟨t1, t2, t3, t4, t5, t6⟩ := tb'
      have ha2 := s2.seq ha
      walk_at "sx"
      refine Lk.r_dsetd ?_
      walk_at "sx"
      refine ⟨e, rfl, .inl ⟨_, .inl t1⟩, ?_⟩
      walk_at "sx"
      refine ⟨a, _, _, .int (Lo.at' lv (lv.length - 1 - i)), rfl, rfl, ha2, atI_nat (by rw [List.getElem?_map, Lo.at_get hj]; rfl), ?_⟩
      walk_at "sx"
      refine ⟨Nat.zero_le _, fun z hz => ?_⟩
      have hz0 : H z = none := by
        cases hh : H z with
        | none => rfl
        | some o => rw [s2 _ _ hh] at hz; cases hz
      have t1z : (upd H2 z (.lst [])) e = some (.dK (Lk.rows zs)) := same_new hz _ _ t1
      refine ⟨_, .inl (Lo.at' lv (lv.length - 1 - i)), t1z, rfl, ?_, fun v hv => ?_, fun hn => ?_⟩
      · rw [Lk.rows_len, sizeLine_eq]; omega
      · obtain ⟨qa, mq, rfl⟩ := Lk.rows_inv hv
        obtain ⟨a1, a2, a3, a4⟩ := t5 _ _ mq
        have hq : (upd H2 z (.lst [])) qa = some (.lst (Lk.nv (Lo.pl lv i (Lo.at' lv (lv.length - 1 - i))))) := same_new hz _ _ a4
        refine ⟨tyL hq, ?_⟩
        walk_at "sx"
        refine r_app hq ?_ ?_
        · exact ⟨by omega, same_mut (s2.trans (same_new hz)) a1, ⟨zs, Lk.tb_old tb hi mq hz⟩, _, rfl⟩
        · have := Lo.pl_len lv i (Lo.at' lv (lv.length - 1 - i))
          unfold Lk.nv
          rw [List.length_map, sizeLine_eq]; omega
      · have nq : ∀ q, (Lo.at' lv (lv.length - 1 - i), q) ∉ zs := fun q m => by
          rw [Lk.rows_val t2 m] at hn; cases hn
        rw [Lk.rows_put nq]
        have ez : z ≠ e := (ne_of_none t1 hz).symm
        have hq : (upd (upd H2 z (.lst [])) e (.dK (Lk.rows (zs ++ [(Lo.at' lv (lv.length - 1 - i), z)])))) z = some (.lst []) := by rw [upd_ne ez, upd_same]
        refine ⟨tyL hq, ?_⟩
        walk_at "sx"
        refine r_app hq ?_ (by rw [sizeLine_eq]; exact Nat.zero_lt_of_lt (show 0 < 16777216 by decide))
        exact ⟨by omega, same_mut (same_mut (s2.trans (same_new hz)) he) hz0, ⟨_, Lk.tb_new tb hi nq hz hz0 _⟩, _, rfl⟩
    · rintro σ' H2 ⟨_, s2, ⟨zs, t1, t2, t3, t4, t5, t6⟩, y, rfl⟩
      walk_at "sx"
      refine Lk.r_ckw ?_
      walk_at "sx"
      refine ⟨e, _, t1, trivial, fun od => ?_⟩
      walk_at "sx"
      refine ⟨e, od, rfl, .inl ⟨_, upd_same, ?_⟩⟩
      refine Lk.lw_keys (fun D i H' => (∀ c, c ≠ D → H' c = (upd H2 e (.frz od (.dK (Lk.rows zs)))) c) ∧ H' D = some (.lst (((zs.take i).map Prod.fst).map V.int))) (fun D hD => ⟨fun c n => upd_ne n, upd_same⟩) (fun D hD i H' _ z => ?_) ?_ ?_
      · have de : e ≠ D := by rintro rfl; rw [upd_same] at hD; cases hD
        rw [z.1 e de, upd_same]
      · rintro D hD i k v H3 hk ⟨n3, d3⟩
        obtain ⟨zz, hzz, rfl, rfl⟩ := Lk.rows_at hk
        show gName 5 (.int zz.1) _ _ _
        walk_at "sx"
        refine ⟨rfl, ?_⟩
        walk_at "sx"
        refine ⟨_, d3, ?_, fun c n => by rw [upd_ne n]; exact n3 c n, ?_⟩
        · rw [List.length_map, List.length_map, List.length_take, sizeLine_eq]; omega
        · rw [upd_same, List.take_add_one, hzz, List.map_append, List.map_append]; rfl
      rintro D hD H3 ⟨n3, d3⟩
      rw [Lk.rows_len, List.take_length] at d3
      have de : e ≠ D := by rintro rfl; rw [upd_same] at hD; cases hD
      have hD2 : H2 D = none := by rw [upd_ne de.symm] at hD; exact hD
      refine ⟨by rw [n3 e de, upd_same], ?_⟩
      have hE : upd H3 e (.dK (Lk.rows zs)) = upd H2 D (.lst ((zs.map Prod.fst).map V.int)) := by
        funext c
        by_cases c1 : c = e
        · subst c1; rw [upd_same, upd_ne de, t1]
        · rw [upd_ne c1]
          by_cases c2 : c = D
          · subst c2; rw [d3, upd_same]
          · rw [n3 c c2, upd_ne c1, upd_ne c2]
      rw [hE]
      have s3 := same_new (o := .lst ((zs.map Prod.fst).map V.int)) hD2
      walk_at "sx"
      refine ⟨D, zs.map Prod.fst, rfl, rfl, SqL.of upd_same, fun fl p pm od2 hp => ?_⟩
      have dn : fl.Pairwise (· > ·) := Lo.down_of od2 (pm.nodup_iff.mpr t2)
      have hm : ∀ k, k < lv.length → Lo.at' lv k ∈ fl := fun k hk => by
        have mk : k ∈ Lo.pl lv lv.length (Lo.at' lv k) := by rw [Lo.pl_all]; exact Lo.plc_mem.mpr ⟨hk, rfl⟩
        obtain ⟨q0, m0⟩ := t6 _ (List.ne_nil_of_mem mk)
        exact pm.mem_iff.mpr (List.mem_map.mpr ⟨_, m0, rfl⟩)
      have isO := Lo.ord_is dn hm
      have lf : fl.length ≤ 24 := by rw [pm.length_eq, List.length_map]; omega
      have s4 := s3.trans (same_new (o := .lst (fl.map V.int)) hp)
      have p4 : (upd (upd H2 D (.lst ((zs.map Prod.fst).map V.int))) p (.lst (fl.map V.int))) p = some (.lst (fl.map V.int)) := upd_same
      generalize upd (upd H2 D (.lst ((zs.map Prod.fst).map V.int))) p (.lst (fl.map V.int)) = H4 at s4 p4 ⊢
      walk_at "sx"
      refine r_seqL (SqL.of p4) ?_
      refine lw_list (fun X i H' => Same H4 H' ∧ H' X = some (.lst (((fl.take i).filter fun x => decide (x < 0)).map V.int))) (fun X hX => ⟨same_new hX, upd_same⟩) (fun X hX i H' _ z => SqL.of (z.1 _ _ p4)) ?_ ?_
      · rintro X hX i x H5 hx ⟨s5, x5⟩
        rw [List.getElem?_map] at hx
        obtain ⟨n, hn, rfl⟩ := Option.map_eq_some_iff.mp hx
        walk_at "sx"
        refine ⟨rfl, ?_⟩
        walk_at "sx"
        have lt := Nat.le_trans (List.length_filter_le (fun x : Int => decide (x < 0)) (fl.take i)) (List.length_take_le' i fl)
        refine ite_d (fun h => ?_) (fun h => ?_)
        · walk_at "sx"
          refine ⟨_, x5, by rw [List.length_map, sizeLine_eq]; omega, same_mut s5 hX, ?_⟩
          rw [upd_same, List.take_add_one, hn, List.filter_append, List.map_append]
          simp [h]
        · refine ⟨s5, ?_⟩
          rw [x5, List.take_add_one, hn, List.filter_append]
          simp
          omega
      rintro X hX H5 ⟨s5, x5⟩
      rw [List.length_map, List.take_length] at x5
      walk_at "sx"
      refine r_seqL (SqL.of (s5 _ _ p4)) ?_
      refine lw_list (fun Y i H' => Same H5 H' ∧ H' Y = some (.lst (((fl.take i).filter fun x => decide (0 ≤ x)).map V.int))) (fun Y hY => ⟨same_new hY, upd_same⟩) (fun Y hY i H' _ z => SqL.of (z.1 _ _ (s5 _ _ p4))) ?_ ?_
      · rintro Y hY i x H6 hx ⟨s6, x6⟩
        rw [List.getElem?_map] at hx
        obtain ⟨n, hn, rfl⟩ := Option.map_eq_some_iff.mp hx
        walk_at "sx"
        refine ⟨rfl, ?_⟩
        walk_at "sx"
        have lt := Nat.le_trans (List.length_filter_le (fun x : Int => decide (0 ≤ x)) (fl.take i)) (List.length_take_le' i fl)
        refine ite_d (fun h => ?_) (fun h => ?_)
        · walk_at "sx"
          refine ⟨_, x6, by rw [List.length_map, sizeLine_eq]; omega, same_mut s6 hY, ?_⟩
          rw [upd_same, List.take_add_one, hn, List.filter_append, List.map_append]
          simp [h]
        · refine ⟨s6, ?_⟩
          rw [x6, List.take_add_one, hn, List.filter_append]
          simp
          omega
      rintro Y hY H6 ⟨s6, x6⟩
      rw [List.length_map, List.take_length] at x6
      have l1 := List.length_filter_le (fun x : Int => decide (x < 0)) fl
      have l2 := List.length_filter_le (fun x : Int => decide (0 ≤ x)) fl
      refine ⟨X, Y, _, _, rfl, rfl, s6 _ _ x5, x6, by rw [List.length_map, List.length_map, sizeLine_eq]; omega, fun r hr => ?_⟩
      rw [← List.map_append]
      have s7 := s4.trans (s5.trans (s6.trans (same_new (o := .lst ((Lo.inord fl).map V.int)) hr)))
      have r7 : (upd H6 r (.lst ((Lo.inord fl).map V.int))) r = some (.lst ((Lo.inord fl).map V.int)) := upd_same
      show gName 4 (.ref r) _ (upd H6 r (.lst ((Lo.inord fl).map V.int))) _
      generalize upd H6 r (.lst ((Lo.inord fl).map V.int)) = H7 at s7 r7 ⊢
      walk_at "sx"
      refine Lk.r_lc2 (Lk.r_iL ?_)
      walk_at "sx"
      refine ⟨r, rfl, ⟨_, SqL.of r7⟩, fun F hF => ?_⟩
      refine Lk.in_list (xs := (Lo.inord fl).map V.int) (fun i H' => Same H7 H' ∧ H' F = some (.lst (Lk.nv (((Lo.inord fl).take i).flatMap (Lo.plc lv))))) ⟨same_new hF, upd_same⟩ (fun i H' _ z => SqL.of (z.1 _ _ r7)) ?_ ?_
      · rintro i x H8 hx ⟨s8, f8⟩
        rw [List.getElem?_map] at hx
        obtain ⟨n, hn, rfl⟩ := Option.map_eq_some_iff.mp hx
        have mn : n ∈ fl := Lo.inord_mem.mp (List.mem_of_getElem? hn)
        obtain ⟨⟨n', qn⟩, mz, rfl⟩ := List.mem_map.mp (pm.mem_iff.mp mn)
        obtain ⟨b1, b2, b3, b4⟩ := t5 _ _ mz
        have b8 := s8 _ _ (s7 _ _ b4)
        rw [Lo.pl_all] at b8
        walk_at "sx"
        refine ⟨rfl, ?_⟩
        walk_at "sx"
        refine Lk.r_iL ?_
        walk_at "sx"
        refine ⟨e, .ref qn, rfl, .inl ⟨_, .inl n', .inl (s8 _ _ (s7 _ _ t1)), rfl, (Lk.rows_val t2 mz).symm⟩, ?_⟩
        refine ⟨qn, rfl, ⟨_, SqL.of b8⟩, ?_⟩
        refine Lk.in_list (xs := Lk.nv (Lo.plc lv n')) (fun j H' => Same H7 H' ∧ H' F = some (.lst (Lk.nv (((Lo.inord fl).take i).flatMap (Lo.plc lv) ++ (Lo.plc lv n').take j)))) ⟨s8, by rw [List.take_zero, List.append_nil]; exact f8⟩ (fun j H' _ z => SqL.of ?_) ?_ ?_
        · have := z.1 _ _ (s7 _ _ b4)
          rw [Lo.pl_all] at this; exact this
        · rintro j x H9 hx ⟨s9, f9⟩
          unfold Lk.nv at hx
          rw [List.getElem?_map] at hx
          obtain ⟨k, hk, rfl⟩ := Option.map_eq_some_iff.mp hx
          have fit := Lo.ord_len isO (i + 1)
          rw [Lo.flat_snoc hn, List.length_append] at fit
          have := List.length_take_le' j (Lo.plc lv n')
          walk_at "sx"
          refine ⟨rfl, ?_⟩
          walk_at "sx"
          refine ⟨_, f9, ?_, same_mut s9 hF, ?_⟩
          · unfold Lk.nv
            rw [List.length_map, List.length_append, sizeLine_eq]
            have e5 : (Lo.plc lv (n', qn).fst).length = (Lo.plc lv n').length := rfl
            omega
          · rw [upd_same, List.take_add_one, hk, ← List.append_assoc]
            unfold Lk.nv
            rw [List.map_append (l₂ := (some k).toList)]
            rfl
        · rintro H9 ⟨s9, f9⟩
          refine ⟨s9, ?_⟩
          rw [f9, Lo.flat_snoc hn]
          unfold Lk.nv
          rw [List.length_map, List.take_length]
      · rintro H8 ⟨s8, f8⟩
        rw [List.length_map, List.take_length] at f8
        refine q F (Lo.ord lv fl) H8 isO (s2.trans (s7.trans s8)) ?_ f8
        cases hh : H F with
        | none => rfl
        | some o => rw [s7 _ _ (s2 _ _ hh)] at hF; cases hF
end
end Lw

namespace Lw
open PySem PySem.Spec PyProof.Rows L2 Sx Sy Sw Dk Dl Me Mw
open En (NoNum)
open SX (S)
open C8 (pe_gc)
open SkE (call_repr_int call_str_str)
open RZ (pi_zipA)
section
variable {P : Program} {w : World} {K : PySem.W.Frag} {mg : Str → Option Value} {base : Heap}
/-! ### levels, order, sorted text -/
theorem eqvAll_ints : ∀ {u v : List Int}, PyData.eqvAll (u.map PyData.int) (v.map PyData.int) = decide (u = v)
  | [], [] => rfl
  | [], y :: v => rfl
  | x :: u, [] => rfl
  | x :: u, y :: v => by
    rw [List.map_cons, List.map_cons, PyData.eqvAll, eqvAll_ints (u := u) (v := v), PyData.eqv]
    rcases Int.decEq x y with h1 | h1 <;> by_cases h2 : u = v <;> simp [h1, h2]
theorem eqv_ints {u v : List Int} : PyData.eqv (.tuple (u.map PyData.int)) (.tuple (v.map PyData.int)) = decide (u = v) := by
  rw [PyData.eqv]; exact eqvAll_ints
def lvl (wt : Nat → Int) (u : List Nat) : List Int := Lo.sums (wts wt u)
theorem lvl_len (wt : Nat → Int) (u : List Nat) : (lvl wt u).length = u.length := by unfold lvl wts; rw [Lo.sums_len, List.length_map]
def sp_Scale_place_levels (C : Addr) : Sp := fun vs H Q _ => ∃ v u L wt, vs = [v, .str (S u)] ∧ ScaleAt C H v L wt ∧ TOk L u ∧ ∀ p H', Same H H' → H p = none → H' p = some (.tup ((lvl wt u).map V.int)) → Q (.ref p) H'
theorem ok_Scale_place_levels (T : Tx K mg) : FnOk P w K mg base CX0 10 T.a_Scale_place_levels T.d_Scale_place_levels ["self", "text"] (sp_Scale_place_levels T.C_Scale) := by
  refine T.F_Scale_place_levels.ok sc_Scale_place_levels (fun vs H Q E h => ?_) (fun cdv A outer s H vs Q E hr h => ?_)
  · obtain ⟨v, u, L, wt, rfl, _⟩ := h; rfl
  · obtain ⟨v, u, L, wt, rfl, hS, hu, q⟩ := h
    refine ⟨_, (pss_one (ps_ret (pe_callTy Sx.c_tupOf (by rfl) T.n_tuple Sx.bt_tuple (pa_cons (pe_call (ok_running_sums T) (hr.mono (by decide)) (by rfl) T.g_running_sums T.F_running_sums.kp T.b_running_sums .nil pass0 (pa_cons (pe_call (ok_weights_of T) (hr.mono (by decide)) (by rfl) T.g_weights_of T.F_weights_of.kp T.b_weights_of .nil pass0 (pa_cons (pv 0) (pa_cons (pv 1) pa_nil))) pa_nil)) pa_nil)))), ?_⟩
    refine Sx.r_st (σ' := [some (v), some (.str (S u))]) rfl ?_
    walk_at "sx"
    refine ⟨v, u, L, wt, rfl, hS, hu, fun p H1 s1 hp e1 => ?_⟩
    walk_at "sx"
    refine ⟨p, wts wt u, rfl, SqL.of e1, by unfold wts; rw [List.length_map]; exact hu.2, fun r H2 s2 hr e2 => ?_⟩
    walk_at "sx"
    refine r_tupOfL (SqL.of e2) fun z hz => ?_
    refine q z _ (s1.trans (s2.trans (same_new hz))) ?_ upd_same
    cases hh : H z with
    | none => rfl
    | some o => rw [s2 _ _ (s1 _ _ hh)] at hz; cases hz
def sp_Scale_order (C : Addr) : Sp := fun vs H Q _ => ∃ v u L wt, vs = [v, .str (S u)] ∧ ScaleAt C H v L wt ∧ TOk L u ∧ ∀ p o H', Lo.IsOrd (lvl wt u) o → Same H H' → H p = none → H' p = some (.tup (Lk.nv o)) → Q (.ref p) H'
theorem ok_Scale_order (T : Tx K mg) : FnOk P w K mg base CX0 10 T.a_Scale_order T.d_Scale_order ["self", "text"] (sp_Scale_order T.C_Scale) := by
  refine T.F_Scale_order.ok sc_Scale_order (fun vs H Q E h => ?_) (fun cdv A outer s H vs Q E hr h => ?_)
  · obtain ⟨v, u, L, wt, rfl, _⟩ := h; rfl
  · obtain ⟨v, u, L, wt, rfl, hS, hu, q⟩ := h
    refine ⟨_, (pss_one (ps_ret (pe_callTy Sx.c_tupOf (by rfl) T.n_tuple Sx.bt_tuple (pa_cons (pe_call (ok_places_by_level T) (hr.mono (by decide)) (by rfl) T.g_places_by_level T.F_places_by_level.kp T.b_places_by_level .nil pass0 (pa_cons (pe_call (ok_running_sums T) (hr.mono (by decide)) (by rfl) T.g_running_sums T.F_running_sums.kp T.b_running_sums .nil pass0 (pa_cons (pe_call (ok_weights_of T) (hr.mono (by decide)) (by rfl) T.g_weights_of T.F_weights_of.kp T.b_weights_of .nil pass0 (pa_cons (pv 0) (pa_cons (pv 1) pa_nil))) pa_nil)) pa_nil)) pa_nil)))), ?_⟩
    refine Sx.r_st (σ' := [some (v), some (.str (S u))]) rfl ?_
    walk_at "sx"
    refine ⟨v, u, L, wt, rfl, hS, hu, fun p H1 s1 hp e1 => ?_⟩
    walk_at "sx"
    refine ⟨p, wts wt u, rfl, SqL.of e1, by unfold wts; rw [List.length_map]; exact hu.2, fun r H2 s2 hr e2 => ?_⟩
    walk_at "sx"
    refine ⟨r, lvl wt u, rfl, SqL.of e2, by rw [lvl_len]; exact hu.2, fun r3 o H3 io s3 hr3 e3 => ?_⟩
    walk_at "sx"
    refine r_tupOfL (SqL.of e3) fun z hz => ?_
    refine q z o _ io (s1.trans (s2.trans (s3.trans (same_new hz)))) ?_ upd_same
    cases hh : H z with
    | none => rfl
    | some o => rw [s3 _ _ (s2 _ _ (s1 _ _ hh))] at hz; cases hz
/-- the letters at these places -/
def stx (u o : List Nat) : List Nat := o.map fun j => u.getD j 0
theorem ord_lt {lv : List Int} {o : List Nat} (h : Lo.IsOrd lv o) {j : Nat} (m : j ∈ o) : j < lv.length := List.mem_range.mp (h.2.mem_iff.mp m)
theorem ord_length {lv : List Int} {o : List Nat} (h : Lo.IsOrd lv o) : o.length = lv.length := by rw [h.2.length_eq, List.length_range]
theorem nv_at {o : List Nat} {i : Nat} {x : V} (h : (Lk.nv o)[i]? = some x) : ∃ j, o[i]? = some j ∧ x = .int (j : Int) := by
  unfold Lk.nv at h
  rw [List.getElem?_map] at h
  obtain ⟨j, h1, h2⟩ := Option.map_eq_some_iff.mp h
  exact ⟨j, h1, h2.symm⟩
theorem S_ix {u : List Nat} {j : Nat} (h : j < u.length) : (S u).cps[j]? = some (u.getD j 0) := by
  have : (S u).cps[j]? = u[j]? := List.getElem?_toArray
  rw [this, List.getD_eq_getElem?_getD, List.getElem?_eq_getElem h]; rfl
theorem scF_o (t : Str) (d : Addr) : (scF t d).lookup ("order" : Str) = none := by
  unfold scF; rw [lookup_putF, if_neg (by decide +kernel), lookup_putF, if_neg (by decide +kernel)]; rfl
def sp_Scale_sorted_text (C : Addr) : Sp := fun vs H Q _ => ∃ v u L wt, vs = [v, .str (S u)] ∧ ScaleAt C H v L wt ∧ TOk L u ∧ ∀ o H', Lo.IsOrd (lvl wt u) o → Same H H' → Q (.str (S (stx u o))) H'
theorem ok_Scale_sorted_text (T : Tx K mg) : FnOk P w K mg base CX0 11 T.a_Scale_sorted_text T.d_Scale_sorted_text ["self", "text"] (sp_Scale_sorted_text T.C_Scale) := by
  refine T.F_Scale_sorted_text.ok sc_Scale_sorted_text (fun vs H Q E h => ?_) (fun cdv A outer s H vs Q E hr h => ?_)
  · obtain ⟨v, u, L, wt, rfl, _⟩ := h; rfl
  · obtain ⟨v, u, L, wt, rfl, hS, hu, q⟩ := h
    refine ⟨_, (pss_one (ps_ret (pe_bm PySem.F.plainAttrs_str PySem.F.slot_str_join PySem.F.type_str_join Sx.m_join pe_str (pa_cons (pe_lc (own := [("place", 2)]) (g := (gName 2)) (tt := tYes) rfl sc_Scale_sorted_text.nd (pi_tup (pe_meth (pv 0) T.cl_Scale T.me_Scale_order (ok_Scale_order T) (hr.mono (by decide)) T.b_Scale_order .nil pass0 (pa_cons (pv 1) pa_nil))) (blkOk_by (N := N_Scale_sorted_text) (sc := defScope st_Scale_sorted_text) (by decide +kernel)) (fun _ _ _ _ _ => (pg_name (i := 2) sc_Scale_sorted_text.nd rfl (.inl rfl))) (fun _ _ _ _ _ => pts_nil) (fun _ _ _ _ _ => (pe_ix ix_str (pv 1) (pv 2) (fun _ _ => rfl)))) pa_nil)))), ?_⟩
    refine Sx.r_st (σ' := [some (v), some (.str (S u)), none]) rfl ?_
    obtain ⟨_, p0, dx, t, rfl, hp0, ht0⟩ := id hS
    walk_at "sx"
    refine ⟨p0, dx, _, rfl, hp0, scF_o _ _, ?_⟩
    walk_at "sx"
    refine ⟨.ref p0, u, L, wt, rfl, hS, hu, fun p o H1 io s1 hp e1 => ?_⟩
    have ol : o.length = u.length := by rw [ord_length io, lvl_len]
    refine ⟨p, rfl, ⟨_, SqT.of e1⟩, ?_⟩
    refine lw_tup (fun D i H' => Same H1 H' ∧ H' D = some (.lst (((stx u o).take i).map fun c => V.str (ch c)))) (fun D hD => ⟨same_new hD, upd_same⟩) (fun D hD i H' _ z => SqT.of (z.1 _ _ e1)) ?_ ?_
    · rintro D hD i x H2 hx ⟨s2, d2⟩
      obtain ⟨j, hj, rfl⟩ := nv_at hx
      have jl := ord_lt io (List.mem_of_getElem? hj)
      rw [lvl_len] at jl
      walk_at "sx"
      refine ⟨rfl, ?_⟩
      walk_at "sx"
      refine ⟨S u, (j : Int), u.getD j 0, rfl, rfl, ?_, atI_nat ?_, ?_⟩
      · rw [SX.S_len, sizeLine_eq]; have := hu.2; omega
      · rw [Array.getElem?_toList, S_ix jl]
      refine ⟨_, d2, ?_, same_mut s2 hD, ?_⟩
      · have := hu.2
        have := List.length_take_le' i (stx u o)
        have e9 : (stx u o).length = o.length := List.length_map ..
        rw [List.length_map, sizeLine_eq]; omega
      · rw [upd_same, List.take_add_one, List.map_append]
        unfold stx
        rw [List.getElem?_map, hj]; rfl
    · rintro D hD H2 ⟨s2, d2⟩
      have e9 : (stx u o).length = o.length := List.length_map ..
      have l9 : (Lk.nv o).length = (stx u o).length := by unfold Lk.nv; rw [List.length_map, e9]
      rw [l9, List.take_length] at d2
      have d2 : H2 D = some (.lst (((stx u o).map fun c => (⟨#[c]⟩ : Str)).map V.str)) := by rw [d2, List.map_map]; rfl
      walk_at "sx"
      refine r_joinL (SqL.of d2) ?_ ?_
      · rw [join_letters]
        exact q o H2 io (s1.trans s2)
      · rw [List.map_map]
        have : ((stx u o).map (Str.length ∘ fun c => (⟨#[c]⟩ : Str))) = (stx u o).map fun _ => 1 := List.map_congr_left fun _ _ => rfl
        rw [this, List.map_const', List.sum_replicate_nat, List.length_map, e9]
        have := hu.2
        have e0 : ("" : Str).length = 0 := rfl
        rw [e0, Nat.mul_zero]
        omega
/-! ### the same row -/
def NoTup (K : PySem.W.Frag) (H : Hp) (x : V) : Prop := ∃ ty, TyX K H x ty ∧ PySem.W.kitOne K ty (.type "tuple") = some false
theorem NoTup.mono {K : PySem.W.Frag} {H H' : Hp} {v : V} (h : NoTup K H v) (s : ∀ b o, H b = some o → H' b = some o) : NoTup K H' v := by
  obtain ⟨ty, a, b⟩ := h
  exact ⟨ty, En.TyX_mono s a, b⟩
/-- a number, or True or False -/
def NB (x : V) : Prop := (∃ i : Int, x = .int i) ∨ ∃ b : Bool, x = .bl b
def isI : V → Bool
  | .int _ => true
  | _ => false
theorem isI_all {xs : List V} (h : (xs.map isI).all id = true) (nb : ∀ x, x ∈ xs → NB x) : ∃ ns : List Int, xs = ns.map V.int := by
  induction xs with
  | nil => exact ⟨[], rfl⟩
  | cons x xs ih =>
    rw [List.map_cons, List.all_cons, Bool.and_eq_true] at h
    obtain ⟨ns, rfl⟩ := ih h.2 fun y m => nb y (List.mem_cons_of_mem _ m)
    rcases nb x List.mem_cons_self with ⟨i, rfl⟩ | ⟨b, rfl⟩
    · exact ⟨i :: ns, rfl⟩
    · exact absurd h.1 (by simp [isI])
theorem isI_no {xs : List V} {ms : List Int} (h : (xs.map isI).all id = false) : xs ≠ ms.map V.int := by
  rintro rfl
  rw [List.map_map, Bool.eq_false_iff] at h
  refine h (List.all_eq_true.mpr fun b m => ?_)
  obtain ⟨i, _, rfl⟩ := List.mem_map.mp m
  rfl
theorem int_inj {u v : List Int} : u.map V.int = v.map V.int ↔ u = v :=
  ⟨fun h => List.map_inj_right (fun a b e => V.int.inj e) |>.mp h, fun h => by rw [h]⟩
def sp_is_same_row (K : PySem.W.Frag) : Sp := fun vs H Q _ => ∃ (x : V) (r : Addr) (ms : List Int), vs = [x, .ref r] ∧ H r = some (.tup (ms.map V.int)) ∧ ((NoTup K H x ∧ Q (.bl false) H) ∨ ∃ p xs, x = .ref p ∧ H p = some (.tup xs) ∧ xs.length ≤ 30 ∧ (∀ z, z ∈ xs → NB z) ∧ ∀ H' k, (k = true ↔ xs = ms.map V.int) → Same H H' → Q (.bl k) H')
theorem ok_is_same_row (T : Tx K mg) : FnOk P w K mg base CX0 2 T.a_is_same_row T.d_is_same_row ["value", "row"] (sp_is_same_row K) := by
  refine T.F_is_same_row.ok sc_is_same_row (fun vs H Q E h => ?_) (fun cdv A outer s H vs Q E hr h => ?_)
  · obtain ⟨x, r, ms, rfl, _⟩ := h; rfl
  · obtain ⟨x, r, ms, rfl, hrow, q⟩ := h
    refine ⟨_, (pss_one (ps_ret (pe_and (pe_callB call_isi (by rfl) T.n_isinstance Sx.bt_isinstance (pa_cons (pv 0) (pa_cons (pe_bltn (v := .ty "tuple") (by rfl) T.n_tuple Sx.bt_tuple rfl) pa_nil))) (pe_and (pe_callB (cr_all rfl) (by rfl) T.n_all Sx.bt_all (pa_cons (pe_lc (own := [("number", 2)]) (g := (gName 2)) (tt := tYes) rfl sc_is_same_row.nd (pi_tup (pv 0)) (blkOk_by (N := N_is_same_row) (sc := defScope st_is_same_row) (by decide +kernel)) (fun _ _ _ _ _ => (pg_name (i := 2) sc_is_same_row.nd rfl (.inl rfl))) (fun _ _ _ _ _ => pts_nil) (fun _ _ _ _ _ => (pe_call (ok_is_number T) (hr.mono (by decide)) (by rfl) T.g_is_number T.F_is_number.kp T.b_is_number .nil pass0 (pa_cons (pv 2) pa_nil)))) pa_nil)) (pe_one (pe_cmpR (op_eqD hr.units) (pv 0) (pv 1) (nomark _))))))), ?_⟩
    obtain ⟨⟨ty, t1, t2⟩, q⟩ | ⟨p, xs, rfl, hp, hl, nb, q⟩ := q
    · refine Sx.r_st (σ' := [some (x), some (.ref r), none]) rfl ?_
      walk_at "sx"
      refine ⟨x, .ty "tuple", ty, .type "tuple", false, rfl, .ty _, t1, t2, ?_⟩
      walk_at "sx"
      exact q
    · refine Sx.r_st (σ' := [some (.ref p), some (.ref r), none]) rfl ?_
      walk_at "sx"
      refine ⟨_, _, _, _, true, rfl, .ty _, .base (.tup hp), kit_ty (by decide +kernel), ?_⟩
      walk_at "sx"
      refine r_seqT (SqT.of hp) ?_
      refine lw_tup (fun D i H' => Same H H' ∧ H' D = some (.lst (((xs.take i).map isI).map V.bl))) (fun D hD => ⟨same_new hD, upd_same⟩) (fun D hD i H' _ z => SqT.of (z.1 _ _ hp)) ?_ ?_
      · rintro D hD i z H2 hz ⟨s2, d2⟩
        have len : (((xs.take i).map isI).map V.bl).length < sizeLine := by
          rw [List.length_map, List.length_map, List.length_take, sizeLine_eq]; omega
        have fin : ∀ b, isI z = b → (upd H2 D (.lst (((xs.take i).map isI).map V.bl ++ [V.bl b]))) D = some (.lst (((xs.take (i + 1)).map isI).map V.bl)) := fun b e => by
          rw [upd_same, List.take_add_one, hz, List.map_append, List.map_append, ← e]; rfl
        rcases nb z (List.mem_of_getElem? hz) with ⟨n, rfl⟩ | ⟨b, rfl⟩
        · walk_at "sx"
          refine ⟨rfl, ?_⟩
          walk_at "sx"
          refine .inl ⟨n, rfl, ?_⟩
          exact ⟨_, d2, len, same_mut s2 hD, fin _ rfl⟩
        · walk_at "sx"
          refine ⟨rfl, ?_⟩
          walk_at "sx"
          refine .inr ⟨.bl b, rfl, En.noNum_bl b, ?_⟩
          exact ⟨_, d2, len, same_mut s2 hD, fin _ rfl⟩
      · rintro D hD H2 ⟨s2, d2⟩
        rw [List.take_length] at d2
        walk_at "sx"
        refine ⟨D, _, rfl, SqL.of d2, ?_⟩
        cases ea : (xs.map isI).all id with
        | false =>
          walk_at "sx"
          exact q H2 false ⟨fun z => Bool.noConfusion z, fun z => absurd z (isI_no ea)⟩ s2
        | true =>
          obtain ⟨ns, rfl⟩ := isI_all ea nb
          walk_at "sx"
          refine r_eqD (.tup (SqT.of (s2 _ _ hp)) (dpI ns)) (.tup (SqT.of (s2 _ _ hrow)) (dpI ms)) sh_tupI sh_tupI ?_
          rw [eqv_ints]
          exact q H2 _ (by rw [decide_eq_true_iff, int_inj]) s2
def sp_Scale_is_order (K : PySem.W.Frag) (C : Addr) : Sp := fun vs H Q _ => ∃ v u L wt x, vs = [v, .str (S u), x] ∧ ScaleAt C H v L wt ∧ TOk L u ∧ ((NoTup K H x ∧ ∀ H', Same H H' → Q (.bl false) H') ∨ ∃ p xs, x = .ref p ∧ H p = some (.tup xs) ∧ xs.length ≤ 30 ∧ (∀ z, z ∈ xs → NB z) ∧ ∀ H' k o, Lo.IsOrd (lvl wt u) o → (k = true ↔ xs = Lk.nv o) → Same H H' → Q (.bl k) H')
theorem ok_Scale_is_order (T : Tx K mg) : FnOk P w K mg base CX0 11 T.a_Scale_is_order T.d_Scale_is_order ["self", "text", "value"] (sp_Scale_is_order K T.C_Scale) := by
  refine T.F_Scale_is_order.ok sc_Scale_is_order (fun vs H Q E h => ?_) (fun cdv A outer s H vs Q E hr h => ?_)
  · obtain ⟨v, u, L, wt, x, rfl, _⟩ := h; rfl
  · obtain ⟨v, u, L, wt, x, rfl, hS, hu, q⟩ := h
    refine ⟨_, (pss_one (ps_ret (pe_call (ok_is_same_row T) (hr.mono (by decide)) (by rfl) T.g_is_same_row T.F_is_same_row.kp T.b_is_same_row .nil pass0 (pa_cons (pv 2) (pa_cons (pe_meth (pv 0) T.cl_Scale T.me_Scale_order (ok_Scale_order T) (hr.mono (by decide)) T.b_Scale_order .nil pass0 (pa_cons (pv 1) pa_nil)) pa_nil))))), ?_⟩
    refine Sx.r_st (σ' := [some (v), some (.str (S u)), some (x)]) rfl ?_
    obtain ⟨_, p0, dx, t, rfl, hp0, ht0⟩ := id hS
    walk_at "sx"
    refine ⟨p0, dx, _, rfl, hp0, scF_o _ _, ?_⟩
    walk_at "sx"
    refine ⟨.ref p0, u, L, wt, rfl, hS, hu, fun r o H1 io s1 hr e1 => ?_⟩
    walk_at "sx"
    have en : Lk.nv o = (o.map fun j : Nat => (j : Int)).map V.int := by unfold Lk.nv; rw [List.map_map]; rfl
    refine ⟨x, r, o.map fun j : Nat => (j : Int), rfl, by rw [← en]; exact e1, ?_⟩
    obtain ⟨nt, q⟩ | ⟨p, xs, rfl, hp, hl, nb, q⟩ := q
    · exact .inl ⟨nt.mono s1, q H1 s1⟩
    · exact .inr ⟨p, xs, rfl, s1 _ _ hp, hl, nb, fun H2 k hk s2 => q H2 k o io (by rw [hk, en]) (s1.trans s2)⟩
end
end Lw

namespace Lw
open PySem PySem.Spec PyProof.Rows L2 Sx Sy Sw Dk Dl Me Mw
open En (NoNum)
open SX (S)
open C8 (pe_gc)
open SkE (call_repr_int call_str_str)
open RZ (pi_zipA)
section
variable {P : Program} {w : World} {K : PySem.W.Frag} {mg : Str → Option Value} {base : Heap}
/-! ### the law's own words -/
theorem keys_f (L : List Nat) (wt : Nat → Int) : ((wKv L wt).map fun kv => kV kv.1) = L.map fun c => V.str (ch c) := by
  unfold wKv; rw [List.map_map]; rfl
def sp_law_weighed : Sp := fun vs H Q _ => ∃ d e L wt, vs = [.ref d, .ref e, .int 24] ∧ Dice H d ∧ H e = some (.dK (wKv L wt)) ∧ L ≠ [] ∧ L.length ≤ 5 ∧ ∀ u H', TOk L u → Kp d H H' → Q (.str (S u)) H'
theorem ok_law_weighed (T : Tx K mg) : FnOk P w K mg base CX0 3 T.a_law_weighed T.d_law_weighed ["_law_dice_here", "_law_weights_here", "_law_most"] sp_law_weighed := by
  refine T.F_law_weighed.ok sc_law_weighed (fun vs H Q E h => ?_) (fun cdv A outer s H vs Q E hr h => ?_)
  · obtain ⟨d, e, L, wt, rfl, _⟩ := h; rfl
  · obtain ⟨d, e, L, wt, rfl, hd, he, l0, l5, q⟩ := h
    refine ⟨_, (pss_one (ps_ret (pe_bm PySem.F.plainAttrs_str PySem.F.slot_str_join PySem.F.type_str_join Sx.m_join pe_str (pa_cons (pe_lc (own := [("_law_turn", 3)]) (g := (gName 3)) (tt := tYes) rfl sc_law_weighed.nd (pi_range1 (by rfl) T.n_range (pa_cons (pe_call (ok_law_roll T) (hr.mono (by decide)) (by rfl) T.g_law_roll T.F_law_roll.kp T.b_law_roll .nil pass0 (pa_cons (pv 0) (pa_cons (pe_op op_add (pv 2) pe_int) pa_nil))) pa_nil)) (blkOk_by (N := N_law_weighed) (sc := defScope st_law_weighed) (by decide +kernel)) (fun _ _ _ _ _ => (pg_name (i := 3) sc_law_weighed.nd rfl (.inl rfl))) (fun _ _ _ _ _ => pts_nil) (fun _ _ _ _ _ => (pe_call (ok_law_pick T) (hr.mono (by decide)) (by rfl) T.g_law_pick T.F_law_pick.kp T.b_law_pick .nil pass0 (pa_cons (pv 0) (pa_cons (pe_callTy (call_listD rfl) (by rfl) T.n_list Sx.bt_list (pa_cons (pv 1) pa_nil)) pa_nil))))) pa_nil)))), ?_⟩
    refine Sx.r_st (σ' := [some (.ref d), some (.ref e), some (.int 24), none]) rfl ?_
    walk_at "sx"
    refine ⟨d, 25, rfl, hd, by omega, log_small (by omega) (by omega), fun r H1 r0 r1 k1 => ?_⟩
    obtain ⟨n, rfl, n24⟩ : ∃ n : Nat, r = (n : Int) ∧ n ≤ 24 := ⟨r.toNat, by omega, by omega⟩
    have he1 := Kp_dk k1 he
    walk_at "sx"
    refine r_rng1 ?_ (by omega) (by omega)
    refine lw_range (fun D i H' => Kp d H1 H' ∧ ∃ us : List Nat, us.length = i ∧ (∀ c, c ∈ us → c ∈ L) ∧ H' D = some (.lst (us.map fun c => V.str (ch c)))) (fun D hD => ⟨(Kp.refl k1.d1).new hD, [], rfl, fun c m => (nomatch m), upd_same⟩) ?_ ?_
    · rintro D hD i H2 hi ⟨k2, us, ul, um, d2⟩
      have he2 := Kp_dk k2 he1
      have Dd : D ≠ d := dice_ne k1.d1 hD
      walk_at "sx"
      refine ⟨rfl, ?_⟩
      walk_at "sx"
      refine ⟨e, _, rfl, .inl he2, fun l hl => ?_⟩
      rw [keys_f]
      have k3 := k2.new (o := .lst (L.map fun c => V.str (ch c))) hl
      have ld : l ≠ d := dice_ne k2.d1 hl
      have d3 := same_new (o := .lst (L.map fun c => V.str (ch c))) hl _ _ d2
      walk_at "sx"
      refine ⟨d, l, _, rfl, k3.d1, ld, upd_same, ?_, ?_, fun v H4 hv k4 => ?_⟩
      · rw [List.length_map]; exact List.length_pos_iff.mpr l0
      · rw [List.length_map]; omega
      obtain ⟨c, mc, rfl⟩ := List.mem_map.mp hv
      refine ⟨_, k4.k _ _ Dd d3, ?_, (k3.trans k4).mut hD, us ++ [c], by rw [List.length_append, ul]; rfl, fun x m => ?_, by rw [upd_same, List.map_append]; rfl⟩
      · rw [List.length_map, sizeLine_eq]; omega
      · rcases List.mem_append.mp m with m | m
        · exact um x m
        · rw [List.mem_singleton.mp m]; exact mc
    · rintro D hD H2 ⟨k2, us, ul, um, d2⟩
      have d2 : H2 D = some (.lst ((us.map fun c => (⟨#[c]⟩ : Str)).map V.str)) := by rw [d2, List.map_map]; rfl
      walk_at "sx"
      refine r_joinL (SqL.of d2) ?_ ?_
      · rw [join_letters]
        exact q us H2 ⟨um, by omega⟩ (k1.trans k2)
      · rw [List.map_map]
        have : (us.map (Str.length ∘ fun c => (⟨#[c]⟩ : Str))) = us.map fun _ => 1 := List.map_congr_left fun _ _ => rfl
        rw [this, List.map_const', List.sum_replicate_nat, List.length_map]
        have e0 : ("" : Str).length = 0 := rfl
        rw [e0, Nat.mul_zero]
        omega
def sp_law_behind : Sp := fun vs H Q _ => ∃ e L wt u, vs = [.ref e, .str (S u)] ∧ H e = some (.dK (wKv L wt)) ∧ TOk L u ∧ ∀ p H', Same H H' → H p = none → H' p = some (.lst ((lvl wt u).map V.int)) → Q (.ref p) H'
theorem ok_law_behind (T : Tx K mg) : FnOk P w K mg base CX0 1 T.a_law_behind T.d_law_behind ["_law_weights_here", "_law_text"] sp_law_behind := by
  refine T.F_law_behind.ok sc_law_behind (fun vs H Q E h => ?_) (fun cdv A outer s H vs Q E hr h => ?_)
  · obtain ⟨e, L, wt, u, rfl, _⟩ := h; rfl
  · obtain ⟨e, L, wt, u, rfl, he, hu, q⟩ := h
    refine ⟨_, (pss_cons (ps_par (i := 2) (j := 3) (by rfl) sc_law_behind.nd rfl rfl (by decide) rfl rfl (pa_cons (pe_lst pa_nil) (pa_cons pe_int pa_nil)) (by rfl))
      (pss_cons (ps_for PassesOwn.never rfl (pi_str (pv 1)) (pg_name (i := 4) sc_law_behind.nd rfl (.inl rfl)) (pss_cons (ps_set (i := 3) sc_law_behind.nd rfl (.inl rfl) (pe_op op_add (pv 3) (pe_dget (Mj.hu1 hr) (pv 0) (pv 4) (fun _ _ => rfl))))
      (pss_one (ps_expr (pe_bm PySem.F.plainAttrs_list PySem.F.slot_list_append PySem.F.type_list_append mt_append (pv 2) (pa_cons (pv 3) pa_nil))))))
      (pss_one (ps_ret (pv 2))))), ?_⟩
    refine Sx.r_st (σ' := [some (.ref e), some (.str (S u)), none, none, none]) rfl ?_
    walk_at "sx"
    refine ⟨Nat.zero_le _, fun p hp => ?_⟩
    walk_at "sx"
    have wl : (wts wt u).length = u.length := List.length_map ..
    refine fr_str (fun i σ' H' => Same H H' ∧ (∃ y, σ' = [some (.ref e), some (.str (S u)), some (.ref p), some (.int ((wts wt u).take i).sum), y]) ∧ H' p = some (.lst (((lvl wt u).take i).map V.int))) ⟨same_new hp, ⟨none, rfl⟩, upd_same⟩ ?_ ?_
    · rintro i c σ' H1 hc ⟨s1, ⟨y, rfl⟩, p1⟩
      have hc := S_at hc
      have hi : i < (wts wt u).length := by rw [wl]; exact (List.getElem?_eq_some_iff.mp hc).1
      have hn : (wts wt u)[i]? = some (wt c) := by unfold wts; rw [List.getElem?_map, hc]; rfl
      walk_at "sx"
      refine ⟨e, .int (wt c), rfl, .inl ⟨_, .inr (ch c), .inl (s1 _ _ he), rfl, (wKv_in (hu.1 c (List.mem_of_getElem? hc))).symm⟩, ?_⟩
      walk_at "sx"
      rw [← Lo.sum_snoc hn]
      refine ⟨tyL p1, ?_⟩
      walk_at "sx"
      refine r_app p1 ?_ ?_
      · refine ⟨same_mut s1 hp, ⟨_, rfl⟩, ?_⟩
        unfold lvl
        rw [upd_same, Lo.sums_snoc hi, List.map_append]; rfl
      · have := hu.2
        rw [List.length_map, List.length_take, lvl_len, sizeLine_eq]; omega
    · rintro σ' H1 ⟨s1, ⟨y, rfl⟩, p1⟩
      rw [S_size, ← lvl_len wt u, List.take_length] at p1
      walk_at "sx"
      exact q p H1 s1 hp p1
def sp_law_rank : Sp := fun vs H Q _ => ∃ x : Int, vs = [.int x] ∧ ∀ p, H p = none → Q (.ref p) (upd H p (.tup [.int (Lo.rk x), .int (0 - x)]))
theorem ok_law_rank (T : Tx K mg) : FnOk P w K mg base CX0 1 T.a_law_rank T.d_law_rank ["_law_level"] sp_law_rank := by
  refine T.F_law_rank.ok sc_law_rank (fun vs H Q E h => ?_) (fun cdv A outer s H vs Q E hr h => ?_)
  · obtain ⟨x, rfl, _⟩ := h; rfl
  · obtain ⟨x, rfl, q⟩ := h
    refine ⟨_, (pss_one (ps_ret (pe_ifExp (pt_cmpR op_lt (pv 0) pe_int (nomark _)) (pe_tup (pa_cons pe_int (pa_cons (pe_op op_sub pe_int (pv 0)) pa_nil))) (pe_tup (pa_cons pe_int (pa_cons (pe_op op_sub pe_int (pv 0)) pa_nil)))))), ?_⟩
    refine Sx.r_st (σ' := [some (.int x)]) rfl ?_
    walk_at "sx"
    refine Sx.r_ifE ?_
    walk_at "sx"
    unfold Lo.rk at q
    refine ite_d (fun h => ?_) (fun h => ?_)
    · rw [if_pos h] at q
      walk_at "sx"
      refine ⟨sz _ (Nat.le_of_ble_eq_true rfl), fun p hp => ?_⟩
      exact q p hp
    · rw [if_neg h] at q
      walk_at "sx"
      refine ⟨sz _ (Nat.le_of_ble_eq_true rfl), fun p hp => ?_⟩
      exact q p hp
def sp_law_place_order : Sp := fun vs H Q _ => ∃ e L wt u, vs = [.ref e, .str (S u)] ∧ H e = some (.dK (wKv L wt)) ∧ TOk L u ∧ ∀ p o H', Lo.IsOrd (lvl wt u) o → Same H H' → H p = none → H' p = some (.lst (Lk.nv o)) → Q (.ref p) H'
theorem ok_law_place_order (T : Tx K mg) : FnOk P w K mg base CX0 2 T.a_law_place_order T.d_law_place_order ["_law_weights_here", "_law_text"] sp_law_place_order := by
  refine T.F_law_place_order.ok sc_law_place_order (fun vs H Q E h => ?_) (fun cdv A outer s H vs Q E hr h => ?_)
  · obtain ⟨e, L, wt, u, rfl, _⟩ := h; rfl
  · obtain ⟨e, L, wt, u, rfl, he, hu, q⟩ := h
    refine ⟨_, (pss_cons (ps_set (i := 2) sc_law_place_order.nd rfl (.inl rfl) (pe_call (ok_law_behind T) (hr.mono (by decide)) (by rfl) T.g_law_behind T.F_law_behind.kp T.b_law_behind .nil pass0 (pa_cons (pv 0) (pa_cons (pv 1) pa_nil))))
      (pss_cons (ps_set (i := 3) sc_law_place_order.nd rfl (.inl rfl) (pe_callB (So.c_sortD (Nat.lt_of_le_of_lt (Nat.add_le_add (Nat.le_add_right _ _) (by decide : 64 ≤ 200)) hr.un)) (by rfl) T.n_sorted Sx.bt_sorted (pa_cons (pe_lc (own := [("_law_at", 6), ("_law_level", 7)]) (g := (gTup K 2 (gCons (gName 6) (gCons (gName 7) gNil)))) (tt := tYes) rfl sc_law_place_order.nd (pi_enum (by rfl) T.n_enumerate (pa_cons (pv 2) pa_nil)) (blkOk_by (N := N_law_place_order) (sc := defScope st_law_place_order) (by decide +kernel)) (fun _ _ _ _ _ => (pg_tup rfl (pgs_cons (pg_name (i := 6) sc_law_place_order.nd rfl (.inl rfl)) (pgs_cons (pg_name (i := 7) sc_law_place_order.nd rfl (.inl rfl)) pgs_nil)))) (fun _ _ _ _ _ => pts_nil) (fun _ _ _ _ _ => (pe_tup (pa_cons (pe_call (ok_law_rank T) (hr.mono (by decide)) (by rfl) T.g_law_rank T.F_law_rank.kp T.b_law_rank .nil pass0 (pa_cons (pv 7) pa_nil)) (pa_cons (pe_op op_sub pe_int (pv 6)) pa_nil))))) pa_nil)))
      (pss_one (ps_ret (pe_lc (own := [("_law_rank_here", 4), ("_law_back", 5)]) (g := (gTup K 2 (gCons (gName 4) (gCons (gName 5) gNil)))) (tt := tYes) rfl sc_law_place_order.nd (pi_list (pv 3)) (blkOk_by (N := N_law_place_order) (sc := defScope st_law_place_order) (by decide +kernel)) (fun _ _ _ _ _ => (pg_tup rfl (pgs_cons (pg_name (i := 4) sc_law_place_order.nd rfl (.inl rfl)) (pgs_cons (pg_name (i := 5) sc_law_place_order.nd rfl (.inl rfl)) pgs_nil)))) (fun _ _ _ _ _ => pts_nil) (fun _ _ _ _ _ => (pe_op op_sub pe_int (pv 5)))))))), ?_⟩
    refine Sx.r_st (σ' := [some (.ref e), some (.str (S u)), none, none, none, none, none, none]) rfl ?_
    walk_at "sx"
    refine ⟨e, L, wt, u, rfl, he, hu, fun a0 H1 s1 ha0 ha => ?_⟩
    have ll := lvl_len wt u
    have l24 := hu.2
    walk_at "sx"
    refine r_seqE (SqL.of ha) ?_
    refine lw_it (walk_enum (xs := (lvl wt u).map V.int)) (fun D i H' => Same H1 H' ∧ ∃ ps : List Addr, ps.length = i ∧ H' D = some (.lst (ps.map V.ref)) ∧ ∀ j p, ps[j]? = some p → Lq.RowAt H' (lvl wt u) p j) (fun D hD => ⟨same_new hD, [], rfl, upd_same, fun j p z => by cases z⟩) (fun D hD i H' _ z => SqL.of (z.1 _ _ ha)) ?_ ?_
    · rintro D hD i x H2 H3 hi ⟨s2, ps, pl, d2, pr⟩ ⟨T', y, z, rfl, hT, rfl, hy, hz⟩
      cases hy
      change ((lvl wt u).map V.int)[i]? = some z at hz
      rw [List.length_map] at hi
      rw [List.getElem?_map, Lo.at_get hi] at hz
      obtain rfl := Option.some.inj hz
      have s3 := same_new (o := .tup [.int ((i : Nat) : Int), .int (Lo.at' (lvl wt u) i)]) hT
      refine r_gtup upd_same rfl ?_
      walk_at "sx"
      refine ⟨rfl, ?_⟩
      walk_at "sx"
      have d3 := s3 _ _ d2
      have s23 := s2.trans s3
      generalize upd H2 T' (.tup [.int ((i : Nat) : Int), .int (Lo.at' (lvl wt u) i)]) = H3 at s3 d3 s23 ⊢
      refine ⟨Lo.at' (lvl wt u) i, rfl, fun r hr0 => ?_⟩
      have s4 := same_new (o := .tup [.int (Lo.rk (Lo.at' (lvl wt u) i)), .int (0 - Lo.at' (lvl wt u) i)]) hr0
      have r4 : (upd H3 r (.tup [.int (Lo.rk (Lo.at' (lvl wt u) i)), .int (0 - Lo.at' (lvl wt u) i)])) r = some (.tup [.int (Lo.rk (Lo.at' (lvl wt u) i)), .int (0 - Lo.at' (lvl wt u) i)]) := upd_same
      have d4 := s4 _ _ d3
      have s34 := s3.trans s4
      have s24 := s23.trans s4
      generalize upd H3 r (.tup [.int (Lo.rk (Lo.at' (lvl wt u) i)), .int (0 - Lo.at' (lvl wt u) i)]) = H4 at s4 r4 d4 s34 s24 ⊢
      walk_at "sx"
      refine ⟨sz _ (Nat.le_of_ble_eq_true rfl), fun g hg => ?_⟩
      have s5 := same_new (o := .tup [.ref r, .int (0 - ((i : Nat) : Int))]) hg
      have gD : g ≠ D := (ne_of_none d4 hg).symm
      have row : Lq.RowAt (upd H4 g (.tup [.ref r, .int (0 - ((i : Nat) : Int))])) (lvl wt u) g i := ⟨r, upd_same, s5 _ _ r4⟩
      refine ⟨_, s5 _ _ d4, ?_, same_mut (s24.trans s5) hD, ps ++ [g], by rw [List.length_append, pl]; rfl, by rw [upd_same, List.map_append]; rfl, fun j p e => ?_⟩
      · rw [List.length_map, sizeLine_eq]; omega
      · have offD : ∀ c o, H4 c = some o → c ≠ D → True := fun _ _ _ _ => trivial
        have keep : Lq.RowAt (upd H4 g (.tup [.ref r, .int (0 - ((i : Nat) : Int))])) (lvl wt u) p j := by
          rcases Nat.lt_or_ge j ps.length with hj | hj
          · rw [List.getElem?_append_left hj] at e
            exact ((pr j p e).mono s34).mono s5
          · rw [List.getElem?_append_right hj] at e
            have j0 : j - ps.length = 0 := by
              have := (List.getElem?_eq_some_iff.mp e).1
              rw [List.length_singleton] at this; omega
            rw [j0] at e
            obtain rfl := Option.some.inj e
            rw [show j = i by omega]
            exact row
        obtain ⟨r9, e1, e2⟩ := keep
        have n1 : p ≠ D := by rintro rfl; rw [s5 _ _ d4] at e1; cases e1
        have n2 : r9 ≠ D := by rintro rfl; rw [s5 _ _ d4] at e2; cases e2
        exact ⟨r9, by rw [upd_ne n1]; exact e1, by rw [upd_ne n2]; exact e2⟩
    · rintro D hD H2 ⟨s2, ps, pl, d2, pr⟩
      rw [List.length_map] at pl
      walk_at "sx"
      refine Lq.sort_rows d2 pl pr fun r ws hr0 hw io => ?_
      have s4 := s2.trans (same_new (o := .lst ws) hr0)
      have w4 : (upd H2 r (.lst ws)) r = some (.lst ws) := upd_same
      have hw4 : ∀ w, w ∈ ws → ∃ a, w = V.ref a ∧ Lq.RowAt (upd H2 r (.lst ws)) (lvl wt u) a (Lq.num H2 w) := fun w m => by
        obtain ⟨a, e, h⟩ := hw w m
        exact ⟨a, e, h.mono (same_new hr0)⟩
      generalize upd H2 r (.lst ws) = H4 at s4 w4 hw4 ⊢
      walk_at "sx"
      refine r_seqL (SqL.of w4) ?_
      refine lw_list (fun F i H' => Same H4 H' ∧ H' F = some (.lst (Lk.nv ((ws.take i).map (Lq.num H2))))) (fun F hF => ⟨same_new hF, upd_same⟩) (fun F hF i H' _ z => SqL.of (z.1 _ _ w4)) ?_ ?_
      · rintro F hF i x H5 hx ⟨s5, f5⟩
        obtain ⟨a, rfl, r1, ha1, hb1⟩ := hw4 x (List.mem_of_getElem? hx)
        refine r_gtup (s5 _ _ ha1) rfl ?_
        walk_at "sx"
        have wl := ord_length io
        rw [List.length_map, ll] at wl
        refine ⟨rfl, ?_⟩
        walk_at "sx"
        rw [show (0 : Int) - (0 - ((Lq.num H2 (V.ref a) : Nat) : Int)) = ((Lq.num H2 (V.ref a) : Nat) : Int) by omega]
        refine ⟨_, f5, ?_, same_mut s5 hF, ?_⟩
        · have := List.length_take_le' i ws
          unfold Lk.nv
          rw [List.length_map, List.length_map, sizeLine_eq]; omega
        · rw [upd_same, List.take_add_one, hx]
          unfold Lk.nv
          rw [List.map_append, List.map_append]; rfl
      · rintro F hF H5 ⟨s5, f5⟩
        rw [List.take_length] at f5
        refine q F _ H5 io (s1.trans (s4.trans s5)) ?_ f5
        cases hh : H F with
        | none => rfl
        | some o => rw [s4 _ _ (s1 _ _ hh)] at hF; cases hF
end
end Lw

namespace Lw
open PySem PySem.Spec PyProof.Rows L2 Sx Sy Sw Dk Dl Me Mw
open En (NoNum)
open SX (S)
open C8 (pe_gc)
open SkE (call_repr_int call_str_str)
open RZ (pi_zipA)
section
variable {P : Program} {w : World} {K : PySem.W.Frag} {mg : Str → Option Value} {base : Heap}
def sp_law_sorted_by : Sp := fun vs H Q _ => ∃ e L wt u, vs = [.ref e, .str (S u)] ∧ H e = some (.dK (wKv L wt)) ∧ TOk L u ∧ ∀ o H', Lo.IsOrd (lvl wt u) o → Same H H' → Q (.str (S (stx u o))) H'
theorem ok_law_sorted_by (T : Tx K mg) : FnOk P w K mg base CX0 3 T.a_law_sorted_by T.d_law_sorted_by ["_law_weights_here", "_law_text"] sp_law_sorted_by := by
  refine T.F_law_sorted_by.ok sc_law_sorted_by (fun vs H Q E h => ?_) (fun cdv A outer s H vs Q E hr h => ?_)
  · obtain ⟨e, L, wt, u, rfl, _⟩ := h; rfl
  · obtain ⟨e, L, wt, u, rfl, he, hu, q⟩ := h
    refine ⟨_, (pss_one (ps_ret (pe_bm PySem.F.plainAttrs_str PySem.F.slot_str_join PySem.F.type_str_join Sx.m_join pe_str (pa_cons (pe_lc (own := [("_law_at", 2)]) (g := (gName 2)) (tt := tYes) rfl sc_law_sorted_by.nd (pi_list (pe_call (ok_law_place_order T) (hr.mono (by decide)) (by rfl) T.g_law_place_order T.F_law_place_order.kp T.b_law_place_order .nil pass0 (pa_cons (pv 0) (pa_cons (pv 1) pa_nil)))) (blkOk_by (N := N_law_sorted_by) (sc := defScope st_law_sorted_by) (by decide +kernel)) (fun _ _ _ _ _ => (pg_name (i := 2) sc_law_sorted_by.nd rfl (.inl rfl))) (fun _ _ _ _ _ => pts_nil) (fun _ _ _ _ _ => (pe_ix ix_str (pv 1) (pv 2) (fun _ _ => rfl)))) pa_nil)))), ?_⟩
    refine Sx.r_st (σ' := [some (.ref e), some (.str (S u)), none]) rfl ?_
    walk_at "sx"
    refine ⟨e, L, wt, u, rfl, he, hu, fun p o H1 io s1 hp e1 => ?_⟩
    have ol : o.length = u.length := by rw [ord_length io, lvl_len]
    have l24 := hu.2
    have e9 : (stx u o).length = o.length := List.length_map ..
    refine ⟨p, rfl, ⟨_, SqL.of e1⟩, ?_⟩
    refine lw_list (fun D i H' => Same H1 H' ∧ H' D = some (.lst (((stx u o).take i).map fun c => V.str (ch c)))) (fun D hD => ⟨same_new hD, upd_same⟩) (fun D hD i H' _ z => SqL.of (z.1 _ _ e1)) ?_ ?_
    · rintro D hD i x H2 hx ⟨s2, d2⟩
      obtain ⟨j, hj, rfl⟩ := nv_at hx
      have jl := ord_lt io (List.mem_of_getElem? hj)
      rw [lvl_len] at jl
      walk_at "sx"
      refine ⟨rfl, ?_⟩
      walk_at "sx"
      refine ⟨S u, (j : Int), u.getD j 0, rfl, rfl, ?_, atI_nat ?_, ?_⟩
      · rw [SX.S_len, sizeLine_eq]; omega
      · rw [Array.getElem?_toList, S_ix jl]
      refine ⟨_, d2, ?_, same_mut s2 hD, ?_⟩
      · have := List.length_take_le' i (stx u o)
        rw [List.length_map, sizeLine_eq]; omega
      · rw [upd_same, List.take_add_one, List.map_append]
        unfold stx
        rw [List.getElem?_map, hj]; rfl
    · rintro D hD H2 ⟨s2, d2⟩
      have l9 : (Lk.nv o).length = (stx u o).length := by unfold Lk.nv; rw [List.length_map, e9]
      rw [l9, List.take_length] at d2
      have d2 : H2 D = some (.lst (((stx u o).map fun c => (⟨#[c]⟩ : Str)).map V.str)) := by rw [d2, List.map_map]; rfl
      walk_at "sx"
      refine r_joinL (SqL.of d2) ?_ ?_
      · rw [join_letters]
        exact q o H2 io (s1.trans s2)
      · rw [List.map_map]
        have : ((stx u o).map (Str.length ∘ fun c => (⟨#[c]⟩ : Str))) = (stx u o).map fun _ => 1 := List.map_congr_left fun _ _ => rfl
        rw [this, List.map_const', List.sum_replicate_nat, List.length_map, e9]
        have e0 : ("" : Str).length = 0 := rfl
        rw [e0, Nat.mul_zero]
        omega
theorem scF_pl (t : Str) (d : Addr) : (scF t d).lookup ("place_levels" : Str) = none := by
  unfold scF; rw [lookup_putF, if_neg (by decide +kernel), lookup_putF, if_neg (by decide +kernel)]; rfl
theorem scF_st (t : Str) (d : Addr) : (scF t d).lookup ("sorted_text" : Str) = none := by
  unfold scF; rw [lookup_putF, if_neg (by decide +kernel), lookup_putF, if_neg (by decide +kernel)]; rfl
def sp_law_is_right (C : Addr) : Sp := fun vs H Q _ => ∃ v e L wt u, vs = [v, .ref e, .str (S u)] ∧ ScaleAt C H v L wt ∧ H e = some (.dK (wKv L wt)) ∧ TOk L u ∧ ∀ H', Same H H' → Q (.bl true) H'
theorem ok_law_is_right (T : Tx K mg) : FnOk P w K mg base CX0 12 T.a_law_is_right T.d_law_is_right ["_law_scale", "_law_weights_here", "_law_text"] (sp_law_is_right T.C_Scale) := by
  refine T.F_law_is_right.ok sc_law_is_right (fun vs H Q E h => ?_) (fun cdv A outer s H vs Q E hr h => ?_)
  · obtain ⟨v, e, L, wt, u, rfl, _⟩ := h; rfl
  · obtain ⟨v, e, L, wt, u, rfl, hS, he, hu, q⟩ := h
    refine ⟨_, (pss_cons (ps_par (i := 3) (j := 4) (by rfl) sc_law_is_right.nd rfl rfl (by decide) rfl rfl (pa_cons (pe_meth (pv 0) T.cl_Scale T.me_Scale_place_levels (ok_Scale_place_levels T) (hr.mono (by decide)) T.b_Scale_place_levels .nil pass0 (pa_cons (pv 2) pa_nil)) (pa_cons (pe_meth (pv 0) T.cl_Scale T.me_Scale_order (ok_Scale_order T) (hr.mono (by decide)) T.b_Scale_order .nil pass0 (pa_cons (pv 2) pa_nil)) pa_nil)) (by rfl))
      (pss_cons (ps_if (PW.pt (pw_or (pt_not (pt_val (pe_callB call_isi (by rfl) T.n_isinstance Sx.bt_isinstance (pa_cons (pv 3) (pa_cons (pe_bltn (v := .ty "tuple") (by rfl) T.n_tuple Sx.bt_tuple rfl) pa_nil))))) (pw_or (pt_cmpR (op_neD hr.units) (pe_callTy Sx.c_lstOf (by rfl) T.n_list Sx.bt_list (pa_cons (pv 3) pa_nil)) (pe_call (ok_law_behind T) (hr.mono (by decide)) (by rfl) T.g_law_behind T.F_law_behind.kp T.b_law_behind .nil pass0 (pa_cons (pv 1) (pa_cons (pv 2) pa_nil))) (nomark _)) (pw_or1 (pt_not (pt_val (pe_callB call_isi (by rfl) T.n_isinstance Sx.bt_isinstance (pa_cons (pv 4) (pa_cons (pe_bltn (v := .ty "tuple") (by rfl) T.n_tuple Sx.bt_tuple rfl) pa_nil))))))))) (pss_one (ps_ret pe_bl)) pss_nil)
      (pss_one (ps_ret (pe_and (pe_cmpR (op_eqD hr.units) (pe_callTy Sx.c_lstOf (by rfl) T.n_list Sx.bt_list (pa_cons (pv 4) pa_nil)) (pe_call (ok_law_place_order T) (hr.mono (by decide)) (by rfl) T.g_law_place_order T.F_law_place_order.kp T.b_law_place_order .nil pass0 (pa_cons (pv 1) (pa_cons (pv 2) pa_nil))) (nomark _)) (pe_one (pe_cmpR op_eq (pe_meth (pv 0) T.cl_Scale T.me_Scale_sorted_text (ok_Scale_sorted_text T) (hr.mono (by decide)) T.b_Scale_sorted_text .nil pass0 (pa_cons (pv 2) pa_nil)) (pe_call (ok_law_sorted_by T) (hr.mono (by decide)) (by rfl) T.g_law_sorted_by T.F_law_sorted_by.kp T.b_law_sorted_by .nil pass0 (pa_cons (pv 1) (pa_cons (pv 2) pa_nil))) (nomark _)))))))), ?_⟩
    refine Sx.r_st (σ' := [some (v), some (.ref e), some (.str (S u)), none, none]) rfl ?_
    obtain ⟨_, p0, dx, t, rfl, hp0, ht0⟩ := id hS
    walk_at "sx"
    refine ⟨p0, dx, _, rfl, hp0, scF_pl _ _, ?_⟩
    walk_at "sx"
    refine ⟨.ref p0, u, L, wt, rfl, hS, hu, fun a H1 s1 ha0 ha => ?_⟩
    walk_at "sx"
    refine ⟨p0, dx, _, rfl, s1 _ _ hp0, scF_o _ _, ?_⟩
    walk_at "sx"
    refine ⟨.ref p0, u, L, wt, rfl, hS.mono s1, hu, fun b o H2 io s2 hb0 hb => ?_⟩
    have s12 := s1.trans s2
    have ha2 := s2 _ _ ha
    walk_at "sx"
    refine Sx.r_ifs ?_
    walk_at "sx"
    refine ⟨_, _, _, _, true, rfl, .ty _, .base (.tup ha2), kit_ty (by decide +kernel), ?_⟩
    walk_at "sx"
    refine r_lstOfT (SqT.of ha2) fun c hc => ?_
    have s3 := s12.trans (same_new (o := .lst ((lvl wt u).map V.int)) hc)
    have hb3 := same_new (o := .lst ((lvl wt u).map V.int)) hc _ _ hb
    have hc3 : (upd H2 c (.lst ((lvl wt u).map V.int))) c = some (.lst ((lvl wt u).map V.int)) := upd_same
    generalize upd H2 c (.lst ((lvl wt u).map V.int)) = H3 at s3 hb3 hc3 ⊢
    walk_at "sx"
    refine ⟨e, L, wt, u, rfl, s3 _ _ he, hu, fun g H4 s4 hg0 hg => ?_⟩
    refine ne_lstI (s4 _ _ hc3) hg ?_
    have hb4 := s4 _ _ hb3
    have s4 := s3.trans s4
    walk_at "sx"
    refine ⟨_, _, _, _, true, rfl, .ty _, .base (.tup hb4), kit_ty (by decide +kernel), ?_⟩
    walk_at "sx"
    refine r_lstOfT (SqT.of hb4) fun f hf => ?_
    have s5 := s4.trans (same_new (o := .lst (Lk.nv o)) hf)
    have hf5 : (upd H4 f (.lst (Lk.nv o))) f = some (.lst (Lk.nv o)) := upd_same
    generalize upd H4 f (.lst (Lk.nv o)) = H5 at s5 hf5 ⊢
    walk_at "sx"
    refine ⟨e, L, wt, u, rfl, s5 _ _ he, hu, fun k o2 H6 io2 s6 hk0 hk => ?_⟩
    obtain rfl := io.eq io2
    have en : Lk.nv o = (o.map fun j : Nat => (j : Int)).map V.int := by unfold Lk.nv; rw [List.map_map]; rfl
    have hf6 := s6 _ _ hf5
    have s6 := s5.trans s6
    rw [en] at hf6 hk
    refine eq_lstI hf6 hk ?_
    walk_at "sx"
    refine ⟨p0, dx, _, rfl, s6 _ _ hp0, scF_st _ _, ?_⟩
    walk_at "sx"
    refine ⟨.ref p0, u, L, wt, rfl, hS.mono s6, hu, fun o3 H7 io3 s7 => ?_⟩
    obtain rfl := io.eq io3
    have s7 := s6.trans s7
    walk_at "sx"
    refine ⟨e, L, wt, u, rfl, s7 _ _ he, hu, fun o4 H8 io4 s8 => ?_⟩
    obtain rfl := io.eq io4
    walk_at "sx"
    rw [show decide (S (stx u o) = S (stx u o)) = true from decide_eq_true rfl]
    exact q H8 (s7.trans s8)
end
end Lw

namespace Lw
open PySem PySem.Spec PyProof.Rows L2 Sx Sy Sw Dk Dl Me Mw
open En (NoNum)
open SX (S)
open C8 (pe_gc)
open SkE (call_repr_int call_str_str)
open RZ (pi_zipA)
section
variable {P : Program} {w : World} {K : PySem.W.Frag} {mg : Str → Option Value} {base : Heap}
/-! ### values that are not the order -/
/-- a value that is no tuple, or another one than vs -/
def Bad (d : Addr) (ws : List V) (H : Hp) (x : V) : Prop :=
  x = .non ∨ (∃ i, x = .int i) ∨ (∃ z, x = .str z) ∨ ∃ p, x = .ref p ∧ p ≠ d ∧ ((∃ ys, H p = some (.lst ys)) ∨ (∃ kvs, H p = some (.dK kvs)) ∨ ∃ ys, H p = some (.tup ys) ∧ ys.length ≤ 30 ∧ (∀ z, z ∈ ys → NB z) ∧ ys ≠ ws)
theorem Bad.kp {d : Addr} {ws : List V} {H H' : Hp} {x : V} (h : Bad d ws H x) (k : ∀ p o, p ≠ d → H p = some o → H' p = some o) : Bad d ws H' x := by
  rcases h with h | h | h | ⟨p, e, n, h⟩
  · exact .inl h
  · exact .inr (.inl h)
  · exact .inr (.inr (.inl h))
  · refine .inr (.inr (.inr ⟨p, e, n, ?_⟩))
    rcases h with ⟨ys, h⟩ | ⟨kvs, h⟩ | ⟨ys, h, r⟩
    · exact .inl ⟨ys, k _ _ n h⟩
    · exact .inr (.inl ⟨kvs, k _ _ n h⟩)
    · exact .inr (.inr ⟨ys, k _ _ n h, r⟩)
theorem Bad.use {K : PySem.W.Frag} {d : Addr} {ws : List V} {H : Hp} {x : V} (h : Bad d ws H x) : NoTup K H x ∨ ∃ p xs, x = .ref p ∧ H p = some (.tup xs) ∧ xs.length ≤ 30 ∧ (∀ z, z ∈ xs → NB z) ∧ xs ≠ ws := by
  rcases h with rfl | ⟨i, rfl⟩ | ⟨z, rfl⟩ | ⟨p, rfl, n, h⟩
  · exact .inl ⟨_, .base .non, by rfl⟩
  · exact .inl ⟨_, .base (.int i), by rfl⟩
  · exact .inl ⟨_, .base (.str z), by rfl⟩
  · rcases h with ⟨ys, h⟩ | ⟨kvs, h⟩ | ⟨ys, h, r⟩
    · exact .inl ⟨_, .base (.lst h), by rfl⟩
    · exact .inl ⟨_, .base (.dK h), by rfl⟩
    · exact .inr ⟨p, ys, rfl, h, r⟩
theorem nv_len (o : List Nat) : (Lk.nv o).length = o.length := List.length_map ..
theorem nv_nb {o : List Nat} : ∀ z, z ∈ Lk.nv o → NB z := fun z m => by
  obtain ⟨j, _, rfl⟩ := List.mem_map.mp m
  exact .inl ⟨_, rfl⟩
theorem tiny_len : ∀ j, j < 24 → (toString ((j : Nat) : Int) : Str).length ≤ 2 ∧ ((j : Nat) : Int).natAbs.log2 < 1920 := by decide +kernel
theorem sum_two : ∀ ys : List Str, (∀ y, y ∈ ys → y.length ≤ 2) → (ys.map (·.length)).sum ≤ 2 * ys.length
  | [], _ => by simp
  | y :: ys, h => by
    have h1 := h y List.mem_cons_self
    have h2 := sum_two ys fun z m => h z (List.mem_cons_of_mem _ m)
    rw [List.map_cons, List.sum_cons, List.length_cons]
    omega
theorem bad_tup {d g : Addr} {ws ys : List V} {H : Hp} (hd : Dice H d) (h : H g = some (.tup ys)) (l : ys.length ≤ 30) (nb : ∀ z, z ∈ ys → NB z) (ne : ys ≠ ws) : Bad d ws H (.ref g) := by
  refine .inr (.inr (.inr ⟨g, rfl, ?_, .inr (.inr ⟨ys, h, l, nb, ne⟩)⟩))
  obtain ⟨x, y, z, e⟩ := hd
  rintro rfl
  rw [e] at h; cases h
theorem Bad.put {d f : Addr} {ws zs us : List V} {H : Hp} {x : V} (h : Bad d ws H x) (hf : H f = some (.lst us)) : Bad d ws (upd H f (.lst zs)) x := by
  rcases h with h | h | h | ⟨p, e, n, h⟩
  · exact .inl h
  · exact .inr (.inl h)
  · exact .inr (.inr (.inl h))
  · refine .inr (.inr (.inr ⟨p, e, n, ?_⟩))
    by_cases pf : p = f
    · subst pf; exact .inl ⟨zs, upd_same⟩
    · rw [upd_ne pf]; exact h
/-- the values found so far -/
def Fd (d : Addr) (ws : List V) (H H' : Hp) (f : Addr) (m : Nat) : Prop := Kp d H H' ∧ H f = none ∧ ∃ xs, H' f = some (.lst xs) ∧ xs.length ≤ m ∧ ∀ x, x ∈ xs → Bad d ws H' x
theorem Fd.same {d f : Addr} {ws : List V} {H H1 H2 : Hp} {m : Nat} (h : Fd d ws H H1 f m) (s : Same H1 H2) : Fd d ws H H2 f m := by
  obtain ⟨k, n, xs, e, l, b⟩ := h
  exact ⟨k.same s, n, xs, s _ _ e, l, fun x mx => (b x mx).kp fun p o _ z => s _ _ z⟩
theorem Fd.kp {d f : Addr} {ws : List V} {H H1 H2 : Hp} {m : Nat} (h : Fd d ws H H1 f m) (s : Kp d H1 H2) : Fd d ws H H2 f m := by
  obtain ⟨k, n, xs, e, l, b⟩ := h
  refine ⟨k.trans s, n, xs, s.k _ _ ?_ e, l, fun x mx => (b x mx).kp s.k⟩
  obtain ⟨x, y, z, e2⟩ := k.d0
  exact (ne_of_none e2 n).symm
theorem Fd.add {d f : Addr} {ws xs : List V} {H H1 : Hp} {m : Nat} {x : V} (h : Fd d ws H H1 f m) (e : H1 f = some (.lst xs)) (bx : Bad d ws H1 x) : Fd d ws H (upd H1 f (.lst (xs ++ [x]))) f (m + 1) := by
  obtain ⟨k, n, xs', e', l, b⟩ := h
  rw [e] at e'
  obtain rfl : xs = xs' := by injection e' with e'; injection e'
  refine ⟨k.mut n, n, _, upd_same, by rw [List.length_append, List.length_singleton]; omega, fun y my => ?_⟩
  rcases List.mem_append.mp my with my | my
  · exact (b y my).put e
  · rw [List.mem_singleton.mp my]; exact bx.put e
theorem nv_get {o : List Nat} {i : Nat} (h : i < o.length) : (Lk.nv o)[i]? = some (.int ((o.getD i 0 : Nat) : Int)) := by
  unfold Lk.nv
  rw [List.getElem?_map, List.getElem?_eq_getElem h, List.getD_eq_getElem?_getD, List.getElem?_eq_getElem h]; rfl
theorem atI_last {xs : List V} {v : V} (h : xs[xs.length - 1]? = some v) : atI xs (-1) = some v := by
  have := (List.getElem?_eq_some_iff.mp h).1
  unfold atI ixN
  rw [if_neg (by omega), if_pos (by omega)]
  show xs[(-1 + (xs.length : Int)).toNat]? = some v
  rw [show (-1 + (xs.length : Int)).toNat = xs.length - 1 by omega]; exact h
theorem no_bl {o : List Nat} {ys : List V} {b : Bool} : ys ++ [V.bl b] ≠ Lk.nv o := fun e => by
  have m : V.bl b ∈ Lk.nv o := by rw [← e]; exact List.mem_append_right _ (List.mem_singleton.mpr rfl)
  obtain ⟨j, _, h⟩ := List.mem_map.mp m
  cases h
theorem no_neg {o : List Nat} {ys : List V} : ys ++ [V.int (-1)] ≠ Lk.nv o := fun e => by
  have m : V.int (-1) ∈ Lk.nv o := by rw [← e]; exact List.mem_append_right _ (List.mem_singleton.mpr rfl)
  obtain ⟨j, _, h⟩ := List.mem_map.mp m
  have := V.int.inj h
  omega
theorem Fd.more {d f : Addr} {ws : List V} {H H' : Hp} {m k : Nat} (h : Fd d ws H H' f m) (mk : m ≤ k) : Fd d ws H H' f k := by
  obtain ⟨a, b, xs, e, l, c⟩ := h
  exact ⟨a, b, xs, e, Nat.le_trans l mk, c⟩
theorem nv_int (o : List Nat) : Lk.nv o = (o.map fun j : Nat => (j : Int)).map V.int := by unfold Lk.nv; rw [List.map_map]; rfl
theorem nv_inj {u v : List Nat} (h : Lk.nv u = Lk.nv v) : u = v :=
  List.map_inj_right (f := fun j : Nat => V.int (j : Int)) (fun a b e => by have := V.int.inj e; omega) |>.mp h
theorem rg_nv (n : Nat) : rgV 0 (n : Int) = Lk.nv (List.range n) := by
  unfold rgV Lk.nv
  rw [Int.sub_zero, Int.toNat_natCast]
  refine List.map_congr_left fun j _ => ?_
  rw [Int.zero_add]
theorem two_swapped {ws : List V} {m : Nat} {x y : V} (h0 : ws[m]? = some x) (ne : y ≠ x) (t : List V) : ws.take m ++ y :: t ≠ ws := fun e => by
  have l := (List.getElem?_eq_some_iff.mp h0).1
  have this : (ws.take m ++ y :: t)[m]? = ws[m]? := by rw [e]
  rw [h0, List.getElem?_append_right (by rw [List.length_take]; omega), List.length_take, Nat.min_eq_left (by omega), Nat.sub_self] at this
  exact ne (Option.some.inj this)
def sp_law_others : Sp := fun vs H Q _ => ∃ d p o n, vs = [.ref d, .ref p] ∧ Dice H d ∧ H p = some (.tup (Lk.nv o)) ∧ o.Perm (List.range n) ∧ n ≤ 24 ∧ ∀ l xs H', Kp d H H' → H l = none → H' l = some (.lst xs) → xs.length ≤ 20 → (∀ x, x ∈ xs → Bad d (Lk.nv o) H' x) → Q (.ref l) H'
theorem ok_law_others (T : Tx K mg) : FnOk P w K mg base CX0 2 T.a_law_others T.d_law_others ["_law_dice_here", "_law_order"] sp_law_others := by
  refine T.F_law_others.ok sc_law_others (fun vs H Q E h => ?_) (fun cdv A outer s H vs Q E hr h => ?_)
  · obtain ⟨d, p, o, n, rfl, _⟩ := h; rfl
  · obtain ⟨d, p, o, n, rfl, hd, hp, pm, n24, q⟩ := h
    refine ⟨_, (pss_cons (ps_set (i := 2) sc_law_others.nd rfl (.inl rfl) (pe_lst (pa_cons pe_non (pa_cons pe_int (pa_cons pe_str (pa_cons (pe_callTy Sx.c_lstOf (by rfl) T.n_list Sx.bt_list (pa_cons (pv 1) pa_nil)) (pa_cons (pe_op op_catA (pv 1) (pe_tup (pa_cons (pe_callB Sx.c_len (by rfl) T.n_len Sx.bt_len (pa_cons (pv 1) pa_nil)) pa_nil))) (pa_cons (pe_bm PySem.F.plainAttrs_str PySem.F.slot_str_join PySem.F.type_str_join Sx.m_join pe_str (pa_cons (pe_lc (own := [("_law_at", 4)]) (g := (gName 4)) (tt := tYes) rfl sc_law_others.nd (pi_tup (pv 1)) (blkOk_by (N := N_law_others) (sc := defScope st_law_others) (by decide +kernel)) (fun _ _ _ _ _ => (pg_name (i := 4) sc_law_others.nd rfl (.inl rfl))) (fun _ _ _ _ _ => pts_nil) (fun _ _ _ _ _ => (pe_callTy Sx.c_strI (by rfl) T.n_str Sx.bt_str (pa_cons (pv 4) pa_nil)))) pa_nil)) pa_nil))))))))
      (pss_cons (ps_if (pt_cmpR op_gt (pe_callB Sx.c_len (by rfl) T.n_len Sx.bt_len (pa_cons (pv 1) pa_nil)) pe_int (nomark _)) (pss_one (ps_set (i := 2) sc_law_others.nd rfl (.inl rfl) (pe_op op_cat (pv 2) (pe_lst (pa_cons (pe_slice sl_tupA (pv 1) (po_some pe_int) po_none) (pa_cons (pe_ifExp (pt_cmpR op_eq (pe_ix ix_tup (pv 1) (pe_un un_neg pe_int) (fun _ _ => rfl)) pe_int (nomark _)) (pe_op op_catA (pe_slice sl_tupA (pv 1) po_none (po_some (pe_un un_neg pe_int))) (pe_tup (pa_cons pe_bl pa_nil))) (pe_op op_catA (pe_slice sl_tupA (pv 1) po_none (po_some (pe_un un_neg pe_int))) (pe_tup (pa_cons (pe_un un_neg pe_int) pa_nil)))) (pa_cons (pe_disp (pps_cons pe_int (pv 1) pps_nil) rfl rfl (by simp) (by decide)) pa_nil))))))) pss_nil)
      (pss_cons (ps_if (pt_cmpR op_gt (pe_callB Sx.c_len (by rfl) T.n_len Sx.bt_len (pa_cons (pv 1) pa_nil)) pe_int (nomark _)) (pss_cons (ps_set (i := 3) sc_law_others.nd rfl (.inl rfl) (pe_call (ok_law_roll T) (hr.mono (by decide)) (by rfl) T.g_law_roll T.F_law_roll.kp T.b_law_roll .nil pass0 (pa_cons (pv 0) (pa_cons (pe_op op_sub (pe_callB Sx.c_len (by rfl) T.n_len Sx.bt_len (pa_cons (pv 1) pa_nil)) pe_int) pa_nil))))
      (pss_cons (ps_expr (pe_bm PySem.F.plainAttrs_list PySem.F.slot_list_append PySem.F.type_list_append mt_append (pv 2) (pa_cons (pe_op op_catA (pe_op op_catA (pe_slice sl_tupA (pv 1) po_none (po_some (pv 3))) (pe_tup (pa_cons (pe_ix ix_tup (pv 1) (pe_op op_add (pv 3) pe_int) (fun _ _ => rfl)) (pa_cons (pe_ix ix_tup (pv 1) (pv 3) (fun _ _ => rfl)) pa_nil)))) (pe_slice sl_tupA (pv 1) (po_some (pe_op op_add (pv 3) pe_int)) po_none)) pa_nil)))
      (pss_cons (ps_expr (pe_bm PySem.F.plainAttrs_list PySem.F.slot_list_append PySem.F.type_list_append mt_append (pv 2) (pa_cons (pe_op op_catA (pe_op op_catA (pe_slice sl_tupA (pv 1) po_none (po_some (pv 3))) (pe_tup (pa_cons (pe_ix ix_tup (pv 1) (pe_op op_add (pv 3) pe_int) (fun _ _ => rfl)) pa_nil))) (pe_slice sl_tupA (pv 1) (po_some (pe_op op_add (pv 3) pe_int)) po_none)) pa_nil)))
      (pss_one (ps_expr (pe_bm PySem.F.plainAttrs_list PySem.F.slot_list_append PySem.F.type_list_append mt_append (pv 2) (pa_cons (pe_ifExp (pt_cmpR (op_neD hr.units) (pv 1) (pe_tupRg rfl (by rfl) T.n_tuple (prg_1 (by rfl) T.n_range (pe_callB Sx.c_len (by rfl) T.n_len Sx.bt_len (pa_cons (pv 1) pa_nil)))) (nomark _)) (pe_tupRg rfl (by rfl) T.n_tuple (prg_1 (by rfl) T.n_range (pe_callB Sx.c_len (by rfl) T.n_len Sx.bt_len (pa_cons (pv 1) pa_nil)))) (Rt.pe_revT (pv 1))) pa_nil))))))) pss_nil)
      (pss_one (ps_ret (pv 2)))))), ?_⟩
    refine Sx.r_st (σ' := [some (.ref d), some (.ref p), none, none, none]) rfl ?_
    have ol : o.length = n := by rw [pm.length_eq, List.length_range]
    have nl : (Lk.nv o).length = n := by rw [nv_len, ol]
    have pd : p ≠ d := by
      obtain ⟨x, y, z, e⟩ := hd
      rintro rfl
      rw [e] at hp; cases hp
    walk_at "sx"
    refine r_lstOfT (SqT.of hp) fun c hc => ?_
    have k1 := (Kp.refl hd).new (o := .lst (Lk.nv o)) hc
    have c1 : (upd H c (.lst (Lk.nv o))) c = some (.lst (Lk.nv o)) := upd_same
    have cd : c ≠ d := dice_ne hd hc
    generalize upd H c (.lst (Lk.nv o)) = H1 at k1 c1 ⊢
    have p1 := k1.k _ _ pd hp
    walk_at "sx"
    refine r_lenT (SqT.of p1) ?_
    rw [nl]
    walk_at "sx"
    refine ⟨sz _ (Nat.le_of_ble_eq_true rfl), fun t ht => ?_⟩
    have p1t := same_new (o := .tup [.int (n : Int)]) ht _ _ p1
    refine Ct.r_catA p1t upd_same (by rw [nl, sizeLine_eq]; show n + 1 ≤ _; omega) fun g1 H2 s2 e2 => ?_
    have k2 := (k1.new (o := .tup [.int (n : Int)]) ht).same s2
    have c2 := s2 _ _ (same_new (o := .tup [.int (n : Int)]) ht _ _ c1)
    have p2 := s2 _ _ p1t
    walk_at "sx"
    refine r_seqT (SqT.of p2) ?_
    refine lw_tup (fun D i H' => Same H2 H' ∧ ∃ ys : List Str, ys.length = i ∧ (∀ y, y ∈ ys → y.length ≤ 2) ∧ H' D = some (.lst (ys.map V.str))) (fun D hD => ⟨same_new hD, [], rfl, fun y m => (nomatch m), upd_same⟩) (fun D hD i H' _ z => SqT.of (z.1 _ _ p2)) ?_ ?_
    · rintro D hD i x H3 hx ⟨s3, ys, yl, y2, d3⟩
      obtain ⟨j, hj, rfl⟩ := nv_at hx
      have jn : j < 24 := by have := List.mem_range.mp (pm.mem_iff.mp (List.mem_of_getElem? hj)); omega
      have il : i < n := by have := (List.getElem?_eq_some_iff.mp hj).1; omega
      obtain ⟨z1, z2⟩ := tiny_len j jn
      walk_at "sx"
      refine ⟨rfl, ?_⟩
      walk_at "sx"
      · refine ⟨_, d3, ?_, same_mut s3 hD, ys ++ [Str.ofString (toString ((j : Nat) : Int))], by rw [List.length_append, yl]; rfl, fun y m => ?_, by rw [upd_same, List.map_append]; rfl⟩
        · rw [List.length_map, sizeLine_eq]; omega
        · rcases List.mem_append.mp m with m | m
          · exact y2 y m
          · rw [List.mem_singleton.mp m]; exact z1
      · exact z2
    rintro D hD H3 ⟨s3, ys, yl, y2, d3⟩
    rw [nl] at yl
    walk_at "sx"
    refine r_joinL (SqL.of d3) ?_ ?_
    rotate_left
    · have := sum_two ys y2
      have e0 : ("" : Str).length = 0 := rfl
      rw [e0, Nat.mul_zero]
      omega
    refine ⟨sz _ (Nat.le_of_ble_eq_true rfl), fun f hf => ?_⟩
    have k3 := k2.same s3
    have f1 : Fd d (Lk.nv o) H (upd H3 f (.lst [.non, .int 3, .str "", .ref c, .ref g1, .str (Txt.join "" ys)])) f 6 := by
      refine ⟨k3.new hf, k3.free hf, _, upd_same, Nat.le_refl _, fun x m => ?_⟩
      have kk : ∀ p o, p ≠ d → H3 p = some o → (upd H3 f (.lst [.non, .int 3, .str "", .ref c, .ref g1, .str (Txt.join "" ys)])) p = some o := fun p o _ e => same_new hf _ _ e
      simp only [List.mem_cons, List.not_mem_nil, or_false] at m
      rcases m with rfl | rfl | rfl | rfl | rfl | rfl
      · exact .inl rfl
      · exact .inr (.inl ⟨_, rfl⟩)
      · exact .inr (.inr (.inl ⟨_, rfl⟩))
      · exact .inr (.inr (.inr ⟨c, rfl, cd, .inl ⟨_, kk _ _ cd (s3 _ _ c2)⟩⟩))
      · refine (bad_tup k3.d1 (s3 _ _ e2) ?_ (fun z m => ?_) fun e => ?_).kp kk
        · rw [List.length_append, nl]; show n + 1 ≤ 30; omega
        · rcases List.mem_append.mp m with m | m
          · exact nv_nb z m
          · rw [List.mem_singleton.mp m]; exact .inl ⟨_, rfl⟩
        · have := congrArg List.length e
          rw [List.length_append, nl] at this
          simp at this
      · exact .inr (.inr (.inl ⟨_, rfl⟩))
    have p3 := same_new (o := .lst [.non, .int 3, .str "", .ref c, .ref g1, .str (Txt.join "" ys)]) hf _ _ (s3 _ _ p2)
    show gName 2 (.ref f) _ (upd H3 f (.lst [.non, .int 3, .str "", .ref c, .ref g1, .str (Txt.join "" ys)])) _
    generalize upd H3 f (.lst [.non, .int 3, .str "", .ref c, .ref g1, .str (Txt.join "" ys)]) = H4 at f1 p3 ⊢
    walk_at "sx"
    refine r_cutS (fun σ' H' => ∃ f, Fd d (Lk.nv o) H H' f 9 ∧ σ' = [some (.ref d), some (.ref p), some (.ref f), none, none]) (fun nx' kk => ?_) ?_
    · refine Sx.r_ifs ?_
      walk_at "sx"
      refine r_lenT (SqT.of p3) ?_
      rw [nl]
      walk_at "sx"
      refine ite_d (fun h => ?_) (fun h => ?_)
      · walk_at "sx"
        refine Ct.r_slA p3 fun g H5 s5 e5 => ?_
        rw [show (some (1 : Int)) = some ((1 : Nat) : Int) from rfl, Ct.cut_fr] at e5
        have f5 := f1.same s5
        have p5 := s5 _ _ p3
        have b5 : Bad d (Lk.nv o) H5 (.ref g) := bad_tup f5.1.d1 e5 (by rw [List.length_drop, nl]; omega) (fun z m => nv_nb z (List.mem_of_mem_drop m)) fun e => by
          have := congrArg List.length e
          rw [List.length_drop, nl] at this
          omega
        walk_at "sx"
        refine r_cutQ (fun v H' => Same H5 H' ∧ ∃ g ys, v = .ref g ∧ H' g = some (.tup ys) ∧ ys.length ≤ 30 ∧ (∀ z, z ∈ ys → NB z) ∧ ys ≠ Lk.nv o) (fun Q' kk2 => ?_) ?_
        · refine Sx.r_ifE ?_
          walk_at "sx"
          refine r_ixT p5 (atI_last (v := .int ((o.getD (n - 1) 0 : Nat) : Int)) (by rw [nl]; exact nv_get (by omega))) ?_
          walk_at "sx"
          refine ite_d (fun h1 => ?_) (fun h1 => ?_)
          · walk_at "sx"
            refine Ct.r_slA p5 fun g2 H6 s6 e6 => ?_
            rw [Ct.cut_last, nl] at e6
            walk_at "sx"
            refine ⟨sz _ (Nat.le_of_ble_eq_true rfl), fun t ht => ?_⟩
            have tl : ((Lk.nv o).take (n - 1)).length ≤ 24 := by rw [List.length_take, nl]; omega
            refine Ct.r_catA (same_new ht _ _ e6) upd_same (by rw [sizeLine_eq]; show _ + 1 ≤ _; omega) fun g3 H7 s7 e7 => ?_
            refine kk2 _ _ ⟨s6.trans ((same_new ht).trans s7), g3, _, rfl, e7, by rw [List.length_append]; show _ + 1 ≤ _; omega, fun z m => ?_, no_bl⟩
            rcases List.mem_append.mp m with m | m
            · exact nv_nb z (List.mem_of_mem_take m)
            · rw [List.mem_singleton.mp m]; exact .inr ⟨_, rfl⟩
          · walk_at "sx"
            refine Ct.r_slA p5 fun g2 H6 s6 e6 => ?_
            rw [Ct.cut_last, nl] at e6
            walk_at "sx"
            refine ⟨sz _ (Nat.le_of_ble_eq_true rfl), fun t ht => ?_⟩
            have tl : ((Lk.nv o).take (n - 1)).length ≤ 24 := by rw [List.length_take, nl]; omega
            refine Ct.r_catA (same_new ht _ _ e6) upd_same (by rw [sizeLine_eq]; show _ + 1 ≤ _; omega) fun g3 H7 s7 e7 => ?_
            refine kk2 _ _ ⟨s6.trans ((same_new ht).trans s7), g3, _, rfl, e7, by rw [List.length_append]; show _ + 1 ≤ _; omega, fun z m => ?_, no_neg⟩
            rcases List.mem_append.mp m with m | m
            · exact nv_nb z (List.mem_of_mem_take m)
            · rw [List.mem_singleton.mp m]; exact .inl ⟨_, rfl⟩
        rintro v H6 ⟨s6, g2, ys2, rfl, e6, l6, nb6, ne6⟩
        have f6 := f5.same s6
        have b6 := b5.kp fun p o _ z => s6 _ _ z
        have c6 : Bad d (Lk.nv o) H6 (.ref g2) := bad_tup f6.1.d1 e6 l6 nb6 ne6
        walk_at "sx"
        intro b hb
        refine ⟨_, rfl, ?_⟩
        refine ⟨upd_same, [(.inl 0, .ref p)], rfl, Nat.le_of_ble_eq_true rfl, ?_⟩
        rw [upd_upd]
        have s7 := same_new (o := .dK (mergeK [] [((.inl 0 : Key), V.ref p)])) hb
        have f7 := f6.same s7
        have b7 := b6.kp fun p o _ z => s7 _ _ z
        have c7 := c6.kp fun p o _ z => s7 _ _ z
        have d7 : Bad d (Lk.nv o) (upd H6 b (.dK (mergeK [] [((.inl 0 : Key), V.ref p)]))) (.ref b) := .inr (.inr (.inr ⟨b, rfl, dice_ne f6.1.d1 hb, .inr (.inl ⟨_, upd_same⟩)⟩))
        generalize upd H6 b (.dK (mergeK [] [((.inl 0 : Key), V.ref p)])) = H7 at f7 b7 c7 d7 ⊢
        walk_at "sx"
        refine ⟨sz _ (Nat.le_of_ble_eq_true rfl), fun q3 hq3 => ?_⟩
        have s8 := same_new (o := .lst [.ref g, .ref g2, .ref b]) hq3
        obtain ⟨a1, a2, xs, a3, a4, a5⟩ := f7.same s8
        refine ⟨f, q3, xs, _, rfl, rfl, a3, upd_same, by rw [sizeLine_eq]; show _ + 3 ≤ _; omega, fun r hr => ?_⟩
        walk_at "sx"
        have s9 := same_new (o := .lst (xs ++ [.ref g, .ref g2, .ref b])) hr
        refine kk _ _ ⟨r, ⟨a1.same s9, a1.free hr, _, upd_same, by rw [List.length_append]; show _ + 3 ≤ _; omega, fun x m => ?_⟩, rfl⟩
        refine Bad.kp ?_ fun p o _ z => s9 _ _ z
        rcases List.mem_append.mp m with m | m
        · exact a5 x m
        · simp only [List.mem_cons, List.not_mem_nil, or_false] at m
          rcases m with rfl | rfl | rfl
          · exact b7.kp fun p o _ z => s8 _ _ z
          · exact c7.kp fun p o _ z => s8 _ _ z
          · exact d7.kp fun p o _ z => s8 _ _ z
      · walk_at "sx"
        obtain ⟨a1, a2, xs, a3, a4, a5⟩ := f1
        exact kk _ _ ⟨f, ⟨a1, a2, xs, a3, by omega, a5⟩, rfl⟩
    rintro σ' H5 ⟨f, f5, rfl⟩
    have p5 := f5.1.k _ _ pd hp
    walk_at "sx"
    refine r_cutS (fun σ' H' => ∃ f y, Fd d (Lk.nv o) H H' f 12 ∧ σ' = [some (.ref d), some (.ref p), some (.ref f), y, none]) (fun nx' kk => ?_) ?_
    rotate_left
    · rintro σ' H6 ⟨f, y, ⟨k, n0, xs, e, l, b⟩, rfl⟩
      walk_at "sx"
      exact q f xs H6 k n0 e (by omega) b
    refine Sx.r_ifs ?_
    walk_at "sx"
    refine r_lenT (SqT.of p5) ?_
    rw [nl]
    walk_at "sx"
    refine ite_d (fun h => ?_) (fun h => ?_)
    rotate_left
    · walk_at "sx"
      exact kk _ _ ⟨f, none, f5.more (by omega), rfl⟩
    walk_at "sx"
    refine r_lenT (SqT.of p5) ?_
    rw [nl]
    walk_at "sx"
    refine ⟨d, (n : Int) - 1, rfl, f5.1.d1, by omega, log_small (by omega) (by omega), fun r H6 r0 r1 k6 => ?_⟩
    obtain ⟨m, rfl, hm⟩ : ∃ m : Nat, r = (m : Int) ∧ m + 1 < n := ⟨r.toNat, by omega, by omega⟩
    have f6 := f5.kp k6
    have p6 := f6.1.k _ _ pd hp
    have x0 := nv_get (o := o) (i := m) (by omega)
    have x1 := nv_get (o := o) (i := m + 1) (by omega)
    have ne01 : V.int ((o.getD (m + 1) 0 : Nat) : Int) ≠ V.int ((o.getD m 0 : Nat) : Int) := fun e => by
      have e := V.int.inj e
      have nd : o.Nodup := pm.nodup_iff.mpr List.nodup_range
      have := List.pairwise_iff_getElem.mp (List.nodup_iff_pairwise_ne.mp nd) m (m + 1) (by omega) (by omega) (by omega)
      rw [List.getD_eq_getElem?_getD, List.getD_eq_getElem?_getD, List.getElem?_eq_getElem (show m < o.length by omega), List.getElem?_eq_getElem (show m + 1 < o.length by omega)] at e
      simp only [Option.getD_some] at e
      omega
    obtain ⟨_, _, xs, a3, a4, _⟩ := id f6
    walk_at "sx"
    refine ⟨tyL a3, ?_⟩
    walk_at "sx"
    refine Ct.r_slA p6 fun g1 H7 s7 e7 => ?_
    rw [Ct.cut_up] at e7
    walk_at "sx"
    refine r_ixT (s7 _ _ p6) (v := .int ((o.getD (m + 1) 0 : Nat) : Int)) (by rw [show (m : Int) + 1 = ((m + 1 : Nat) : Int) by omega]; exact atI_nat x1) ?_
    walk_at "sx"
    refine r_ixT (s7 _ _ p6) (atI_nat x0) ?_
    walk_at "sx"
    refine ⟨sz _ (Nat.le_of_ble_eq_true rfl), fun t ht => ?_⟩
    have tl : ((Lk.nv o).take m).length ≤ m := by rw [List.length_take]; omega
    refine Ct.r_catA (same_new ht _ _ e7) upd_same (by rw [sizeLine_eq]; show _ + 2 ≤ _; omega) fun g2 H8 s8 e8 => ?_
    have s78 := s7.trans ((same_new ht).trans s8)
    walk_at "sx"
    refine Ct.r_slA (s78 _ _ p6) fun g3 H9 s9 e9 => ?_
    rw [show (m : Int) + 2 = ((m + 2 : Nat) : Int) by omega, Ct.cut_fr] at e9
    have dl : ((Lk.nv o).drop (m + 2)).length = n - (m + 2) := by rw [List.length_drop, nl]
    refine Ct.r_catA (s9 _ _ e8) e9 (by rw [List.length_append, dl, sizeLine_eq]; show _ + 2 + _ ≤ _; omega) fun g4 H10 s10 e10 => ?_
    have sA := s78.trans (s9.trans s10)
    have fA := f6.same sA
    have nbs : ∀ (k : Nat) (us : List V) (i : Nat), (∀ z, z ∈ us → NB z) → ∀ z, z ∈ (Lk.nv o).take k ++ us ++ (Lk.nv o).drop i → NB z := fun k us i hu z mz => by
      rcases List.mem_append.mp mz with mz | mz
      · rcases List.mem_append.mp mz with mz | mz
        · exact nv_nb z (List.mem_of_mem_take mz)
        · exact hu z mz
      · exact nv_nb z (List.mem_of_mem_drop mz)
    have bA : Bad d (Lk.nv o) H10 (.ref g4) := bad_tup fA.1.d1 e10 (by rw [List.length_append, List.length_append, dl]; show _ + 2 + _ ≤ _; omega) (nbs _ _ _ fun z mz => by
      simp only [List.mem_cons, List.not_mem_nil, or_false] at mz
      rcases mz with rfl | rfl <;> exact .inl ⟨_, rfl⟩) (by rw [List.append_assoc]; exact two_swapped x0 ne01 _)
    walk_at "sx"
    refine r_app (sA _ _ a3) ?_ (by rw [sizeLine_eq]; omega)
    have fB := fA.add (sA _ _ a3) bA
    generalize upd H10 f (.lst (xs ++ [.ref g4])) = HB at fB ⊢
    have pB := fB.1.k _ _ pd hp
    obtain ⟨_, _, xs, a3, a4, _⟩ := id fB
    walk_at "sx"
    refine ⟨tyL a3, ?_⟩
    walk_at "sx"
    refine Ct.r_slA pB fun g1 H7 s7 e7 => ?_
    rw [Ct.cut_up] at e7
    walk_at "sx"
    refine r_ixT (s7 _ _ pB) (v := .int ((o.getD (m + 1) 0 : Nat) : Int)) (by rw [show (m : Int) + 1 = ((m + 1 : Nat) : Int) by omega]; exact atI_nat x1) ?_
    walk_at "sx"
    refine ⟨sz _ (Nat.le_of_ble_eq_true rfl), fun t ht => ?_⟩
    refine Ct.r_catA (same_new ht _ _ e7) upd_same (by rw [sizeLine_eq]; show _ + 1 ≤ _; omega) fun g2 H8 s8 e8 => ?_
    have s78 := s7.trans ((same_new ht).trans s8)
    walk_at "sx"
    refine Ct.r_slA (s78 _ _ pB) fun g3 H9 s9 e9 => ?_
    rw [show (m : Int) + 1 = ((m + 1 : Nat) : Int) by omega, Ct.cut_fr] at e9
    have dl : ((Lk.nv o).drop (m + 1)).length = n - (m + 1) := by rw [List.length_drop, nl]
    refine Ct.r_catA (s9 _ _ e8) e9 (by rw [List.length_append, dl, sizeLine_eq]; show _ + 1 + _ ≤ _; omega) fun g4 H10 s10 e10 => ?_
    have sA := s78.trans (s9.trans s10)
    have fA := fB.same sA
    have bA : Bad d (Lk.nv o) H10 (.ref g4) := bad_tup fA.1.d1 e10 (by rw [List.length_append, List.length_append, dl]; show _ + 1 + _ ≤ _; omega) (nbs _ _ _ fun z mz => by
      rw [List.mem_singleton.mp mz]; exact .inl ⟨_, rfl⟩) (by rw [List.append_assoc]; exact two_swapped x0 ne01 _)
    walk_at "sx"
    refine r_app (sA _ _ a3) ?_ (by rw [sizeLine_eq]; omega)
    have fC := fA.add (sA _ _ a3) bA
    generalize upd H10 f (.lst (xs ++ [.ref g4])) = HC at fC ⊢
    have pC := fC.1.k _ _ pd hp
    obtain ⟨_, _, xs, a3, a4, _⟩ := id fC
    walk_at "sx"
    refine ⟨tyL a3, ?_⟩
    walk_at "sx"
    refine Sx.r_ifE ?_
    walk_at "sx"
    refine Ct.r_tupRg1 ?_
    walk_at "sx"
    refine r_lenT (SqT.of pC) ?_
    rw [nl]
    refine ⟨_, rfl, RgOk.of_le (by omega) (by omega) (by omega) (by omega), fun t ht => ?_⟩
    rw [rg_nv]
    have s1 := same_new (o := .tup (Lk.nv (List.range n))) ht
    have t1 : (upd HC t (.tup (Lk.nv (List.range n)))) t = some (.tup (Lk.nv (List.range n))) := upd_same
    generalize upd HC t (.tup (Lk.nv (List.range n))) = HD at s1 t1 ⊢
    have fD := fC.same s1
    have pD := s1 _ _ pC
    have aD := s1 _ _ a3
    have rl : (Lk.nv (List.range n)).length = n := by rw [nv_len, List.length_range]
    refine r_neD (.tup (SqT.of (show HD p = some (.tup ((o.map fun j : Nat => (j : Int)).map V.int)) by rw [← nv_int]; exact pD)) (dpI _)) (.tup (SqT.of (show HD t = some (.tup (((List.range n).map fun j : Nat => (j : Int)).map V.int)) by rw [← nv_int]; exact t1)) (dpI _)) sh_tupI sh_tupI ?_
    rw [eqv_ints]
    by_cases e0 : (o.map fun j : Nat => (j : Int)) = (List.range n).map fun j : Nat => (j : Int)
    · rw [decide_eq_true e0]
      walk_at "sx"
      refine ⟨p, _, rfl, SqT.of pD, fun g hg => ?_⟩
      have s2 := same_new (o := .tup (Lk.nv o).reverse) hg
      have fE := fD.same s2
      have bE : Bad d (Lk.nv o) (upd HD g (.tup (Lk.nv o).reverse)) (.ref g) := bad_tup fE.1.d1 upd_same (by rw [List.length_reverse, nl]; omega) (fun z mz => nv_nb z (List.mem_reverse.mp mz)) fun e => by
        have eo : o = List.range n := nv_inj (by rw [nv_int, nv_int, e0])
        have this : (Lk.nv o).reverse[0]? = (Lk.nv o)[0]? := by rw [e]
        rw [List.getElem?_reverse (by rw [nl]; omega), nl, nv_get (by omega), nv_get (by omega), eo] at this
        rw [List.getD_eq_getElem?_getD, List.getD_eq_getElem?_getD, List.getElem?_range (by omega), List.getElem?_range (by omega)] at this
        have := V.int.inj (Option.some.inj this)
        simp only [Option.getD_some] at this
        omega
      walk_at "sx"
      refine r_app (s2 _ _ aD) ?_ (by rw [sizeLine_eq]; omega)
      have fF := fE.add (s2 _ _ aD) bE
      walk_at "sx"
      exact kk _ _ ⟨f, _, fF.more (by omega), rfl⟩
    · rw [decide_eq_false e0]
      walk_at "sx"
      refine Ct.r_tupRg1 ?_
      walk_at "sx"
      refine r_lenT (SqT.of pD) ?_
      rw [nl]
      refine ⟨_, rfl, RgOk.of_le (by omega) (by omega) (by omega) (by omega), fun g hg => ?_⟩
      rw [rg_nv]
      have s2 := same_new (o := .tup (Lk.nv (List.range n))) hg
      have fE := fD.same s2
      have bE : Bad d (Lk.nv o) (upd HD g (.tup (Lk.nv (List.range n)))) (.ref g) := bad_tup fE.1.d1 upd_same (by rw [rl]; omega) (fun z mz => nv_nb z mz) fun e => e0 (by rw [nv_inj e])
      walk_at "sx"
      refine r_app (s2 _ _ aD) ?_ (by rw [sizeLine_eq]; omega)
      have fF := fE.add (s2 _ _ aD) bE
      walk_at "sx"
      exact kk _ _ ⟨f, _, fF.more (by omega), rfl⟩
end
end Lw

namespace Lw
open PySem PySem.Spec PyProof.Rows L2 Sx Sy Sw Dk Dl Me Mw
open En (NoNum)
open SX (S)
open C8 (pe_gc)
open SkE (call_repr_int call_str_str)
open RZ (pi_zipA)
section
variable {P : Program} {w : World} {K : PySem.W.Frag} {mg : Str → Option Value} {base : Heap}
/-! ### one case -/
theorem scF_io (t : Str) (d : Addr) : (scF t d).lookup ("is_order" : Str) = none := by
  unfold scF; rw [lookup_putF, if_neg (by decide +kernel), lookup_putF, if_neg (by decide +kernel)]; rfl
def sp_law_case : Sp := fun vs H Q _ => ∃ d, vs = [.ref d] ∧ Dice H d ∧ ∀ H', Kp d H H' → Q (.bl true) H'
theorem ok_law_case (T : Tx K mg) : FnOk P w K mg base CX0 13 T.a_law_case T.d_law_case ["_law_dice_here"] (sp_law_case) := by
  refine T.F_law_case.ok sc_law_case (fun vs H Q E h => ?_) (fun cdv A outer s H vs Q E hr h => ?_)
  · obtain ⟨d, rfl, _⟩ := h; rfl
  · obtain ⟨d, rfl, hd, q⟩ := h
    refine ⟨_, (pss_cons (ps_set (i := 1) sc_law_case.nd rfl (.inl rfl) (pe_call (ok_law_weights T) (hr.mono (by decide)) (by rfl) T.g_law_weights T.F_law_weights.kp T.b_law_weights .nil pass0 (pa_cons (pv 0) (pa_cons pe_int pa_nil))))
      (pss_cons (ps_asg (pe_tup (pa_cons (pe_make T.mk_Scale (ok_Scale_init T) (hr.mono (by decide)) (by rfl) T.g_Scale T.b_Scale_init .nil pass0 (pa_cons (pv 1) pa_nil)) (pa_cons (pe_call (ok_law_weighed T) (hr.mono (by decide)) (by rfl) T.g_law_weighed T.F_law_weighed.kp T.b_law_weighed .nil pass0 (pa_cons (pv 0) (pa_cons (pv 1) (pa_cons pe_int pa_nil)))) pa_nil))) (pg_tup rfl (pgs_cons (pg_name (i := 2) sc_law_case.nd rfl (.inr rfl)) (pgs_cons (pg_name (i := 3) sc_law_case.nd rfl (.inr rfl)) pgs_nil))))
      (pss_cons (ps_for PassesOwn.never rfl (pi_tup (pe_tup (pa_cons (pv 3) (pa_cons (Sw.pe_revS (pv 3)) (pa_cons (pe_meth (pv 2) T.cl_Scale T.me_Scale_sorted_text (ok_Scale_sorted_text T) (hr.mono (by decide)) T.b_Scale_sorted_text .nil pass0 (pa_cons (pv 3) pa_nil)) (pa_cons (pe_slice sl_str (pv 3) po_none (po_some pe_int)) (pa_cons pe_str pa_nil))))))) (pg_name (i := 4) sc_law_case.nd rfl (.inl rfl)) (pss_one (ps_if (pt_not (pt_val (pe_call (ok_law_is_right T) (hr.mono (by decide)) (by rfl) T.g_law_is_right T.F_law_is_right.kp T.b_law_is_right .nil pass0 (pa_cons (pv 2) (pa_cons (pv 1) (pa_cons (pv 4) pa_nil)))))) (pss_one (ps_ret pe_bl)) pss_nil)))
      (pss_cons (ps_set (i := 5) sc_law_case.nd rfl (.inl rfl) (pe_meth (pv 2) T.cl_Scale T.me_Scale_order (ok_Scale_order T) (hr.mono (by decide)) T.b_Scale_order .nil pass0 (pa_cons (pv 3) pa_nil)))
      (pss_cons (ps_setLc (i := 6) (own := [("_law_value", 7)]) (g := (gName 7)) (tt := tYes) rfl sc_law_case.nd rfl rfl (sw_true rfl rfl rfl (by decide +kernel)) (pi_list (pe_op op_cat (pe_lst (pa_cons (pv 5) pa_nil)) (pe_call (ok_law_others T) (hr.mono (by decide)) (by rfl) T.g_law_others T.F_law_others.kp T.b_law_others .nil pass0 (pa_cons (pv 0) (pa_cons (pv 5) pa_nil))))) (blkOk_by (N := N_law_case) (sc := defScope st_law_case) (by decide +kernel)) (fun _ _ _ _ _ => (pg_name (i := 7) sc_law_case.nd rfl (.inl rfl))) (fun _ _ _ _ _ => pts_nil) (fun _ _ _ _ _ => (pe_meth (pv 2) T.cl_Scale T.me_Scale_is_order (ok_Scale_is_order T) (hr.mono (by decide)) T.b_Scale_is_order .nil pass0 (pa_cons (pv 3) (pa_cons (pv 7) pa_nil)))))
      (pss_cons (ps_if (pt_cmpR (op_neD hr.units) (pv 6) (pe_op op_cat (pe_lst (pa_cons pe_bl pa_nil)) (pe_lc (own := [("_law_value", 7)]) (g := (gName 7)) (tt := tYes) rfl sc_law_case.nd (pi_list (pe_slice sl_list (pv 6) (po_some pe_int) po_none)) (blkOk_by (N := N_law_case) (sc := defScope st_law_case) (by decide +kernel)) (fun _ _ _ _ _ => (pg_name (i := 7) sc_law_case.nd rfl (.inl rfl))) (fun _ _ _ _ _ => pts_nil) (fun _ _ _ _ _ => pe_bl))) (nomark _)) (pss_one (ps_ret pe_bl)) pss_nil)
      (pss_one (ps_ret (pe_and (pe_cmpR (op_eqD hr.units) (pe_callB (Ss.cr_sortText rfl) (by rfl) T.n_sorted Sx.bt_sorted (pa_cons (pe_meth (pv 2) T.cl_Scale T.me_Scale_sorted_text (ok_Scale_sorted_text T) (hr.mono (by decide)) T.b_Scale_sorted_text .nil pass0 (pa_cons (pv 3) pa_nil)) pa_nil)) (pe_callB (Ss.cr_sortText rfl) (by rfl) T.n_sorted Sx.bt_sorted (pa_cons (pv 3) pa_nil)) (nomark _)) (pe_one (pe_cmpR (op_eqD hr.units) (pe_meth (pv 2) T.cl_Scale T.me_Scale_order (ok_Scale_order T) (hr.mono (by decide)) T.b_Scale_order .nil pass0 (pa_cons (pv 3) pa_nil)) (pv 5) (nomark _)))))))))))), ?_⟩
    refine Sx.r_st (σ' := [some (.ref d), none, none, none, none, none, none, none]) rfl ?_
    walk_at "sx"
    refine ⟨d, rfl, hd, fun e L wt H1 hw hc0 k1 he0 he => ?_⟩
    walk_at "sx"
    refine mk_scaleX he hw fun p dx t H2 s2 fp ft hp ht => ?_
    rw [hc0] at hp ht
    have k2 := k1.same s2
    have he2 := s2 _ _ he
    walk_at "sx"
    refine ⟨d, e, L, wt, rfl, k2.d1, he2, hw.1, hw.2.2.2, fun u H3 hu k3 => ?_⟩
    have hp3 := k3.ins hp
    have ht3 := Kp_dk k3 ht
    have he3 := Kp_dk k3 he2
    have k3 := k2.trans k3
    walk_at "sx"
    refine ⟨sz _ (Nat.le_of_ble_eq_true rfl), fun g hg => ?_⟩
    refine r_gtup upd_same rfl ?_
    have s4 := same_new (o := .tup [.ref p, .str (S u)]) hg
    have sc3 : ScaleAt T.C_Scale (upd H3 g (.tup [.ref p, .str (S u)])) (.ref p) L wt := ⟨⟨hw, hc0⟩, p, dx, t, rfl, s4 _ _ hp3, s4 _ _ ht3⟩
    have k4 := k3.same s4
    have hp4 := s4 _ _ hp3
    have he4 := s4 _ _ he3
    walk_at "sx"
    generalize upd H3 g (.tup [.ref p, .str (S u)]) = H4 at k4 sc3 hp4 he4 ⊢
    refine Sw.r_back ?_
    walk_at "sx"
    refine ⟨u, rfl, by have := hu.2; omega, ?_⟩
    walk_at "sx"
    refine ⟨p, dx, _, rfl, hp4, scF_st _ _, ?_⟩
    walk_at "sx"
    refine ⟨.ref p, u, L, wt, rfl, sc3, hu, fun o H5 io s5 => ?_⟩
    have pu : o.Perm (List.range u.length) := by have := io.2; rw [lvl_len] at this; exact this
    have ps : (stx u o).Perm u := Sl.getD_all pu
    have ul := hu.2
    walk_at "sx"
    rotate_left
    · rw [SX.S_len]; first | omega | (rw [sizeLine_eq]; omega)
    rw [show cutS (S u) none (some (1 : Int)) = S (u.take 1) from by rw [Mw.cut_to (by omega)]; rfl]
    walk_at "sx"
    refine ⟨sz _ (Nat.le_of_ble_eq_true rfl), fun b hb => ?_⟩
    have items : ∀ x : V, x ∈ [V.str (S u), V.str (S u.reverse), V.str (S (stx u o)), V.str (S (u.take 1)), V.str (S [])] → ∃ v, x = .str (S v) ∧ TOk L v := fun x m => by
      simp only [List.mem_cons, List.not_mem_nil, or_false] at m
      rcases m with rfl | rfl | rfl | rfl | rfl
      · exact ⟨u, rfl, hu⟩
      · exact ⟨_, rfl, fun c m => hu.1 c (List.mem_reverse.mp m), by rw [List.length_reverse]; exact ul⟩
      · exact ⟨_, rfl, fun c m => hu.1 c (ps.mem_iff.mp m), by rw [ps.length_eq]; exact ul⟩
      · exact ⟨_, rfl, fun c m => hu.1 c (List.mem_of_mem_take m), Nat.le_trans (List.length_take_le' _ _) ul⟩
      · exact ⟨_, rfl, fun c m => (nomatch m), Nat.zero_le _⟩
    have s6 := s5.trans (same_new (o := .tup [V.str (S u), V.str (S u.reverse), V.str (S (stx u o)), V.str (S (u.take 1)), V.str (S [])]) hb)
    have b6 : (upd H5 b (.tup [V.str (S u), V.str (S u.reverse), V.str (S (stx u o)), V.str (S (u.take 1)), V.str (S [])])) b = some (.tup [V.str (S u), V.str (S u.reverse), V.str (S (stx u o)), V.str (S (u.take 1)), V.str (S [])]) := upd_same
    refine r_seqT (xs := [V.str (S u), V.str (S u.reverse), V.str (S (stx u o)), V.str (S (u.take 1)), V.str (S [])]) (SqT.of upd_same) ?_
    have k6 := k4.same s6
    have sc6 := sc3.mono s6
    have hp6 := s6 _ _ hp4
    have he6 := s6 _ _ he4
    show FR _ _ _ _ _ (upd H5 b (.tup [V.str (S u), V.str (S u.reverse), V.str (S (stx u o)), V.str (S (u.take 1)), V.str (S [])]))
    generalize upd H5 b (.tup [V.str (S u), V.str (S u.reverse), V.str (S (stx u o)), V.str (S (u.take 1)), V.str (S [])]) = H6 at b6 k6 sc6 hp6 he6 s6 ⊢
    refine fr_tup (xs := [V.str (S u), V.str (S u.reverse), V.str (S (stx u o)), V.str (S (u.take 1)), V.str (S [])]) (fun i σ' H' => Same H6 H' ∧ ∃ y, σ' = [some (.ref d), some (.ref e), some (.ref p), some (.str (S u)), y, none, none, none]) ⟨Same.refl H6, none, rfl⟩ (fun i σ' H' _ z => SqT.of (z.1 _ _ b6)) ?_ ?_
    · rintro i x σ' H7 hx ⟨s7, y, rfl⟩
      obtain ⟨v, rfl, hv⟩ := items x (List.mem_of_getElem? hx)
      walk_at "sx"
      refine Sx.r_ifs ?_
      walk_at "sx"
      refine ⟨.ref p, e, L, wt, v, rfl, sc6.mono s7, s7 _ _ he6, hv, fun H8 s8 => ?_⟩
      walk_at "sx"
      exact ⟨s7.trans s8, _, rfl⟩
    rintro σ' H7 ⟨s7, y, rfl⟩
    walk_at "sx"
    refine ⟨p, dx, _, rfl, s7 _ _ hp6, scF_o _ _, ?_⟩
    walk_at "sx"
    refine ⟨.ref p, u, L, wt, rfl, sc6.mono s7, hu, fun po o2 H8 io2 s8 hpo0 hpo => ?_⟩
    obtain rfl := io.eq io2
    have s8 := s7.trans s8
    have k8 := k6.same s8
    have sc8 := sc6.mono s8
    have pod : po ≠ d := dice_ne (k6.same s7).d1 hpo0
    walk_at "sx"
    refine ⟨sz _ (Nat.le_of_ble_eq_true rfl), fun a ha => ?_⟩
    have s9 := same_new (o := .lst [.ref po]) ha
    have a9 : (upd H8 a (.lst [.ref po])) a = some (.lst [.ref po]) := upd_same
    have ad : a ≠ d := dice_ne k8.d1 ha
    have k9 := k8.same s9
    have po9 := s9 _ _ hpo
    obtain ⟨_, _, _, _, e9, hp9, ht9⟩ := id (sc8.mono s9)
    obtain rfl := V.ref.inj e9
    generalize upd H8 a (.lst [.ref po]) = H9 at s9 a9 k9 po9 hp9 ht9 ⊢
    walk_at "sx"
    refine ⟨d, po, o, u.length, rfl, k9.d1, po9, pu, hu.2, fun l xs H10 k10 hl0 hl lx bx => ?_⟩
    have a10 := k10.k _ _ ad a9
    have po10 := k10.k _ _ pod po9
    have sc10 : ScaleAt T.C_Scale H10 (.ref p) L wt := ⟨⟨hw, hc0⟩, p, _, _, rfl, k10.ins hp9, Kp_dk k10 ht9⟩
    have hp10 := k10.ins hp9
    have k10 := k9.trans k10
    refine ⟨a, l, [.ref po], xs, rfl, rfl, a10, hl, by rw [sizeLine_eq]; show 1 + _ ≤ _; omega, fun c hc => ?_⟩
    have s11 := same_new (o := .lst ([.ref po] ++ xs)) hc
    have c11 : (upd H10 c (.lst ([.ref po] ++ xs))) c = some (.lst ([.ref po] ++ xs)) := upd_same
    have po11 := s11 _ _ po10
    have sc11 := sc10.mono s11
    have hp11 := s11 _ _ hp10
    have bx11 : ∀ x, x ∈ xs → Bad d (Lk.nv o) (upd H10 c (.lst ([.ref po] ++ xs))) x := fun x m => (bx x m).kp fun p o _ z => s11 _ _ z
    have k11 := k10.same s11
    refine r_seqL (SqL.of c11) ?_
    show LCW _ _ _ _ _ _ (upd H10 c (.lst ([.ref po] ++ xs))) _
    generalize upd H10 c (.lst ([.ref po] ++ xs)) = H11 at c11 po11 sc11 hp11 bx11 k11 s11 ⊢
    refine lw_list (fun D i H' => Same H11 H' ∧ H' D = some (.lst (((true :: List.replicate xs.length false).take i).map V.bl))) (fun D hD => ⟨same_new hD, upd_same⟩) (fun D hD i H' _ z => SqL.of (z.1 _ _ c11)) ?_ ?_
    · rintro D hD i x H12 hx ⟨s12, d12⟩
      have len : (((true :: List.replicate xs.length false).take i).map V.bl).length < sizeLine := by
        have := List.length_take_le' i (true :: List.replicate xs.length false)
        rw [List.length_cons, List.length_replicate] at this
        rw [List.length_map, sizeLine_eq]; omega
      have fin : ∀ b H', (true :: List.replicate xs.length false)[i]? = some b → Same H12 H' → ∃ acc, H' D = some (.lst acc) ∧ acc.length < sizeLine ∧ Same H11 (upd H' D (.lst (acc ++ [.bl b]))) ∧ (upd H' D (.lst (acc ++ [.bl b]))) D = some (.lst (((true :: List.replicate xs.length false).take (i + 1)).map V.bl)) := fun b H' e s' =>
        ⟨_, s' _ _ d12, len, same_mut (s12.trans s') hD, by rw [upd_same, List.take_add_one, e, List.map_append]; rfl⟩
      walk_at "sx"
      refine ⟨rfl, ?_⟩
      walk_at "sx"
      refine ⟨p, _, _, rfl, s12 _ _ hp11, scF_io _ _, ?_⟩
      walk_at "sx"
      refine ⟨.ref p, u, L, wt, x, rfl, sc11.mono s12, hu, ?_⟩
      cases i with
      | zero =>
        obtain rfl : V.ref po = x := Option.some.inj hx
        refine .inr ⟨po, _, rfl, s12 _ _ po11, by rw [nv_len, pu.length_eq, List.length_range]; omega, nv_nb, fun H' k o3 io3 hk s' => ?_⟩
        obtain rfl := io.eq io3
        obtain rfl : k = true := hk.mpr rfl
        exact fin true H' rfl s'
      | succ j =>
        have hx : xs[j]? = some x := hx
        have jl := (List.getElem?_eq_some_iff.mp hx).1
        have fe : (true :: List.replicate xs.length false)[j + 1]? = some false := by
          rw [List.getElem?_cons_succ, List.getElem?_replicate, if_pos jl]
        rcases Bad.use (K := K) ((bx11 x (List.mem_of_getElem? hx)).kp fun p o _ z => s12 _ _ z) with nt | ⟨pp, ys, rfl, h1, h2, h3, h4⟩
        · exact .inl ⟨nt, fun H' s' => fin false H' fe s'⟩
        · refine .inr ⟨pp, ys, rfl, h1, h2, h3, fun H' k o3 io3 hk s' => ?_⟩
          obtain rfl := io.eq io3
          have kf : k = false := by
            cases k with
            | false => rfl
            | true => exact absurd (hk.mp rfl) h4
          subst kf
          exact fin false H' fe s'
    rintro D hD H12 ⟨s12, d12⟩
    have bl : (V.ref po :: xs).length = (true :: List.replicate xs.length false).length := by rw [List.length_cons, List.length_cons, List.length_replicate]
    rw [show ([V.ref po] ++ xs).length = (true :: List.replicate xs.length false).length from bl, List.take_length] at d12
    have k12 := k11.same s12
    have sc12 := sc11.mono s12
    have hp12 := s12 _ _ hp11
    have po12 := s12 _ _ po11
    walk_at "sx"
    refine Sx.r_ifs ?_
    walk_at "sx"
    refine ⟨sz _ (Nat.le_of_ble_eq_true rfl), fun v1 hv1 => ?_⟩
    have s13 := same_new (o := .lst [.bl true]) hv1
    have v13 : (upd H12 v1 (.lst [.bl true])) v1 = some (.lst [.bl true]) := upd_same
    have d13 := s13 _ _ d12
    generalize upd H12 v1 (.lst [.bl true]) = H13 at s13 v13 d13 ⊢
    walk_at "sx"
    refine ⟨D, _, rfl, SqL.of d13, fun w1 hw1 => ?_⟩
    rw [show (some (1 : Int)) = some ((1 : Nat) : Int) from rfl, Ct.cut_fr, show ((true :: List.replicate xs.length false).map V.bl).drop 1 = (List.replicate xs.length false).map V.bl from rfl]
    have s14 := s13.trans (same_new (o := .lst ((List.replicate xs.length false).map V.bl)) hw1)
    have w14 : (upd H13 w1 (.lst ((List.replicate xs.length false).map V.bl))) w1 = some (.lst ((List.replicate xs.length false).map V.bl)) := upd_same
    have v14 := same_new (o := .lst ((List.replicate xs.length false).map V.bl)) hw1 _ _ v13
    have d14 := same_new (o := .lst ((List.replicate xs.length false).map V.bl)) hw1 _ _ d13
    refine r_seqL (SqL.of w14) ?_
    show LCW _ _ _ _ _ _ (upd H13 w1 (.lst ((List.replicate xs.length false).map V.bl))) _
    generalize upd H13 w1 (.lst ((List.replicate xs.length false).map V.bl)) = H14 at s14 w14 v14 d14 ⊢
    refine lw_list (fun F i H' => Same H14 H' ∧ H' F = some (.lst ((List.replicate i false).map V.bl))) (fun F hF => ⟨same_new hF, upd_same⟩) (fun F hF i H' _ z => SqL.of (z.1 _ _ w14)) ?_ ?_
    · rintro F hF i x H15 hx ⟨s15, f15⟩
      have il := (List.getElem?_eq_some_iff.mp hx).1
      rw [List.length_map, List.length_replicate] at il
      walk_at "sx"
      refine ⟨rfl, ?_⟩
      walk_at "sx"
      refine ⟨_, f15, ?_, same_mut s15 hF, by rw [upd_same, List.replicate_succ', List.map_append]; rfl⟩
      rw [List.length_map, List.length_replicate, sizeLine_eq]; omega
    rintro F hF H15 ⟨s15, f15⟩
    rw [List.length_map, List.length_replicate] at f15
    walk_at "sx"
    refine ⟨v1, F, _, _, rfl, rfl, s15 _ _ v14, f15, by rw [List.length_map, List.length_replicate, sizeLine_eq]; show 1 + _ ≤ _; omega, fun z hz => ?_⟩
    have s16 := s14.trans (s15.trans (same_new (o := .lst ([.bl true] ++ (List.replicate xs.length false).map V.bl)) hz))
    have z16 : (upd H15 z (.lst ([.bl true] ++ (List.replicate xs.length false).map V.bl))) z = some (.lst ((true :: List.replicate xs.length false).map V.bl)) := upd_same
    refine ne_same (.lst (SqL.of (same_new hz _ _ (s15 _ _ d14))) (Sl.dpB _)) (.lst (SqL.of z16) (Sl.dpB _)) (Sl.sh_bools _) ?_
    generalize upd H15 z (.lst ([.bl true] ++ (List.replicate xs.length false).map V.bl)) = H16 at s16 ⊢
    have k16 := k12.same s16
    have sc16 := sc12.mono s16
    have hp16 := s16 _ _ hp12
    have po16 := s16 _ _ po12
    walk_at "sx"
    refine ⟨p, _, _, rfl, hp16, scF_st _ _, ?_⟩
    walk_at "sx"
    refine ⟨.ref p, u, L, wt, rfl, sc16, hu, fun o4 H17 io4 s17 => ?_⟩
    obtain rfl := io.eq io4
    walk_at "sx"
    refine Ss.r_sortText (by rw [S_size, ps.length_eq]; omega) fun ys y1 pm1 so1 hy1 => ?_
    have s18 := s17.trans (same_new (o := .lst (ys.map V.str)) hy1)
    have y18 : (upd H17 y1 (.lst (ys.map V.str))) y1 = some (.lst (ys.map V.str)) := upd_same
    generalize upd H17 y1 (.lst (ys.map V.str)) = H18 at s18 y18 ⊢
    walk_at "sx"
    refine Ss.r_sortText (by rw [S_size]; omega) fun zs z1 pm2 so2 hz1 => ?_
    obtain rfl := Sl.same_sorted pm1 so1 pm2 so2 ps
    have s19 := s18.trans (same_new (o := .lst (ys.map V.str)) hz1)
    have okS : SeqAt.shaped (.list (ys.map PyData.str)) = true := sh_lstS (Sl.ok_all pm2 fun c m => hw.2.1 c (hu.1 c m))
    refine r_eqD (.lst (SqL.of (same_new hz1 _ _ y18)) (dpS ys)) (.lst (SqL.of upd_same) (dpS ys)) okS okS ?_
    rw [eqv_same okS]
    generalize upd H18 z1 (.lst (ys.map V.str)) = H19 at s19 ⊢
    walk_at "sx"
    refine ⟨p, _, _, rfl, s19 _ _ hp16, scF_o _ _, ?_⟩
    walk_at "sx"
    refine ⟨.ref p, u, L, wt, rfl, sc16.mono s19, hu, fun pn o5 H20 io5 s20 hpn0 hpn => ?_⟩
    obtain rfl := io.eq io5
    have po20 := s20 _ _ (s19 _ _ po16)
    rw [nv_int] at hpn po20
    walk_at "sx"
    refine eq_tupI hpn po20 ?_
    exact q H20 (k16.same (s19.trans s20))
end
end Lw

namespace Lw
open PySem PySem.Spec PyProof.Rows L2 Sx Sy Sw Dk Dl Me Mw
open En (NoNum)
open SX (S)
open C8 (pe_gc)
open SkE (call_repr_int call_str_str)
open RZ (pi_zipA)
section
variable {P : Program} {w : World} {K : PySem.W.Frag} {mg : Str → Option Value} {base : Heap}
def spLaw (K : PySem.W.Frag) : Sp := fun vs H Q _ => ∃ (a : Addr) (ns : List Int), vs = [.ref a] ∧ SqL K H a (ns.map V.int) ∧ ns.length ≤ 63 ∧ ∀ H', Q (.bl true) H'
def endW (c : Nat) : Int := if c = 98 then -3 else 2
theorem end_kv : mergeK [] [((.inr "a" : Key), V.int 2), (.inr "b", V.int (-3))] = wKv [97, 98] endW := rfl
theorem end_ok : WOk [97, 98] endW := by unfold WOk; decide
theorem end_cn : Cn [97, 98] = [97, 98] := by decide
theorem end_o1 : Lo.IsOrd (lvl endW [97, 98, 97, 98, 97]) [1, 3, 0, 2, 4] := ⟨by decide, by decide⟩
theorem end_o2 : Lo.IsOrd (lvl endW [97, 97, 97, 98, 98]) [2, 1, 3, 0, 4] := ⟨by decide, by decide⟩
theorem end_t1 : TOk [97, 98] [97, 98, 97, 98, 97] := ⟨by decide, by decide⟩
theorem end_t2 : TOk [97, 98] [97, 97, 97, 98, 98] := ⟨by decide, by decide⟩
theorem ok_law (T : Tx K mg) : FnOk P w K mg base CX0 14 T.a_law T.d_law ["_law_script"] (spLaw K) := by
  refine T.F_law.ok sc_law (fun vs H Q E h => ?_) (fun cdv A outer s H vs Q E hr h => ?_)
  · obtain ⟨a, ns, rfl, _⟩ := h; rfl
  · obtain ⟨a, ns, rfl, hS, hl, q⟩ := h
    refine ⟨_, (pss_cons (ps_for PassesOwn.never rfl (pi_range1 (by rfl) T.n_range (pa_cons (pe_callB (Sx.c_max rfl) (by rfl) T.n_max Sx.bt_max (pa_cons pe_int (pa_cons (pe_callB (Sx.c_min rfl) (by rfl) T.n_min Sx.bt_min (pa_cons pe_int (pa_cons (pe_callB Sx.c_len (by rfl) T.n_len Sx.bt_len (pa_cons (pv 0) pa_nil)) pa_nil))) pa_nil))) pa_nil)) (pg_name (i := 1) sc_law.nd rfl (.inl rfl)) (pss_one (ps_if (pt_not (pt_val (pe_call (ok_law_case T) (hr.mono (by decide)) (by rfl) T.g_law_case T.F_law_case.kp T.b_law_case .nil pass0 (pa_cons (pe_call (ok_law_dice T) (hr.mono (by decide)) (by rfl) T.g_law_dice T.F_law_dice.kp T.b_law_dice .nil pass0 (pa_cons (pv 0) (pa_cons (pv 1) pa_nil))) pa_nil)))) (pss_one (ps_ret pe_bl)) pss_nil)))
      (pss_cons (ps_set (i := 2) sc_law.nd rfl (.inl rfl) (pe_make T.mk_Scale (ok_Scale_init T) (hr.mono (by decide)) (by rfl) T.g_Scale T.b_Scale_init .nil pass0 (pa_cons (pe_disp (pps_cons pe_str pe_int (pps_cons pe_str (pe_un un_neg pe_int) pps_nil)) rfl rfl (by simp) (by decide)) pa_nil)))
      (pss_one (ps_ret (pe_and (pe_cmpR (op_eqD hr.units) (pe_meth (pv 2) T.cl_Scale T.me_Scale_order (ok_Scale_order T) (hr.mono (by decide)) T.b_Scale_order .nil pass0 (pa_cons pe_str pa_nil)) (pe_tup (pa_cons pe_int (pa_cons pe_int (pa_cons pe_int (pa_cons pe_int (pa_cons pe_int pa_nil)))))) (nomark _)) (pe_one (pe_cmpR op_eq (pe_meth (pv 2) T.cl_Scale T.me_Scale_sorted_text (ok_Scale_sorted_text T) (hr.mono (by decide)) T.b_Scale_sorted_text .nil pass0 (pa_cons pe_str pa_nil)) pe_str (nomark _)))))))), ?_⟩
    refine Sx.r_st (σ' := [some (.ref a), none, none]) rfl ?_
    walk_at "sx"
    walk_at "sx"
    refine r_lenL hS ?_
    walk_at "sx"
    obtain ⟨n, hn, hn6⟩ : ∃ n : Nat, (if (if ((ns.map V.int).length : Int) < 4 then ((ns.map V.int).length : Int) else 4) > 1 then (if ((ns.map V.int).length : Int) < 4 then ((ns.map V.int).length : Int) else 4) else 1) = (n : Int) ∧ n ≤ 4 := by
      refine ⟨(if (if ((ns.map V.int).length : Int) < 4 then ((ns.map V.int).length : Int) else 4) > 1 then (if ((ns.map V.int).length : Int) < 4 then ((ns.map V.int).length : Int) else 4) else 1).toNat, ?_, ?_⟩
      · split <;> split <;> omega
      · split <;> split <;> omega
    rw [hn]
    refine r_rng1 ?_ (by omega) (by omega)
    refine fr_range (fun i σ' H' => Same H H' ∧ ∃ y1, σ' = [some (.ref a), y1, none]) ⟨Same.refl H, none, rfl⟩ ?_ ?_
    · rintro i σ' H1 hi ⟨sm, y1, rfl⟩
      walk_at "sxi"
      refine ⟨a, ns, i, by rw [Int.zero_add]; rfl, sm.seq hS, by omega, fun d H3 sm2 hdn hd => ?_⟩
      walk_at "sx"
      refine ⟨d, rfl, hd, fun H4 k4 => ?_⟩
      walk_at "sx"
      exact ⟨fun c o e => k4.k c o (ne_of_none (sm _ _ e) hdn) (sm2 _ _ (sm _ _ e)), _, rfl⟩
    · rintro σ' H1 ⟨sm, y1, rfl⟩
      walk_at "sx"
      intro b hb
      refine ⟨3, rfl, ?_⟩
      refine ⟨upd_same, [(.inr "a", .int 2), (.inr "b", .int (-3))], rfl, by decide, ?_⟩
      rw [end_kv, upd_upd]
      have hb2 : (upd H1 b (.dK (wKv [97, 98] endW))) b = some (.dK (wKv [97, 98] endW)) := upd_same
      walk_at "sx"
      refine mk_scaleX hb2 end_ok fun p dx t H5 s5 _ _ hp ht => ?_
      rw [end_cn] at hp ht
      have sc : ScaleAt T.C_Scale H5 (.ref p) [97, 98] endW := ⟨⟨end_ok, end_cn⟩, p, dx, t, rfl, hp, ht⟩
      walk_at "sx"
      refine ⟨p, dx, _, rfl, hp, scF_o _ _, ?_⟩
      walk_at "sx"
      refine ⟨.ref p, [97, 98, 97, 98, 97], _, _, rfl, sc, end_t1, fun r o H6 io s6 hr0 hrr => ?_⟩
      obtain rfl := io.eq end_o1
      walk_at "sx"
      refine ⟨sz _ (Nat.le_of_ble_eq_true rfl), fun z hz => ?_⟩
      have s7 := s6.trans (same_new (o := .tup [.int 1, .int 3, .int 0, .int 2, .int 4]) hz)
      refine eq_tupI (ns := [1, 3, 0, 2, 4]) (same_new hz _ _ hrr) upd_same ?_
      generalize upd H6 z (.tup [.int 1, .int 3, .int 0, .int 2, .int 4]) = H7 at s7 ⊢
      walk_at "sx"
      refine ⟨p, dx, _, rfl, s7 _ _ hp, scF_st _ _, ?_⟩
      walk_at "sx"
      refine ⟨.ref p, [97, 97, 97, 98, 98], _, _, rfl, sc.mono s7, end_t2, fun o H8 io s8 => ?_⟩
      obtain rfl := io.eq end_o2
      walk_at "sx"
      rw [show decide (S (stx [97, 97, 97, 98, 98] [2, 1, 3, 0, 4]) = "aabab") = true from by decide]
      exact q _
end
end Lw

namespace Lw
open PySem PySem.Spec PyProof.Rows L2 Sx Sy Sw Dk Dl Me Mw
open C8 (pe_gc)
open SkE (call_repr_int call_str_str)
open RZ (pi_zipA)
theorem all_mk {l : PySem.W.OpenLaw} {w : World} {K : PySem.W.Frag} {h : Heap} {mg : Str → Option Value} {fa : Addr} (X : K.In h) (G : h.Ns mainGlobals mg) (hfa : mg "law" = some (.ref fa))
    {C_Scale a_is_number a_is_whole_between a_is_same_row a_running_sums a_places_by_level a_Scale_init a_Scale_weights p_Scale_weights a_Scale_letters p_Scale_letters a_Scale_place_levels a_Scale_order a_Scale_sorted_text a_Scale_is_order a_Scale_getitem a_Scale_contains a_Scale_len a_is_weights a_check_text a_weights_of a_law_dice a_law_roll a_law_pick a_law_mixed a_law_weights a_law_weighed a_law_behind a_law_rank a_law_place_order a_law_sorted_by a_law_is_right a_law_others a_law_case a_law : Addr} {t_MAX_WEIGHT t_MAX_TEXT t_LETTERS : Tok}
    {oc_is_number kV_is_number dc_is_number pm_is_number cd_is_number ct_is_number : Value} {od_is_number an_is_number : Option Addr} {sl_is_number : Array (Option Value)}
    {oc_is_whole_between kV_is_whole_between dc_is_whole_between pm_is_whole_between cd_is_whole_between ct_is_whole_between : Value} {od_is_whole_between an_is_whole_between : Option Addr} {sl_is_whole_between : Array (Option Value)}
    {oc_is_same_row kV_is_same_row dc_is_same_row pm_is_same_row cd_is_same_row ct_is_same_row : Value} {od_is_same_row an_is_same_row : Option Addr} {sl_is_same_row : Array (Option Value)}
    {oc_running_sums kV_running_sums dc_running_sums pm_running_sums cd_running_sums ct_running_sums : Value} {od_running_sums an_running_sums : Option Addr} {sl_running_sums : Array (Option Value)}
    {oc_places_by_level kV_places_by_level dc_places_by_level pm_places_by_level cd_places_by_level ct_places_by_level : Value} {od_places_by_level an_places_by_level : Option Addr} {sl_places_by_level : Array (Option Value)}
    {oc_Scale_init kV_Scale_init dc_Scale_init pm_Scale_init cd_Scale_init ct_Scale_init : Value} {od_Scale_init an_Scale_init : Option Addr} {sl_Scale_init : Array (Option Value)}
    {oc_Scale_weights kV_Scale_weights dc_Scale_weights pm_Scale_weights cd_Scale_weights ct_Scale_weights : Value} {od_Scale_weights an_Scale_weights : Option Addr} {sl_Scale_weights : Array (Option Value)}
    {re_Scale_weights : List Value}
    {oc_Scale_letters kV_Scale_letters dc_Scale_letters pm_Scale_letters cd_Scale_letters ct_Scale_letters : Value} {od_Scale_letters an_Scale_letters : Option Addr} {sl_Scale_letters : Array (Option Value)}
    {re_Scale_letters : List Value}
    {oc_Scale_place_levels kV_Scale_place_levels dc_Scale_place_levels pm_Scale_place_levels cd_Scale_place_levels ct_Scale_place_levels : Value} {od_Scale_place_levels an_Scale_place_levels : Option Addr} {sl_Scale_place_levels : Array (Option Value)}
    {oc_Scale_order kV_Scale_order dc_Scale_order pm_Scale_order cd_Scale_order ct_Scale_order : Value} {od_Scale_order an_Scale_order : Option Addr} {sl_Scale_order : Array (Option Value)}
    {oc_Scale_sorted_text kV_Scale_sorted_text dc_Scale_sorted_text pm_Scale_sorted_text cd_Scale_sorted_text ct_Scale_sorted_text : Value} {od_Scale_sorted_text an_Scale_sorted_text : Option Addr} {sl_Scale_sorted_text : Array (Option Value)}
    {oc_Scale_is_order kV_Scale_is_order dc_Scale_is_order pm_Scale_is_order cd_Scale_is_order ct_Scale_is_order : Value} {od_Scale_is_order an_Scale_is_order : Option Addr} {sl_Scale_is_order : Array (Option Value)}
    {oc_Scale_getitem kV_Scale_getitem dc_Scale_getitem pm_Scale_getitem cd_Scale_getitem ct_Scale_getitem : Value} {od_Scale_getitem an_Scale_getitem : Option Addr} {sl_Scale_getitem : Array (Option Value)}
    {oc_Scale_contains kV_Scale_contains dc_Scale_contains pm_Scale_contains cd_Scale_contains ct_Scale_contains : Value} {od_Scale_contains an_Scale_contains : Option Addr} {sl_Scale_contains : Array (Option Value)}
    {oc_Scale_len kV_Scale_len dc_Scale_len pm_Scale_len cd_Scale_len ct_Scale_len : Value} {od_Scale_len an_Scale_len : Option Addr} {sl_Scale_len : Array (Option Value)}
    {oc_is_weights kV_is_weights dc_is_weights pm_is_weights cd_is_weights ct_is_weights : Value} {od_is_weights an_is_weights : Option Addr} {sl_is_weights : Array (Option Value)}
    {oc_check_text kV_check_text dc_check_text pm_check_text cd_check_text ct_check_text : Value} {od_check_text an_check_text : Option Addr} {sl_check_text : Array (Option Value)}
    {oc_weights_of kV_weights_of dc_weights_of pm_weights_of cd_weights_of ct_weights_of : Value} {od_weights_of an_weights_of : Option Addr} {sl_weights_of : Array (Option Value)}
    {oc_law_dice kV_law_dice dc_law_dice pm_law_dice cd_law_dice ct_law_dice : Value} {od_law_dice an_law_dice : Option Addr} {sl_law_dice : Array (Option Value)}
    {oc_law_roll kV_law_roll dc_law_roll pm_law_roll cd_law_roll ct_law_roll : Value} {od_law_roll an_law_roll : Option Addr} {sl_law_roll : Array (Option Value)}
    {oc_law_pick kV_law_pick dc_law_pick pm_law_pick cd_law_pick ct_law_pick : Value} {od_law_pick an_law_pick : Option Addr} {sl_law_pick : Array (Option Value)}
    {oc_law_mixed kV_law_mixed dc_law_mixed pm_law_mixed cd_law_mixed ct_law_mixed : Value} {od_law_mixed an_law_mixed : Option Addr} {sl_law_mixed : Array (Option Value)}
    {oc_law_weights kV_law_weights dc_law_weights pm_law_weights cd_law_weights ct_law_weights : Value} {od_law_weights an_law_weights : Option Addr} {sl_law_weights : Array (Option Value)}
    {oc_law_weighed kV_law_weighed dc_law_weighed pm_law_weighed cd_law_weighed ct_law_weighed : Value} {od_law_weighed an_law_weighed : Option Addr} {sl_law_weighed : Array (Option Value)}
    {oc_law_behind kV_law_behind dc_law_behind pm_law_behind cd_law_behind ct_law_behind : Value} {od_law_behind an_law_behind : Option Addr} {sl_law_behind : Array (Option Value)}
    {oc_law_rank kV_law_rank dc_law_rank pm_law_rank cd_law_rank ct_law_rank : Value} {od_law_rank an_law_rank : Option Addr} {sl_law_rank : Array (Option Value)}
    {oc_law_place_order kV_law_place_order dc_law_place_order pm_law_place_order cd_law_place_order ct_law_place_order : Value} {od_law_place_order an_law_place_order : Option Addr} {sl_law_place_order : Array (Option Value)}
    {oc_law_sorted_by kV_law_sorted_by dc_law_sorted_by pm_law_sorted_by cd_law_sorted_by ct_law_sorted_by : Value} {od_law_sorted_by an_law_sorted_by : Option Addr} {sl_law_sorted_by : Array (Option Value)}
    {oc_law_is_right kV_law_is_right dc_law_is_right pm_law_is_right cd_law_is_right ct_law_is_right : Value} {od_law_is_right an_law_is_right : Option Addr} {sl_law_is_right : Array (Option Value)}
    {oc_law_others kV_law_others dc_law_others pm_law_others cd_law_others ct_law_others : Value} {od_law_others an_law_others : Option Addr} {sl_law_others : Array (Option Value)}
    {oc_law_case kV_law_case dc_law_case pm_law_case cd_law_case ct_law_case : Value} {od_law_case an_law_case : Option Addr} {sl_law_case : Array (Option Value)}
    {oc_law kV_law dc_law pm_law cd_law ct_law : Value} {od_law an_law : Option Addr} {sl_law : Array (Option Value)}
    (g_Scale : PySem.W.nsIn K mainGlobals "Scale" = some (some (.ref C_Scale)))
    (g_is_number : PySem.W.nsIn K mainGlobals "is_number" = some (some (.ref a_is_number)))
    (l_is_number : K.lookup a_is_number = some ⟨oc_is_number, od_is_number, .func (PySem.W.fnOf "is_number" "is_number" (defArgs st_is_number) (defBody st_is_number) (defScope st_is_number) .none kV_is_number dc_is_number pm_is_number an_is_number cd_is_number ct_is_number), sl_is_number⟩)
    (c_is_number : PySem.W.codeIn K cd_is_number "is_number" = true)
    (k_is_number : PySem.W.keepIn K (.ref a_is_number) = true)
    (g_is_whole_between : PySem.W.nsIn K mainGlobals "is_whole_between" = some (some (.ref a_is_whole_between)))
    (l_is_whole_between : K.lookup a_is_whole_between = some ⟨oc_is_whole_between, od_is_whole_between, .func (PySem.W.fnOf "is_whole_between" "is_whole_between" (defArgs st_is_whole_between) (defBody st_is_whole_between) (defScope st_is_whole_between) .none kV_is_whole_between dc_is_whole_between pm_is_whole_between an_is_whole_between cd_is_whole_between ct_is_whole_between), sl_is_whole_between⟩)
    (c_is_whole_between : PySem.W.codeIn K cd_is_whole_between "is_whole_between" = true)
    (k_is_whole_between : PySem.W.keepIn K (.ref a_is_whole_between) = true)
    (g_is_same_row : PySem.W.nsIn K mainGlobals "is_same_row" = some (some (.ref a_is_same_row)))
    (l_is_same_row : K.lookup a_is_same_row = some ⟨oc_is_same_row, od_is_same_row, .func (PySem.W.fnOf "is_same_row" "is_same_row" (defArgs st_is_same_row) (defBody st_is_same_row) (defScope st_is_same_row) .none kV_is_same_row dc_is_same_row pm_is_same_row an_is_same_row cd_is_same_row ct_is_same_row), sl_is_same_row⟩)
    (c_is_same_row : PySem.W.codeIn K cd_is_same_row "is_same_row" = true)
    (k_is_same_row : PySem.W.keepIn K (.ref a_is_same_row) = true)
    (g_running_sums : PySem.W.nsIn K mainGlobals "running_sums" = some (some (.ref a_running_sums)))
    (l_running_sums : K.lookup a_running_sums = some ⟨oc_running_sums, od_running_sums, .func (PySem.W.fnOf "running_sums" "running_sums" (defArgs st_running_sums) (defBody st_running_sums) (defScope st_running_sums) .none kV_running_sums dc_running_sums pm_running_sums an_running_sums cd_running_sums ct_running_sums), sl_running_sums⟩)
    (c_running_sums : PySem.W.codeIn K cd_running_sums "running_sums" = true)
    (k_running_sums : PySem.W.keepIn K (.ref a_running_sums) = true)
    (g_places_by_level : PySem.W.nsIn K mainGlobals "places_by_level" = some (some (.ref a_places_by_level)))
    (l_places_by_level : K.lookup a_places_by_level = some ⟨oc_places_by_level, od_places_by_level, .func (PySem.W.fnOf "places_by_level" "places_by_level" (defArgs st_places_by_level) (defBody st_places_by_level) (defScope st_places_by_level) .none kV_places_by_level dc_places_by_level pm_places_by_level an_places_by_level cd_places_by_level ct_places_by_level), sl_places_by_level⟩)
    (c_places_by_level : PySem.W.codeIn K cd_places_by_level "places_by_level" = true)
    (k_places_by_level : PySem.W.keepIn K (.ref a_places_by_level) = true)
    (m_Scale_init : PySem.W.findIn K (.ref C_Scale) "__init__" = some (some (.ref a_Scale_init)))
    (f_Scale_init : PySem.W.isFn K (.ref a_Scale_init) = true)
    (l_Scale_init : K.lookup a_Scale_init = some ⟨oc_Scale_init, od_Scale_init, .func (PySem.W.fnOf "__init__" "Scale.__init__" (defArgs st_Scale_init) (defBody st_Scale_init) (defScope st_Scale_init) .none kV_Scale_init dc_Scale_init pm_Scale_init an_Scale_init cd_Scale_init ct_Scale_init), sl_Scale_init⟩)
    (c_Scale_init : PySem.W.codeIn K cd_Scale_init "Scale.__init__" = true)
    (k_Scale_init : PySem.W.keepIn K (.ref a_Scale_init) = true)
    (pa_Scale_weights : PySem.W.findIn K (.ref C_Scale) "weights" = some (some (.ref p_Scale_weights)))
    (pg_Scale_weights : PySem.W.specialIn K (.ref p_Scale_weights) "__get__" = some (some (.builtin "property.__get__")))
    (pt_Scale_weights : PySem.W.takesIn K (.ref p_Scale_weights) = some true)
    (pq_Scale_weights : PySem.W.recIn K p_Scale_weights "property" = some (.ref a_Scale_weights :: re_Scale_weights))
    (l_Scale_weights : K.lookup a_Scale_weights = some ⟨oc_Scale_weights, od_Scale_weights, .func (PySem.W.fnOf "weights" "Scale.weights" (defArgs st_Scale_weights) (defBody st_Scale_weights) (defScope st_Scale_weights) .none kV_Scale_weights dc_Scale_weights pm_Scale_weights an_Scale_weights cd_Scale_weights ct_Scale_weights), sl_Scale_weights⟩)
    (c_Scale_weights : PySem.W.codeIn K cd_Scale_weights "Scale.weights" = true)
    (k_Scale_weights : PySem.W.keepIn K (.ref a_Scale_weights) = true)
    (pa_Scale_letters : PySem.W.findIn K (.ref C_Scale) "letters" = some (some (.ref p_Scale_letters)))
    (pg_Scale_letters : PySem.W.specialIn K (.ref p_Scale_letters) "__get__" = some (some (.builtin "property.__get__")))
    (pt_Scale_letters : PySem.W.takesIn K (.ref p_Scale_letters) = some true)
    (pq_Scale_letters : PySem.W.recIn K p_Scale_letters "property" = some (.ref a_Scale_letters :: re_Scale_letters))
    (l_Scale_letters : K.lookup a_Scale_letters = some ⟨oc_Scale_letters, od_Scale_letters, .func (PySem.W.fnOf "letters" "Scale.letters" (defArgs st_Scale_letters) (defBody st_Scale_letters) (defScope st_Scale_letters) .none kV_Scale_letters dc_Scale_letters pm_Scale_letters an_Scale_letters cd_Scale_letters ct_Scale_letters), sl_Scale_letters⟩)
    (c_Scale_letters : PySem.W.codeIn K cd_Scale_letters "Scale.letters" = true)
    (k_Scale_letters : PySem.W.keepIn K (.ref a_Scale_letters) = true)
    (m_Scale_place_levels : PySem.W.findIn K (.ref C_Scale) "place_levels" = some (some (.ref a_Scale_place_levels)))
    (f_Scale_place_levels : PySem.W.isFn K (.ref a_Scale_place_levels) = true)
    (l_Scale_place_levels : K.lookup a_Scale_place_levels = some ⟨oc_Scale_place_levels, od_Scale_place_levels, .func (PySem.W.fnOf "place_levels" "Scale.place_levels" (defArgs st_Scale_place_levels) (defBody st_Scale_place_levels) (defScope st_Scale_place_levels) .none kV_Scale_place_levels dc_Scale_place_levels pm_Scale_place_levels an_Scale_place_levels cd_Scale_place_levels ct_Scale_place_levels), sl_Scale_place_levels⟩)
    (c_Scale_place_levels : PySem.W.codeIn K cd_Scale_place_levels "Scale.place_levels" = true)
    (k_Scale_place_levels : PySem.W.keepIn K (.ref a_Scale_place_levels) = true)
    (m_Scale_order : PySem.W.findIn K (.ref C_Scale) "order" = some (some (.ref a_Scale_order)))
    (f_Scale_order : PySem.W.isFn K (.ref a_Scale_order) = true)
    (l_Scale_order : K.lookup a_Scale_order = some ⟨oc_Scale_order, od_Scale_order, .func (PySem.W.fnOf "order" "Scale.order" (defArgs st_Scale_order) (defBody st_Scale_order) (defScope st_Scale_order) .none kV_Scale_order dc_Scale_order pm_Scale_order an_Scale_order cd_Scale_order ct_Scale_order), sl_Scale_order⟩)
    (c_Scale_order : PySem.W.codeIn K cd_Scale_order "Scale.order" = true)
    (k_Scale_order : PySem.W.keepIn K (.ref a_Scale_order) = true)
    (m_Scale_sorted_text : PySem.W.findIn K (.ref C_Scale) "sorted_text" = some (some (.ref a_Scale_sorted_text)))
    (f_Scale_sorted_text : PySem.W.isFn K (.ref a_Scale_sorted_text) = true)
    (l_Scale_sorted_text : K.lookup a_Scale_sorted_text = some ⟨oc_Scale_sorted_text, od_Scale_sorted_text, .func (PySem.W.fnOf "sorted_text" "Scale.sorted_text" (defArgs st_Scale_sorted_text) (defBody st_Scale_sorted_text) (defScope st_Scale_sorted_text) .none kV_Scale_sorted_text dc_Scale_sorted_text pm_Scale_sorted_text an_Scale_sorted_text cd_Scale_sorted_text ct_Scale_sorted_text), sl_Scale_sorted_text⟩)
    (c_Scale_sorted_text : PySem.W.codeIn K cd_Scale_sorted_text "Scale.sorted_text" = true)
    (k_Scale_sorted_text : PySem.W.keepIn K (.ref a_Scale_sorted_text) = true)
    (m_Scale_is_order : PySem.W.findIn K (.ref C_Scale) "is_order" = some (some (.ref a_Scale_is_order)))
    (f_Scale_is_order : PySem.W.isFn K (.ref a_Scale_is_order) = true)
    (l_Scale_is_order : K.lookup a_Scale_is_order = some ⟨oc_Scale_is_order, od_Scale_is_order, .func (PySem.W.fnOf "is_order" "Scale.is_order" (defArgs st_Scale_is_order) (defBody st_Scale_is_order) (defScope st_Scale_is_order) .none kV_Scale_is_order dc_Scale_is_order pm_Scale_is_order an_Scale_is_order cd_Scale_is_order ct_Scale_is_order), sl_Scale_is_order⟩)
    (c_Scale_is_order : PySem.W.codeIn K cd_Scale_is_order "Scale.is_order" = true)
    (k_Scale_is_order : PySem.W.keepIn K (.ref a_Scale_is_order) = true)
    (m_Scale_getitem : PySem.W.findIn K (.ref C_Scale) "__getitem__" = some (some (.ref a_Scale_getitem)))
    (f_Scale_getitem : PySem.W.isFn K (.ref a_Scale_getitem) = true)
    (l_Scale_getitem : K.lookup a_Scale_getitem = some ⟨oc_Scale_getitem, od_Scale_getitem, .func (PySem.W.fnOf "__getitem__" "Scale.__getitem__" (defArgs st_Scale_getitem) (defBody st_Scale_getitem) (defScope st_Scale_getitem) .none kV_Scale_getitem dc_Scale_getitem pm_Scale_getitem an_Scale_getitem cd_Scale_getitem ct_Scale_getitem), sl_Scale_getitem⟩)
    (c_Scale_getitem : PySem.W.codeIn K cd_Scale_getitem "Scale.__getitem__" = true)
    (k_Scale_getitem : PySem.W.keepIn K (.ref a_Scale_getitem) = true)
    (m_Scale_contains : PySem.W.findIn K (.ref C_Scale) "__contains__" = some (some (.ref a_Scale_contains)))
    (f_Scale_contains : PySem.W.isFn K (.ref a_Scale_contains) = true)
    (l_Scale_contains : K.lookup a_Scale_contains = some ⟨oc_Scale_contains, od_Scale_contains, .func (PySem.W.fnOf "__contains__" "Scale.__contains__" (defArgs st_Scale_contains) (defBody st_Scale_contains) (defScope st_Scale_contains) .none kV_Scale_contains dc_Scale_contains pm_Scale_contains an_Scale_contains cd_Scale_contains ct_Scale_contains), sl_Scale_contains⟩)
    (c_Scale_contains : PySem.W.codeIn K cd_Scale_contains "Scale.__contains__" = true)
    (k_Scale_contains : PySem.W.keepIn K (.ref a_Scale_contains) = true)
    (m_Scale_len : PySem.W.findIn K (.ref C_Scale) "__len__" = some (some (.ref a_Scale_len)))
    (f_Scale_len : PySem.W.isFn K (.ref a_Scale_len) = true)
    (l_Scale_len : K.lookup a_Scale_len = some ⟨oc_Scale_len, od_Scale_len, .func (PySem.W.fnOf "__len__" "Scale.__len__" (defArgs st_Scale_len) (defBody st_Scale_len) (defScope st_Scale_len) .none kV_Scale_len dc_Scale_len pm_Scale_len an_Scale_len cd_Scale_len ct_Scale_len), sl_Scale_len⟩)
    (c_Scale_len : PySem.W.codeIn K cd_Scale_len "Scale.__len__" = true)
    (k_Scale_len : PySem.W.keepIn K (.ref a_Scale_len) = true)
    (g_is_weights : PySem.W.nsIn K mainGlobals "is_weights" = some (some (.ref a_is_weights)))
    (l_is_weights : K.lookup a_is_weights = some ⟨oc_is_weights, od_is_weights, .func (PySem.W.fnOf "is_weights" "is_weights" (defArgs st_is_weights) (defBody st_is_weights) (defScope st_is_weights) .none kV_is_weights dc_is_weights pm_is_weights an_is_weights cd_is_weights ct_is_weights), sl_is_weights⟩)
    (c_is_weights : PySem.W.codeIn K cd_is_weights "is_weights" = true)
    (k_is_weights : PySem.W.keepIn K (.ref a_is_weights) = true)
    (g_check_text : PySem.W.nsIn K mainGlobals "check_text" = some (some (.ref a_check_text)))
    (l_check_text : K.lookup a_check_text = some ⟨oc_check_text, od_check_text, .func (PySem.W.fnOf "check_text" "check_text" (defArgs st_check_text) (defBody st_check_text) (defScope st_check_text) .none kV_check_text dc_check_text pm_check_text an_check_text cd_check_text ct_check_text), sl_check_text⟩)
    (c_check_text : PySem.W.codeIn K cd_check_text "check_text" = true)
    (k_check_text : PySem.W.keepIn K (.ref a_check_text) = true)
    (g_weights_of : PySem.W.nsIn K mainGlobals "weights_of" = some (some (.ref a_weights_of)))
    (l_weights_of : K.lookup a_weights_of = some ⟨oc_weights_of, od_weights_of, .func (PySem.W.fnOf "weights_of" "weights_of" (defArgs st_weights_of) (defBody st_weights_of) (defScope st_weights_of) .none kV_weights_of dc_weights_of pm_weights_of an_weights_of cd_weights_of ct_weights_of), sl_weights_of⟩)
    (c_weights_of : PySem.W.codeIn K cd_weights_of "weights_of" = true)
    (k_weights_of : PySem.W.keepIn K (.ref a_weights_of) = true)
    (g_law_dice : PySem.W.nsIn K mainGlobals "_law_dice" = some (some (.ref a_law_dice)))
    (l_law_dice : K.lookup a_law_dice = some ⟨oc_law_dice, od_law_dice, .func (PySem.W.fnOf "_law_dice" "_law_dice" (defArgs st_law_dice) (defBody st_law_dice) (defScope st_law_dice) .none kV_law_dice dc_law_dice pm_law_dice an_law_dice cd_law_dice ct_law_dice), sl_law_dice⟩)
    (c_law_dice : PySem.W.codeIn K cd_law_dice "_law_dice" = true)
    (k_law_dice : PySem.W.keepIn K (.ref a_law_dice) = true)
    (g_law_roll : PySem.W.nsIn K mainGlobals "_law_roll" = some (some (.ref a_law_roll)))
    (l_law_roll : K.lookup a_law_roll = some ⟨oc_law_roll, od_law_roll, .func (PySem.W.fnOf "_law_roll" "_law_roll" (defArgs st_law_roll) (defBody st_law_roll) (defScope st_law_roll) .none kV_law_roll dc_law_roll pm_law_roll an_law_roll cd_law_roll ct_law_roll), sl_law_roll⟩)
    (c_law_roll : PySem.W.codeIn K cd_law_roll "_law_roll" = true)
    (k_law_roll : PySem.W.keepIn K (.ref a_law_roll) = true)
    (g_law_pick : PySem.W.nsIn K mainGlobals "_law_pick" = some (some (.ref a_law_pick)))
    (l_law_pick : K.lookup a_law_pick = some ⟨oc_law_pick, od_law_pick, .func (PySem.W.fnOf "_law_pick" "_law_pick" (defArgs st_law_pick) (defBody st_law_pick) (defScope st_law_pick) .none kV_law_pick dc_law_pick pm_law_pick an_law_pick cd_law_pick ct_law_pick), sl_law_pick⟩)
    (c_law_pick : PySem.W.codeIn K cd_law_pick "_law_pick" = true)
    (k_law_pick : PySem.W.keepIn K (.ref a_law_pick) = true)
    (g_law_mixed : PySem.W.nsIn K mainGlobals "_law_mixed" = some (some (.ref a_law_mixed)))
    (l_law_mixed : K.lookup a_law_mixed = some ⟨oc_law_mixed, od_law_mixed, .func (PySem.W.fnOf "_law_mixed" "_law_mixed" (defArgs st_law_mixed) (defBody st_law_mixed) (defScope st_law_mixed) .none kV_law_mixed dc_law_mixed pm_law_mixed an_law_mixed cd_law_mixed ct_law_mixed), sl_law_mixed⟩)
    (c_law_mixed : PySem.W.codeIn K cd_law_mixed "_law_mixed" = true)
    (k_law_mixed : PySem.W.keepIn K (.ref a_law_mixed) = true)
    (g_law_weights : PySem.W.nsIn K mainGlobals "_law_weights" = some (some (.ref a_law_weights)))
    (l_law_weights : K.lookup a_law_weights = some ⟨oc_law_weights, od_law_weights, .func (PySem.W.fnOf "_law_weights" "_law_weights" (defArgs st_law_weights) (defBody st_law_weights) (defScope st_law_weights) .none kV_law_weights dc_law_weights pm_law_weights an_law_weights cd_law_weights ct_law_weights), sl_law_weights⟩)
    (c_law_weights : PySem.W.codeIn K cd_law_weights "_law_weights" = true)
    (k_law_weights : PySem.W.keepIn K (.ref a_law_weights) = true)
    (g_law_weighed : PySem.W.nsIn K mainGlobals "_law_weighed" = some (some (.ref a_law_weighed)))
    (l_law_weighed : K.lookup a_law_weighed = some ⟨oc_law_weighed, od_law_weighed, .func (PySem.W.fnOf "_law_weighed" "_law_weighed" (defArgs st_law_weighed) (defBody st_law_weighed) (defScope st_law_weighed) .none kV_law_weighed dc_law_weighed pm_law_weighed an_law_weighed cd_law_weighed ct_law_weighed), sl_law_weighed⟩)
    (c_law_weighed : PySem.W.codeIn K cd_law_weighed "_law_weighed" = true)
    (k_law_weighed : PySem.W.keepIn K (.ref a_law_weighed) = true)
    (g_law_behind : PySem.W.nsIn K mainGlobals "_law_behind" = some (some (.ref a_law_behind)))
    (l_law_behind : K.lookup a_law_behind = some ⟨oc_law_behind, od_law_behind, .func (PySem.W.fnOf "_law_behind" "_law_behind" (defArgs st_law_behind) (defBody st_law_behind) (defScope st_law_behind) .none kV_law_behind dc_law_behind pm_law_behind an_law_behind cd_law_behind ct_law_behind), sl_law_behind⟩)
    (c_law_behind : PySem.W.codeIn K cd_law_behind "_law_behind" = true)
    (k_law_behind : PySem.W.keepIn K (.ref a_law_behind) = true)
    (g_law_rank : PySem.W.nsIn K mainGlobals "_law_rank" = some (some (.ref a_law_rank)))
    (l_law_rank : K.lookup a_law_rank = some ⟨oc_law_rank, od_law_rank, .func (PySem.W.fnOf "_law_rank" "_law_rank" (defArgs st_law_rank) (defBody st_law_rank) (defScope st_law_rank) .none kV_law_rank dc_law_rank pm_law_rank an_law_rank cd_law_rank ct_law_rank), sl_law_rank⟩)
    (c_law_rank : PySem.W.codeIn K cd_law_rank "_law_rank" = true)
    (k_law_rank : PySem.W.keepIn K (.ref a_law_rank) = true)
    (g_law_place_order : PySem.W.nsIn K mainGlobals "_law_place_order" = some (some (.ref a_law_place_order)))
    (l_law_place_order : K.lookup a_law_place_order = some ⟨oc_law_place_order, od_law_place_order, .func (PySem.W.fnOf "_law_place_order" "_law_place_order" (defArgs st_law_place_order) (defBody st_law_place_order) (defScope st_law_place_order) .none kV_law_place_order dc_law_place_order pm_law_place_order an_law_place_order cd_law_place_order ct_law_place_order), sl_law_place_order⟩)
    (c_law_place_order : PySem.W.codeIn K cd_law_place_order "_law_place_order" = true)
    (k_law_place_order : PySem.W.keepIn K (.ref a_law_place_order) = true)
    (g_law_sorted_by : PySem.W.nsIn K mainGlobals "_law_sorted_by" = some (some (.ref a_law_sorted_by)))
    (l_law_sorted_by : K.lookup a_law_sorted_by = some ⟨oc_law_sorted_by, od_law_sorted_by, .func (PySem.W.fnOf "_law_sorted_by" "_law_sorted_by" (defArgs st_law_sorted_by) (defBody st_law_sorted_by) (defScope st_law_sorted_by) .none kV_law_sorted_by dc_law_sorted_by pm_law_sorted_by an_law_sorted_by cd_law_sorted_by ct_law_sorted_by), sl_law_sorted_by⟩)
    (c_law_sorted_by : PySem.W.codeIn K cd_law_sorted_by "_law_sorted_by" = true)
    (k_law_sorted_by : PySem.W.keepIn K (.ref a_law_sorted_by) = true)
    (g_law_is_right : PySem.W.nsIn K mainGlobals "_law_is_right" = some (some (.ref a_law_is_right)))
    (l_law_is_right : K.lookup a_law_is_right = some ⟨oc_law_is_right, od_law_is_right, .func (PySem.W.fnOf "_law_is_right" "_law_is_right" (defArgs st_law_is_right) (defBody st_law_is_right) (defScope st_law_is_right) .none kV_law_is_right dc_law_is_right pm_law_is_right an_law_is_right cd_law_is_right ct_law_is_right), sl_law_is_right⟩)
    (c_law_is_right : PySem.W.codeIn K cd_law_is_right "_law_is_right" = true)
    (k_law_is_right : PySem.W.keepIn K (.ref a_law_is_right) = true)
    (g_law_others : PySem.W.nsIn K mainGlobals "_law_others" = some (some (.ref a_law_others)))
    (l_law_others : K.lookup a_law_others = some ⟨oc_law_others, od_law_others, .func (PySem.W.fnOf "_law_others" "_law_others" (defArgs st_law_others) (defBody st_law_others) (defScope st_law_others) .none kV_law_others dc_law_others pm_law_others an_law_others cd_law_others ct_law_others), sl_law_others⟩)
    (c_law_others : PySem.W.codeIn K cd_law_others "_law_others" = true)
    (k_law_others : PySem.W.keepIn K (.ref a_law_others) = true)
    (g_law_case : PySem.W.nsIn K mainGlobals "_law_case" = some (some (.ref a_law_case)))
    (l_law_case : K.lookup a_law_case = some ⟨oc_law_case, od_law_case, .func (PySem.W.fnOf "_law_case" "_law_case" (defArgs st_law_case) (defBody st_law_case) (defScope st_law_case) .none kV_law_case dc_law_case pm_law_case an_law_case cd_law_case ct_law_case), sl_law_case⟩)
    (c_law_case : PySem.W.codeIn K cd_law_case "_law_case" = true)
    (k_law_case : PySem.W.keepIn K (.ref a_law_case) = true)
    (g_law : PySem.W.nsIn K mainGlobals "law" = some (some (.ref a_law)))
    (l_law : K.lookup a_law = some ⟨oc_law, od_law, .func (PySem.W.fnOf "law" "law" (defArgs st_law) (defBody st_law) (defScope st_law) .none kV_law dc_law pm_law an_law cd_law ct_law), sl_law⟩)
    (c_law : PySem.W.codeIn K cd_law "law" = true)
    (k_law : PySem.W.keepIn K (.ref a_law) = true)
    (c1_Scale : PySem.W.plainGet K C_Scale Str.empty = true)
    (c2_Scale : PySem.W.hasDictIn K C_Scale = true)
    (c3_Scale : PySem.W.plainOver K C_Scale = true)
    (c4_Scale : PySem.W.findIn K (.ref C_Scale) "__setattr__" = some (some (.builtin "object.__setattr__")))
    (c5_Scale : PySem.W.makesIn K C_Scale = true)
    (c6_Scale : PySem.W.keepIn K (.ref C_Scale) = true)
    (na_Scale_letters : PySem.W.findIn K (.ref C_Scale) "_letters" = some none)
    (na_Scale_weights : PySem.W.findIn K (.ref C_Scale) "_weights" = some none)
    (fn_Scale : PySem.W.fnIn K a_Scale_getitem = true)
    (ic_Scale : PySem.W.findIn K (.ref C_Scale) "__class__" = some (some (.builtin "object.__class__")))
    (mr_Scale : PySem.W.mroIn K C_Scale (.type "object") = some true)
    (cg : PySem.W.specialIn K (.builtin "object.__class__") "__get__" = some (some (.builtin "getset_descriptor.__get__")))
    (ct : PySem.W.takesIn K (.builtin "object.__class__") = some true)
    (n_abs : PySem.W.nsIn K mainGlobals "abs" = some none)
    (n_all : PySem.W.nsIn K mainGlobals "all" = some none)
    (n_any : PySem.W.nsIn K mainGlobals "any" = some none)
    (n_bool : PySem.W.nsIn K mainGlobals "bool" = some none)
    (n_dict : PySem.W.nsIn K mainGlobals "dict" = some none)
    (n_enumerate : PySem.W.nsIn K mainGlobals "enumerate" = some none)
    (n_int : PySem.W.nsIn K mainGlobals "int" = some none)
    (n_isinstance : PySem.W.nsIn K mainGlobals "isinstance" = some none)
    (n_len : PySem.W.nsIn K mainGlobals "len" = some none)
    (n_list : PySem.W.nsIn K mainGlobals "list" = some none)
    (n_max : PySem.W.nsIn K mainGlobals "max" = some none)
    (n_min : PySem.W.nsIn K mainGlobals "min" = some none)
    (n_range : PySem.W.nsIn K mainGlobals "range" = some none)
    (n_sorted : PySem.W.nsIn K mainGlobals "sorted" = some none)
    (n_str : PySem.W.nsIn K mainGlobals "str" = some none)
    (n_tuple : PySem.W.nsIn K mainGlobals "tuple" = some none)
    (qc_MAX_WEIGHT : PySem.W.nsIn K mainGlobals "MAX_WEIGHT" = some (some (.int 12 t_MAX_WEIGHT)))
    (qc_MAX_TEXT : PySem.W.nsIn K mainGlobals "MAX_TEXT" = some (some (.int 24 t_MAX_TEXT)))
    (qc_LETTERS : PySem.W.nsIn K mainGlobals "LETTERS" = some (some (.str "abcde" t_LETTERS)))
    : ∃ fd : FuncData, (∀ (s : Shared) (v : Value), BindsTo s fd ⟨[v], []⟩ [("_law_script", v)]) ∧ ∀ base : Heap, K.In base → base.Ns mainGlobals mg → FnOk l.prog w K mg base CX0 14 fa fd ["_law_script"] (spLaw K) := by
  have e : fa = a_law := Value.ref.inj (Option.some.inj (hfa.symm.trans (PySem.W.mg_of X G g_law)))
  rw [e]
  let T : Tx K mg := {
    C_Scale := C_Scale,
    a_is_number := a_is_number,
    d_is_number := _,
    F_is_number := fun_mk (st := st_is_number) l_is_number c_is_number k_is_number,
    b_is_number := (fun_mk (st := st_is_number) l_is_number c_is_number k_is_number).binds (ps := ["value"]) fun _ _ _ _ _ _ us hl => match us, hl with | [_], _ => rfl,
    g_is_number := PySem.W.mg_of X G g_is_number,
    a_is_whole_between := a_is_whole_between,
    d_is_whole_between := _,
    F_is_whole_between := fun_mk (st := st_is_whole_between) l_is_whole_between c_is_whole_between k_is_whole_between,
    b_is_whole_between := (fun_mk (st := st_is_whole_between) l_is_whole_between c_is_whole_between k_is_whole_between).binds (ps := ["value", "least", "most"]) fun _ _ _ _ _ _ us hl => match us, hl with | [_, _, _], _ => rfl,
    g_is_whole_between := PySem.W.mg_of X G g_is_whole_between,
    a_is_same_row := a_is_same_row,
    d_is_same_row := _,
    F_is_same_row := fun_mk (st := st_is_same_row) l_is_same_row c_is_same_row k_is_same_row,
    b_is_same_row := (fun_mk (st := st_is_same_row) l_is_same_row c_is_same_row k_is_same_row).binds (ps := ["value", "row"]) fun _ _ _ _ _ _ us hl => match us, hl with | [_, _], _ => rfl,
    g_is_same_row := PySem.W.mg_of X G g_is_same_row,
    a_running_sums := a_running_sums,
    d_running_sums := _,
    F_running_sums := fun_mk (st := st_running_sums) l_running_sums c_running_sums k_running_sums,
    b_running_sums := (fun_mk (st := st_running_sums) l_running_sums c_running_sums k_running_sums).binds (ps := ["weights"]) fun _ _ _ _ _ _ us hl => match us, hl with | [_], _ => rfl,
    g_running_sums := PySem.W.mg_of X G g_running_sums,
    a_places_by_level := a_places_by_level,
    d_places_by_level := _,
    F_places_by_level := fun_mk (st := st_places_by_level) l_places_by_level c_places_by_level k_places_by_level,
    b_places_by_level := (fun_mk (st := st_places_by_level) l_places_by_level c_places_by_level k_places_by_level).binds (ps := ["levels"]) fun _ _ _ _ _ _ us hl => match us, hl with | [_], _ => rfl,
    g_places_by_level := PySem.W.mg_of X G g_places_by_level,
    a_Scale_init := a_Scale_init,
    d_Scale_init := _,
    F_Scale_init := fun_mk (st := st_Scale_init) l_Scale_init c_Scale_init k_Scale_init,
    b_Scale_init := (fun_mk (st := st_Scale_init) l_Scale_init c_Scale_init k_Scale_init).binds (ps := ["self", "weights"]) fun _ _ _ _ _ _ us hl => match us, hl with | [_, _], _ => rfl,
    a_Scale_weights := a_Scale_weights,
    d_Scale_weights := _,
    F_Scale_weights := fun_mk (st := st_Scale_weights) l_Scale_weights c_Scale_weights k_Scale_weights,
    b_Scale_weights := (fun_mk (st := st_Scale_weights) l_Scale_weights c_Scale_weights k_Scale_weights).binds (ps := ["self"]) fun _ _ _ _ _ _ us hl => match us, hl with | [_], _ => rfl,
    a_Scale_letters := a_Scale_letters,
    d_Scale_letters := _,
    F_Scale_letters := fun_mk (st := st_Scale_letters) l_Scale_letters c_Scale_letters k_Scale_letters,
    b_Scale_letters := (fun_mk (st := st_Scale_letters) l_Scale_letters c_Scale_letters k_Scale_letters).binds (ps := ["self"]) fun _ _ _ _ _ _ us hl => match us, hl with | [_], _ => rfl,
    a_Scale_place_levels := a_Scale_place_levels,
    d_Scale_place_levels := _,
    F_Scale_place_levels := fun_mk (st := st_Scale_place_levels) l_Scale_place_levels c_Scale_place_levels k_Scale_place_levels,
    b_Scale_place_levels := (fun_mk (st := st_Scale_place_levels) l_Scale_place_levels c_Scale_place_levels k_Scale_place_levels).binds (ps := ["self", "text"]) fun _ _ _ _ _ _ us hl => match us, hl with | [_, _], _ => rfl,
    a_Scale_order := a_Scale_order,
    d_Scale_order := _,
    F_Scale_order := fun_mk (st := st_Scale_order) l_Scale_order c_Scale_order k_Scale_order,
    b_Scale_order := (fun_mk (st := st_Scale_order) l_Scale_order c_Scale_order k_Scale_order).binds (ps := ["self", "text"]) fun _ _ _ _ _ _ us hl => match us, hl with | [_, _], _ => rfl,
    a_Scale_sorted_text := a_Scale_sorted_text,
    d_Scale_sorted_text := _,
    F_Scale_sorted_text := fun_mk (st := st_Scale_sorted_text) l_Scale_sorted_text c_Scale_sorted_text k_Scale_sorted_text,
    b_Scale_sorted_text := (fun_mk (st := st_Scale_sorted_text) l_Scale_sorted_text c_Scale_sorted_text k_Scale_sorted_text).binds (ps := ["self", "text"]) fun _ _ _ _ _ _ us hl => match us, hl with | [_, _], _ => rfl,
    a_Scale_is_order := a_Scale_is_order,
    d_Scale_is_order := _,
    F_Scale_is_order := fun_mk (st := st_Scale_is_order) l_Scale_is_order c_Scale_is_order k_Scale_is_order,
    b_Scale_is_order := (fun_mk (st := st_Scale_is_order) l_Scale_is_order c_Scale_is_order k_Scale_is_order).binds (ps := ["self", "text", "value"]) fun _ _ _ _ _ _ us hl => match us, hl with | [_, _, _], _ => rfl,
    a_Scale_getitem := a_Scale_getitem,
    d_Scale_getitem := _,
    F_Scale_getitem := fun_mk (st := st_Scale_getitem) l_Scale_getitem c_Scale_getitem k_Scale_getitem,
    b_Scale_getitem := (fun_mk (st := st_Scale_getitem) l_Scale_getitem c_Scale_getitem k_Scale_getitem).binds (ps := ["self", "at"]) fun _ _ _ _ _ _ us hl => match us, hl with | [_, _], _ => rfl,
    a_Scale_contains := a_Scale_contains,
    d_Scale_contains := _,
    F_Scale_contains := fun_mk (st := st_Scale_contains) l_Scale_contains c_Scale_contains k_Scale_contains,
    b_Scale_contains := (fun_mk (st := st_Scale_contains) l_Scale_contains c_Scale_contains k_Scale_contains).binds (ps := ["self", "x"]) fun _ _ _ _ _ _ us hl => match us, hl with | [_, _], _ => rfl,
    a_Scale_len := a_Scale_len,
    d_Scale_len := _,
    F_Scale_len := fun_mk (st := st_Scale_len) l_Scale_len c_Scale_len k_Scale_len,
    b_Scale_len := (fun_mk (st := st_Scale_len) l_Scale_len c_Scale_len k_Scale_len).binds (ps := ["self"]) fun _ _ _ _ _ _ us hl => match us, hl with | [_], _ => rfl,
    a_is_weights := a_is_weights,
    d_is_weights := _,
    F_is_weights := fun_mk (st := st_is_weights) l_is_weights c_is_weights k_is_weights,
    b_is_weights := (fun_mk (st := st_is_weights) l_is_weights c_is_weights k_is_weights).binds (ps := ["value"]) fun _ _ _ _ _ _ us hl => match us, hl with | [_], _ => rfl,
    g_is_weights := PySem.W.mg_of X G g_is_weights,
    a_check_text := a_check_text,
    d_check_text := _,
    F_check_text := fun_mk (st := st_check_text) l_check_text c_check_text k_check_text,
    b_check_text := (fun_mk (st := st_check_text) l_check_text c_check_text k_check_text).binds (ps := ["scale", "text"]) fun _ _ _ _ _ _ us hl => match us, hl with | [_, _], _ => rfl,
    g_check_text := PySem.W.mg_of X G g_check_text,
    a_weights_of := a_weights_of,
    d_weights_of := _,
    F_weights_of := fun_mk (st := st_weights_of) l_weights_of c_weights_of k_weights_of,
    b_weights_of := (fun_mk (st := st_weights_of) l_weights_of c_weights_of k_weights_of).binds (ps := ["scale", "text"]) fun _ _ _ _ _ _ us hl => match us, hl with | [_, _], _ => rfl,
    g_weights_of := PySem.W.mg_of X G g_weights_of,
    a_law_dice := a_law_dice,
    d_law_dice := _,
    F_law_dice := fun_mk (st := st_law_dice) l_law_dice c_law_dice k_law_dice,
    b_law_dice := (fun_mk (st := st_law_dice) l_law_dice c_law_dice k_law_dice).binds (ps := ["_law_script", "_law_spot"]) fun _ _ _ _ _ _ us hl => match us, hl with | [_, _], _ => rfl,
    g_law_dice := PySem.W.mg_of X G g_law_dice,
    a_law_roll := a_law_roll,
    d_law_roll := _,
    F_law_roll := fun_mk (st := st_law_roll) l_law_roll c_law_roll k_law_roll,
    b_law_roll := (fun_mk (st := st_law_roll) l_law_roll c_law_roll k_law_roll).binds (ps := ["_law_dice_here", "_law_total"]) fun _ _ _ _ _ _ us hl => match us, hl with | [_, _], _ => rfl,
    g_law_roll := PySem.W.mg_of X G g_law_roll,
    a_law_pick := a_law_pick,
    d_law_pick := _,
    F_law_pick := fun_mk (st := st_law_pick) l_law_pick c_law_pick k_law_pick,
    b_law_pick := (fun_mk (st := st_law_pick) l_law_pick c_law_pick k_law_pick).binds (ps := ["_law_dice_here", "_law_items"]) fun _ _ _ _ _ _ us hl => match us, hl with | [_, _], _ => rfl,
    g_law_pick := PySem.W.mg_of X G g_law_pick,
    a_law_mixed := a_law_mixed,
    d_law_mixed := _,
    F_law_mixed := fun_mk (st := st_law_mixed) l_law_mixed c_law_mixed k_law_mixed,
    b_law_mixed := (fun_mk (st := st_law_mixed) l_law_mixed c_law_mixed k_law_mixed).binds (ps := ["_law_dice_here", "_law_items"]) fun _ _ _ _ _ _ us hl => match us, hl with | [_, _], _ => rfl,
    g_law_mixed := PySem.W.mg_of X G g_law_mixed,
    a_law_weights := a_law_weights,
    d_law_weights := _,
    F_law_weights := fun_mk (st := st_law_weights) l_law_weights c_law_weights k_law_weights,
    b_law_weights := (fun_mk (st := st_law_weights) l_law_weights c_law_weights k_law_weights).binds (ps := ["_law_dice_here", "_law_most"]) fun _ _ _ _ _ _ us hl => match us, hl with | [_, _], _ => rfl,
    g_law_weights := PySem.W.mg_of X G g_law_weights,
    a_law_weighed := a_law_weighed,
    d_law_weighed := _,
    F_law_weighed := fun_mk (st := st_law_weighed) l_law_weighed c_law_weighed k_law_weighed,
    b_law_weighed := (fun_mk (st := st_law_weighed) l_law_weighed c_law_weighed k_law_weighed).binds (ps := ["_law_dice_here", "_law_weights_here", "_law_most"]) fun _ _ _ _ _ _ us hl => match us, hl with | [_, _, _], _ => rfl,
    g_law_weighed := PySem.W.mg_of X G g_law_weighed,
    a_law_behind := a_law_behind,
    d_law_behind := _,
    F_law_behind := fun_mk (st := st_law_behind) l_law_behind c_law_behind k_law_behind,
    b_law_behind := (fun_mk (st := st_law_behind) l_law_behind c_law_behind k_law_behind).binds (ps := ["_law_weights_here", "_law_text"]) fun _ _ _ _ _ _ us hl => match us, hl with | [_, _], _ => rfl,
    g_law_behind := PySem.W.mg_of X G g_law_behind,
    a_law_rank := a_law_rank,
    d_law_rank := _,
    F_law_rank := fun_mk (st := st_law_rank) l_law_rank c_law_rank k_law_rank,
    b_law_rank := (fun_mk (st := st_law_rank) l_law_rank c_law_rank k_law_rank).binds (ps := ["_law_level"]) fun _ _ _ _ _ _ us hl => match us, hl with | [_], _ => rfl,
    g_law_rank := PySem.W.mg_of X G g_law_rank,
    a_law_place_order := a_law_place_order,
    d_law_place_order := _,
    F_law_place_order := fun_mk (st := st_law_place_order) l_law_place_order c_law_place_order k_law_place_order,
    b_law_place_order := (fun_mk (st := st_law_place_order) l_law_place_order c_law_place_order k_law_place_order).binds (ps := ["_law_weights_here", "_law_text"]) fun _ _ _ _ _ _ us hl => match us, hl with | [_, _], _ => rfl,
    g_law_place_order := PySem.W.mg_of X G g_law_place_order,
    a_law_sorted_by := a_law_sorted_by,
    d_law_sorted_by := _,
    F_law_sorted_by := fun_mk (st := st_law_sorted_by) l_law_sorted_by c_law_sorted_by k_law_sorted_by,
    b_law_sorted_by := (fun_mk (st := st_law_sorted_by) l_law_sorted_by c_law_sorted_by k_law_sorted_by).binds (ps := ["_law_weights_here", "_law_text"]) fun _ _ _ _ _ _ us hl => match us, hl with | [_, _], _ => rfl,
    g_law_sorted_by := PySem.W.mg_of X G g_law_sorted_by,
    a_law_is_right := a_law_is_right,
    d_law_is_right := _,
    F_law_is_right := fun_mk (st := st_law_is_right) l_law_is_right c_law_is_right k_law_is_right,
    b_law_is_right := (fun_mk (st := st_law_is_right) l_law_is_right c_law_is_right k_law_is_right).binds (ps := ["_law_scale", "_law_weights_here", "_law_text"]) fun _ _ _ _ _ _ us hl => match us, hl with | [_, _, _], _ => rfl,
    g_law_is_right := PySem.W.mg_of X G g_law_is_right,
    a_law_others := a_law_others,
    d_law_others := _,
    F_law_others := fun_mk (st := st_law_others) l_law_others c_law_others k_law_others,
    b_law_others := (fun_mk (st := st_law_others) l_law_others c_law_others k_law_others).binds (ps := ["_law_dice_here", "_law_order"]) fun _ _ _ _ _ _ us hl => match us, hl with | [_, _], _ => rfl,
    g_law_others := PySem.W.mg_of X G g_law_others,
    a_law_case := a_law_case,
    d_law_case := _,
    F_law_case := fun_mk (st := st_law_case) l_law_case c_law_case k_law_case,
    b_law_case := (fun_mk (st := st_law_case) l_law_case c_law_case k_law_case).binds (ps := ["_law_dice_here"]) fun _ _ _ _ _ _ us hl => match us, hl with | [_], _ => rfl,
    g_law_case := PySem.W.mg_of X G g_law_case,
    a_law := a_law,
    d_law := _,
    F_law := fun_mk (st := st_law) l_law c_law k_law,
    b_law := (fun_mk (st := st_law) l_law c_law k_law).binds (ps := ["_law_script"]) fun _ _ _ _ _ _ us hl => match us, hl with | [_], _ => rfl,
    g_law := PySem.W.mg_of X G g_law,
    g_Scale := PySem.W.mg_of X G g_Scale,
    cl_Scale := ⟨c1_Scale, c2_Scale, c3_Scale, c4_Scale⟩,
    na_Scale_letters := na_Scale_letters,
    na_Scale_weights := na_Scale_weights,
    mk_Scale := ⟨c5_Scale, m_Scale_init, f_Scale_init, c6_Scale⟩,
    me_Scale_place_levels := ⟨m_Scale_place_levels, f_Scale_place_levels, k_Scale_place_levels⟩,
    me_Scale_order := ⟨m_Scale_order, f_Scale_order, k_Scale_order⟩,
    me_Scale_sorted_text := ⟨m_Scale_sorted_text, f_Scale_sorted_text, k_Scale_sorted_text⟩,
    me_Scale_is_order := ⟨m_Scale_is_order, f_Scale_is_order, k_Scale_is_order⟩,
    me_Scale_getitem := ⟨m_Scale_getitem, f_Scale_getitem, k_Scale_getitem⟩,
    me_Scale_contains := ⟨m_Scale_contains, f_Scale_contains, k_Scale_contains⟩,
    me_Scale_len := ⟨m_Scale_len, f_Scale_len, k_Scale_len⟩,
    fn_Scale := fn_Scale,
    p_Scale_weights := p_Scale_weights,
    pr_Scale_weights := ⟨pa_Scale_weights, pg_Scale_weights, pt_Scale_weights, ⟨_, pq_Scale_weights⟩⟩,
    p_Scale_letters := p_Scale_letters,
    pr_Scale_letters := ⟨pa_Scale_letters, pg_Scale_letters, pt_Scale_letters, ⟨_, pq_Scale_letters⟩⟩,
    ic_Scale := ic_Scale,
    mr_Scale := mr_Scale,
    ks_Scale := Sx.kit_self,
    cg := cg,
    ct := ct,
    n_abs := PySem.W.mg_none_of X G n_abs,
    n_all := PySem.W.mg_none_of X G n_all,
    n_any := PySem.W.mg_none_of X G n_any,
    n_bool := PySem.W.mg_none_of X G n_bool,
    n_dict := PySem.W.mg_none_of X G n_dict,
    n_enumerate := PySem.W.mg_none_of X G n_enumerate,
    n_int := PySem.W.mg_none_of X G n_int,
    n_isinstance := PySem.W.mg_none_of X G n_isinstance,
    n_len := PySem.W.mg_none_of X G n_len,
    n_list := PySem.W.mg_none_of X G n_list,
    n_max := PySem.W.mg_none_of X G n_max,
    n_min := PySem.W.mg_none_of X G n_min,
    n_range := PySem.W.mg_none_of X G n_range,
    n_sorted := PySem.W.mg_none_of X G n_sorted,
    n_str := PySem.W.mg_none_of X G n_str,
    n_tuple := PySem.W.mg_none_of X G n_tuple,
    c_MAX_WEIGHT := ⟨_, PySem.W.mg_of X G qc_MAX_WEIGHT, ⟨_, rfl⟩⟩,
    c_MAX_TEXT := ⟨_, PySem.W.mg_of X G qc_MAX_TEXT, ⟨_, rfl⟩⟩,
    c_LETTERS := ⟨_, PySem.W.mg_of X G qc_LETTERS, ⟨_, rfl⟩⟩
  }
  exact ⟨_, fun s v => .of_eq rfl, fun base _ _ => ok_law T⟩
theorem walk {l : PySem.W.OpenLaw} {q : Program} {loose : List Str} {XP : (Str → Option Value) → Heap → Prop} {YP : World → Heap → Prop} {d : DefRec} {K : Params → PySem.W.Frag} (hn : l.most = some 63) (hdf : d.params.defaults = [])
    (hY : ∀ (w : World) (h : Heap), YP w h → (K w.params).In h)
    (F : ∀ (w : World) (mg : Str → Option Value) (fa : Addr) (h : Heap), (K w.params).In h → h.Ns mainGlobals mg → mg d.name = some (.ref fa) →
      ∃ fd : FuncData, (∀ (s : Shared) (u : Value), BindsTo s fd ⟨[u], []⟩ [("_law_script", u)]) ∧ ∀ base : Heap, (K w.params).In base → base.Ns mainGlobals mg → FnOk l.prog w (K w.params) mg base CX0 14 fa fd ["_law_script"] (spLaw (K w.params))) :
    PySem.W.WalkO q loose XP YP l.row.toRowW d [] (fun f vs => PySem.call f vs) :=
  L2.walk_of (n := 63) (k := 14) (x := "_law_script") (CX := fun _ => CX0) (sp := fun w => spLaw (K w.params)) hn (by decide) hdf ⟨rfl, by decide, by decide⟩ hY F (fun _ _ a ns hl _ hS => ⟨a, ns, rfl, hS, hl, fun _ => rfl⟩) fun _ _ _ _ _ z => z
end Lw
open PySem PySem.W PyProof.Rows
set_option maxRecDepth 100000 in
set_option maxHeartbeats 0 in
theorem PySem.Challenge.cw_slantways_k35_levels_and_orders_holds : PySem.Challenge.rw_slantways_k35_levels_and_orders.Holds := by
  w_on; o_law; k_head; (case hw => w_witness2)
  k_fill
  refine Lw.walk (l := PySem.Challenge.rw_slantways_k35_levels_and_orders) rfl rfl (fun w h Y => PySem.W.kIn_of Y) ?F
  case F =>
    intro w mg fa h KX G hmg
    refine' Lw.all_mk KX G hmg ?g_Scale ?g_is_number ?l_is_number ?c_is_number ?k_is_number ?g_is_whole_between ?l_is_whole_between ?c_is_whole_between ?k_is_whole_between ?g_is_same_row ?l_is_same_row ?c_is_same_row ?k_is_same_row ?g_running_sums ?l_running_sums ?c_running_sums ?k_running_sums ?g_places_by_level ?l_places_by_level ?c_places_by_level ?k_places_by_level ?m_Scale_init ?f_Scale_init ?l_Scale_init ?c_Scale_init ?k_Scale_init ?pa_Scale_weights ?pg_Scale_weights ?pt_Scale_weights ?pq_Scale_weights ?l_Scale_weights ?c_Scale_weights ?k_Scale_weights ?pa_Scale_letters ?pg_Scale_letters ?pt_Scale_letters ?pq_Scale_letters ?l_Scale_letters ?c_Scale_letters ?k_Scale_letters ?m_Scale_place_levels ?f_Scale_place_levels ?l_Scale_place_levels ?c_Scale_place_levels ?k_Scale_place_levels ?m_Scale_order ?f_Scale_order ?l_Scale_order ?c_Scale_order ?k_Scale_order ?m_Scale_sorted_text ?f_Scale_sorted_text ?l_Scale_sorted_text ?c_Scale_sorted_text ?k_Scale_sorted_text ?m_Scale_is_order ?f_Scale_is_order ?l_Scale_is_order ?c_Scale_is_order ?k_Scale_is_order ?m_Scale_getitem ?f_Scale_getitem ?l_Scale_getitem ?c_Scale_getitem ?k_Scale_getitem ?m_Scale_contains ?f_Scale_contains ?l_Scale_contains ?c_Scale_contains ?k_Scale_contains ?m_Scale_len ?f_Scale_len ?l_Scale_len ?c_Scale_len ?k_Scale_len ?g_is_weights ?l_is_weights ?c_is_weights ?k_is_weights ?g_check_text ?l_check_text ?c_check_text ?k_check_text ?g_weights_of ?l_weights_of ?c_weights_of ?k_weights_of ?g_law_dice ?l_law_dice ?c_law_dice ?k_law_dice ?g_law_roll ?l_law_roll ?c_law_roll ?k_law_roll ?g_law_pick ?l_law_pick ?c_law_pick ?k_law_pick ?g_law_mixed ?l_law_mixed ?c_law_mixed ?k_law_mixed ?g_law_weights ?l_law_weights ?c_law_weights ?k_law_weights ?g_law_weighed ?l_law_weighed ?c_law_weighed ?k_law_weighed ?g_law_behind ?l_law_behind ?c_law_behind ?k_law_behind ?g_law_rank ?l_law_rank ?c_law_rank ?k_law_rank ?g_law_place_order ?l_law_place_order ?c_law_place_order ?k_law_place_order ?g_law_sorted_by ?l_law_sorted_by ?c_law_sorted_by ?k_law_sorted_by ?g_law_is_right ?l_law_is_right ?c_law_is_right ?k_law_is_right ?g_law_others ?l_law_others ?c_law_others ?k_law_others ?g_law_case ?l_law_case ?c_law_case ?k_law_case ?g_law ?l_law ?c_law ?k_law ?c1_Scale ?c2_Scale ?c3_Scale ?c4_Scale ?c5_Scale ?c6_Scale ?na_Scale_letters ?na_Scale_weights ?fn_Scale ?ic_Scale ?mr_Scale ?cg ?ct ?n_abs ?n_all ?n_any ?n_bool ?n_dict ?n_enumerate ?n_int ?n_isinstance ?n_len ?n_list ?n_max ?n_min ?n_range ?n_sorted ?n_str ?n_tuple ?qc_MAX_WEIGHT ?qc_MAX_TEXT ?qc_LETTERS
    (case g_Scale => k_is)
    (case g_is_number => k_is)
    (case l_is_number => k_is)
    (case c_is_number => k_is)
    (case k_is_number => k_is)
    (case g_is_whole_between => k_is)
    (case l_is_whole_between => k_is)
    (case c_is_whole_between => k_is)
    (case k_is_whole_between => k_is)
    (case g_is_same_row => k_is)
    (case l_is_same_row => k_is)
    (case c_is_same_row => k_is)
    (case k_is_same_row => k_is)
    (case g_running_sums => k_is)
    (case l_running_sums => k_is)
    (case c_running_sums => k_is)
    (case k_running_sums => k_is)
    (case g_places_by_level => k_is)
    (case l_places_by_level => k_is)
    (case c_places_by_level => k_is)
    (case k_places_by_level => k_is)
    (case m_Scale_init => k_is)
    (case f_Scale_init => k_is)
    (case l_Scale_init => k_is)
    (case c_Scale_init => k_is)
    (case k_Scale_init => k_is)
    (case pa_Scale_weights => k_is)
    (case pg_Scale_weights => k_is)
    (case pt_Scale_weights => k_is)
    (case pq_Scale_weights => k_is)
    (case l_Scale_weights => k_is)
    (case c_Scale_weights => k_is)
    (case k_Scale_weights => k_is)
    (case pa_Scale_letters => k_is)
    (case pg_Scale_letters => k_is)
    (case pt_Scale_letters => k_is)
    (case pq_Scale_letters => k_is)
    (case l_Scale_letters => k_is)
    (case c_Scale_letters => k_is)
    (case k_Scale_letters => k_is)
    (case m_Scale_place_levels => k_is)
    (case f_Scale_place_levels => k_is)
    (case l_Scale_place_levels => k_is)
    (case c_Scale_place_levels => k_is)
    (case k_Scale_place_levels => k_is)
    (case m_Scale_order => k_is)
    (case f_Scale_order => k_is)
    (case l_Scale_order => k_is)
    (case c_Scale_order => k_is)
    (case k_Scale_order => k_is)
    (case m_Scale_sorted_text => k_is)
    (case f_Scale_sorted_text => k_is)
    (case l_Scale_sorted_text => k_is)
    (case c_Scale_sorted_text => k_is)
    (case k_Scale_sorted_text => k_is)
    (case m_Scale_is_order => k_is)
    (case f_Scale_is_order => k_is)
    (case l_Scale_is_order => k_is)
    (case c_Scale_is_order => k_is)
    (case k_Scale_is_order => k_is)
    (case m_Scale_getitem => k_is)
    (case f_Scale_getitem => k_is)
    (case l_Scale_getitem => k_is)
    (case c_Scale_getitem => k_is)
    (case k_Scale_getitem => k_is)
    (case m_Scale_contains => k_is)
    (case f_Scale_contains => k_is)
    (case l_Scale_contains => k_is)
    (case c_Scale_contains => k_is)
    (case k_Scale_contains => k_is)
    (case m_Scale_len => k_is)
    (case f_Scale_len => k_is)
    (case l_Scale_len => k_is)
    (case c_Scale_len => k_is)
    (case k_Scale_len => k_is)
    (case g_is_weights => k_is)
    (case l_is_weights => k_is)
    (case c_is_weights => k_is)
    (case k_is_weights => k_is)
    (case g_check_text => k_is)
    (case l_check_text => k_is)
    (case c_check_text => k_is)
    (case k_check_text => k_is)
    (case g_weights_of => k_is)
    (case l_weights_of => k_is)
    (case c_weights_of => k_is)
    (case k_weights_of => k_is)
    (case g_law_dice => k_is)
    (case l_law_dice => k_is)
    (case c_law_dice => k_is)
    (case k_law_dice => k_is)
    (case g_law_roll => k_is)
    (case l_law_roll => k_is)
    (case c_law_roll => k_is)
    (case k_law_roll => k_is)
    (case g_law_pick => k_is)
    (case l_law_pick => k_is)
    (case c_law_pick => k_is)
    (case k_law_pick => k_is)
    (case g_law_mixed => k_is)
    (case l_law_mixed => k_is)
    (case c_law_mixed => k_is)
    (case k_law_mixed => k_is)
    (case g_law_weights => k_is)
    (case l_law_weights => k_is)
    (case c_law_weights => k_is)
    (case k_law_weights => k_is)
    (case g_law_weighed => k_is)
    (case l_law_weighed => k_is)
    (case c_law_weighed => k_is)
    (case k_law_weighed => k_is)
    (case g_law_behind => k_is)
    (case l_law_behind => k_is)
    (case c_law_behind => k_is)
    (case k_law_behind => k_is)
    (case g_law_rank => k_is)
    (case l_law_rank => k_is)
    (case c_law_rank => k_is)
    (case k_law_rank => k_is)
    (case g_law_place_order => k_is)
    (case l_law_place_order => k_is)
    (case c_law_place_order => k_is)
    (case k_law_place_order => k_is)
    (case g_law_sorted_by => k_is)
    (case l_law_sorted_by => k_is)
    (case c_law_sorted_by => k_is)
    (case k_law_sorted_by => k_is)
    (case g_law_is_right => k_is)
    (case l_law_is_right => k_is)
    (case c_law_is_right => k_is)
    (case k_law_is_right => k_is)
    (case g_law_others => k_is)
    (case l_law_others => k_is)
    (case c_law_others => k_is)
    (case k_law_others => k_is)
    (case g_law_case => k_is)
    (case l_law_case => k_is)
    (case c_law_case => k_is)
    (case k_law_case => k_is)
    (case g_law => k_is)
    (case l_law => k_is)
    (case c_law => k_is)
    (case k_law => k_is)
    (case c1_Scale => k_is)
    (case c2_Scale => k_is)
    (case c3_Scale => k_is)
    (case c4_Scale => k_is)
    (case c5_Scale => k_is)
    (case c6_Scale => k_is)
    (case na_Scale_letters => k_is)
    (case na_Scale_weights => k_is)
    (case fn_Scale => k_is)
    (case ic_Scale => k_is)
    (case mr_Scale => k_is)
    (case cg => k_is)
    (case ct => k_is)
    (case n_abs => k_is)
    (case n_all => k_is)
    (case n_any => k_is)
    (case n_bool => k_is)
    (case n_dict => k_is)
    (case n_enumerate => k_is)
    (case n_int => k_is)
    (case n_isinstance => k_is)
    (case n_len => k_is)
    (case n_list => k_is)
    (case n_max => k_is)
    (case n_min => k_is)
    (case n_range => k_is)
    (case n_sorted => k_is)
    (case n_str => k_is)
    (case n_tuple => k_is)
    (case qc_MAX_WEIGHT => k_is)
    (case qc_MAX_TEXT => k_is)
    (case qc_LETTERS => k_is)
