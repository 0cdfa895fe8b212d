import PyProof.Rows.All
import Wide.All
import OpenK.AllK
import Wide.FinOn
import HandS.ForMost
import HandS.Wide
import HandS.Gcd
import HandS.Property
import HandS.IsInst
import HandS.Codes
import HandS.TupAny
import HandS.Style
import HandS.RaiseMore
import HandS.SortInts
import HandS.StrMore
import HandS.Conv
import HandS.Zip
import HandS.Rev
import HandS.FStr
import KE.GoesEnum
import PyProof.ListStr
import PyProof.StrOps2
import HandS.Iter
import HandS.Walk
import HandS.SlotsOwn
import KE.LtData
import PyProof.Rows.StrRev
import OpenK.KMeth
import OpenK.KOps
import KE.KOpsOwn
import KE.KCallOwn
import KE.KFmtOwn
import HandS.DictComp
import HandS.Defaults
import HandS.ClsMeth
import KE.KExcInit
import HandS.ExcInit
import HandS.ExcField
import HandS.ExcOwn
import HandS.Lambda
import HandS.EndTab
import KE.KNestM
import HandS.TryMany
import PyProof.ReprRoads
import HandS.WordsExc
import HandS.Exc
import PySem.Challenge.RW_slantways_k00_slopes_and_their_texts
set_option Elab.async false
set_option linter.all false
set_option maxRecDepth 100000
set_option maxHeartbeats 4000000
/-! Sx: small steps over readings, heaps that only grow, dice. -/
namespace Sx
open PySem PySem.Spec PyProof.Rows L2

/-! ### the built-ins by name -/
theorem bt_len : bootBuiltins "len" = some (.builtin "len") := by decide +kernel
theorem bt_abs : bootBuiltins "abs" = some (.builtin "abs") := by decide +kernel
theorem bt_max : bootBuiltins "max" = some (.builtin "max") := by decide +kernel
theorem bt_min : bootBuiltins "min" = some (.builtin "min") := by decide +kernel
theorem bt_sum : bootBuiltins "sum" = some (.builtin "sum") := by decide +kernel
theorem bt_any : bootBuiltins "any" = some (.builtin "any") := by decide +kernel
theorem bt_all : bootBuiltins "all" = some (.builtin "all") := by decide +kernel
theorem bt_sorted : bootBuiltins "sorted" = some (.builtin "sorted") := by decide +kernel
theorem bt_isinstance : bootBuiltins "isinstance" = some (.builtin "isinstance") := by decide +kernel
theorem bt_ord : bootBuiltins "ord" = some (.builtin "ord") := by decide +kernel
theorem bt_chr : bootBuiltins "chr" = some (.builtin "chr") := by decide +kernel
theorem bt_repr : bootBuiltins "repr" = some (.builtin "repr") := by decide +kernel
theorem bt_int : bootBuiltins "int" = some (.type "int") := by decide +kernel
theorem bt_str : bootBuiltins "str" = some (.type "str") := by decide +kernel
theorem bt_bool : bootBuiltins "bool" = some (.type "bool") := by decide +kernel
theorem bt_list : bootBuiltins "list" = some (.type "list") := by decide +kernel
theorem bt_tuple : bootBuiltins "tuple" = some (.type "tuple") := by decide +kernel
theorem bt_range : bootBuiltins "range" = some (.type "range") := by decide +kernel

/-! ### steps: one lemma for each head of a reading -/
section
variable {σ : L2.St} {H : Hp} {nx bk ct : L2.St → Hp → Prop} {rt Q : VK} {ta tb tc te : TE} {tt uu : TT} {t u : TS} {tl : TA} {x y v : V} {r : R2}
theorem r_st {t : TS} {D : Ends} {σ σ' : L2.St} {H : Hp} (e : σ = σ') (h : t D σ' H) : t D σ H := by rw [e]; exact h
theorem r_seq (h : t ⟨u ⟨nx, rt, bk, ct⟩, rt, bk, ct⟩ σ H) : tSeq t u ⟨nx, rt, bk, ct⟩ σ H := h
theorem r_next (h : nx σ H) : tNext ⟨nx, rt, bk, ct⟩ σ H := h
theorem r_break (h : bk σ H) : tBreak ⟨nx, rt, bk, ct⟩ σ H := h
theorem r_cont (h : ct σ H) : tCont ⟨nx, rt, bk, ct⟩ σ H := h
theorem r_asg {g : TG} (h : te σ H fun x H1 => g x σ H1 nx) : tAsg te g ⟨nx, rt, bk, ct⟩ σ H := h
theorem r_name {i : Nat} {k : L2.St → Hp → Prop} (h : k (σ.set i (some v)) H) : gName i v σ H k := h
theorem r_ret (h : te σ H rt) : tRet te ⟨nx, rt, bk, ct⟩ σ H := h
theorem r_retN (h : rt .non H) : tRetN ⟨nx, rt, bk, ct⟩ σ H := h
theorem r_drop (h : te σ H fun _ H1 => nx σ H1) : tDrop te ⟨nx, rt, bk, ct⟩ σ H := h
theorem r_ifs (h : tt σ H fun b H1 => if b = true then t ⟨nx, rt, bk, ct⟩ σ H1 else u ⟨nx, rt, bk, ct⟩ σ H1) : tIfS tt t u ⟨nx, rt, bk, ct⟩ σ H := h
theorem r_par {i j : Nat} (h : tl σ H fun vs H1 => ∃ v w, vs = [v, w] ∧ nx ((σ.set i (some v)).set j (some w)) H1) : tPar i j tl ⟨nx, rt, bk, ct⟩ σ H := h
theorem r_par3 {i j l : Nat} (h : tl σ H fun vs H1 => ∃ u v w, vs = [u, v, w] ∧ nx (((σ.set i (some u)).set j (some v)).set l (some w)) H1) : tPar3 i j l tl ⟨nx, rt, bk, ct⟩ σ H := h
theorem r_two {P : V → V → Prop} {a b : V} (h : P a b) : ∃ v w, [a, b] = [v, w] ∧ P v w := ⟨a, b, rfl, h⟩
theorem r_three {P : V → V → V → Prop} {a b c : V} (h : P a b c) : ∃ u v w, [a, b, c] = [u, v, w] ∧ P u v w := ⟨a, b, c, rfl, h⟩
theorem r_var {i : Nat} (e : σ[i]? = some (some v)) (h : Q v H) : tVar i σ H Q := ⟨v, e, h⟩
theorem r_c (h : Q v H) : tC v σ H Q := h
theorem r_op (h : ta σ H fun x H1 => tb σ H1 fun y H2 => r x y H2 Q) : tOp r ta tb σ H Q := h
theorem r_un {f : V → Hp → VK → Prop} (h : ta σ H fun x H1 => f x H1 Q) : tUn f ta σ H Q := h
theorem r_I0 {g : Int → Int → V} {i j : Int} (h : Q (g i j) H) : rI0 g (.int i) (.int j) H Q := ⟨i, j, rfl, rfl, h⟩
theorem r_I {C : Int → Int → Prop} {g : Int → Int → V} {i j : Int} (hc : C i j) (h : Q (g i j) H) : rI C g (.int i) (.int j) H Q := ⟨i, j, rfl, rfl, hc, h⟩
theorem r_U {g : Int → V} {i : Int} (h : Q (g i) H) : rU g (.int i) H Q := ⟨i, rfl, h⟩
theorem dI {i j : Int} : decide (V.int i = V.int j) = decide (i = j) := by simp
theorem dS {i j : Str} : decide (V.str i = V.str j) = decide (i = j) := by simp
theorem dB {i j : Bool} : decide (V.bl i = V.bl j) = decide (i = j) := by simp
theorem r_eqI {i j : Int} (h : Q (.bl (decide (i = j))) H) : rEq (.int i) (.int j) H Q := ⟨rfl, by rw [dI]; exact h⟩
theorem r_neI {i j : Int} (h : Q (.bl (!decide (i = j))) H) : rNe (.int i) (.int j) H Q := ⟨rfl, by rw [dI]; exact h⟩
theorem r_eqS {i j : Str} (h : Q (.bl (decide (i = j))) H) : rEq (.str i) (.str j) H Q := ⟨rfl, by rw [dS]; exact h⟩
theorem r_neS {i j : Str} (h : Q (.bl (!decide (i = j))) H) : rNe (.str i) (.str j) H Q := ⟨rfl, by rw [dS]; exact h⟩
theorem r_eqB {i j : Bool} (h : Q (.bl (decide (i = j))) H) : rEq (.bl i) (.bl j) H Q := ⟨rfl, by rw [dB]; exact h⟩
theorem r_neB {i j : Bool} (h : Q (.bl (!decide (i = j))) H) : rNe (.bl i) (.bl j) H Q := ⟨rfl, by rw [dB]; exact h⟩
theorem r_test {Q : Bool → Hp → Prop} (h : ta σ H fun x H1 => ∃ k, x = .bl k ∧ Q k H1) : tTest ta σ H Q := h
theorem r_B {Q : Bool → Hp → Prop} (h : ta σ H fun x H1 => ∃ k, x = .bl k ∧ Q k H1) : tB ta σ H Q := h
theorem r_bl {P : Bool → Prop} {b : Bool} (h : P b) : ∃ k, V.bl b = .bl k ∧ P k := ⟨b, rfl, h⟩
theorem r_and {Q : Bool → Hp → Prop} (h : tt σ H fun c H1 => if c = true then uu σ H1 Q else Q false H1) : tAnd tt uu σ H Q := h
theorem r_or {Q : Bool → Hp → Prop} (h : tt σ H fun c H1 => if c = true then Q true H1 else uu σ H1 Q) : tOr tt uu σ H Q := h
theorem r_not {Q : Bool → Hp → Prop} (h : tt σ H fun c H1 => Q (!c) H1) : tNot tt σ H Q := h
theorem r_andV (h : ta σ H fun x H1 => ∃ c, x = .bl c ∧ if c = true then tb σ H1 Q else Q (.bl false) H1) : tAndV ta tb σ H Q := h
theorem r_orV (h : ta σ H fun x H1 => ∃ c, x = .bl c ∧ if c = true then Q (.bl true) H1 else tb σ H1 Q) : tOrV ta tb σ H Q := h
theorem r_notV (h : ta σ H fun x H1 => ∃ c, x = .bl c ∧ Q (.bl (!c)) H1) : tNotV ta σ H Q := h
theorem r_ifE (h : tt σ H fun c H1 => if c = true then ta σ H1 Q else tb σ H1 Q) : tIf tt ta tb σ H Q := h
theorem r_chain {r r' : R2} (h : ta σ H fun x H1 => tb σ H1 fun y H2 => r x y H2 fun z H3 => ∃ k, z = .bl k ∧ (if k = true then tc σ H3 fun w' H4 => r' y w' H4 Q else Q (.bl false) H3)) : tChain r r' ta tb tc σ H Q := h
theorem r_nil {Q : List V → Hp → Prop} (h : Q [] H) : tNil σ H Q := h
theorem r_cons {Q : List V → Hp → Prop} (h : ta σ H fun x H1 => tl σ H1 fun xs H2 => Q (x :: xs) H2) : tCons ta tl σ H Q := h
theorem r_call {sp : Sp} {E : XK} (h : tl σ H fun vs H1 => sp (vs ++ []) H1 Q E) : tCall sp [] E tl σ H Q := h
theorem r_cb {f : List V → Hp → VK → Prop} (h : tl σ H fun vs H1 => f vs H1 Q) : tCB f tl σ H Q := h
def MakeP (C : Addr) (sp : Sp) (E : XK) (vs : List V) (H1 : Hp) (Q : VK) : Prop := ∀ x dx, H1 x = none → H1 dx = none → dx ≠ x → sp (.ref x :: (vs ++ [])) (upd (upd H1 dx (.own x)) x (.ins C dx [])) (fun v H2 => v = .non ∧ Q (.ref x) H2) E
theorem r_make {C : Addr} {sp : Sp} {E : XK} (h : tl σ H fun vs H1 => MakeP C sp E vs H1 Q) : tMake C sp [] E tl σ H Q := h
theorem r_tup (h : tl σ H fun xs H1 => xs.length ≤ sizeLine ∧ ∀ p, H1 p = none → Q (.ref p) (upd H1 p (.tup xs))) : tTup tl σ H Q := h
theorem r_lst (h : tl σ H fun xs H1 => xs.length ≤ sizeLine ∧ ∀ p, H1 p = none → Q (.ref p) (upd H1 p (.lst xs))) : tLst tl σ H Q := h
theorem r_prop {C : Addr} {sp : Sp} {E : XK} {dx a : Addr} {fs : List (Str × V)} (e : H a = some (.ins C dx fs)) (h : sp [.ref a] H Q E) : ∃ a' dx fs, V.ref a = .ref a' ∧ H a' = some (.ins C dx fs) ∧ sp (.ref a' :: []) H Q E := ⟨a, dx, fs, rfl, e, h⟩
theorem r_tprop {C : Addr} {sp : Sp} {E : XK} (h : ta σ H fun x H1 => ∃ a dx fs, x = .ref a ∧ H1 a = some (.ins C dx fs) ∧ sp (.ref a :: []) H1 Q E) : tProp C sp [] E ta σ H Q := h
theorem r_meth {C : Addr} {m : Str} {sp : Sp} {E : XK} (h : ta σ H fun x H1 => ∃ a dx fs, x = .ref a ∧ H1 a = some (.ins C dx fs) ∧ fs.lookup m = none ∧ tl σ H1 fun vs H2 => sp (x :: (vs ++ [])) H2 Q E) : tMeth C m sp [] E ta tl σ H Q := h
theorem r_getSp {C : Addr} {f : Str} {E : XK} {a dx : Addr} {fs : List (Str × V)} (e : H a = some (.ins C dx fs)) (l : fs.lookup f = some v) (h : Q v H) : getSp C f [.ref a] H Q E := ⟨a, dx, fs, v, rfl, e, l, h⟩
theorem r_fld {K : PySem.W.Frag} {f : Str} (h : ta σ H fun x H1 => ∃ a C dx fs v, x = .ref a ∧ H1 a = some (.ins C dx fs) ∧ Cls K C ∧ NoAttr K C f ∧ fs.lookup f = some v ∧ Q v H1) : tFld K ta f σ H Q := h
theorem r_BM {K : PySem.W.Frag} {T : String} {f : V → List V → Hp → VK → Prop} (h : ta σ H fun x H1 => tyV K T x H1 ∧ tl σ H1 fun xs H2 => f x xs H2 Q) : tBM K T f ta tl σ H Q := h
theorem r_BM0 {K : PySem.W.Frag} {T : String} {f : V → List V → Hp → VK → Prop} (h : ta σ H fun x H1 => tyV K T x H1 ∧ f x [] H1 Q) : tBM0 K T f ta σ H Q := h
theorem r_sub {ti : TE} {s : TSet} {k : L2.St → Hp → Prop} (h : ta σ H fun o H1 => ti σ H1 fun i H2 => s o i v H2 fun H3 => k σ H3) : gSub ta ti s v σ H k := h
theorem r_sl {f : V → Option Int → Option Int → Hp → VK → Prop} {t1 t2 : TO} (h : te σ H fun x H1 => t1 σ H1 fun l H2 => t2 σ H2 fun u H3 => f x l u H3 Q) : tSl f te t1 t2 σ H Q := h
theorem r_noPart {Q : Option Int → Hp → Prop} (h : Q none H) : tNoPart σ H Q := h
theorem r_part {Q : Option Int → Hp → Prop} (h : te σ H fun x H1 => ∃ i, x = .int i ∧ Q (some i) H1) : tPart te σ H Q := h
theorem r_int {P : Int → Prop} {i : Int} (h : P i) : ∃ j, V.int i = .int j ∧ P j := ⟨i, rfl, h⟩
theorem iteNT {A B : Prop} {i : Decidable ((!true) = true)} (h : B) : @ite Prop ((!true) = true) i A B := by
  rw [if_neg (fun z => nomatch z)]; exact h
theorem iteNF {A B : Prop} {i : Decidable ((!false) = true)} (h : A) : @ite Prop ((!false) = true) i A B := by
  rw [if_pos (show (!false) = true from rfl)]; exact h
theorem iteT' {A B : Prop} {i : Decidable (true = true)} (h : A) : @ite Prop (true = true) i A B := by
  rw [if_pos rfl]; exact h
theorem iteF' {A B : Prop} {i : Decidable (false = true)} (h : B) : @ite Prop (false = true) i A B := by
  rw [if_neg Bool.false_ne_true]; exact h
theorem r_cutQ {t : TE} (S : V → Hp → Prop) (h : ∀ Q' : VK, (∀ v H1, S v H1 → Q' v H1) → t σ H Q') (k : ∀ v H1, S v H1 → Q v H1) : t σ H Q := h Q k
theorem r_cutS {t : TS} (S : L2.St → Hp → Prop) (h : ∀ nx', (∀ σ H, S σ H → nx' σ H) → t ⟨nx', rt, bk, ct⟩ σ H) (k : ∀ σ H, S σ H → nx σ H) : t ⟨nx, rt, bk, ct⟩ σ H := h nx k
theorem ite_d {p A B : Prop} {j : Decidable p} {i : Decidable (@decide p j = true)} (h1 : p → A) (h2 : ¬ p → B) : @ite Prop (@decide p j = true) i A B := by
  by_cases h : p
  · rw [if_pos (decide_eq_true h)]; exact h1 h
  · rw [if_neg (by rw [decide_eq_false h]; exact Bool.false_ne_true)]; exact h2 h
theorem ite_nd {p A B : Prop} {j : Decidable p} {i : Decidable ((!@decide p j) = true)} (h1 : ¬ p → A) (h2 : p → B) : @ite Prop ((!@decide p j) = true) i A B := by
  by_cases h : p
  · rw [if_neg (by rw [decide_eq_true h]; exact Bool.false_ne_true)]; exact h2 h
  · rw [if_pos (by rw [decide_eq_false h]; rfl)]; exact h1 h
theorem ite_b {b : Bool} {A B : Prop} {i : Decidable (b = true)} (h1 : b = true → A) (h2 : b = false → B) : @ite Prop (b = true) i A B := by
  cases b with
  | true => rw [if_pos rfl]; exact h1 rfl
  | false => rw [if_neg Bool.false_ne_true]; exact h2 rfl
end

/-! ### more steps -/
section
variable {σ : L2.St} {H : Hp} {Q : VK} {v x y : V} {K : PySem.W.Frag}
theorem r_isi_int_bool {i : Int} (h : Q (.bl false) H) : rIsi K [.int i, .ty "bool"] H Q := ⟨_, _, _, _, false, rfl, .ty _, .base (.int i), kit_ty (by decide +kernel), h⟩
theorem r_isi_int_int {i : Int} (h : Q (.bl true) H) : rIsi K [.int i, .ty "int"] H Q := ⟨_, _, _, _, true, rfl, .ty _, .base (.int i), kit_ty (by decide +kernel), h⟩
theorem r_isi_str_str {i : Str} (h : Q (.bl true) H) : rIsi K [.str i, .ty "str"] H Q := ⟨_, _, _, _, true, rfl, .ty _, .base (.str i), kit_ty (by decide +kernel), h⟩
theorem r_isi_own {a C dx : Addr} {fs : List (Str × V)} {b : Bool} {D : Addr} (e : H a = some (.ins C dx fs)) (cl : Cls K C) (ha : PySem.W.findIn K (.ref C) "__class__" = some (some (.builtin "object.__class__")))
    (hn : PySem.W.specialIn K (.builtin "object.__class__") "__get__" = some (some (.builtin "getset_descriptor.__get__"))) (htk : PySem.W.takesIn K (.builtin "object.__class__") = some true) (hm : PySem.W.mroIn K C (.type "object") = some true)
    (ks : PySem.W.kitOne K (.ref C) (.ref D) = some b) (h : Q (.bl b) H) : rIsi K [.ref a, .ref D] H Q := ⟨_, _, _, _, b, rfl, .own D, .base (.ins e cl ha hn htk hm), ks, h⟩
theorem r_Ih {C : Int → Int → Prop} {g : Int → Int → V} {i j : Int} (h : Q (g i j) H) (hc : C i j) : rI C g (.int i) (.int j) H Q := ⟨i, j, rfl, rfl, hc, h⟩
theorem r_ixL {p : Addr} {xs : List V} {i : Int} (hp : H p = some (.lst xs)) (a : atI xs i = some v) (h : Q v H) : rIxL K (.ref p) (.int i) H Q := ⟨p, xs, i, v, rfl, rfl, SqL.of hp, a, h⟩
theorem r_ixT {p : Addr} {xs : List V} {i : Int} (hp : H p = some (.tup xs)) (a : atI xs i = some v) (h : Q v H) : rIxT K (.ref p) (.int i) H Q := ⟨p, xs, i, v, rfl, rfl, SqT.of hp, a, h⟩
theorem r_sFld {K : PySem.W.Frag} {f : Str} {ta tv : TE} {σ : L2.St} {nx bk ct : L2.St → Hp → Prop} {rt : VK} (h : tv σ H fun y H1 => ta σ H1 fun x H2 => ∃ a C dx fs, x = .ref a ∧ H2 a = some (.ins C dx fs) ∧ Cls K C ∧ NoAttr K C f ∧ fs.length < 1000 ∧ nx σ (upd H2 a (.ins C dx (putF f y fs)))) : sFld K ta tv f ⟨nx, rt, bk, ct⟩ σ H := h
theorem len1 {f : Str} {v : V} : (putF f v []).length < 1000 := Nat.lt_of_le_of_lt (length_putF f v []) (by decide)
theorem len2 {f g : Str} {v w : V} : (putF f v (putF g w [])).length < 1000 := Nat.lt_of_le_of_lt (Nat.le_trans (length_putF f v _) (Nat.succ_le_succ (length_putF g w []))) (by decide)
theorem len3 {f g k : Str} {v w u : V} : (putF f v (putF g w (putF k u []))).length < 1000 := Nat.lt_of_le_of_lt (Nat.le_trans (length_putF f v _) (Nat.succ_le_succ (Nat.le_trans (length_putF g w _) (Nat.succ_le_succ (length_putF k u []))))) (by decide)
theorem len4 {f g k j : Str} {v w u t : V} : (putF f v (putF g w (putF k u (putF j t [])))).length < 1000 := Nat.lt_of_le_of_lt (Nat.le_trans (length_putF f v _) (Nat.succ_le_succ (Nat.le_trans (length_putF g w _) (Nat.succ_le_succ (Nat.le_trans (length_putF k u _) (Nat.succ_le_succ (length_putF j t []))))))) (by decide)
theorem r_insput {K : PySem.W.Frag} {f : Str} {y : V} {nx : L2.St → Hp → Prop} {σ : L2.St} {a C dx : Addr} {fs : List (Str × V)} (e : H a = some (.ins C dx fs)) (cl : Cls K C) (na : NoAttr K C f) (hl : fs.length < 1000) (h : nx σ (upd H a (.ins C dx (putF f y fs)))) :
    ∃ a' C dx fs, V.ref a = .ref a' ∧ H a' = some (.ins C dx fs) ∧ Cls K C ∧ NoAttr K C f ∧ fs.length < 1000 ∧ nx σ (upd H a' (.ins C dx (putF f y fs))) := ⟨a, C, dx, fs, rfl, e, cl, na, hl, h⟩
theorem r_setL {p : Addr} {xs : List V} {i : Int} {j : Nat} {Q : Hp → Prop} (hp : H p = some (.lst xs)) (a : ixN xs.length i = some j) (h : Q (upd H p (.lst (xs.set j v)))) : rSetL (.ref p) (.int i) v H Q := ⟨p, xs, i, j, rfl, rfl, hp, a, h⟩
theorem tyL {l : Addr} {xs : List V} (h : H l = some (.lst xs)) : tyV K "list" (.ref l) H := .inl ⟨rfl, xs, SqL.of h⟩
theorem r_app {l : Addr} {xs : List V} (hp : H l = some (.lst xs)) (h : Q .non (upd H l (.lst (xs ++ [v])))) (hl : xs.length < sizeLine) : rAppend (.ref l) [v] H Q := ⟨l, xs, v, rfl, rfl, hp, hl, h⟩
theorem r_gcd {a b : Int} (h : Q (.int ((Nat.gcd a.natAbs b.natAbs : Nat) : Int)) H) : rGcd [.int a, .int b] H Q := ⟨a, b, rfl, h⟩
theorem sz (n : Nat) (h : n ≤ 100000) : n ≤ sizeLine := Nat.le_trans h (by decide)
theorem sz' (n : Nat) (h : n < 100000) : n < sizeLine := Nat.lt_of_lt_of_le h (by decide)
theorem cmulw {i j : Int} {a b : Nat} (ha : i.natAbs < 2 ^ a) (hb : j.natAbs < 2 ^ b) (h : a + b ≤ 100000) (h0 : 0 < a := by decide) (h1 : 0 < b := by decide) : CMulW i j := wide_mul ha hb h0 h1 (by omega)
theorem cdivw {i j : Int} {b : Nat} (h : 0 < j) (hb : j.natAbs < 2 ^ b) (h9 : b ≤ 9000) (h0 : 0 < b := by decide) : CDivW i j := wide_div h hb h0 h9
/-- * of two ints, one of them small, or both not too great -/
def CMulA (i j : Int) : Prop := CMul i j ∨ CMulW i j
theorem op_mulA {X : Cx} : OpR X (binaryOp .Mult) (rI CMulA fun i j => .int (i * j)) := opI fun _ _ _ _ _ _ _ hc q => mul_int q (by
  rcases hc with h | h
  · exact h.ok
  · exact h.ok)
theorem cmA_l {i j : Int} (h : -(2 ^ 64) < i ∧ i < 2 ^ 64) : CMulA i j := .inl (.inl h)
theorem cmA_r {i j : Int} (h : -(2 ^ 64) < j ∧ j < 2 ^ 64) : CMulA i j := .inl (.inr h)
theorem cmA_w {i j : Int} (h : CMulW i j) : CMulA i j := .inr h
/-- comb, perm -/
theorem r_gtup {p : Addr} {xs : List V} {n : Nat} {t : TGs} {k : L2.St → Hp → Prop} (hp : H p = some (.tup xs)) (hl : xs.length = n) (h : t xs σ H k) : gTup K n t (.ref p) σ H k := ⟨p, xs, rfl, SqT.of hp, hl, h⟩
theorem r_gcons {t : TG} {u : TGs} {r : List V} {k : L2.St → Hp → Prop} (h : t v σ H fun σ' H' => u r σ' H' k) : gCons t u (v :: r) σ H k := ⟨v, r, rfl, h⟩
theorem r_gnil {k : L2.St → Hp → Prop} (h : k σ H) : gNil [] σ H k := ⟨rfl, h⟩
def rComb : List V → Hp → VK → Prop := fun vs H Q => ∃ a b : Int, vs = [.int a, .int b] ∧ 0 ≤ a ∧ 0 ≤ b ∧ a ≤ 18000 ∧ Q (.int (PySem.W.mcComb a b)) H
theorem cr_comb {X : Cx} : CallR X (.builtin "math.comb") rComb := by
  intro pins s σ H vs us Q I r h
  obtain ⟨a, b, rfl, ha, hb, h8, q⟩ := h
  obtain ⟨t, u, rfl⟩ := Vals.int2 r
  exact PySem.W.mc_comb ha hb (by omega) (.inr h8) fun _ => ⟨.int _, H, I.tok _, ⟨_, rfl⟩, q⟩
theorem r_comb {a b : Int} (h : Q (.int (PySem.W.mcComb a b)) H) (ha : 0 ≤ a) (hb : 0 ≤ b) (h8 : a ≤ 18000) : rComb [.int a, .int b] H Q := ⟨a, b, rfl, ha, hb, h8, h⟩
end

/-! ### readings by names -/
section
variable {X : Cx} {σ : L2.St} {H : Hp} {Q : VK} {K : PySem.W.Frag}
def qInt : List V → Hp → VK → Prop := fun xs H Q => (∃ i, xs = [.int i] ∧ Q (.int i) H) ∨ ∃ k, xs = [.bl k] ∧ Q (.int (if k then 1 else 0)) H
theorem c_int : CallR X (.type "int") qInt := call_int1
theorem r_int1 {i : Int} (h : Q (.int i) H) : qInt [.int i] H Q := .inl ⟨i, rfl, h⟩
theorem r_intB {k : Bool} (h : Q (.int (if k then 1 else 0)) H) : qInt [.bl k] H Q := .inr ⟨k, rfl, h⟩
def qAbs : List V → Hp → VK → Prop := fun xs H Q => ∃ i, xs = [.int i] ∧ Q (.int (if i < 0 then -i else i)) H
theorem c_abs : CallR X (.builtin "abs") qAbs := call_abs
theorem r_abs {i : Int} (h : Q (.int (if i < 0 then -i else i)) H) : qAbs [.int i] H Q := ⟨i, rfl, h⟩
def qMax : List V → Hp → VK → Prop := fun xs H Q => ∃ i j, xs = [.int i, .int j] ∧ Q (.int (if j > i then j else i)) H
theorem c_max (hc : X.calm = true) : CallR X (.builtin "max") qMax := call_max2 hc
theorem r_max {i j : Int} (h : Q (.int (if j > i then j else i)) H) : qMax [.int i, .int j] H Q := ⟨i, j, rfl, h⟩
def qMin : List V → Hp → VK → Prop := fun xs H Q => ∃ i j, xs = [.int i, .int j] ∧ Q (.int (if j < i then j else i)) H
theorem c_min (hc : X.calm = true) : CallR X (.builtin "min") qMin := call_min2 hc
theorem r_min {i j : Int} (h : Q (.int (if j < i then j else i)) H) : qMin [.int i, .int j] H Q := ⟨i, j, rfl, h⟩
def qLen (K : PySem.W.Frag) : List V → Hp → VK → Prop := fun xs H Q => ∃ p ys, xs = [.ref p] ∧ (SqL K H p ys ∨ SqT K H p ys) ∧ Q (.int ys.length) H
theorem c_len : CallR X (.builtin "len") (qLen X.K) := call_len_seq
theorem r_lenL {p : Addr} {ys : List V} (q : SqL K H p ys) (h : Q (.int ys.length) H) : qLen K [.ref p] H Q := ⟨p, ys, rfl, .inl q, h⟩
theorem r_lenT {p : Addr} {ys : List V} (q : SqT K H p ys) (h : Q (.int ys.length) H) : qLen K [.ref p] H Q := ⟨p, ys, rfl, .inr q, h⟩
def qLenS : List V → Hp → VK → Prop := fun xs H Q => ∃ z, xs = [.str z] ∧ z.length ≤ sizeLine ∧ Q (.int z.length) H
theorem c_lenS : CallR X (.builtin "len") qLenS := call_len_str
theorem r_lenS {z : Str} (h : Q (.int z.length) H) (hz : z.length ≤ sizeLine) : qLenS [.str z] H Q := ⟨z, rfl, hz, h⟩
def qLstOf (K : PySem.W.Frag) : List V → Hp → VK → Prop := fun xs H Q => ∃ p ys, xs = [.ref p] ∧ (SqL K H p ys ∨ SqT K H p ys) ∧ ∀ l, H l = none → Q (.ref l) (upd H l (.lst ys))
theorem c_lstOf : CallR X (.type "list") (qLstOf X.K) := call_list_of
theorem r_lstOfL {p : Addr} {ys : List V} (q : SqL K H p ys) (h : ∀ l, H l = none → Q (.ref l) (upd H l (.lst ys))) : qLstOf K [.ref p] H Q := ⟨p, ys, rfl, .inl q, h⟩
theorem r_lstOfT {p : Addr} {ys : List V} (q : SqT K H p ys) (h : ∀ l, H l = none → Q (.ref l) (upd H l (.lst ys))) : qLstOf K [.ref p] H Q := ⟨p, ys, rfl, .inr q, h⟩
def qTupOf (K : PySem.W.Frag) : List V → Hp → VK → Prop := fun xs H Q => ∃ p ys, xs = [.ref p] ∧ ((SqL K H p ys ∧ ∀ l, H l = none → Q (.ref l) (upd H l (.tup ys))) ∨ (SqT K H p ys ∧ Q (.ref p) H))
theorem c_tupOf : CallR X (.type "tuple") (qTupOf X.K) := call_tuple_of
theorem r_tupOfL {p : Addr} {ys : List V} (q : SqL K H p ys) (h : ∀ l, H l = none → Q (.ref l) (upd H l (.tup ys))) : qTupOf K [.ref p] H Q := ⟨p, ys, rfl, .inl ⟨q, h⟩⟩
theorem r_tupOfT {p : Addr} {ys : List V} (q : SqT K H p ys) (h : Q (.ref p) H) : qTupOf K [.ref p] H Q := ⟨p, ys, rfl, .inr ⟨q, h⟩⟩
def qStrI : List V → Hp → VK → Prop := fun xs H Q => ∃ i, xs = [.int i] ∧ i.natAbs.log2 < 1920 ∧ Q (.str (toString i)) H
theorem c_strI : CallR X (.type "str") qStrI := call_str_int
theorem r_strI {i : Int} (h : Q (.str (toString i)) H) (hi : i.natAbs.log2 < 1920) : qStrI [.int i] H Q := ⟨i, rfl, hi, h⟩
def qStrS : List V → Hp → VK → Prop := fun xs H Q => ∃ a, xs = [.str a] ∧ Q (.str a) H
theorem c_strS : CallR X (.type "str") qStrS := SkE.call_str_str
theorem r_strS {a : Str} (h : Q (.str a) H) : qStrS [.str a] H Q := ⟨a, rfl, h⟩
def qAddS : R2 := fun x y H Q => ∃ i j, x = .str i ∧ y = .str j ∧ i.length + j.length ≤ sizeLine ∧ Q (.str (i ++ j)) H
theorem o_addS : OpR X (binaryOp .Add) qAddS := op_add_str
theorem r_addS {i j : Str} (h : Q (.str (i ++ j)) H) (hz : i.length + j.length ≤ sizeLine) : qAddS (.str i) (.str j) H Q := ⟨i, j, rfl, rfl, hz, h⟩
def qLtS : R2 := fun x y H Q => ∃ i j, x = .str i ∧ y = .str j ∧ Q (.bl (decide (i.cps.toList < j.cps.toList))) H
theorem o_ltS : OpR X (compareOp .Lt) qLtS := op_lt_str
theorem r_ltS {i j : Str} (h : Q (.bl (decide (i.cps.toList < j.cps.toList))) H) : qLtS (.str i) (.str j) H Q := ⟨i, j, rfl, rfl, h⟩
def qAddIB : R2 := fun x y H Q => ∃ i k, x = .int i ∧ y = .bl k ∧ Q (.int (i + b2i k)) H
theorem o_addIB : OpR X (binaryOp .Add) qAddIB := op_add_ib
def qIsN : R2 := fun x y H Q => y = .non ∧ Q (.bl (decide (x = .non))) H
theorem o_isN : OpR X (compareOp .Is) qIsN := op_isN
def qNotN : R2 := fun x y H Q => y = .non ∧ Q (.bl (!decide (x = .non))) H
theorem o_notN : OpR X (compareOp .IsNot) qNotN := op_notN
def qCntS : V → List V → Hp → VK → Prop := fun x xs H Q => ∃ a b, x = .str a ∧ xs = [.str b] ∧ Q (.int (Txt.count a b)) H
theorem m_cntS : MtR X "str.count" qCntS := mt_count
theorem r_cntS {a b : Str} (h : Q (.int (Txt.count a b)) H) : qCntS (.str a) [.str b] H Q := ⟨a, b, rfl, rfl, h⟩
def qFindS : V → List V → Hp → VK → Prop := fun x xs H Q => ∃ a b, x = .str a ∧ xs = [.str b] ∧ Q (.int (Txt.find a b)) H
theorem m_findS : MtR X "str.find" qFindS := mt_find
theorem r_findS {a b : Str} (h : Q (.int (Txt.find a b)) H) : qFindS (.str a) [.str b] H Q := ⟨a, b, rfl, rfl, h⟩
def qFind3 : V → List V → Hp → VK → Prop := fun x xs H Q => ∃ (a b : Str) (i : Int), x = .str a ∧ xs = [.str b, .int i] ∧ Q (.int (Txt.find3 a b i)) H
theorem m_find3 : MtR X "str.find" qFind3 := mt_find3
theorem r_find3 {a b : Str} {i : Int} (h : Q (.int (Txt.find3 a b i)) H) : qFind3 (.str a) [.str b, .int i] H Q := ⟨a, b, i, rfl, rfl, h⟩
def qSplit : V → List V → Hp → VK → Prop := fun x xs H Q => ∃ a b, x = .str a ∧ xs = [.str b] ∧ (b.length == 0) = false ∧ a.length + 2 ≤ sizeLine ∧ rNewStrs (Txt.split a b) H Q
theorem m_split : MtR X "str.split" qSplit := mt_split
def qJoin (K : PySem.W.Frag) : V → List V → Hp → VK → Prop := fun x xs H Q => ∃ a p, ∃ ys : List Str, x = .str a ∧ xs = [.ref p] ∧ (SqL K H p (ys.map V.str) ∨ SqT K H p (ys.map V.str)) ∧ (ys.map (·.length)).sum + ys.length * a.length ≤ 16777216 ∧ Q (.str (Txt.join a ys)) H
theorem m_join : MtR X "str.join" (qJoin X.K) := mt_join
theorem r_joinL {a : Str} {p : Addr} {ys : List Str} (q : SqL K H p (ys.map V.str)) (h : Q (.str (Txt.join a ys)) H) (hz : (ys.map (·.length)).sum + ys.length * a.length ≤ 16777216) : qJoin K (.str a) [.ref p] H Q := ⟨a, p, ys, rfl, rfl, .inl q, hz, h⟩
theorem tyS {a : Str} : tyV K "str" (.str a) H := rfl
end
/-! ### loops -/
section
variable {σ : L2.St} {H : Hp} {nx bk ct : L2.St → Hp → Prop} {rt Q : VK} {ta te : TE} {tt : TT} {tb : TS} {tl : TA} {g : TG} {K : PySem.W.Frag}
def FR (J : It) (g : TG) (tb : TS) (D : Ends) (σ : L2.St) (H1 : Hp) : Prop := ∃ W : Nat → Nat → L2.St → Hp → Prop, (∃ m, W 0 m σ H1) ∧ ∀ i m σ H, W i m σ H →
  (J.stop i H ∧ D.nx σ H) ∨ (J.go i H ∧ ∃ N : L2.St → Hp → Prop, (∀ σ' H', N σ' H' → ∃ m', m' < m ∧ W (i + 1) m' σ' H') ∧ ∀ x H', J.yld i H x H' → g x σ H' fun σ2 H2 => tb { D with nx := N, ct := N, bk := D.nx } σ2 H2)
theorem r_for1 {D : Ends} (h : tl σ H fun vs H1 => ∃ j : Int, vs = [.int j] ∧ -(2 ^ 62) ≤ j ∧ j < 2 ^ 62 ∧ FR (Itr 0 j.toNat) g tb D σ H1) : tFor (iRng1 tl) g tb D σ H := h
theorem r_for2 {D : Ends} (h : tl σ H fun vs H1 => ∃ i j : Int, vs = [.int i, .int j] ∧ (-(2 ^ 62) ≤ i ∧ i < 2 ^ 62 ∧ -(2 ^ 62) ≤ j ∧ j < 2 ^ 62) ∧ FR (Itr i (j - i).toNat) g tb D σ H1) : tFor (iRng2 tl) g tb D σ H := h
theorem r_forL {D : Ends} (h : te σ H fun x H1 => ∃ a, x = .ref a ∧ (∃ xs, SqL K H1 a xs) ∧ FR (Itl K a) g tb D σ H1) : tFor (iList K te) g tb D σ H := h
theorem r_forT {D : Ends} (h : te σ H fun x H1 => ∃ a, x = .ref a ∧ (∃ xs, SqT K H1 a xs) ∧ FR (Itt K a) g tb D σ H1) : tFor (iTup K te) g tb D σ H := h
theorem r_forS {D : Ends} (h : te σ H fun v H1 => ∃ x, v = .str x ∧ FR (Its x) g tb D σ H1) : tFor (iStr te) g tb D σ H := h
theorem r_rng1 {P : Int → Prop} {x : Int} (h : P x) (h1 : -(2 ^ 62) ≤ x) (h2 : x < 2 ^ 62) : ∃ j : Int, [V.int x] = [.int j] ∧ -(2 ^ 62) ≤ j ∧ j < 2 ^ 62 ∧ P j := ⟨x, rfl, h1, h2, h⟩
theorem r_rng2 {P : Int → Int → Prop} {x y : Int} (h : P x y) (h1 : -(2 ^ 62) ≤ x ∧ x < 2 ^ 62 ∧ -(2 ^ 62) ≤ y ∧ y < 2 ^ 62) : ∃ i j : Int, [V.int x, V.int y] = [.int i, .int j] ∧ (-(2 ^ 62) ≤ i ∧ i < 2 ^ 62 ∧ -(2 ^ 62) ≤ j ∧ j < 2 ^ 62) ∧ P i j := ⟨x, y, rfl, h1, h⟩
theorem r_seqL {P : Addr → Prop} {a : Addr} {xs : List V} (q : SqL K H a xs) (h : P a) : ∃ b, V.ref a = .ref b ∧ (∃ xs, SqL K H b xs) ∧ P b := ⟨a, rfl, ⟨xs, q⟩, h⟩
theorem r_seqT {P : Addr → Prop} {a : Addr} {xs : List V} (q : SqT K H a xs) (h : P a) : ∃ b, V.ref a = .ref b ∧ (∃ xs, SqT K H b xs) ∧ P b := ⟨a, rfl, ⟨xs, q⟩, h⟩
theorem r_seqS {P : Str → Prop} {x : Str} (h : P x) : ∃ y, V.str x = .str y ∧ P y := ⟨x, rfl, h⟩
theorem fr_range {lo : Int} {n : Nat} (Pv : Nat → L2.St → Hp → Prop) (h0 : Pv 0 σ H) (hs : ∀ i σ H, i < n → Pv i σ H → g (.int (lo + i)) σ H fun σ2 H2 => tb ⟨Pv (i + 1), rt, nx, Pv (i + 1)⟩ σ2 H2)
    (hd : ∀ σ H, Pv n σ H → nx σ H) : FR (Itr lo n) g tb ⟨nx, rt, bk, ct⟩ σ H := for_range Pv h0 hs hd
theorem fr_list {a : Addr} {xs : List V} (Pv : Nat → L2.St → Hp → Prop) (h0 : Pv 0 σ H) (hl : ∀ i σ H, i ≤ xs.length → Pv i σ H → SqL K H a xs) (hs : ∀ i x σ H, xs[i]? = some x → Pv i σ H → g x σ H fun σ2 H2 => tb ⟨Pv (i + 1), rt, nx, Pv (i + 1)⟩ σ2 H2)
    (hd : ∀ σ H, Pv xs.length σ H → nx σ H) : FR (Itl K a) g tb ⟨nx, rt, bk, ct⟩ σ H := for_list Pv h0 hl hs hd
theorem fr_tup {a : Addr} {xs : List V} (Pv : Nat → L2.St → Hp → Prop) (h0 : Pv 0 σ H) (hl : ∀ i σ H, i ≤ xs.length → Pv i σ H → SqT K H a xs) (hs : ∀ i x σ H, xs[i]? = some x → Pv i σ H → g x σ H fun σ2 H2 => tb ⟨Pv (i + 1), rt, nx, Pv (i + 1)⟩ σ2 H2)
    (hd : ∀ σ H, Pv xs.length σ H → nx σ H) : FR (Itt K a) g tb ⟨nx, rt, bk, ct⟩ σ H := for_tup Pv h0 hl hs hd
theorem fr_str {x : Str} (Pv : Nat → L2.St → Hp → Prop) (h0 : Pv 0 σ H) (hs : ∀ i c σ H, x.cps[i]? = some c → Pv i σ H → g (.str ⟨#[c]⟩) σ H fun σ2 H2 => tb ⟨Pv (i + 1), rt, nx, Pv (i + 1)⟩ σ2 H2)
    (hd : ∀ σ H, Pv x.cps.size σ H → nx σ H) : FR (Its x) g tb ⟨nx, rt, bk, ct⟩ σ H := by
  refine ⟨fun i m σ H => m = x.cps.size - i ∧ i ≤ x.cps.size ∧ Pv i σ H, ⟨x.cps.size, by simp, Nat.zero_le _, h0⟩, ?_⟩
  rintro i m σ H ⟨rfl, hi, p⟩
  by_cases hlt : i < x.cps.size
  · refine .inr ⟨hlt, Pv (i + 1), fun σ' H' p' => ⟨x.cps.size - (i + 1), by omega, rfl, hlt, p'⟩, fun y H' z => ?_⟩
    obtain ⟨e, c, hc, e2⟩ := z
    subst e e2
    exact hs i c σ _ hc p
  · have e : i = x.cps.size := by omega
    subst e
    exact .inl ⟨Nat.le_refl _, hd σ H p⟩
def LCW (J : It) (g : TG) (tt : TT) (te : TE) (vs : List Nat) (σ : L2.St) (H1 : Hp) (Q : VK) : Prop := ∀ D, H1 D = none → ∃ W : Nat → Nat → Hp → Prop, (∃ m, W 0 m (upd H1 D (.lst []))) ∧ ∀ i m H, W i m H →
  (J.stop i H ∧ Q (.ref D) H) ∨ (J.go i H ∧ ∃ Nx : Hp → Prop, (∀ H', Nx H' → ∃ m', m' < m ∧ W (i + 1) m' H') ∧ ∀ x H', J.yld i H x H' → g x (wipe σ vs) H' fun σ2 H2 => wipe σ2 vs = wipe σ vs ∧ tt σ2 H2 fun b H3 =>
    if b = true then te σ2 H3 fun y H4 => ∃ acc, H4 D = some (.lst acc) ∧ acc.length < sizeLine ∧ Nx (upd H4 D (.lst (acc ++ [y]))) else Nx H3)
variable {vs : List Nat}
theorem r_lc1 (h : tl σ H fun us H1 => ∃ j : Int, us = [.int j] ∧ -(2 ^ 62) ≤ j ∧ j < 2 ^ 62 ∧ LCW (Itr 0 j.toNat) g tt te vs σ H1 Q) : tLc (iRng1 tl) g tt te vs σ H Q := h
theorem r_lc2 (h : tl σ H fun us H1 => ∃ i j : Int, us = [.int i, .int j] ∧ (-(2 ^ 62) ≤ i ∧ i < 2 ^ 62 ∧ -(2 ^ 62) ≤ j ∧ j < 2 ^ 62) ∧ LCW (Itr i (j - i).toNat) g tt te vs σ H1 Q) : tLc (iRng2 tl) g tt te vs σ H Q := h
theorem r_lcL (h : ta σ H fun x H1 => ∃ a, x = .ref a ∧ (∃ xs, SqL K H1 a xs) ∧ LCW (Itl K a) g tt te vs σ H1 Q) : tLc (iList K ta) g tt te vs σ H Q := h
theorem r_lcT (h : ta σ H fun x H1 => ∃ a, x = .ref a ∧ (∃ xs, SqT K H1 a xs) ∧ LCW (Itt K a) g tt te vs σ H1 Q) : tLc (iTup K ta) g tt te vs σ H Q := h
theorem r_lcS (h : ta σ H fun v H1 => ∃ x, v = .str x ∧ LCW (Its x) g tt te vs σ H1 Q) : tLc (iStr ta) g tt te vs σ H Q := h
theorem lw_range {lo : Int} {n : Nat} (Pv : Addr → Nat → Hp → Prop) (h0 : ∀ D, H D = none → Pv D 0 (upd H D (.lst [])))
    (hs : ∀ D, H D = none → ∀ i H, i < n → Pv D i H → g (.int (lo + i)) (wipe σ vs) H fun σ2 H2 => wipe σ2 vs = wipe σ vs ∧ tt σ2 H2 fun b H3 =>
      if b = true then te σ2 H3 fun y H4 => ∃ acc, H4 D = some (.lst acc) ∧ acc.length < sizeLine ∧ Pv D (i + 1) (upd H4 D (.lst (acc ++ [y]))) else Pv D (i + 1) H3) (hd : ∀ D, H D = none → ∀ H, Pv D n H → Q (.ref D) H) : LCW (Itr lo n) g tt te vs σ H Q :=
  fun D hD => lc_range (Pv D) (h0 D hD) (hs D hD) (hd D hD)
theorem lw_list {a : Addr} {xs : List V} (Pv : Addr → Nat → Hp → Prop) (h0 : ∀ D, H D = none → Pv D 0 (upd H D (.lst []))) (hl : ∀ D, H D = none → ∀ i H, i ≤ xs.length → Pv D i H → SqL K H a xs)
    (hs : ∀ D, H D = none → ∀ i x H, xs[i]? = some x → Pv D i H → g x (wipe σ vs) H fun σ2 H2 => wipe σ2 vs = wipe σ vs ∧ tt σ2 H2 fun b H3 =>
      if b = true then te σ2 H3 fun y H4 => ∃ acc, H4 D = some (.lst acc) ∧ acc.length < sizeLine ∧ Pv D (i + 1) (upd H4 D (.lst (acc ++ [y]))) else Pv D (i + 1) H3) (hd : ∀ D, H D = none → ∀ H, Pv D xs.length H → Q (.ref D) H) : LCW (Itl K a) g tt te vs σ H Q :=
  fun D hD => lc_list (Pv D) (h0 D hD) (hl D hD) (hs D hD) (hd D hD)
theorem lw_tup {a : Addr} {xs : List V} (Pv : Addr → Nat → Hp → Prop) (h0 : ∀ D, H D = none → Pv D 0 (upd H D (.lst []))) (hl : ∀ D, H D = none → ∀ i H, i ≤ xs.length → Pv D i H → SqT K H a xs)
    (hs : ∀ D, H D = none → ∀ i x H, xs[i]? = some x → Pv D i H → g x (wipe σ vs) H fun σ2 H2 => wipe σ2 vs = wipe σ vs ∧ tt σ2 H2 fun b H3 =>
      if b = true then te σ2 H3 fun y H4 => ∃ acc, H4 D = some (.lst acc) ∧ acc.length < sizeLine ∧ Pv D (i + 1) (upd H4 D (.lst (acc ++ [y]))) else Pv D (i + 1) H3) (hd : ∀ D, H D = none → ∀ H, Pv D xs.length H → Q (.ref D) H) : LCW (Itt K a) g tt te vs σ H Q :=
  fun D hD => lc_tup (Pv D) (h0 D hD) (hl D hD) (hs D hD) (hd D hD)
theorem r_while {c : TT} (W : Nat → L2.St → Hp → Prop) (m : Nat) (w0 : W m σ H) (hs : ∀ m σ H, W m σ H → c σ H fun b H1 => if b = true then ∃ N : L2.St → Hp → Prop, (∀ σ' H', N σ' H' → ∃ m', m' < m ∧ W m' σ' H') ∧ tb ⟨N, rt, nx, N⟩ σ H1 else nx σ H1) : tWhile c tb ⟨nx, rt, bk, ct⟩ σ H := ⟨W, ⟨m, w0⟩, hs⟩
theorem r_yes {Q : Bool → Hp → Prop} (h : Q true H) : tYes σ H Q := h
theorem r_wh {c : TT} {D : Ends} (h : tWhile c tb D σ H) : tWhile c tb D σ H := h
end
/-! ### heaps -/
theorem same_new {H : Hp} {p : Addr} {o : HO} (h : H p = none) : Same H (upd H p o) := fun b x e => by
  rw [upd_ne (ne_of_none e h)]; exact e
theorem same_mut {H H' : Hp} {p : Addr} {o : HO} (s : Same H H') (h : H p = none) : Same H (upd H' p o) := fun b x e => by
  rw [upd_ne (ne_of_none e h)]; exact s b x e
theorem same_tup {H H' : Hp} {p : Addr} {o : HO} (s : Same H H') (e : H p = some o) : H' p = some o := s p o e

/-- lists of ints, as data -/
theorem dpI {K : PySem.W.Frag} {H : Hp} : ∀ ns : List Int, DpAll K H (ns.map V.int) (ns.map PyData.int)
  | [] => .nil
  | n :: ns => .cons (.int n) (dpI ns)
theorem dpS {K : PySem.W.Frag} {H : Hp} : ∀ ns : List Str, DpAll K H (ns.map V.str) (ns.map PyData.str)
  | [] => .nil
  | n :: ns => .cons (.str n) (dpS ns)
theorem r_eqD {K : PySem.W.Frag} {H : Hp} {Q : VK} {x y : V} {d e : PyData} (hx : Dp K H x d) (hy : Dp K H y e) (h1 : SeqAt.shaped d = true) (h2 : SeqAt.shaped e = true) (h : Q (.bl (PyData.eqv d e)) H) : rEqD K x y H Q := ⟨d, e, hx, hy, h1, h2, h⟩
theorem r_neD {K : PySem.W.Frag} {H : Hp} {Q : VK} {x y : V} {d e : PyData} (hx : Dp K H x d) (hy : Dp K H y e) (h1 : SeqAt.shaped d = true) (h2 : SeqAt.shaped e = true) (h : Q (.bl (!PyData.eqv d e)) H) : rNeD K x y H Q := ⟨d, e, hx, hy, h1, h2, h⟩
theorem kit_self {K : PySem.W.Frag} {t : Value} : PySem.W.kitOne K t t = some true := if_pos (beq_self_eq_true t)
/-- a list of three ints -/
def Dice (H : Hp) (d : Addr) : Prop := ∃ x y z : Int, H d = some (.lst [.int x, .int y, .int z])
/-- all but the dice at d stands as it stood -/
structure Kp (d : Addr) (H H' : Hp) : Prop where
  k : ∀ b o, b ≠ d → H b = some o → H' b = some o
  d0 : Dice H d
  d1 : Dice H' d
theorem Kp.refl {d : Addr} {H : Hp} (h : Dice H d) : Kp d H H := ⟨fun _ _ _ e => e, h, h⟩
theorem Kp.trans {d : Addr} {H H1 H2 : Hp} (a : Kp d H H1) (b : Kp d H1 H2) : Kp d H H2 := ⟨fun c o n e => b.k c o n (a.k c o n e), a.d0, b.d1⟩
theorem Kp.same {d : Addr} {H H1 H2 : Hp} (a : Kp d H H1) (b : Same H1 H2) : Kp d H H2 := ⟨fun c o n e => b c o (a.k c o n e), a.d0, let ⟨x, y, z, h⟩ := a.d1; ⟨x, y, z, b _ _ h⟩⟩
theorem Kp.of {d : Addr} {H H1 : Hp} (h : Dice H d) (b : Same H H1) : Kp d H H1 := (Kp.refl h).same b
theorem Kp.put {d : Addr} {H : Hp} {x y z : Int} (h : Dice H d) : Kp d H (upd H d (.lst [.int x, .int y, .int z])) := ⟨fun b o n e => by rw [upd_ne n]; exact e, h, ⟨x, y, z, upd_same⟩⟩
theorem Kp.put' {d : Addr} {H H1 : Hp} {x y z : Int} (a : Kp d H H1) : Kp d H (upd H1 d (.lst [.int x, .int y, .int z])) := a.trans (Kp.put a.d1)
theorem Kp.tup {d : Addr} {H H1 : Hp} (a : Kp d H H1) {p : Addr} {xs : List V} (e : H p = some (.tup xs)) : H1 p = some (.tup xs) := a.k p _ (by
  obtain ⟨x, y, z, h⟩ := a.d0
  exact ne_of e h (fun q => nomatch q)) e
theorem Kp.ins {d : Addr} {H H1 : Hp} (a : Kp d H H1) {p C dx : Addr} {fs : List (Str × V)} (e : H p = some (.ins C dx fs)) : H1 p = some (.ins C dx fs) := a.k p _ (by
  obtain ⟨x, y, z, h⟩ := a.d0
  exact ne_of e h (fun q => nomatch q)) e
theorem Kp.free {d : Addr} {H H1 : Hp} (a : Kp d H H1) {p : Addr} (e : H1 p = none) : H p = none := by
  cases q : H p with
  | none => rfl
  | some o =>
    by_cases h : p = d
    · obtain ⟨x, y, z, h'⟩ := a.d1
      rw [h, h'] at e; cases e
    · rw [a.k p o h q] at e; cases e
theorem Kp.new {d : Addr} {H H1 : Hp} (a : Kp d H H1) {p : Addr} {o : HO} (e : H1 p = none) : Kp d H (upd H1 p o) := a.same (same_new e)
theorem Kp.mut {d : Addr} {H H1 : Hp} (a : Kp d H H1) {p : Addr} {o : HO} (e : H p = none) : Kp d H (upd H1 p o) := ⟨fun b x n q => by
    rw [upd_ne (ne_of_none q e)]; exact a.k b x n q, a.d0, by
    obtain ⟨x, y, z, h⟩ := a.d0
    obtain ⟨x', y', z', h'⟩ := a.d1
    exact ⟨x', y', z', by rw [upd_ne (ne_of_none h e)]; exact h'⟩⟩
end Sx

/-! Sy: more steps: texts times numbers, a text's letters as a list, tuples gone through by number. -/
namespace Sy
open PySem PySem.Spec PyProof.Rows L2 Sx
open Sem (wp)
theorem bt_enumerate : bootBuiltins "enumerate" = some (.type "enumerate") := by decide +kernel
/-! ### text * number -/
def times (a : Str) (n : Nat) : Str := ⟨(List.replicate n a.cps).foldl (· ++ ·) #[]⟩
theorem times_one (a : Str) : times a 1 = a := by
  unfold times; simp [List.replicate]
def qMulS : R2 := fun x y H Q => ∃ (a : Str) (n : Int), x = .str a ∧ y = .int n ∧ 0 < a.length ∧ a.length ≤ 1000 ∧ 1 ≤ n ∧ n ≤ 1000 ∧ Q (.str (times a n.toNat)) H
theorem times_len (a : Str) (n : Nat) : (times a n).length = n * a.length := by
  have h : ∀ (l : List (Array Nat)) (z : Array Nat), (l.foldl (· ++ ·) z).size = z.size + (l.map Array.size).sum := by
    intro l
    induction l with
    | nil => intro z; simp
    | cons x l ih => intro z; rw [List.foldl_cons, ih, Array.size_append, List.map_cons, List.sum_cons]; omega
  show ((List.replicate n a.cps).foldl (· ++ ·) #[]).size = n * a.cps.size
  rw [h]; simp
section
variable {X : Cx}
theorem op_strmul : OpR X (binaryOp .Mult) qMulS := by
  intro pins s σ H x y v u Q I rx ry h
  obtain ⟨a, n, rfl, rfl, a0, a1, n0, n1, q⟩ := h
  obtain ⟨t, rfl⟩ := rx
  obtain ⟨t', rfl⟩ := ry
  have m1 : ((a.length : Int)) ≤ 1000 := by omega
  have big : (1000 : Int) ≤ (2 ^ 63 - 1) / n := by
    rw [Int.le_ediv_iff_mul_le (by omega)]
    exact Int.le_trans (Int.mul_le_mul_of_nonneg_left n1 (by decide)) (by decide)
  refine P.mul_str ?_ (fun _ _ => by omega) (fun _ _ => ?_) ?_
  · rw [decide_eq_false (by omega), decide_eq_false (by omega)]; rfl
  · show decide (_ > _) = false
    have m2 : a.length * n.toNat ≤ 1000 * 1000 := Nat.mul_le_mul a1 (by omega)
    exact decide_eq_false (Nat.not_lt.mpr (Nat.le_trans m2 (by rw [sizeLine_eq]; decide)))
  · rw [if_neg (by omega)]
    by_cases e : (n == 1 || a.length == 0) = true
    · rw [if_pos e]
      have e1 : n = 1 := by
        rw [Bool.or_eq_true, beq_iff_eq, beq_iff_eq] at e
        omega
      subst e1
      rw [show ((1 : Int).toNat) = 1 from rfl, times_one] at q
      exact ⟨.str a, H, I, ⟨t, rfl⟩, q⟩
    · rw [if_neg e]
      refine ⟨?_, .str (times a n.toNat), H, I.tok _, ⟨_, rfl⟩, q⟩
      have m2 : n.toNat * a.length ≤ 1000 * 1000 := Nat.mul_le_mul (by omega) a1
      have l := times_len a n.toNat
      unfold times at l
      rw [l, sizeLine_eq]; omega
theorem r_mulS {a : Str} {n : Int} {H : Hp} {Q : VK} (h : Q (.str (times a n.toNat)) H) (a0 : 0 < a.length ∧ a.length ≤ 1000) (n0 : 1 ≤ n ∧ n ≤ 1000) : qMulS (.str a) (.int n) H Q := ⟨a, n, rfl, rfl, a0.1, a0.2, n0.1, n0.2, h⟩
/-! ### list(text) -/
def letters (a : Str) : List V := a.cps.toList.map fun c => V.str ⟨#[c]⟩
def qListS : List V → Hp → VK → Prop := fun xs H Q => ∃ a : Str, xs = [.str a] ∧ a.length ≤ 100000 ∧ ∀ l, H l = none → Q (.ref l) (upd H l (.lst (letters a)))
theorem letters_vals {a : Str} {its : Array Value} (h : ItemsOf (SignAt a) its a.cps.size) : Vals (letters a) its.toList := by
  obtain ⟨hs, hi⟩ := h
  have main : ∀ (cs : List Nat) (vs : List Value), cs.length = vs.length → (∀ (j : Nat) (v : Value), vs[j]? = some v → ∃ (c : Nat) (u : Tok), cs[j]? = some c ∧ v = Value.str ⟨#[c]⟩ u) → Vals (cs.map fun c => V.str ⟨#[c]⟩) vs := by
    intro cs
    induction cs with
    | nil => intro vs hl _; cases vs with
      | nil => exact .nil
      | cons _ _ => cases hl
    | cons c cs ih => intro vs hl hv; cases vs with
      | nil => cases hl
      | cons v vs =>
        refine .cons ?_ (ih vs (Nat.succ.inj hl) fun j w hw => hv (j + 1) w hw)
        obtain ⟨c', u, e, rfl⟩ := hv 0 v rfl
        cases e
        exact ⟨u, rfl⟩
  refine main _ _ (by rw [Array.length_toList, Array.length_toList, hs]) fun j v hj => ?_
  rw [Array.getElem?_toList] at hj
  obtain ⟨c, u, e, rfl⟩ := hi j v hj
  exact ⟨c, u, by rw [Array.getElem?_toList]; exact e, rfl⟩
theorem letters_len (a : Str) : (letters a).length = a.length := by
  unfold letters; rw [List.length_map, Array.length_toList]; rfl
theorem call_list_str (hc : X.calm = true) : CallR X (.type "list") qListS := by
  intro pins s σ H xs us Q I r h
  obtain ⟨a, rfl, hl, q⟩ := h
  obtain ⟨u, rfl, rx⟩ := vals1 r
  obtain ⟨t, rfl⟩ := rx
  have big : a.length ≤ sizeLine := by rw [sizeLine_eq]; omega
  refine PySem.call_list_str (I.ok.hd hc) a t (hn := big) ?_
  intro h2 tk acc room keep got its
  refine ⟨.ref s.heap.objs.size, upd H s.heap.objs.size (.lst (letters a)), ?_, rfl, q _ (I.hok.fresh (Nat.le_refl _))⟩
  refine I.laid keep (Nat.le_refl _) ?_
  exact ⟨by rw [letters_len]; exact big, acc.toList, room, letters_vals its, got⟩
theorem r_listS {a : Str} {H : Hp} {Q : VK} (h : ∀ l, H l = none → Q (.ref l) (upd H l (.lst (letters a)))) (hl : a.length ≤ 100000) : qListS [.str a] H Q := ⟨a, rfl, hl, h⟩
end

/-! ### enumerate(tuple) -/
section
variable {P : Program} {w : World} {K : PySem.W.Frag}
/-- the tuple at a, each item behind its number in a new pair -/
def Itn (K : PySem.W.Frag) (a : Addr) : It :=
  ⟨fun i H => ∃ ys z, SqT K H a ys ∧ ys[i]? = some z,
   fun i H v H2 => ∃ p z, v = V.ref p ∧ H p = none ∧ H2 = upd H p (.tup [.int (i : Nat), z]) ∧ (∀ ys, SqT K H a ys → ys[i]? = some z),
   fun i H => ∃ ys : List V, SqT K H a ys ∧ ys.length = i⟩
theorem turn_number {tgs : List Expr} {q : Nat} {at' : Pos} (a en it : Addr) :
    Turn P w K (.Tuple tgs q at') (Itn K a) [en, it] en (fun i g => (∃ last, IsEnum g en it ((i : Nat) : Int) last) ∧ g.IsTupleIter it a i ∧ en ≠ it) where
  mem := List.mem_cons_self ..
  obj := fun i g ⟨⟨last, x1⟩, x2, _⟩ b m => by
    rcases List.mem_cons.mp m with rfl | m
    · exact ⟨_, x1, nofun⟩
    · cases List.mem_singleton.mp m
      obtain ⟨ob, y1, y2, y3⟩ := x2
      exact ⟨ob, y1, fun v z => by rw [y3] at z; exact nomatch z⟩
  keep := fun i g g' ⟨⟨last, x1⟩, x2, x3⟩ same => ⟨⟨last, same en (List.mem_cons_self ..) _ x1⟩, x2.at fun ob z => same it (by simp) ob z, x3⟩
  item := by
    rintro X rfl rfl rfl calm i pins s σ H E I free ⟨⟨last, x1⟩, x2, apart⟩ ⟨ys, z, at1, at2⟩
    obtain ⟨vs, rel, tp, _⟩ := I.tuple at1
    have tp' : s.heap.IsTuple a vs.toArray := tp
    obtain ⟨u, hu, ru⟩ := rel.get at2
    have lt : i < vs.toArray.size := by
      obtain ⟨q1, _⟩ := List.getElem?_eq_some_iff.mp hu
      rw [List.size_toArray]; exact q1
    have hdif : ∀ c : Addr, (∃ ob, s.heap.get? c = some ob ∧ ob.cls ≠ .type "tuple") → a ≠ c := by
      rintro c ⟨ob, y1, y2⟩ rfl
      obtain ⟨ob2, y4, y5, _⟩ := tp'
      rw [y1] at y4; cases y4
      exact y2 y5
    have below : ∀ b ∈ [en, it], b < s.heap.objs.size := fun b m => by
      rcases List.mem_cons.mp m with rfl | m
      · exact Heap.lt_size x1
      · cases List.mem_singleton.mp m
        obtain ⟨ob, y1, _⟩ := x2
        exact Heap.lt_size y1
    have dif : a ≠ it := by
      obtain ⟨ob, y1, y2, _⟩ := x2
      exact hdif it ⟨ob, y1, by rw [y2]; decide⟩
    have dif2 : en ∉ [it, a] := by
      intro z
      rcases List.mem_cons.mp z with z | z
      · exact apart z
      · exact hdif en ⟨_, x1, fun z => absurd (show Value.type "enumerate" = Value.type "tuple" from z) (by decide)⟩ (List.mem_singleton.mp z).symm
    have drawn := Draws.tuple (prog := X.prog) (w := X.w) (A := X.A.in1) (I.ok.hd calm) it a dif vs.toArray
    refine wpAny_pyNext_enum_itemD drawn x1 ⟨x2, tp'⟩ lt apart dif2 ?_
    rintro w1 g1 k1 pw out ⟨it1, tp1⟩ new1 size1 others
    have ew : w1 = u := by
      have e1 : vs.toArray[i]? = some w1 := pw
      rw [List.getElem?_toArray, hu] at e1
      exact (Option.some.inj e1).symm
    subst ew
    refine ⟨_, rfl, wpAny_letOwnedTupleGo_enum (s := { s with heap := g1, toks := k1 + 1 }) out fun g2 en2 but => ?_⟩
    have far : s.heap.objs.size ≠ en := Nat.ne_of_gt (below en (List.mem_cons_self ..))
    have new2 := (but.2 _ far).trans new1
    have I2 : Inv X pins σ (upd H s.heap.objs.size (.tup [.int (i : Nat), z])) { s with heap := g2, toks := k1 + 1 } := by
      refine I.turnedNew (ch := [en, it]) ?_ free (Nat.le_refl _) ?_
      · intro b ob m y
        exact (but.2 b fun e => m (e ▸ List.mem_cons_self ..)).trans (others b ob (fun e => m (e ▸ List.mem_cons_self ..)) (fun e => m (by rw [e]; simp)) y)
      · exact ⟨by rw [sizeLine_eq]; exact (by decide : 2 ≤ 16777216), _, .cons ⟨k1, rfl⟩ (.cons ru .nil), _, new2, rfl, _, rfl⟩
    refine ⟨.ref s.heap.objs.size, _, I2, rfl, ⟨_, z, rfl, I.hok.fresh (Nat.le_refl _), rfl, fun zs hz => ?_⟩, ⟨⟨w1, ?_⟩, it1.at fun ob y => (but.2 it (Ne.symm apart)).trans y, apart⟩, fun b m => ?_⟩
    · rw [I.tuple_inj hz at1]; exact at2
    · rw [Int.natCast_add]; exact en2
    · rw [upd_ne (Nat.ne_of_lt (below b m))]
      exact (free b m).1
  done := by
    rintro X rfl rfl rfl calm i pins s σ H E I free ⟨⟨last, x1⟩, x2, apart⟩ ⟨ys, at1, rfl⟩
    obtain ⟨vs, rel, tp, _⟩ := I.tuple at1
    have tp' : s.heap.IsTuple a vs.toArray := tp
    have dif : a ≠ it := by
      rintro rfl
      obtain ⟨ob, y1, y2, _⟩ := x2
      obtain ⟨ob2, y4, y5, _⟩ := tp'
      rw [y1] at y4; cases y4
      rw [y2] at y5; exact absurd y5 (by decide)
    have drawn := Draws.tuple (prog := X.prog) (w := X.w) (A := X.A.in1) (I.ok.hd calm) it a dif vs.toArray
    have size1 : ys.length = vs.toArray.size := by rw [List.size_toArray]; exact rel.length
    obtain ⟨f0, f1, f2, f3, f4, f5⟩ := free it (by simp)
    refine wpAny_pyNext_enum_endD drawn x1 ⟨size1 ▸ x2, tp'⟩ fun g ext => ⟨rfl, ?_⟩
    exact I.turned (t' := s.toks) (fun b ob m y => ext b ob m y) f0 f1 f3 f4 f5
  self := fun A i s Q E ⟨⟨_, x1⟩, _⟩ h => wpAny_pyIter_enum x1 h
def iNum (K : PySem.W.Frag) (ta : TA) : TI := fun σ H R => ta σ H fun vs H1 => ∃ a ys, vs = [V.ref a] ∧ SqT K H1 a ys ∧ R (Itn K a) H1
theorem walk_num {a : Addr} {ys : List V} : Walk (Itn K a) ys.length (fun H => SqT K H a ys) (YPair (fun i => some (.int (i : Nat))) (fun i => ys[i]?)) := by
  constructor
  · intro i H hi q; exact ⟨ys, ys[i], q, List.getElem?_eq_getElem hi⟩
  · intro H q; exact ⟨ys, q, rfl⟩
  · rintro i H v H2 _ q ⟨p, z, rfl, h1, h2, h3⟩
    exact ⟨p, .int (i : Nat), z, rfl, h1, h2, rfl, h3 ys q⟩
end
set_option maxHeartbeats 1000000 in
theorem meets_number {v : Value} {ob : Obj} {G : Heap → Prop} (B : Begins v ob G) :
    Meets (Builtin.«enumerate.__new__» ⟨[.type "enumerate", v], []⟩) (fun _ R s => G s.heap ∧
      R (.ok (.ret (.ref (s.heap.push ob).objs.size))) { s with heap := (s.heap.push ob).push { cls := .type "enumerate", data := .fields #[.none, .bool false, .ref s.heap.objs.size, rawInt 0, .none, .none] } }) := by
  refine Meets.of_wp fun prog w A R st hh => ?_
  obtain ⟨hp, gl, dp, tk, ext⟩ := st
  obtain ⟨hG, hR⟩ := hh
  have kin := sub_enumerate
  have begin' : ∀ {A2 : Around} {E2 : Value → Shared → Prop} {Q2 : Value → Shared → Prop}, Q2 (.ref hp.objs.size) ⟨hp.push ob, gl, dp, tk, ext⟩ → wpAny (model prog w) A2 (pyIter v) Q2 E2 ⟨hp, gl, dp, tk, ext⟩ := by
    intro A2 E2 Q2 q2
    exact B.iter prog w A2 E2 ⟨hp, gl, dp, tk, ext⟩ Q2 hG q2
  wp_walk using begin'
  apply wpAny_stack_any
  intro stk
  apply wpAny_pure
  split
  · rename_i c _ _ _ _ _
    cases (c == Value.type "enumerate") <;> (wp_walk using begin'; exact ⟨_, rfl, hR⟩)
  · wp_walk using begin'
    exact ⟨_, rfl, hR⟩
section
variable {X : Cx}
theorem pi_enumT {e : Expr} {ta : TA} {p pos tpos : Pos} {tgs : List Expr} {q : Nat} (hg : Gl X "enumerate") (hm : X.mg "enumerate" = none) (ha : PA X [e] ta) (na : starEach [e] X.env = [(false, eval e X.env)] := by rfl) :
    PI X (.Tuple tgs q tpos) (.Call (.Name "enumerate" p) [e] [] pos) (iNum X.K ta) := by
  constructor
  intro pins s σ H R I h
  refine Call_ (ld_blt I hg hm bt_enumerate (PyProof.Rows.callWith_type1 (thn (ha.run pos pins s σ H _ I h) ?_) na rfl))
  rintro us s1 ⟨vs, H1, I1, r1, a, ys, rfl, hq, next⟩
  obtain ⟨u, rfl, rx⟩ := vals1 r1
  obtain rfl : u = .ref a := rx
  obtain ⟨its, rel, tp, _⟩ := I1.tuple hq
  have tp' : s1.heap.IsTuple a its.toArray := tp
  have B := begins_tuple a its.toArray
  refine callType_new F.called_enumerate (by decide) (F.typeCall_enumerate_1 _) (F.newCall_enumerate_1 _) (fun ob => F.args_object_init_2 ob _) F.entry_enumerate_new (meets_number B) ⟨tp', ?_⟩
  let t1 := s1.heap.push { cls := .type "tuple_iterator", data := .fields #[.ref a, .int 0 0] }
  have n1 : t1.objs.size = s1.heap.objs.size + 1 := Heap.size_push ..
  show _ ∧ _
  rw [n1]
  have x1 : IsEnum (t1.push { cls := .type "enumerate", data := .fields #[.none, .bool false, .ref s1.heap.objs.size, rawInt 0, .none, .none] }) (s1.heap.objs.size + 1) s1.heap.objs.size 0 .none := by
    have z := Heap.get?_push_size t1 (o := { cls := .type "enumerate", data := .fields #[.none, .bool false, .ref s1.heap.objs.size, rawInt 0, .none, .none] }) rfl
    rw [n1] at z; exact z
  have same : ∀ b ob, s1.heap.get? b = some ob → (t1.push { cls := .type "enumerate", data := .fields #[.none, .bool false, .ref s1.heap.objs.size, rawInt 0, .none, .none] }).get? b = some ob :=
    fun b ob z => Heap.get?_push_of_some _ (Heap.get?_push_of_some _ z)
  refine ⟨⟨_, x1, rfl⟩, wpAny_pyIter_enum x1 ?_⟩
  have it1 : (t1.push { cls := .type "enumerate", data := .fields #[.none, .bool false, .ref s1.heap.objs.size, rawInt 0, .none, .none] }).IsTupleIter s1.heap.objs.size a 0 :=
    ⟨_, Heap.get?_push_of_some _ (Heap.get?_push_size _ rfl), rfl, rfl⟩
  refine ⟨s1.heap.objs.size + 1, [s1.heap.objs.size + 1, s1.heap.objs.size], _, Itn X.K a, H1, rfl, I1.kept (t' := s1.toks) same, turn_number a (s1.heap.objs.size + 1) s1.heap.objs.size, ⟨⟨.none, x1⟩, it1, Nat.succ_ne_self _⟩, ?_, next⟩
  intro b m
  have le : s1.heap.objs.size ≤ b := by
    rcases List.mem_cons.mp m with rfl | m
    · exact Nat.le_succ _
    · exact Nat.le_of_eq (List.mem_singleton.mp m).symm
  exact I1.fpOk le (I1.hok.fresh le)
end
/-! ### any walk, for loops and comprehensions -/
section
variable {σ : L2.St} {H : Hp} {nx bk ct : L2.St → Hp → Prop} {rt Q : VK} {te : TE} {tt : TT} {tb : TS} {tl : TA} {g : TG} {K : PySem.W.Frag} {J : It} {n : Nat} {G : Hp → Prop} {Y : Nat → Hp → V → Hp → Prop} {vs : List Nat}
theorem fr_it (w : Walk J n G Y) (Pv : Nat → L2.St → Hp → Prop) (h0 : Pv 0 σ H) (hG : ∀ i σ H, i ≤ n → Pv i σ H → G H)
    (hs : ∀ i x σ H H', i < n → Pv i σ H → Y i H x H' → g x σ H' fun σ2 H2 => tb ⟨Pv (i + 1), rt, nx, Pv (i + 1)⟩ σ2 H2) (hd : ∀ σ H, Pv n σ H → nx σ H) : FR J g tb ⟨nx, rt, bk, ct⟩ σ H := for_it w Pv h0 hG hs hd
theorem lw_it (w : Walk J n G Y) (Pv : Addr → Nat → Hp → Prop) (h0 : ∀ D, H D = none → Pv D 0 (upd H D (.lst []))) (hG : ∀ D, H D = none → ∀ i H, i ≤ n → Pv D i H → G H)
    (hs : ∀ D, H D = none → ∀ i x H H', i < n → Pv D i H → Y i H x H' → g x (wipe σ vs) H' fun σ2 H2 => wipe σ2 vs = wipe σ vs ∧ tt σ2 H2 fun b H3 =>
      if b = true then te σ2 H3 fun y H4 => ∃ acc, H4 D = some (.lst acc) ∧ acc.length < sizeLine ∧ Pv D (i + 1) (upd H4 D (.lst (acc ++ [y]))) else Pv D (i + 1) H3) (hd : ∀ D, H D = none → ∀ H, Pv D n H → Q (.ref D) H) : LCW J g tt te vs σ H Q :=
  fun D hD => lc_it w (Pv D) (h0 D hD) (hG D hD) (hs D hD) (hd D hD)
theorem r_lcN (h : tl σ H fun us H1 => ∃ a ys, us = [V.ref a] ∧ SqT K H1 a ys ∧ LCW (Itn K a) g tt te vs σ H1 Q) : tLc (iNum K tl) g tt te vs σ H Q := h
theorem r_forN {D : Ends} (h : tl σ H fun us H1 => ∃ a ys, us = [V.ref a] ∧ SqT K H1 a ys ∧ FR (Itn K a) g tb D σ H1) : tFor (iNum K tl) g tb D σ H := h
theorem r_lcE (h : tl σ H fun us H1 => ∃ a ys, us = [V.ref a] ∧ SqL K H1 a ys ∧ LCW (Ite K a) g tt te vs σ H1 Q) : tLc (iEnum K tl) g tt te vs σ H Q := h
theorem r_forE {D : Ends} (h : tl σ H fun us H1 => ∃ a ys, us = [V.ref a] ∧ SqL K H1 a ys ∧ FR (Ite K a) g tb D σ H1) : tFor (iEnum K tl) g tb D σ H := h
theorem r_seqN {a : Addr} {ys : List V} {Pr : Addr → Prop} (q : SqT K H a ys) (h : Pr a) : ∃ b zs, [V.ref a] = [V.ref b] ∧ SqT K H b zs ∧ Pr b := ⟨a, ys, rfl, q, h⟩
theorem r_seqE {a : Addr} {ys : List V} {Pr : Addr → Prop} (q : SqL K H a ys) (h : Pr a) : ∃ b zs, [V.ref a] = [V.ref b] ∧ SqL K H b zs ∧ Pr b := ⟨a, ys, rfl, q, h⟩
end
end Sy

/-! Mw: words of two letters: levels, turns, periods, the lowest places. -/
namespace Mw
open PySem PySem.Builtin PySem.Builtin.Str
open SX (S)
/-! ### texts -/
theorem cnt_count (c : Nat) : ∀ l : List Nat, PyProof.Rows.cnt c l = (l.count c : Nat)
  | [] => rfl
  | n :: l => by
    rw [PyProof.Rows.cnt_cons, cnt_count c l, List.count_cons]
    by_cases h : n = c
    · subst h; simp [Int.add_comm]
    · simp [h]
theorem count_S (a : List Nat) (c : Nat) : Txt.count (S a) ⟨#[c]⟩ = (a.count c : Nat) := by
  rw [PyProof.Rows.count_is]; exact cnt_count c a
theorem sub_iff (a b : List Nat) (i : Nat) : subAt (S a) (S b) i = true ↔ (a.drop i).take b.length = b := by
  unfold subAt
  rw [beq_iff_eq, SX.S_len]
  constructor
  · intro h
    have h2 := congrArg Array.toList h
    rw [Array.toList_extract] at h2
    simpa [List.extract_eq_take_drop] using h2
  · intro h
    apply Array.toList_inj.mp
    rw [Array.toList_extract]
    simpa [List.extract_eq_take_drop] using h
theorem full_run (s sub : Str) (hi limit : Nat) : ∀ (l : List Nat) (st : Array Nat × Nat), limit ≤ st.fst.size → (forIn l st (StrLaws.occBody s sub hi limit)).run.fst = st.fst
  | [], st, h => rfl
  | a :: l, st, h => by
    rw [List.forIn_cons]
    unfold StrLaws.occBody
    rw [if_neg (by omega)]
    exact full_run s sub hi limit l (st.fst, st.snd) h
theorem first_run (s sub : Str) (hi k : Nat) (hk : k + sub.length ≤ hi) (hs : subAt s sub k = true) : ∀ (m cur free : Nat), free ≤ cur → cur ≤ k → k < cur + m → (∀ j, cur ≤ j → j < k → subAt s sub j = false) →
    (forIn (List.range' cur m) ((#[] : Array Nat), free) (StrLaws.occBody s sub hi 1)).run.fst = #[k]
  | 0, cur, free, _, _, h, _ => by omega
  | m + 1, cur, free, hf, hc, h, hn => by
    rw [List.range'_succ, List.forIn_cons]
    unfold StrLaws.occBody
    by_cases e : cur = k
    · subst e
      rw [if_pos ⟨⟨⟨by simp, hf⟩, hk⟩, hs⟩]
      exact full_run s sub hi 1 _ (#[cur], _) (Nat.le_refl 1)
    · rw [if_neg (fun z => by rw [hn cur (Nat.le_refl _) (by omega)] at z; exact absurd z.2 Bool.false_ne_true)]
      exact first_run s sub hi k hk hs m (cur + 1) free (by omega) (by omega) (by omega) fun j h1 h2 => hn j (by omega) h2
theorem find3_S {a b : List Nat} {lo k : Nat} (h1 : lo ≤ k) (h2 : k + b.length ≤ a.length) (h3 : (a.drop k).take b.length = b) (h4 : ∀ j, lo ≤ j → j < k → (a.drop j).take b.length ≠ b) : Txt.find3 (S a) (S b) (lo : Int) = k := by
  have hl : (S a).length = a.length := SX.S_len a
  have hb : (S b).length = b.length := SX.S_len b
  unfold Txt.find3
  have hlo : fromIndex (S a).length (lo : Int) = lo := by
    unfold fromIndex; omega
  rw [hlo, StrLaws.occ_eq]
  rw [first_run (S a) (S b) _ k (by rw [hb, hl]; exact h2) ((sub_iff a b k).mpr h3) _ lo lo (Nat.le_refl _) h1 (by rw [hl]; omega) fun j h5 h6 => by
    cases e : subAt (S a) (S b) j with
    | false => rfl
    | true => exact absurd ((sub_iff a b j).mp e) (h4 j h5 h6)]
/-! ### turns -/
def rot (k : Nat) (l : List Nat) : List Nat := l.drop k ++ l.take k
theorem rot_len {k : Nat} {l : List Nat} : (rot k l).length = l.length := by
  unfold rot; rw [List.length_append, List.length_drop, List.length_take]; omega
theorem rot_count {k c : Nat} {l : List Nat} : (rot k l).count c = l.count c := by
  unfold rot
  rw [List.count_append, Nat.add_comm, ← List.count_append, List.take_append_drop]
theorem rot_full {l : List Nat} : rot l.length l = l := by unfold rot; simp
theorem rot_zero {l : List Nat} : rot 0 l = l := by unfold rot; simp
theorem twice {l : List Nat} {k : Nat} (h : k ≤ l.length) : ((l ++ l).drop k).take l.length = rot k l := by
  unfold rot
  rw [List.drop_append_of_le_length h, List.take_append, List.take_of_length_le (by rw [List.length_drop]; omega), List.length_drop]
  congr 2; omega
/-- the letter at i, all around -/
def ring (l : List Nat) (i : Nat) : Option Nat := l[i % l.length]?
theorem rot_get {l : List Nat} {k i : Nat} (hk : k ≤ l.length) (hi : i < l.length) : (rot k l)[i]? = ring l (i + k) := by
  unfold rot ring
  by_cases h : i < l.length - k
  · rw [List.getElem?_append_left (by rw [List.length_drop]; exact h), List.getElem?_drop, Nat.mod_eq_of_lt (by omega), Nat.add_comm]
  · rw [List.getElem?_append_right (by rw [List.length_drop]; omega), List.length_drop, List.getElem?_take, if_pos (by omega)]
    congr 1
    rw [Nat.mod_eq_sub_mod (by omega), Nat.mod_eq_of_lt (by omega)]; omega
theorem ring_mod {l : List Nat} {i : Nat} : ring l (i % l.length) = ring l i := by unfold ring; rw [Nat.mod_mod]
theorem ring_add {l : List Nat} {i : Nat} : ring l (i + l.length) = ring l i := by unfold ring; rw [Nat.add_mod_right]
/-- turned by j it is itself: all letters all around come again after j -/
theorem rot_iff {l : List Nat} {j : Nat} (hj : j ≤ l.length) : rot j l = l ↔ ∀ i, ring l (i + j) = ring l i := by
  constructor
  · intro h i
    rcases Nat.eq_zero_or_pos l.length with e | e
    · have : l = [] := List.length_eq_zero_iff.mp e
      subst this; rfl
    · have hm := Nat.mod_lt i e
      rw [← ring_mod (i := i)]
      have e1 : ring l (i + j) = ring l (i % l.length + j) := by unfold ring; rw [Nat.mod_add_mod]
      rw [e1, ← rot_get hj hm, h]
      unfold ring; rw [Nat.mod_mod]
  · intro h
    apply List.ext_getElem?
    intro i
    by_cases hi : i < l.length
    · rw [rot_get hj hi, h]; unfold ring; rw [Nat.mod_eq_of_lt hi]
    · rw [List.getElem?_eq_none (by rw [rot_len]; omega), List.getElem?_eq_none (by omega)]
theorem ring_rot {l : List Nat} {p : Nat} (hp : p ≤ l.length) (i : Nat) : ring (rot p l) i = ring l (i + p) := by
  rcases Nat.eq_zero_or_pos l.length with e | e
  · have : l = [] := List.length_eq_zero_iff.mp e
    subst this; simp [rot, ring]
  · have hm := Nat.mod_lt i e
    show (rot p l)[i % (rot p l).length]? = _
    rw [rot_len, rot_get hp hm]
    unfold ring; rw [Nat.mod_add_mod]
theorem rot_rot_iff {l : List Nat} {p j : Nat} (hp : p ≤ l.length) (hj : j ≤ l.length) : rot j (rot p l) = rot p l ↔ rot j l = l := by
  rw [rot_iff (by rw [rot_len]; exact hj), rot_iff hj]
  constructor
  · intro h i
    rcases Nat.eq_zero_or_pos l.length with e | e
    · have : l = [] := List.length_eq_zero_iff.mp e
      subst this; rfl
    · have h2 := h (i + (l.length - p))
      rw [ring_rot hp, ring_rot hp, show i + (l.length - p) + j + p = (i + j) + l.length by omega, show i + (l.length - p) + p = i + l.length by omega, ring_add, ring_add] at h2
      exact h2
  · intro h i
    rw [ring_rot hp, ring_rot hp, show i + j + p = (i + p) + j by omega]
    exact h _
/-- k is the least number of letters, at least 1, by which l is turned into itself -/
def IsPer (l : List Nat) (k : Nat) : Prop := 1 ≤ k ∧ k ≤ l.length ∧ rot k l = l ∧ ∀ j, 1 ≤ j → j < k → rot j l ≠ l
theorem IsPer.unique {l : List Nat} {j k : Nat} (h : IsPer l j) (h' : IsPer l k) : j = k := by
  rcases Nat.lt_trichotomy j k with z | z | z
  · exact absurd h.2.2.1 (h'.2.2.2 j h.1 z)
  · exact z
  · exact absurd h'.2.2.1 (h.2.2.2 k h'.1 z)
theorem least {p : Nat → Prop} : ∀ n, p n → ∃ k, k ≤ n ∧ p k ∧ ∀ j, j < k → ¬ p j := by
  intro n
  induction n using Nat.strongRecOn with
  | _ n ih =>
    intro h
    by_cases e : ∃ j, j < n ∧ p j
    · obtain ⟨j, h1, h2⟩ := e
      obtain ⟨k, h3, h4, h5⟩ := ih j h1 h2
      exact ⟨k, by omega, h4, h5⟩
    · exact ⟨n, Nat.le_refl _, h, fun j h1 h2 => e ⟨j, h1, h2⟩⟩
theorem per_exists {l : List Nat} (h : 0 < l.length) : ∃ k, IsPer l k := by
  obtain ⟨k, h1, ⟨h2, h3⟩, h4⟩ := least (p := fun k => 1 ≤ k ∧ rot k l = l) l.length ⟨h, rot_full⟩
  exact ⟨k, h2, h1, h3, fun j h5 h6 h7 => h4 j h6 ⟨h5, h7⟩⟩
theorem per_find {l : List Nat} {k : Nat} (h : IsPer l k) : Txt.find3 (S (l ++ l)) (S l) 1 = k := by
  refine find3_S (lo := 1) h.1 (by rw [List.length_append]; have := h.2.1; omega) ?_ ?_
  · rw [twice h.2.1]; exact h.2.2.1
  · intro j h1 h2
    rw [twice (by have := h.2.1; omega)]
    exact h.2.2.2 j h1 h2
theorem per_rot {l : List Nat} {p k : Nat} (hp : p ≤ l.length) (h : IsPer l k) : IsPer (rot p l) k := by
  refine ⟨h.1, by rw [rot_len]; exact h.2.1, (rot_rot_iff hp h.2.1).mpr h.2.2.1, fun j h1 h2 h3 => ?_⟩
  exact h.2.2.2 j h1 h2 ((rot_rot_iff hp (by have := h.2.1; omega)).mp h3)
theorem ring_mul {l : List Nat} {k : Nat} (h : ∀ i, ring l (i + k) = ring l i) : ∀ q i, ring l (i + k * q) = ring l i
  | 0, i => by rw [Nat.mul_zero, Nat.add_zero]
  | q + 1, i => by rw [Nat.mul_succ, ← Nat.add_assoc, h, ring_mul h q]
theorem per_dvd {l : List Nat} {k : Nat} (h : IsPer l k) : k ∣ l.length := by
  have hk := (rot_iff h.2.1).mp h.2.2.1
  apply Nat.dvd_of_mod_eq_zero
  rcases Nat.eq_zero_or_pos (l.length % k) with e | e
  · exact e
  · exfalso
    have hlt := Nat.mod_lt l.length h.1
    refine h.2.2.2 _ e hlt ((rot_iff (Nat.mod_le _ _)).mpr fun i => ?_)
    rw [← ring_mul hk (l.length / k), Nat.add_assoc, Nat.mod_add_div, ring_add]
/-- how many of the first m letters all around are c -/
def upto (l : List Nat) (c : Nat) : Nat → Nat
  | 0 => 0
  | m + 1 => upto l c m + if ring l m = some c then 1 else 0
theorem upto_take (l : List Nat) (c : Nat) : ∀ m, m ≤ l.length → upto l c m = (l.take m).count c
  | 0, _ => by simp [upto]
  | m + 1, h => by
    have hm : m < l.length := h
    rw [upto, upto_take l c m (by omega), List.take_add_one, List.count_append]
    unfold ring
    rw [Nat.mod_eq_of_lt hm, List.getElem?_eq_getElem hm]
    congr 1
    by_cases e : l[m] = c
    · simp [e]
    · simp [e]
theorem upto_add {l : List Nat} {c k : Nat} (h : ∀ i, ring l (i + k) = ring l i) : ∀ m, upto l c (m + k) = upto l c k + upto l c m
  | 0 => by rw [Nat.zero_add]; rfl
  | m + 1 => by
    rw [show m + 1 + k = (m + k) + 1 by omega, upto, upto_add h m, h, upto]; omega
theorem upto_mul {l : List Nat} {c k : Nat} (h : ∀ i, ring l (i + k) = ring l i) : ∀ q, upto l c (q * k) = q * upto l c k
  | 0 => by rw [Nat.zero_mul, Nat.zero_mul]; rfl
  | q + 1 => by rw [Nat.add_mul, Nat.one_mul, upto_add h, upto_mul h q, Nat.add_mul]; omega
theorem per_count {l : List Nat} {c k : Nat} (h : IsPer l k) : (l.length / k) ∣ l.count c := by
  have hk := (rot_iff h.2.1).mp h.2.2.1
  have e : upto l c l.length = l.count c := by rw [upto_take l c _ (Nat.le_refl _), List.take_length]
  obtain ⟨q, hq⟩ := per_dvd h
  rw [← e, hq, Nat.mul_div_cancel_left _ h.1, Nat.mul_comm k q, upto_mul hk]
  exact Nat.dvd_mul_right _ _
/-! ### levels -/
/-- the level behind all letters -/
def lev (a b : Nat) (l : List Nat) : Int := (b : Int) * (l.count 114 : Nat) - (a : Int) * (l.length - l.count 114 : Nat)
theorem lev_nil {a b : Nat} : lev a b [] = 0 := by simp [lev]
theorem cnt_le (l : List Nat) : l.count 114 ≤ l.length := List.count_le_length
theorem lev_append {a b : Nat} (u v : List Nat) : lev a b (u ++ v) = lev a b u + lev a b v := by
  have h1 := cnt_le u
  have h2 := cnt_le v
  unfold lev
  rw [List.count_append, List.length_append, Int.ofNat_sub (by omega), Int.ofNat_sub h1, Int.ofNat_sub h2]
  push_cast
  rw [Int.mul_add, Int.mul_sub, Int.mul_sub, Int.mul_sub, Int.mul_add, Int.mul_add]; omega
theorem lev_one {a b c : Nat} : lev a b [c] = if c = 114 then (b : Int) else -(a : Int) := by
  unfold lev
  by_cases h : c = 114
  · subst h; simp
  · simp [h]
theorem lev_snoc {a b c : Nat} {u : List Nat} : lev a b (u ++ [c]) = lev a b u + if c = 114 then (b : Int) else -(a : Int) := by rw [lev_append, lev_one]
theorem lev_take {a b c i : Nat} {l : List Nat} (h : l[i]? = some c) : lev a b (l.take (i + 1)) = lev a b (l.take i) + if c = 114 then (b : Int) else -(a : Int) := by
  rw [List.take_add_one, h]; exact lev_snoc
theorem lev_abs {a b : Nat} {l : List Nat} (ha : a ≤ 60) (hb : b ≤ 60) (hl : l.length ≤ 1000) : (lev a b l).natAbs ≤ 60000 := by
  have h1 := cnt_le l
  have h2 : b * l.count 114 ≤ 60 * 1000 := Nat.mul_le_mul hb (by omega)
  have h3 : a * (l.length - l.count 114) ≤ 60 * 1000 := Nat.mul_le_mul ha (by omega)
  unfold lev
  rw [← Int.natCast_mul, ← Int.natCast_mul]; omega
/-- the levels ahead of all letters -/
def lvs (a b : Nat) (l : List Nat) : List Int := (List.range l.length).map fun i => lev a b (l.take i)
theorem lvs_len {a b : Nat} {l : List Nat} : (lvs a b l).length = l.length := by unfold lvs; simp
theorem lvs_get {a b i : Nat} {l : List Nat} (h : i < l.length) : (lvs a b l)[i]? = some (lev a b (l.take i)) := by
  unfold lvs; rw [List.getElem?_map, List.getElem?_range h]; rfl
/-- a word of a rises and b steps -/
def Wd (a b : Nat) (l : List Nat) : Prop := l.count 114 = a ∧ l.count 115 = b ∧ l.length = a + b
theorem Wd.rot {a b k : Nat} {l : List Nat} (h : Wd a b l) : Wd a b (rot k l) := ⟨by rw [rot_count]; exact h.1, by rw [rot_count]; exact h.2.1, by rw [rot_len]; exact h.2.2⟩
theorem lev_word {a b : Nat} {l : List Nat} (h : Wd a b l) : lev a b l = 0 := by
  unfold lev
  rw [h.1, h.2.2, show a + b - a = b by omega, Int.mul_comm]; omega
/-- levels of the turned word -/
theorem lvs_rot {a b p : Nat} {l : List Nat} (h : Wd a b l) (hp : p < l.length) :
    lvs a b (rot p l) = ((lvs a b l).drop p ++ (lvs a b l).take p).map fun x => x - lev a b (l.take p) := by
  apply List.ext_getElem?
  intro i
  have split : lev a b l = lev a b (l.take p) + lev a b (l.drop p) := by rw [← lev_append, List.take_append_drop]
  rw [lev_word h] at split
  by_cases hi : i < l.length
  · rw [lvs_get (by rw [rot_len]; exact hi), List.getElem?_map]
    unfold rot
    by_cases h1 : i < l.length - p
    · rw [List.getElem?_append_left (by rw [List.length_drop, lvs_len]; exact h1), List.getElem?_drop, lvs_get (by omega), List.take_append_of_le_length (by rw [List.length_drop]; omega)]
      show some _ = some _
      congr 1
      rw [List.take_add, lev_append]
      show lev a b ((l.drop p).take i) = lev a b (l.take p) + lev a b ((l.drop p).take i) - lev a b (l.take p)
      omega
    · rw [List.getElem?_append_right (by rw [List.length_drop, lvs_len]; omega), List.length_drop, lvs_len, List.getElem?_take, if_pos (by omega), lvs_get (by omega), List.take_append, List.take_of_length_le (by rw [List.length_drop]; omega), List.length_drop, List.take_take, lev_append]
      show some _ = some _
      congr 1
      rw [Nat.min_eq_left (by omega)]
      show lev a b (l.drop p) + lev a b (l.take (i - (l.length - p))) = lev a b (l.take (i - (l.length - p))) - lev a b (l.take p)
      omega
  · rw [List.getElem?_eq_none (by rw [lvs_len, rot_len]; omega), List.getElem?_eq_none (by rw [List.length_map, List.length_append, List.length_drop, List.length_take, lvs_len]; omega)]
/-- the places with the level m -/
def places (m : Int) : List Int → List Nat := fun ns => (List.range ns.length).filter fun i => decide (ns.getD i 0 = m)
theorem places_step {m : Int} {ns : List Int} {i : Nat} : (List.range (i + 1)).filter (fun i => decide (ns.getD i 0 = m)) = (List.range i).filter (fun i => decide (ns.getD i 0 = m)) ++ if ns.getD i 0 = m then [i] else [] := by
  rw [List.range_succ, List.filter_append]
  congr 1
  rw [List.filter_cons]
  by_cases h : ns.getD i 0 = m
  · rw [if_pos (decide_eq_true h), if_pos h]; rfl
  · rw [if_neg (by rw [decide_eq_false h]; exact Bool.false_ne_true), if_neg h]; rfl
theorem min_unique {ns : List Int} {m k : Int} (h1 : m ∈ ns) (h2 : ∀ y, y ∈ ns → m ≤ y) (h3 : k ∈ ns) (h4 : ∀ y, y ∈ ns → k ≤ y) : m = k := by
  have := h2 k h3; have := h4 m h1; omega
end Mw
namespace Mw
open PySem PySem.Builtin PySem.Builtin.Str L2
open SX (S)
theorem lit_r : ("r" : Str) = ⟨#[114]⟩ := by decide +kernel
theorem lit_s : ("s" : Str) = ⟨#[115]⟩ := by decide +kernel
theorem is_r {c : Nat} : ((⟨#[c]⟩ : Str) = ("r" : Str)) ↔ c = 114 := by
  rw [lit_r]
  constructor
  · intro h
    have := congrArg (fun x : Str => x.cps.toList) h
    simpa using this
  · rintro rfl; rfl
theorem is_s {c : Nat} : ((⟨#[c]⟩ : Str) = ("s" : Str)) ↔ c = 115 := by
  rw [lit_s]
  constructor
  · intro h
    have := congrArg (fun x : Str => x.cps.toList) h
    simpa using this
  · rintro rfl; rfl
theorem cut_from {a : List Nat} {i : Int} (h : 0 ≤ i) : cutS (S a) (some i) none = S (a.drop i.toNat) := by rw [C8.cutS_slice, SX.slice_from h]
theorem cut_to {a : List Nat} {i : Int} (h : 0 ≤ i) : cutS (S a) none (some i) = S (a.take i.toNat) := by rw [C8.cutS_slice, SX.slice_to h]
theorem S_get {l : List Nat} {i : Nat} : (S l).cps[i]? = l[i]? := by simp [S]
theorem S_size {l : List Nat} : (S l).cps.size = l.length := by simp [S]
theorem S_eq {a b : List Nat} : (S a = S b) ↔ a = b := ⟨SX.S_inj, fun h => by rw [h]⟩
theorem ints_snoc {ns : List Int} {i : Nat} {x : Int} (h : ns[i]? = some x) : (ns.take (i + 1)).map V.int = (ns.take i).map V.int ++ [V.int x] := by
  rw [List.take_add_one, h, List.map_append]; rfl
theorem lvs_snoc {a b i : Nat} {l : List Nat} (h : i < l.length) : ((lvs a b l).take (i + 1)).map V.int = ((lvs a b l).take i).map V.int ++ [V.int (lev a b (l.take i))] := ints_snoc (lvs_get h)
theorem r_slS {z : Str} {lo hi : Option Int} {H : Hp} {Q : VK} (h : Q (.str (cutS z lo hi)) H) (hz : z.length ≤ sizeLine) : rSlS (.str z) lo hi H Q := ⟨z, rfl, hz, h⟩
theorem small_S {l : List Nat} (h : l.length ≤ 1000) : (S l).length ≤ sizeLine := by rw [SX.S_len, sizeLine_eq]; omega
theorem small2 {a b : List Nat} (h : a.length + b.length ≤ 2000) : (S a).length + (S b).length ≤ sizeLine := by rw [SX.S_len, SX.S_len, sizeLine_eq]; omega
end Mw
namespace Mw
open PySem PySem.Builtin PySem.Builtin.Str L2 Sx Sy
open SX (S)
theorem times_S (c n : Nat) : times (S [c]) n = S (List.replicate n c) := by
  have h : ∀ (n : Nat) (z : List Nat), (List.replicate n (#[c] : Array Nat)).foldl (· ++ ·) z.toArray = (z ++ List.replicate n c).toArray := by
    intro n
    induction n with
    | zero => intro z; simp
    | succ n ih =>
      intro z
      rw [List.replicate_succ, List.foldl_cons, show z.toArray ++ #[c] = (z ++ [c]).toArray by simp, ih, List.append_assoc, List.replicate_succ]; rfl
  have := h n []
  unfold times
  exact congrArg Str.mk this
theorem join_ones : ∀ l : List Nat, TL.joinL [] (l.map fun c => [c]) = l
  | [] => rfl
  | [c] => rfl
  | c :: d :: l => by
    show [c] ++ ([] ++ TL.joinL [] ((d :: l).map fun c => [c])) = _
    rw [join_ones (d :: l)]; rfl
theorem join_letters (l : List Nat) : Txt.join ("" : Str) (l.map fun c => (⟨#[c]⟩ : Str)) = S l := by
  have h := SX.join_S [] (l.map fun c => [c])
  rw [join_ones, List.map_map] at h
  exact h
theorem lens_ones (l : List Nat) : ((l.map fun c => (⟨#[c]⟩ : Str)).map (·.length)).sum = l.length := by
  rw [List.map_map]
  induction l with
  | nil => rfl
  | cons c l ih => rw [List.map_cons, List.sum_cons, ih, List.length_cons]; show 1 + _ = _; omega
theorem len_r : ("r" : Str).length = 1 := by decide +kernel
theorem len_s : ("s" : Str).length = 1 := by decide +kernel
theorem len_0 : ("" : Str).length = 0 := by decide +kernel
theorem wd_perm {a b : Nat} {l : List Nat} (h : l.Perm (List.replicate a 114 ++ List.replicate b 115)) : Wd a b l := by
  refine ⟨?_, ?_, ?_⟩
  · rw [h.count_eq]; simp [List.count_replicate]
  · rw [h.count_eq]; simp [List.count_replicate]
  · rw [h.length_eq]; simp
theorem r_pop {l : Addr} {xs : List V} {i : Int} {y : V} {H : Hp} {Q : VK} (hH : H l = some (.lst xs)) (h0 : 0 ≤ i) (h1 : i < xs.length) (h2 : xs.length ≤ 1000000) (hy : xs[i.toNat]? = some y) (h : Q y (upd H l (.lst (xs.eraseIdx i.toNat)))) : rPopAt (.ref l) [.int i] H Q := by
  refine ⟨l, xs, i, i.toNat, y, rfl, rfl, hH, by omega, by omega, ?_, hy, h⟩
  have e : (if i < 0 then i + (xs.length : Int) else i) = i := if_neg (by omega)
  unfold seqIndex?
  simp only [e]
  rw [if_pos (by rw [Bool.and_eq_true, decide_eq_true_iff, decide_eq_true_iff]; exact ⟨h0, h1⟩)]
theorem erase_map {α β : Type} (f : α → β) : ∀ (u : List α) (k : Nat), (u.map f).eraseIdx k = (u.eraseIdx k).map f
  | [], _ => rfl
  | x :: u, 0 => rfl
  | x :: u, k + 1 => by
    show f x :: (u.map f).eraseIdx k = f x :: (u.eraseIdx k).map f
    rw [erase_map f u k]
theorem pick_perm {α : Type} : ∀ (u : List α) (k : Nat) (hk : k < u.length), ([u[k]] ++ u.eraseIdx k).Perm u
  | x :: u, 0, _ => List.Perm.refl _
  | x :: u, k + 1, h => by
    have hk : k < u.length := Nat.lt_of_succ_lt_succ h
    have ih := pick_perm u k hk
    show (u[k] :: x :: u.eraseIdx k).Perm (x :: u)
    exact (List.Perm.swap x u[k] (u.eraseIdx k)).trans (List.Perm.cons x ih)
theorem perm_pick {α : Type} {v u cs : List α} {k : Nat} (hk : k < u.length) (h : (v ++ u).Perm cs) : ((v ++ [u[k]]) ++ u.eraseIdx k).Perm cs := by
  refine List.Perm.trans ?_ h
  rw [List.append_assoc]
  exact List.Perm.append_left v (pick_perm u k hk)
/-- the numbers up to i by which l is turned into itself -/
def cand (l : List Nat) (i : Nat) : List Int := ((List.range i).filter fun j => decide (rot (j + 1) l = l)).map fun j : Nat => (1 : Int) + j
theorem cand_yes {l : List Nat} {i : Nat} (h : rot (i + 1) l = l) : (cand l (i + 1)).map V.int = (cand l i).map V.int ++ [V.int ((1 : Int) + i)] := by
  unfold cand
  rw [List.range_succ, List.filter_append, List.filter_cons, if_pos (decide_eq_true h), List.map_append, List.map_append]; rfl
theorem cand_no {l : List Nat} {i : Nat} (h : ¬ rot (i + 1) l = l) : (cand l (i + 1)).map V.int = (cand l i).map V.int := by
  unfold cand
  rw [List.range_succ, List.filter_append, List.filter_cons, if_neg (by rw [decide_eq_false h]; exact Bool.false_ne_true), List.filter_nil, List.append_nil]
theorem cand_len {l : List Nat} {i : Nat} : (cand l i).length ≤ i := by
  unfold cand
  rw [List.length_map]
  exact Nat.le_trans (List.length_filter_le _ _) (by rw [List.length_range]; exact Nat.le_refl _)
theorem cand_mem {l : List Nat} {k : Int} : k ∈ cand l l.length ↔ ∃ j : Nat, k = j ∧ 1 ≤ j ∧ j ≤ l.length ∧ rot j l = l := by
  unfold cand
  rw [List.mem_map]
  constructor
  · rintro ⟨j, h, rfl⟩
    rw [List.mem_filter, List.mem_range, decide_eq_true_iff] at h
    exact ⟨j + 1, by omega, by omega, h.1, h.2⟩
  · rintro ⟨j, rfl, h1, h2, h3⟩
    refine ⟨j - 1, ?_, by omega⟩
    rw [List.mem_filter, List.mem_range, decide_eq_true_iff, show j - 1 + 1 = j by omega]
    exact ⟨by omega, h3⟩
theorem cand_pos {l : List Nat} (h : 0 < l.length) : 0 < (cand l l.length).length := by
  have : (l.length : Int) ∈ cand l l.length := cand_mem.mpr ⟨l.length, rfl, h, Nat.le_refl _, rot_full⟩
  exact List.length_pos_of_mem this
theorem cand_per {l : List Nat} {m : Int} (h1 : m ∈ cand l l.length) (h2 : ∀ y, y ∈ cand l l.length → m ≤ y) : ∃ k : Nat, m = k ∧ IsPer l k := by
  obtain ⟨k, rfl, h3, h4, h5⟩ := cand_mem.mp h1
  refine ⟨k, rfl, h3, h4, h5, fun j j1 j2 j3 => ?_⟩
  have := h2 j (cand_mem.mpr ⟨j, rfl, j1, by omega, j3⟩)
  omega
end Mw

/-! Mp: texts of two numbers with a colon: how they are read, and with which letter no text goes on. -/
namespace Mp
open PySem PySem.Builtin PySem.Builtin.Str
open SX (S)
/-- the digits of a number from 1 to 60 -/
def dig (n : Nat) : List Nat := if n < 10 then [48 + n] else [48 + n / 10, 48 + n % 10]
def numL : List (List Nat) := (List.range 60).map fun i => dig (i + 1)
def isN (p : List Nat) : Bool := decide (p ∈ numL)
def bn (p : List Nat) : Bool := decide (p = []) || isN p
theorem nums_are : ∀ i : Nat, i < 60 → Str.ofString (toString ((i : Int) + 1)) = S (dig (i + 1)) := by decide +kernel
theorem num_no58 : ∀ p ∈ numL, ¬ 58 ∈ p := by decide +kernel
theorem dig_isN {n : Nat} (h0 : 0 < n) (h : n ≤ 60) : isN (dig n) = true :=
  decide_eq_true (List.mem_map.mpr ⟨n - 1, List.mem_range.mpr (by omega), by rw [Nat.sub_add_cancel h0]⟩)
/-- what has been read, and the number that it is -/
def St (n : Nat) (q : List Nat) : Prop := (n = 0 ∧ q = []) ∨ (0 < n ∧ n ≤ 60 ∧ q = dig n)
theorem St.bn {n : Nat} {q : List Nat} (h : St n q) : bn q = true := by
  rcases h with ⟨_, rfl⟩ | ⟨h0, h1, rfl⟩
  · rfl
  · unfold Mp.bn; rw [dig_isN h0 h1, Bool.or_true]
theorem St.isN {n : Nat} {q : List Nat} (h : St n q) (h0 : n ≠ 0) : isN q = true := by
  rcases h with ⟨e, _⟩ | ⟨h0, h1, rfl⟩
  · exact absurd e h0
  · exact dig_isN h0 h1
/-- a letter goes on with a number -/
def goes (n c : Nat) : Bool := decide (48 ≤ c ∧ c ≤ 57) && decide (1 ≤ n * 10 + (c - 48) ∧ n * 10 + (c - 48) ≤ 60)
theorem goes_0 : ∀ c, c < 128 → goes 0 c = isN [c] := by decide +kernel
theorem mem_num {p : List Nat} : p ∈ numL ↔ ∃ m, 1 ≤ m ∧ m ≤ 60 ∧ dig m = p := by
  unfold numL
  rw [List.mem_map]
  constructor
  · rintro ⟨i, hi, e⟩
    exact ⟨i + 1, by omega, by have := List.mem_range.mp hi; omega, e⟩
  · rintro ⟨m, h1, h2, e⟩
    exact ⟨m - 1, List.mem_range.mpr (by omega), by rw [Nat.sub_add_cancel h1]; exact e⟩
theorem goes_iff {n c : Nat} : goes n c = true ↔ (48 ≤ c ∧ c ≤ 57) ∧ 1 ≤ n * 10 + (c - 48) ∧ n * 10 + (c - 48) ≤ 60 := by
  unfold goes; rw [Bool.and_eq_true, decide_eq_true_iff, decide_eq_true_iff]
theorem goes_n (n : Nat) (hn : n < 61) (h0 : n ≠ 0) (c : Nat) : goes n c = isN (dig n ++ [c]) := by
  rw [Bool.eq_iff_iff, goes_iff]
  unfold isN
  rw [decide_eq_true_iff, mem_num]
  constructor
  · rintro ⟨⟨h1, h2⟩, h3, h4⟩
    refine ⟨n * 10 + (c - 48), h3, h4, ?_⟩
    unfold dig
    rw [if_neg (by omega), if_pos (by omega)]
    show [_, _] = [48 + n, c]
    rw [show 48 + (n * 10 + (c - 48)) / 10 = 48 + n by omega, show 48 + (n * 10 + (c - 48)) % 10 = c by omega]
  · rintro ⟨m, h1, h2, e⟩
    unfold dig at e
    split at e <;> split at e
    · simp at e
    · simp at e
    · simp at e; omega
    · simp at e
theorem next_0 : ∀ c, c < 128 → goes 0 c = true → 0 < 0 * 10 + (c - 48) ∧ 0 * 10 + (c - 48) ≤ 60 ∧ [c] = dig (0 * 10 + (c - 48)) := by decide +kernel
theorem next_n (n : Nat) (hn : n < 61) (h0 : n ≠ 0) (c : Nat) (g : goes n c = true) : 0 < n * 10 + (c - 48) ∧ n * 10 + (c - 48) ≤ 60 ∧ dig n ++ [c] = dig (n * 10 + (c - 48)) := by
  obtain ⟨⟨h1, h2⟩, h3, h4⟩ := goes_iff.mp g
  refine ⟨h3, h4, ?_⟩
  unfold dig
  rw [if_pos (by omega), if_neg (by omega)]
  show [48 + n, c] = [_, _]
  rw [show 48 + (n * 10 + (c - 48)) / 10 = 48 + n by omega, show 48 + (n * 10 + (c - 48)) % 10 = c by omega]
theorem St.goes {n c : Nat} {q : List Nat} (h : St n q) (hc : c < 128) : goes n c = Mp.isN (q ++ [c]) := by
  rcases h with ⟨rfl, rfl⟩ | ⟨h0, h1, rfl⟩
  · exact goes_0 c hc
  · exact goes_n n (by omega) (by omega) c
theorem St.next {n c : Nat} {q : List Nat} (h : St n q) (hc : c < 128) (g : Mp.goes n c = true) : St (n * 10 + (c - 48)) (q ++ [c]) := by
  rcases h with ⟨rfl, rfl⟩ | ⟨h0, h1, rfl⟩
  · exact .inr (next_0 c hc g)
  · exact .inr (next_n n (by omega) (by omega) c g)
/-- the number that is read behind n, and how many letters are read -/
def rd : Nat → List Nat → Nat × Nat
  | n, [] => (n, 0)
  | n, c :: r => if goes n c = true then ((rd (n * 10 + (c - 48)) r).1, (rd (n * 10 + (c - 48)) r).2 + 1) else (n, 0)
theorem rd_is : ∀ (r : List Nat) (n : Nat) (q : List Nat), St n q → (∀ c ∈ r, c < 128) →
    St (rd n r).1 (q ++ r.take (rd n r).2) ∧ (rd n r).2 ≤ r.length ∧ (∀ c, r[(rd n r).2]? = some c → isN (q ++ r.take (rd n r).2 ++ [c]) = false) ∧ ∀ i, i ≤ (rd n r).2 → bn (q ++ r.take i) = true
  | [], n, q, h, _ => ⟨by simpa [rd] using h, by simp [rd], fun c e => by simp at e, fun i hi => by simpa [rd] using h.bn⟩
  | c :: r, n, q, h, hr => by
    have hc := hr c List.mem_cons_self
    unfold rd
    by_cases g : goes n c = true
    · rw [if_pos g]
      obtain ⟨a1, a2, a3, a4⟩ := rd_is r _ (q ++ [c]) (h.next hc g) fun d hd => hr d (List.mem_cons_of_mem _ hd)
      refine ⟨?_, by simpa using a2, fun d hd => ?_, fun i hi => ?_⟩
      · simpa [List.append_assoc] using a1
      · have := a3 d (by simpa using hd)
        simpa [List.append_assoc] using this
      · cases i with
        | zero => simpa using h.bn
        | succ i => simpa [List.append_assoc] using a4 i (Nat.le_of_succ_le_succ hi)
    · rw [if_neg g]
      refine ⟨by simpa using h, Nat.zero_le _, fun d hd => ?_, fun i hi => ?_⟩
      · have e : c = d := by simpa using hd
        subst e
        rw [List.take_zero, List.append_nil, ← h.goes hc]
        simpa using g
      · obtain rfl : i = 0 := Nat.le_zero.mp hi
        simpa using h.bn
/-- cut at the first colon -/
def cutc : List Nat → Option (List Nat × List Nat)
  | [] => none
  | c :: r => if c = 58 then some ([], r) else (cutc r).map fun p => (c :: p.1, p.2)
theorem cutc_none : ∀ {p : List Nat}, ¬ 58 ∈ p → cutc p = none
  | [], _ => rfl
  | c :: r, h => by
    unfold cutc
    rw [if_neg (fun e => h (by rw [e]; exact List.mem_cons_self)), cutc_none fun z => h (List.mem_cons_of_mem _ z)]; rfl
theorem cutc_app : ∀ {q r : List Nat}, ¬ 58 ∈ q → cutc (q ++ 58 :: r) = some (q, r)
  | [], r, _ => by simp [cutc]
  | c :: q, r, h => by
    rw [List.cons_append]
    unfold cutc
    rw [if_neg (fun e => h (by rw [e]; exact List.mem_cons_self)), cutc_app fun z => h (List.mem_cons_of_mem _ z)]; rfl
theorem cut_cases : ∀ p : List Nat, ¬ 58 ∈ p ∨ ∃ q r, p = q ++ 58 :: r ∧ ¬ 58 ∈ q
  | [] => .inl (by simp)
  | c :: p => by
    by_cases e : c = 58
    · exact .inr ⟨[], p, by rw [e]; rfl, by simp⟩
    · rcases cut_cases p with h | ⟨q, r, rfl, h⟩
      · exact .inl fun z => by
          rcases List.mem_cons.mp z with z | z
          · exact e z.symm
          · exact h z
      · exact .inr ⟨c :: q, r, rfl, fun z => by
          rcases List.mem_cons.mp z with z | z
          · exact e z.symm
          · exact h z⟩
/-- a text of a slope may begin so -/
def beg (p : List Nat) : Bool := match cutc p with
  | none => bn p
  | some (q, r) => isN q && bn r
def full (p : List Nat) : Bool := match cutc p with
  | none => false
  | some (q, r) => isN q && isN r
theorem isN_no58 {p : List Nat} (h : isN p = true) : ¬ 58 ∈ p := num_no58 p (of_decide_eq_true h)
theorem bn_no58 {p : List Nat} (h : bn p = true) : ¬ 58 ∈ p := by
  unfold bn at h
  rcases Bool.or_eq_true_iff.mp h with h | h
  · rw [of_decide_eq_true h]; simp
  · exact isN_no58 h
theorem beg_bn {p : List Nat} (h : bn p = true) : beg p = true := by
  unfold beg; rw [cutc_none (bn_no58 h)]; exact h
theorem beg_app {q r : List Nat} (h : isN q = true) : beg (q ++ 58 :: r) = bn r := by
  unfold beg; rw [cutc_app (isN_no58 h)]; show (isN q && bn r) = bn r; rw [h, Bool.true_and]
/-- the place at which reading fails; the two numbers, if it doesn't -/
def fault (l : List Nat) : Option Nat :=
  let a := rd 0 l
  if a.1 = 0 then some 0
  else if l[a.2]? ≠ some 58 then some a.2
  else
    let b := rd 0 (l.drop (a.2 + 1))
    if b.1 = 0 then some (a.2 + 1) else if a.2 + 1 + b.2 < l.length then some (a.2 + 1 + b.2) else none
/-- what the law tells of a text -/
def DueAt (l : List Nat) (v : Int) : Prop :=
  (∃ i, i < l.length ∧ v = i ∧ beg (l.take (i + 1)) = false ∧ ∀ j, j < i → beg (l.take (j + 1)) = true) ∨
  ((∀ j, j < l.length → beg (l.take (j + 1)) = true) ∧ v = if full l = true then -1 else (l.length : Int))
/-- f is the first place that fails, or the end -/
def Upto (l : List Nat) (f : Nat) : Prop := f ≤ l.length ∧ (∀ j, j < f → beg (l.take (j + 1)) = true) ∧ (f < l.length → beg (l.take (f + 1)) = false)
theorem due_of {l : List Nat} {f : Nat} {v : Int} (u : Upto l f) (h : DueAt l v) : (f < l.length → v = f) ∧ (f = l.length → v = if full l = true then -1 else (l.length : Int)) := by
  obtain ⟨u1, u2, u3⟩ := u
  rcases h with ⟨i, hi, rfl, h1, h2⟩ | ⟨h1, rfl⟩
  · refine ⟨fun hf => ?_, fun hf => ?_⟩
    · rcases Nat.lt_trichotomy i f with e | e | e
      · rw [u2 i e] at h1; cases h1
      · rw [e]
      · have := u3 hf; rw [h2 f e] at this; cases this
    · rw [u2 i (by omega)] at h1; cases h1
  · refine ⟨fun hf => ?_, fun _ => rfl⟩
    have := u3 hf; rw [h1 f hf] at this; cases this
theorem get_split {l : List Nat} {k c : Nat} (h : l[k]? = some c) : l = l.take k ++ c :: l.drop (k + 1) := by
  have hk := (List.getElem?_eq_some_iff.mp h).1
  have e := (List.getElem?_eq_some_iff.mp h).2
  rw [← e, List.getElem_cons_drop hk, List.take_append_drop]
theorem take_snoc {l : List Nat} {k c : Nat} (h : l[k]? = some c) : l.take (k + 1) = l.take k ++ [c] := by rw [List.take_add_one, h]; rfl
theorem no_bn {q : List Nat} {c : Nat} (h : isN (q ++ [c]) = false) : bn (q ++ [c]) = false := by
  unfold bn; rw [h, decide_eq_false (by simp)]; rfl
theorem due_is {l : List Nat} {v : Int} (hl : ∀ c ∈ l, c < 128) (h : DueAt l v) : v = match fault l with | some f => (f : Int) | none => -1 := by
  obtain ⟨a1, a2, a3, a4⟩ := rd_is l 0 [] (.inl ⟨rfl, rfl⟩) hl
  rw [List.nil_append] at a1
  have a3 : ∀ c, l[(rd 0 l).2]? = some c → isN (l.take (rd 0 l).2 ++ [c]) = false := fun c hc => by simpa using a3 c hc
  have a4 : ∀ i, i ≤ (rd 0 l).2 → bn (l.take i) = true := fun i hi => by simpa using a4 i hi
  unfold fault
  generalize rd 0 l = a at a1 a2 a3 a4 ⊢
  obtain ⟨n, k⟩ := a
  simp only at a1 a2 a3 a4 ⊢
  by_cases hn : n = 0
  · rw [if_pos hn]
    have hk : l.take k = [] := by
      rcases a1 with ⟨_, e⟩ | ⟨e, _⟩
      · exact e
      · omega
    have u : Upto l 0 := by
      refine ⟨Nat.zero_le _, fun j hj => by omega, fun h0 => ?_⟩
      have hk0 : k = 0 := by
        rcases Nat.eq_zero_or_pos k with e | e
        · exact e
        · have := congrArg List.length hk; rw [List.length_take, Nat.min_eq_left a2] at this; exact this
      subst hk0
      have e0 : l[0]? = some l[0] := List.getElem?_eq_getElem h0
      have h3 := a3 _ e0
      rw [take_snoc e0, List.take_zero, List.nil_append] at *
      by_cases c58 : l[0] = 58
      · rw [c58]; decide
      · unfold beg; rw [cutc_none (by simpa using fun e => c58 e.symm)]; exact no_bn (q := []) h3
    obtain ⟨d1, d2⟩ := due_of u h
    rcases Nat.eq_zero_or_pos l.length with e | e
    · rw [d2 e.symm, List.length_eq_zero_iff.mp e]; rfl
    · exact d1 e
  · rw [if_neg hn]
    have hq := a1.isN hn
    by_cases h58 : l[k]? = some 58
    · rw [if_neg (fun z => z h58)]
      have el := get_split h58
      obtain ⟨b1, b2, b3, b4⟩ := rd_is (l.drop (k + 1)) 0 [] (.inl ⟨rfl, rfl⟩) fun c hc => hl c (List.mem_of_mem_drop hc)
      rw [List.nil_append] at b1
      have b3 : ∀ c, (l.drop (k + 1))[(rd 0 (l.drop (k + 1))).2]? = some c → isN ((l.drop (k + 1)).take (rd 0 (l.drop (k + 1))).2 ++ [c]) = false := fun c hc => by simpa using b3 c hc
      have b4 : ∀ i, i ≤ (rd 0 (l.drop (k + 1))).2 → bn ((l.drop (k + 1)).take i) = true := fun i hi => by simpa using b4 i hi
      have hk : k < l.length := (List.getElem?_eq_some_iff.mp h58).1
      have tk : ∀ i, l.take (k + 1 + i) = l.take k ++ 58 :: (l.drop (k + 1)).take i := fun i => by
        conv => lhs; rw [el]
        rw [List.take_append, List.length_take, Nat.min_eq_left (Nat.le_of_lt hk), List.take_of_length_le (by rw [List.length_take]; omega), show k + 1 + i - k = i + 1 by omega, List.take_succ_cons]
      generalize rd 0 (l.drop (k + 1)) = b at b1 b2 b3 b4 ⊢
      obtain ⟨m, j⟩ := b
      simp only at b1 b2 b3 b4 ⊢
      rw [List.length_drop] at b2
      have u : Upto l (k + 1 + j) := by
        refine ⟨by omega, fun i hi => ?_, fun hlt => ?_⟩
        · by_cases e : i < k
          · exact beg_bn (a4 (i + 1) e)
          · obtain ⟨x, rfl⟩ : ∃ x, i = k + x := ⟨i - k, by omega⟩
            rw [show k + x + 1 = k + 1 + x by omega, tk, beg_app hq]
            exact b4 x (by omega)
        · rw [show k + 1 + j + 1 = k + 1 + (j + 1) by omega, tk, beg_app hq]
          have hj : j < (l.drop (k + 1)).length := by rw [List.length_drop]; omega
          have ej : (l.drop (k + 1))[j]? = some (l.drop (k + 1))[j] := List.getElem?_eq_getElem hj
          rw [take_snoc ej]
          exact no_bn (b3 _ ej)
      obtain ⟨d1, d2⟩ := due_of u h
      have ef : full l = isN (l.drop (k + 1)) := by
        unfold full
        rw [el, cutc_app (isN_no58 hq), ← el]
        show (isN (l.take k) && isN (l.drop (k + 1))) = isN (l.drop (k + 1))
        rw [hq, Bool.true_and]
      by_cases hm : m = 0
      · rw [if_pos hm]
        have hj : j = 0 := by
          rcases b1 with ⟨_, e⟩ | ⟨e, _⟩
          · rcases Nat.eq_zero_or_pos j with z | z
            · exact z
            · have := congrArg List.length e; rw [List.length_take, List.length_drop, Nat.min_eq_left b2] at this; exact this
          · omega
        subst hj
        by_cases e : k + 1 + 0 < l.length
        · exact d1 e
        · have e2 : k + 1 + 0 = l.length := by omega
          have e3 : l.drop (k + 1) = [] := List.drop_eq_nil_iff.mpr (by omega)
          rw [d2 e2, ef, e3, if_neg (by decide)]
          show (l.length : Int) = ((k + 1 : Nat) : Int)
          omega
      · rw [if_neg hm]
        by_cases e : k + 1 + j < l.length
        · rw [if_pos e]; exact d1 e
        · have e2 : k + 1 + j = l.length := by omega
          rw [if_neg e, d2 e2, ef]
          have e3 : (l.drop (k + 1)).take j = l.drop (k + 1) := List.take_of_length_le (by rw [List.length_drop]; omega)
          rw [e3] at b1
          rw [if_pos (b1.isN hm)]
    · rw [if_pos h58]
      have u : Upto l k := by
        refine ⟨a2, fun j hj => beg_bn (a4 (j + 1) hj), fun hlt => ?_⟩
        have ek : l[k]? = some l[k] := List.getElem?_eq_getElem hlt
        rw [take_snoc ek]
        have n58 : ¬ 58 ∈ l.take k ++ [l[k]] := by
          rw [List.mem_append, List.mem_singleton]
          rintro (z | z)
          · exact isN_no58 hq z
          · exact h58 (by rw [ek, ← z])
        unfold beg; rw [cutc_none n58]; exact no_bn (a3 _ ek)
      obtain ⟨d1, d2⟩ := due_of u h
      by_cases e : k < l.length
      · exact d1 e
      · have e2 : k = l.length := by omega
        rw [d2 e2, if_neg]
        · rw [e2]
        · unfold full
          rw [e2, List.take_length] at hq
          rw [cutc_none (isN_no58 hq)]; simp
end Mp
namespace Mp
theorem rd_go {n c : Nat} {r : List Nat} (g : goes n c = true) : rd n (c :: r) = ((rd (n * 10 + (c - 48)) r).1, (rd (n * 10 + (c - 48)) r).2 + 1) := by
  show (if goes n c = true then _ else _) = _; rw [if_pos g]
theorem rd_no {n c : Nat} {r : List Nat} (g : ¬ goes n c = true) : rd n (c :: r) = (n, 0) := by
  show (if goes n c = true then _ else _) = _; rw [if_neg g]
end Mp
namespace Mp
open PySem
open SX (S)
theorem rd_dig {n : Nat} (h0 : 1 ≤ n) (h : n ≤ 60) {r : List Nat} (hr : r = [] ∨ ∃ s, r = 58 :: s) : rd 0 (dig n ++ r) = (n, (dig n).length) := by
  have st : ∀ m, rd m r = (m, 0) := fun m => by
    rcases hr with rfl | ⟨s, rfl⟩
    · rfl
    · exact rd_no (fun g => by have := (goes_iff.mp g).1; omega)
  unfold dig
  split
  · show rd 0 ((48 + n) :: r) = (n, 1)
    rw [rd_go (goes_iff.mpr ⟨by omega, by omega, by omega⟩), show 0 * 10 + (48 + n - 48) = n by omega, st]
  · show rd 0 ((48 + n / 10) :: (48 + n % 10) :: r) = (n, 2)
    rw [rd_go (goes_iff.mpr ⟨by omega, by omega, by omega⟩), show 0 * 10 + (48 + n / 10 - 48) = n / 10 by omega, rd_go (goes_iff.mpr ⟨by omega, by omega, by omega⟩), show n / 10 * 10 + (48 + n % 10 - 48) = n by omega, st]
theorem dig_len {n : Nat} : 1 ≤ (dig n).length ∧ (dig n).length ≤ 2 := by unfold dig; split <;> exact ⟨by simp, by simp⟩
theorem dig_lt {n : Nat} (h : n ≤ 60) : ∀ c ∈ dig n, c < 128 := by
  intro c hc
  unfold dig at hc
  split at hc
  · have := List.mem_singleton.mp hc; omega
  · rcases List.mem_cons.mp hc with z | z
    · omega
    · have := List.mem_singleton.mp z; omega
/-- the text of a slope -/
def sT (a b : Nat) : List Nat := dig a ++ 58 :: dig b
theorem fault_sT {a b : Nat} (a1 : 1 ≤ a) (a2 : a ≤ 60) (b1 : 1 ≤ b) (b2 : b ≤ 60) : rd 0 (sT a b) = (a, (dig a).length) ∧ (sT a b)[(dig a).length]? = some 58 ∧ (sT a b).drop ((dig a).length + 1) = dig b ∧ rd 0 (dig b) = (b, (dig b).length) ∧ fault (sT a b) = none := by
  have h1 : rd 0 (sT a b) = (a, (dig a).length) := rd_dig a1 a2 (.inr ⟨_, rfl⟩)
  have h2 : (sT a b)[(dig a).length]? = some 58 := by unfold sT; rw [List.getElem?_append_right (Nat.le_refl _), Nat.sub_self]; rfl
  have h3 : (sT a b).drop ((dig a).length + 1) = dig b := by
    unfold sT
    rw [List.drop_append, List.drop_eq_nil_iff.mpr (by omega), show (dig a).length + 1 - (dig a).length = 1 by omega]; rfl
  have h4 : rd 0 (dig b) = (b, (dig b).length) := by
    have := rd_dig b1 b2 (r := []) (.inl rfl)
    rwa [List.append_nil] at this
  refine ⟨h1, h2, h3, h4, ?_⟩
  unfold fault
  simp only [h1, h3, h4]
  rw [if_neg (by omega), if_neg (fun z => z h2), if_neg (by omega), if_neg]
  unfold sT
  rw [List.length_append, List.length_cons]; omega
theorem fault_none {l : List Nat} (hl : ∀ c ∈ l, c < 128) (h : fault l = none) : ∃ a b, (1 ≤ a ∧ a ≤ 60) ∧ (1 ≤ b ∧ b ≤ 60) ∧ l = sT a b := by
  obtain ⟨a1, a2, a3, a4⟩ := rd_is l 0 [] (.inl ⟨rfl, rfl⟩) hl
  obtain ⟨b1, b2, b3, b4⟩ := rd_is (l.drop ((rd 0 l).2 + 1)) 0 [] (.inl ⟨rfl, rfl⟩) fun c hc => hl c (List.mem_of_mem_drop hc)
  rw [List.nil_append] at a1 b1
  unfold fault at h
  simp only at h
  split at h
  · cases h
  · rename_i n0
    split at h
    · cases h
    · rename_i h58
      have h58 : l[(rd 0 l).2]? = some 58 := Decidable.of_not_not h58
      split at h
      · cases h
      · rename_i m0
        split at h
        · cases h
        · rename_i hlt
          have el := get_split h58
          have hk : (rd 0 l).2 < l.length := (List.getElem?_eq_some_iff.mp h58).1
          have e3 : (l.drop ((rd 0 l).2 + 1)).take (rd 0 (l.drop ((rd 0 l).2 + 1))).2 = l.drop ((rd 0 l).2 + 1) := List.take_of_length_le (by rw [List.length_drop]; omega)
          rw [e3] at b1
          rcases a1 with ⟨z, _⟩ | ⟨p1, p2, p3⟩
          · exact absurd z n0
          · rcases b1 with ⟨z, _⟩ | ⟨q1, q2, q3⟩
            · exact absurd z m0
            · exact ⟨_, _, ⟨p1, p2⟩, ⟨q1, q2⟩, by unfold sT; rw [← p3, ← q3]; exact el⟩
theorem sT_text {a b : Nat} (a1 : 1 ≤ a) (a2 : a ≤ 60) (b1 : 1 ≤ b) (b2 : b ≤ 60) : S (sT a b) = Str.ofString (toString (a : Int)) ++ ":" ++ Str.ofString (toString (b : Int)) := by
  have e1 := nums_are (a - 1) (by omega)
  have e2 := nums_are (b - 1) (by omega)
  rw [Nat.sub_add_cancel a1, show ((a - 1 : Nat) : Int) + 1 = (a : Int) by omega] at e1
  rw [Nat.sub_add_cancel b1, show ((b - 1 : Nat) : Int) + 1 = (b : Int) by omega] at e2
  rw [e1, e2]
  have e3 : (":" : Str) = S [58] := by decide +kernel
  rw [e3, SX.S_cat, SX.S_cat]
  unfold sT
  congr 1
  simp
theorem sT_len {a b : Nat} : (sT a b).length ≤ 5 := by
  unfold sT
  rw [List.length_append, List.length_cons]
  have h1 := dig_len (n := a); have h2 := dig_len (n := b); omega
theorem sT_lt {a b : Nat} (ha : a ≤ 60) (hb : b ≤ 60) : ∀ c ∈ sT a b, c < 128 := by
  intro c hc
  unfold sT at hc
  rcases List.mem_append.mp hc with z | z
  · exact dig_lt ha c z
  · rcases List.mem_cons.mp z with z | z
    · omega
    · exact dig_lt hb c z
end Mp
namespace Mp
theorem fault_le {l : List Nat} {f : Nat} (h : fault l = some f) : f ≤ l.length + 1 := by
  have rl : ∀ (r : List Nat) (n : Nat), (rd n r).2 ≤ r.length := by
    intro r
    induction r with
    | nil => intro n; exact Nat.le_refl 0
    | cons c r ih =>
      intro n
      by_cases g : goes n c = true
      · rw [rd_go g]; have := ih (n * 10 + (c - 48)); show _ + 1 ≤ _; rw [List.length_cons]; omega
      · rw [rd_no g]; exact Nat.zero_le _
  unfold fault at h
  simp only at h
  have h1 := rl l 0
  split at h
  · cases h; omega
  · split at h
    · cases h; omega
    · split at h
      · cases h; omega
      · split at h
        · cases h
          omega
        · cases h
end Mp

/-! Ms: a text split at one letter. -/
namespace Ms
open PySem PySem.Builtin PySem.Builtin.Str
open SX (S)
/-- the places of a letter -/
def pos (c : Nat) : Nat → List Nat → List Nat
  | _, [] => []
  | i, x :: r => if x = c then i :: pos c (i + 1) r else pos c (i + 1) r
theorem pos_no {c : Nat} : ∀ {i : Nat} {l : List Nat}, ¬ c ∈ l → pos c i l = []
  | _, [], _ => rfl
  | i, x :: r, h => by
    unfold pos
    rw [if_neg (fun e => h (by rw [e]; exact List.mem_cons_self)), pos_no fun z => h (List.mem_cons_of_mem _ z)]
theorem pos_app {c : Nat} {r : List Nat} : ∀ {i : Nat} {q : List Nat}, ¬ c ∈ q → pos c i (q ++ c :: r) = (i + q.length) :: pos c (i + q.length + 1) r
  | i, [], _ => by
    rw [List.nil_append]
    show (if c = c then i :: pos c (i + 1) r else pos c (i + 1) r) = _
    rw [if_pos rfl]; rfl
  | i, x :: q, h => by
    rw [List.cons_append]
    show (if x = c then i :: pos c (i + 1) (q ++ c :: r) else pos c (i + 1) (q ++ c :: r)) = _
    rw [if_neg (fun e => h (by rw [e]; exact List.mem_cons_self)), pos_app fun z => h (List.mem_cons_of_mem _ z), List.length_cons, show i + 1 + q.length = i + (q.length + 1) by omega]
theorem pos_some {c : Nat} : ∀ {i : Nat} {l : List Nat}, c ∈ l → 1 ≤ (pos c i l).length
  | i, [], h => by simp at h
  | i, x :: r, h => by
    unfold pos
    by_cases e : x = c
    · rw [if_pos e]; simp
    · rw [if_neg e]
      exact pos_some ((List.mem_cons.mp h).resolve_left fun z => e z.symm)
theorem occ_run (l : List Nat) (c : Nat) : ∀ (m cur free : Nat) (found : Array Nat), free ≤ cur → cur + m = l.length + 1 → found.size ≤ cur →
    (forIn (List.range' cur m) (found, free) (StrLaws.occBody (S l) ⟨#[c]⟩ l.length (l.length + 1))).run.fst = found ++ (pos c cur (l.drop cur)).toArray
  | 0, cur, free, found, _, h, _ => by
    rw [List.drop_eq_nil_iff.mpr (by omega)]
    show found = _
    simp [pos]
  | m + 1, cur, free, found, hf, h, hs => by
    rw [List.range'_succ, List.forIn_cons]
    unfold StrLaws.occBody
    have l1 : (⟨#[c]⟩ : Str).length = 1 := rfl
    by_cases hc : cur < l.length
    · have ed : l.drop cur = l[cur] :: l.drop (cur + 1) := List.drop_eq_getElem_cons hc
      have su : subAt (S l) ⟨#[c]⟩ cur = true ↔ l[cur] = c := by
        have h1 := Mw.sub_iff l [c] cur
        rw [ed] at h1
        exact h1.trans (by show [l[cur]] = [c] ↔ _; rw [List.cons.injEq]; exact ⟨fun z => z.1, fun z => ⟨z, rfl⟩⟩)
      by_cases e : l[cur] = c
      · rw [if_pos ⟨⟨⟨by show found.size < _; omega, hf⟩, by rw [l1]; omega⟩, su.mpr e⟩]
        have ih := occ_run l c m (cur + 1) (cur + (⟨#[c]⟩ : Str).length) (found.push cur) (by rw [l1]; exact Nat.le_refl _) (by omega) (by rw [Array.size_push]; omega)
        refine ih.trans ?_
        rw [ed]
        show _ = found ++ (if l[cur] = c then cur :: pos c (cur + 1) (l.drop (cur + 1)) else pos c (cur + 1) (l.drop (cur + 1))).toArray
        rw [if_pos e]
        apply Array.toList_inj.mp
        simp
      · rw [if_neg (fun z => e (su.mp z.2))]
        have ih := occ_run l c m (cur + 1) free found (by omega) (by omega) (by omega)
        refine ih.trans ?_
        rw [ed]
        show _ = found ++ (if l[cur] = c then cur :: pos c (cur + 1) (l.drop (cur + 1)) else pos c (cur + 1) (l.drop (cur + 1))).toArray
        rw [if_neg e]
    · rw [if_neg (fun z => by have := z.1.2; rw [l1] at this; omega)]
      have ih := occ_run l c m (cur + 1) free found (by omega) (by omega) (by omega)
      refine ih.trans ?_
      rw [List.drop_eq_nil_iff.mpr (show l.length ≤ cur + 1 by omega), List.drop_eq_nil_iff.mpr (show l.length ≤ cur by omega)]
      rfl
theorem occ_is (l : List Nat) (c : Nat) : occurrences (S l) ⟨#[c]⟩ 0 (S l).length ((S l).length + 1) = pos c 0 l := by
  have hl : (S l).length = l.length := SX.S_len l
  rw [StrLaws.occ_eq, hl]
  have := occ_run l c (l.length + 1) 0 0 #[] (Nat.le_refl 0) (by omega) (Nat.le_refl 0)
  rw [show l.length + 1 - 0 = l.length + 1 by omega]
  rw [this]
  simp
theorem kind_pos (x : Str) : 1 ≤ PySem.Builtin.Str.strKind x := by unfold PySem.Builtin.Str.strKind; split <;> (try split) <;> decide
theorem split_def (l : List Nat) (c : Nat) (hc : c < 256) : Txt.split (S l) ⟨#[c]⟩ = if (pos c 0 l).isEmpty = true then [S l] else partsBetween (S l) (pos c 0 l) 1 := by
  unfold Txt.split
  have k1 : PySem.Builtin.Str.strKind (⟨#[c]⟩ : Str) = 1 := by
    unfold PySem.Builtin.Str.strKind
    rw [if_pos]
    simpa using hc
  have hl : (S l).length = l.length := SX.S_len l
  rw [occ_is]
  cases l with
  | nil =>
    rw [if_pos]
    · rfl
    · rfl
  | cons x r =>
    rw [if_neg]
    · rfl
    · rw [k1]
      have h1 := kind_pos (S (x :: r))
      rw [hl]
      show ¬ (decide ((x :: r).length < 1) || decide (PySem.Builtin.Str.strKind (S (x :: r)) < 1)) = true
      rw [List.length_cons, decide_eq_false (by omega), decide_eq_false (by omega)]
      decide
theorem split_none {l : List Nat} {c : Nat} (hc : c < 256) (h : ¬ c ∈ l) : Txt.split (S l) ⟨#[c]⟩ = [S l] := by
  rw [split_def l c hc, pos_no h]; rfl
theorem split_one {q r : List Nat} {c : Nat} (hc : c < 256) (hq : ¬ c ∈ q) (hr : ¬ c ∈ r) : Txt.split (S (q ++ c :: r)) ⟨#[c]⟩ = [S q, S r] := by
  rw [split_def _ c hc, pos_app hq, pos_no hr]
  have hl : (S (q ++ c :: r)).length = q.length + (r.length + 1) := by rw [SX.S_len, List.length_append, List.length_cons]
  show [strSub (S (q ++ c :: r)) 0 (0 + q.length), strSub (S (q ++ c :: r)) (0 + q.length + 1) (S (q ++ c :: r)).length] = _
  rw [hl]
  have e1 : strSub (S (q ++ c :: r)) 0 (0 + q.length) = S q := by
    unfold strSub SX.S
    congr 1
    apply Array.toList_inj.mp
    rw [Array.toList_extract]
    simp [List.extract_eq_take_drop]
  have e2 : strSub (S (q ++ c :: r)) (0 + q.length + 1) (q.length + (r.length + 1)) = S r := by
    unfold strSub SX.S
    congr 1
    apply Array.toList_inj.mp
    rw [Array.toList_extract]
    simp [List.extract_eq_take_drop]
    rw [List.take_of_length_le (by omega)]
  rw [e1, e2]
theorem split_more {q r : List Nat} {c : Nat} (hc : c < 256) (hq : ¬ c ∈ q) (hr : c ∈ r) : 3 ≤ (Txt.split (S (q ++ c :: r)) ⟨#[c]⟩).length := by
  rw [split_def _ c hc, pos_app hq]
  have := pos_some (i := 0 + q.length + 1) hr
  show 3 ≤ (partsBetween _ _ 1).length
  unfold partsBetween
  simp only [List.length_map, List.length_zip, List.length_cons, List.length_append, List.length_nil]
  omega
end Ms

/-! Me: equal tuples and lists of plain data. -/
namespace Me
open PySem PySem.Spec PyProof.Rows L2 Sx
theorem lay_ints : ∀ ns : List Int, PyData.canLayAll0 (ns.map PyData.int) = true
  | [] => rfl
  | n :: ns => by
    have h := lay_ints ns
    simp only [List.map_cons, PyData.canLayAll0, PyData.canLay0, h, Bool.and_self]
theorem deep_ints : ∀ ns : List Int, PyData.depthAll (ns.map PyData.int) ≤ 1
  | [] => by simp [PyData.depthAll]
  | n :: ns => by
    have h := deep_ints ns
    simp only [List.map_cons, PyData.depthAll, PyData.depth]
    omega
theorem lay_strs : ∀ ns : List Str, ns.all PyData.strOk = true → PyData.canLayAll0 (ns.map PyData.str) = true
  | [], _ => rfl
  | n :: ns, k => by
    rw [List.all_cons, Bool.and_eq_true] at k
    have h := lay_strs ns k.2
    simp only [List.map_cons, PyData.canLayAll0, PyData.canLay0, h, k.1, Bool.and_self]
theorem deep_strs : ∀ ns : List Str, PyData.depthAll (ns.map PyData.str) ≤ 1
  | [] => by simp [PyData.depthAll]
  | n :: ns => by
    have h := deep_strs ns
    simp only [List.map_cons, PyData.depthAll, PyData.depth]
    omega
theorem tup_ok {ds : List PyData} (h1 : PyData.canLayAll0 ds = true) (h2 : PyData.depthAll ds ≤ 40) : SeqAt.shaped (.tuple ds) = true := by
  unfold SeqAt.shaped
  rw [Bool.and_eq_true, decide_eq_true_iff]
  refine ⟨by simpa [PyData.canLay0] using h1, ?_⟩
  simp only [PyData.depth]; omega
theorem lst_ok {ds : List PyData} (h1 : PyData.canLayAll0 ds = true) (h2 : PyData.depthAll ds ≤ 40) : SeqAt.shaped (.list ds) = true := by
  unfold SeqAt.shaped
  rw [Bool.and_eq_true, decide_eq_true_iff]
  refine ⟨by simpa [PyData.canLay0] using h1, ?_⟩
  simp only [PyData.depth]; omega
section
variable {K : PySem.W.Frag} {H : Hp} {Q : VK} {a b : Addr} {ns : List Int} {ts : List Str}
theorem sh_tupI : SeqAt.shaped (.tuple (ns.map PyData.int)) = true := tup_ok (lay_ints ns) (Nat.le_trans (deep_ints ns) (by decide))
theorem sh_lstI : SeqAt.shaped (.list (ns.map PyData.int)) = true := lst_ok (lay_ints ns) (Nat.le_trans (deep_ints ns) (by decide))
theorem sh_tupS (hs : ts.all PyData.strOk = true) : SeqAt.shaped (.tuple (ts.map PyData.str)) = true := tup_ok (lay_strs ts hs) (Nat.le_trans (deep_strs ts) (by decide))
theorem sh_lstS (hs : ts.all PyData.strOk = true) : SeqAt.shaped (.list (ts.map PyData.str)) = true := lst_ok (lay_strs ts hs) (Nat.le_trans (deep_strs ts) (by decide))
theorem eqv_same {d : PyData} (h : SeqAt.shaped d = true) : PyData.eqv d d = true := SeqAt.eqv_refl d (SeqAt.canLay_of_shaped h)
/-- two tuples of the same ints are equal -/
theorem eq_tupI (h1 : H a = some (.tup (ns.map V.int))) (h2 : H b = some (.tup (ns.map V.int))) (h : Q (.bl true) H) : rEqD K (.ref a) (.ref b) H Q :=
  r_eqD (.tup (SqT.of h1) (dpI ns)) (.tup (SqT.of h2) (dpI ns)) sh_tupI sh_tupI (by rw [eqv_same sh_tupI]; exact h)
theorem ne_tupI (h1 : H a = some (.tup (ns.map V.int))) (h2 : H b = some (.tup (ns.map V.int))) (h : Q (.bl false) H) : rNeD K (.ref a) (.ref b) H Q :=
  r_neD (.tup (SqT.of h1) (dpI ns)) (.tup (SqT.of h2) (dpI ns)) sh_tupI sh_tupI (by rw [eqv_same sh_tupI]; exact h)
theorem eq_lstI (h1 : H a = some (.lst (ns.map V.int))) (h2 : H b = some (.lst (ns.map V.int))) (h : Q (.bl true) H) : rEqD K (.ref a) (.ref b) H Q :=
  r_eqD (.lst (SqL.of h1) (dpI ns)) (.lst (SqL.of h2) (dpI ns)) sh_lstI sh_lstI (by rw [eqv_same sh_lstI]; exact h)
theorem ne_lstI (h1 : H a = some (.lst (ns.map V.int))) (h2 : H b = some (.lst (ns.map V.int))) (h : Q (.bl false) H) : rNeD K (.ref a) (.ref b) H Q :=
  r_neD (.lst (SqL.of h1) (dpI ns)) (.lst (SqL.of h2) (dpI ns)) sh_lstI sh_lstI (by rw [eqv_same sh_lstI]; exact h)
/-- any two values that read the same -/
theorem ne_same {x y : V} {d : PyData} (hx : Dp K H x d) (hy : Dp K H y d) (hs : SeqAt.shaped d = true) (h : Q (.bl false) H) : rNeD K x y H Q :=
  r_neD hx hy hs hs (by rw [eqv_same hs]; exact h)
theorem eq_same {x y : V} {d : PyData} (hx : Dp K H x d) (hy : Dp K H y d) (hs : SeqAt.shaped d = true) (h : Q (.bl true) H) : rEqD K x y H Q :=
  r_eqD hx hy hs hs (by rw [eqv_same hs]; exact h)
end
end Me

/-! Sw: comparisons by own defs, data that are less, texts turned round. -/
namespace Sw
open PySem PySem.Spec PyProof.Rows L2 Sx Sy
open Sem (wp)
section
variable {X : Cx}
/-! ### less, for data -/
def qLtD (K : PySem.W.Frag) : R2 := fun x y H Q => ∃ d e, Dp K H x d ∧ Dp K H y e ∧ PySem.W.alike d e = true ∧ d ≠ .none ∧ d.depth ≤ 60 ∧ Q (.bl (PySem.W.dataLt d e)) H
theorem op_ltD (hu : X.A.units + 64 < cLine) : OpR X (compareOp .Lt) (qLtD X.K) := by
  intro pins s σ H x y v u Q I rx ry h
  obtain ⟨d, e, hd, he, al, nn, dp, q⟩ := h
  obtain ⟨as, h1⟩ := Dp.reads I d x v hd rx
  obtain ⟨bs, h2⟩ := Dp.reads I e y u he ry
  have room : X.A.units + min d.depth e.depth < cLine := by
    have := Nat.min_le_left d.depth e.depth
    omega
  exact PySem.W.rcLt_alike d e X.A s v u as bs h1 h2 al nn room X.prog X.w X.xe _ ⟨.bl _, H, I, rfl, q⟩
theorem r_ltD {K : PySem.W.Frag} {x y : V} {d e : PyData} {H : Hp} {Q : VK} (hx : Dp K H x d) (hy : Dp K H y e) (al : PySem.W.alike d e = true) (nn : d ≠ .none) (dp : d.depth ≤ 60) (h : Q (.bl (PySem.W.dataLt d e)) H) : qLtD K x y H Q := ⟨d, e, hx, hy, al, nn, dp, h⟩
/-! ### text[::-1] -/
def tBack (te : TE) : TE := fun σ H Q => te σ H fun x H1 => ∃ l : List Nat, x = .str ⟨l.toArray⟩ ∧ l.length ≤ 100000 ∧ Q (.str ⟨l.reverse.toArray⟩) H1
theorem picked_back (l : List Nat) : (Builtin.Str.strSliceIndices none none (-1) (⟨l.toArray⟩ : Str).length).filterMap ((⟨l.toArray⟩ : Str).cps[·]?) = l.reverse := by
  have e : (⟨l.toArray⟩ : Str).length = l.length := by simp [Str.length]
  rw [e, picked_rev]
  apply List.ext_getElem?
  intro i
  rw [filterMap_get _ _ (by
    intro j hj
    obtain ⟨k, hk, rfl⟩ := List.mem_map.mp hj
    have := List.mem_range.mp hk
    simp; omega), List.map_map, List.getElem?_map]
  by_cases h : i < l.length
  · rw [List.getElem?_range h, List.getElem?_reverse h]
    have h2 : l.length - 1 - i < l.length := by omega
    simp [Array.getD, h2]
  · rw [List.getElem?_eq_none (by simpa using h), List.getElem?_eq_none (by simpa using h)]; rfl
theorem pe_revS {e : Expr} {te : TE} {k : Nat} {p1 p2 p3 pos : Pos} (he : PE X e te) : PE X (.Subscript e (.Slice none none (some (.UnaryOp .USub (.Constant (.int 1) k p1) p2)) p3) pos) (tBack te) := by
  constructor
  intro pins s σ H Q I h
  refine Subscript_ (thn (he.run pins s σ H _ I h) ?_)
  rintro v s1 ⟨x, H1, I1, r1, l, rfl, hl, q⟩
  obtain ⟨t, rfl⟩ := r1
  have step : PO X (some (.UnaryOp .USub (.Constant (.int 1) k p1) p2)) (tPart (tUn (rU fun i => .int (-i)) (tC (.int 1)))) := po_some (pe_un un_neg pe_int)
  refine wpAny_Slice (thn (po_none.run pins s1 σ H1 (fun o H2 => o = none ∧ H2 = H1) I1 ⟨rfl, rfl⟩) ?_)
  rintro v1 s2 ⟨o1, H2, I2, w1, rfl, rfl⟩
  refine thn (po_none.run pins s2 σ H2 (fun o H3 => o = none ∧ H3 = H2) I2 ⟨rfl, rfl⟩) ?_
  rintro v2 s3 ⟨o2, H3, I3, w2, rfl, rfl⟩
  refine thn (step.run pins s3 σ H3 (fun o H4 => o = some (-1) ∧ H4 = H3) I3 ⟨1, rfl, -1, rfl, rfl, rfl⟩) ?_
  rintro v3 s4 ⟨o3, H4, I4, w3, rfl, rfl⟩
  obtain ⟨b1, rfl, e1⟩ := IsPart.raw w1
  obtain ⟨b2, rfl, e2⟩ := IsPart.raw w2
  obtain ⟨b3, rfl, e3⟩ := IsPart.raw w3
  have n1 : b1 = none := Option.map_eq_none_iff.mp e1
  have n2 : b2 = none := Option.map_eq_none_iff.mp e2
  obtain ⟨⟨i3, t3⟩, rfl, e4⟩ := Option.map_eq_some_iff.mp e3
  subst n1 n2
  obtain rfl : i3 = -1 := e4
  have I5 : Inv X pins σ H4 { s4 with heap := s4.heap.push { cls := .type "slice", data := .fields #[partValue none, partValue none, partValue (some (-1, t3))] } } := I4.kept (t' := s4.toks) fun b ob z => Heap.get?_push_of_some _ z
  refine tail_any (ops := [.str ⟨l.toArray⟩ t, .ref s4.heap.objs.size]) (typeIs_str _ _ _) F.slot_str_getitem.lookup ?_ (by with_unfolding_all rfl)
  refine wpAny_getItem_str_slice (l := none) (u := none) (st := some (-1, t3)) ⟨_, Heap.get?_push_size _ rfl, rfl, rfl⟩ rfl ?_
  have made : sliceMade ⟨l.toArray⟩ t none none (some (-1, t3)) = .str ⟨l.reverse.toArray⟩ := by
    unfold sliceMade slicePicked
    rw [if_neg (by intro z; rw [Bool.and_eq_true] at z; exact absurd (show ((-1 : Int) == 1) = true from z.1) (by decide))]
    show Made.str ⟨((Builtin.Str.strSliceIndices none none (-1) (⟨l.toArray⟩ : Str).length).filterMap ((⟨l.toArray⟩ : Str).cps[·]?)).toArray⟩ = _
    rw [picked_back]
  rw [made]
  refine ⟨?_, .str _, H4, I5.tok _, ⟨_, rfl⟩, q⟩
  show l.reverse.toArray.size ≤ _
  rw [List.size_toArray, List.length_reverse, sizeLine_eq]; omega
theorem r_back {te : TE} {σ : L2.St} {H : Hp} {Q : VK} (h : te σ H fun x H1 => ∃ l : List Nat, x = .str ⟨l.toArray⟩ ∧ l.length ≤ 100000 ∧ Q (.str ⟨l.reverse.toArray⟩) H1) : tBack te σ H Q := h
/-! ### x == y, x < y by an own def -/
def qOwn (C : Addr) (sp : Sp) : R2 := fun x y H Q => ∃ a dx fs b dy gs, x = .ref a ∧ y = .ref b ∧ H a = some (.ins C dx fs) ∧ H b = some (.ins C dy gs) ∧ sp [x, y] H Q C8.E0
/-- what a class's own comparisons stand on -/
structure OwnOp (K : PySem.W.Frag) (C : Addr) (m : Str) (g : Addr) : Prop where
  at' : PySem.W.findIn K (.ref C) m = some (some (.ref g))
  fn : PySem.W.isFn K (.ref g) = true
variable {P : Program} {n : Nat} {sp : Sp} {C g : Addr} {fd : FuncData} {ps : List Str}
theorem op_own {op : CmpOp} (hop : ∀ a b, compareOp op a b = richCompare op a b) (o : OwnOp X.K C (cmpInfo op).2.1 g) (F : FnOk X.prog X.w X.K X.mg X.base C8.CX0 n g fd ps sp) (hr : Room n X.A) (bd : Binds X.K fd ps []) : OpR X (compareOp op) (qOwn C sp) := by
  intro pins s σ H x y v u Q I rx ry h
  obtain ⟨a, dx, fs, b, dy, gs, rfl, rfl, ha, hb, q⟩ := h
  obtain rfl : v = .ref a := rx
  obtain rfl : u = .ref b := ry
  obtain ⟨mA, J, _⟩ := ins_get I.hok ha
  obtain ⟨mB, J2, _⟩ := ins_get I.hok hb
  obtain ⟨od, J, _⟩ := J.look
  obtain ⟨od2, J2, _⟩ := J2.look
  obtain ⟨m, fr⟩ := I.fr
  rw [hop]
  refine PySem.W.cmp_K (op := op) (tb := .ref C) hr.units0 fr I.ok.mod.kin J J2.type (by simp [PySem.W.notFirst]) o.at' o.fn ?_
  have len := F.len _ _ _ _ q
  have both : Vals [V.ref a, V.ref b] [Value.ref a, Value.ref b] := .cons rfl (.cons rfl .nil)
  have bind := bd s [.ref a, .ref b] I.kIn (by simpa using len)
  refine wpAny_call (codeAny_mono (F.run X.A X.stack s H ⟨[.ref a, .ref b], []⟩ [.ref a, .ref b] [.ref a, .ref b] Q C8.E0 hr I.env0 (by simpa using bind) both q) ?_)
  intro r s2 hq
  cases r with
  | error e => exact False.elim hq
  | ok fl =>
    cases fl with
    | ret z =>
      obtain ⟨v, H2, I2, rz, qz⟩ := I.after hq
      exact SlX.cmpback rz ⟨v, H2, I2, rz, qz⟩
    | next => exact hq.elim
    | brk => exact hq.elim
    | cont => exact hq.elim
end
end Sw
namespace Sw
open PySem PySem.Spec PyProof.Rows L2 Sx Sy
/-! ### x != y by an own == -/
section
variable {M : Model} {prog : Program} {w : World} {A : Around} {E : Value → Shared → Prop} {s : Shared} {K : PySem.W.Frag} {x C : Addr} {ox : Obj} {od : Option Obj}
theorem bound_ne {args : List Value} {Q : Option Value → Shared → Prop} (X : K.In s.heap) (I : PySem.W.InstAt s.heap x ox C od) (hs : PySem.W.findIn K (.ref C) "__ne__" = some (some (.builtin "object.__ne__")))
    (h : wpAny M A (call (.builtin "object.__ne__") (.ref x :: args)) (fun v => Q (some v)) E s) : wpAny M A (callSpecialIfBound? (.ref x) "__ne__" args) Q E s := by
  have last : wpAny M A (call (.builtin "object.__ne__") ([.ref x] ++ args) >>= fun v => pure (some v)) Q E s := wpAny_bind (wpAny_mono h (fun v s2 h2 => wpAny_pure h2) fun _ _ e => e)
  simp only [callSpecialIfBound?, bindSpecialIfBound?]
  apply wpAny_holding
  refine wpAny_bind (wpAny_bind (wpAny_bind (I.type.here ((PySem.W.looks_findIn X hs).here ?_))))
  apply wpAny_bind
  refine wpAny_askSetting (wpAny_ite ?_)
  split
  · exact wpAny_bind (wpAny_of_eq (F.cmp_object.ne.bind _) (wpAny_pure (by exact last)))
  · exact wpAny_tryCatch (wpAny_bind (wpAny_of_eq (F.cmp_object.ne.bind _) (wpAny_pure (by exact last))))
theorem call_ne {f : Addr} {b : Value} {Q : Value → Shared → Prop} (X : K.In s.heap) (I : PySem.W.InstAt s.heap x ox C od) (hm : PySem.W.mroIn K C (.type "object") = some true) (hu : A.in1.units < cLine)
    (hs : PySem.W.findIn K (.ref C) "__eq__" = some (some (.ref f))) (hf : PySem.W.isFn K (.ref f) = true)
    (h : wpAny (model prog w) A.in1 (call (.ref f) [.ref x, b]) (fun v s' => ∃ k, v = .bool k ∧ Q (.bool (!k)) s') E s) : wpAny (model prog w) A (call (.builtin "object.__ne__") [.ref x, b]) Q E s := by
  refine wpAny_call (codeAny_call_builtin F.cmp_object.ne.plain F.cmpEntry_ne (PySem.W.check_slot F.cmpKind_ne F.cmpSplit_ne (I.type.andThen (PySem.W.looks_mroIn X hm)) (F.cmpArgs_ne _ _) ?_))
  unfold Builtin.«object.__ne__»
  refine wpAny_bind (m := slotArgs "__ne__" 1 ⟨[.ref x, b], []⟩) (wpAny_of_eq (a := (Value.ref x, [b])) rfl ?_)
  show wpAny _ _ (cRoomFor "comparison" [.ref x, b] >>= _) _ _ _
  refine wpAny_bind (wpAny_cRoomFor hu ?_)
  show wpAny _ _ (callSpecialIfBound? (.ref x) "__eq__" [b] >>= _) _ _ _
  refine wpAny_bind (PySem.W.ifBound_K X I hs hf (wpAny_mono h ?_ fun _ _ e => e))
  rintro v s2 ⟨k, rfl, hq⟩
  refine wpAny_bind (wpAny_truthy_bool ?_)
  exact wpAny_pure hq
end
end Sw
namespace Sw
open PySem PySem.Spec PyProof.Rows L2 Sx Sy
section
variable {prog : Program} {w : World} {A : Around} {E : Value → Shared → Prop} {s : Shared} {K : PySem.W.Frag} {x y C : Addr} {ox oy : Obj} {od oe : Option Obj} {b : Value}
theorem differ {f : Addr} {Q : Value → Shared → Prop} (hu : A.in1.units < cLine) (hu0 : A.units < cLine) (X : K.In s.heap) (I : PySem.W.InstAt s.heap x ox C od) (J : PySem.W.InstAt s.heap y oy C oe) (hm : PySem.W.mroIn K C (.type "object") = some true)
    (hn : PySem.W.findIn K (.ref C) "__ne__" = some (some (.builtin "object.__ne__"))) (hs : PySem.W.findIn K (.ref C) "__eq__" = some (some (.ref f))) (hf : PySem.W.isFn K (.ref f) = true)
    (h : wpAny (model prog w) A.in1 (call (.ref f) [.ref x, .ref y]) (fun v s' => ∃ k, v = .bool k ∧ Q (.bool (!k)) s') E s) : wpAny (model prog w) A (richCompare .NotEq (.ref x) (.ref y)) Q E s := by
  have try1 : wpAny (model prog w) A (tryCompare (.ref x) "__ne__" (.ref y)) (fun r s' => ∃ k : Bool, r = some (.bool k) ∧ Q (.bool k) s') E s := by
    have t : wpAny (model prog w) A (call (.builtin "object.__ne__") [.ref x, .ref y]) (fun v s' => ∃ k : Bool, v = .bool k ∧ Q (.bool k) s') E s := by
      refine call_ne X I hm hu hs hf (wpAny_mono h ?_ fun _ _ e => e)
      rintro v s2 ⟨k, rfl, q⟩
      exact ⟨k, rfl, !k, rfl, q⟩
    unfold tryCompare
    refine wpAny_bind (bound_ne X I hn (wpAny_mono t ?_ fun _ _ e => e))
    rintro v s2 ⟨k, rfl, q⟩
    exact wpAny_pure ⟨k, rfl, q⟩
  unfold richCompare
  simp only [oneThing_ref]
  apply wpAny_holding
  refine wpAny_bind (wpAny_cRoomFor hu0 ?_)
  refine wpAny_bind (I.type.here (wpAny_bind (J.type.here ?_)))
  split
  · rename_i q
    exact absurd q (by simp)
  · apply wpAny_bind
    apply wpAny_pure
    simp only [Bool.false_eq_true, if_false]
    refine wpAny_bind (wpAny_mono try1 ?_ fun _ _ e => e)
    rintro r s2 ⟨k, rfl, q⟩
    exact wpAny_pure q
end
section
variable {X : Cx} {n : Nat} {sp : Sp} {C g : Addr} {fd : FuncData} {ps : List Str}
def qOwnNe (C : Addr) (sp : Sp) : R2 := fun x y H Q => ∃ a dx fs b dy gs, x = .ref a ∧ y = .ref b ∧ H a = some (.ins C dx fs) ∧ H b = some (.ins C dy gs) ∧ sp [x, y] H (fun z H' => ∃ k, z = .bl k ∧ Q (.bl (!k)) H') C8.E0
theorem op_ownNe (o : OwnOp X.K C "__eq__" g) (hm : PySem.W.mroIn X.K C (.type "object") = some true) (hn : PySem.W.findIn X.K (.ref C) "__ne__" = some (some (.builtin "object.__ne__")))
    (F : FnOk X.prog X.w X.K X.mg X.base C8.CX0 n g fd ps sp) (hr : Room (n + 1) X.A) (bd : Binds X.K fd ps []) : OpR X (compareOp .NotEq) (qOwnNe C sp) := by
  intro pins s σ H x y v u Q I rx ry h
  obtain ⟨a, dx, fs, b, dy, gs, rfl, rfl, ha, hb, q⟩ := h
  obtain rfl : v = .ref a := rx
  obtain rfl : u = .ref b := ry
  obtain ⟨mA, J, _⟩ := ins_get I.hok ha
  obtain ⟨mB, J2, _⟩ := ins_get I.hok hb
  obtain ⟨od, J, _⟩ := J.look
  obtain ⟨od2, J2, _⟩ := J2.look
  refine differ hr.in1.units0 hr.units0 I.kIn J J2 hm hn o.at' o.fn ?_
  have len := F.len _ _ _ _ q
  have both : Vals [V.ref a, V.ref b] [Value.ref a, Value.ref b] := .cons rfl (.cons rfl .nil)
  have bind := bd s [.ref a, .ref b] I.kIn (by simpa using len)
  refine wpAny_call (codeAny_mono (F.run X.A.in1 X.stack s H ⟨[.ref a, .ref b], []⟩ [.ref a, .ref b] [.ref a, .ref b] _ C8.E0 hr.in1 I.env0.in1 (by simpa using bind) both q) ?_)
  intro r s2 hq
  cases r with
  | error e => exact False.elim hq
  | ok fl =>
    cases fl with
    | ret z =>
      obtain ⟨v, H2, I2, rz, k, rfl, qz⟩ := I.after hq
      obtain rfl : z = .bool k := rz
      exact ⟨k, rfl, .bl (!k), H2, I2, rfl, qz⟩
    | next => exact hq.elim
    | brk => exact hq.elim
    | cont => exact hq.elim
end
end Sw

/-! Ob: in, [], len, str, ~ and f-strings by a class's own defs. -/
namespace Ob
open PySem PySem.Spec PyProof.Rows L2 Sx Sw
section
variable {X : Cx} {n : Nat} {sp : Sp} {C g : Addr} {fd : FuncData} {ps : List Str}
/-- the def at g, called from around A -/
theorem own_call {A : Around} {pins : List (Addr × Obj)} {σ : L2.St} {H : Hp} {s : Shared} {vs : List V} {us : List Value} {Q : VK} {E : Value → Shared → Prop} (I : Inv X pins σ H s) (e0 : Env0 X.prog X.w X.K X.mg X.base A X.stack s H) (room : Room n A)
    (F : FnOk X.prog X.w X.K X.mg X.base C8.CX0 n g fd ps sp) (bd : Binds X.K fd ps []) (r : Vals vs us) (q : sp vs H Q C8.E0) : wpAny (model X.prog X.w) A (call (.ref g) us) (EP X pins σ Q) E s := by
  have len : us.length = ps.length := by rw [← r.length]; exact F.len _ _ _ _ q
  have bind := bd s us I.kIn (by rw [List.append_nil]; exact len)
  rw [List.append_nil] at bind
  refine wpAny_call (codeAny_mono (F.run A X.stack s H ⟨us, []⟩ us vs Q C8.E0 room e0 bind r q) ?_)
  intro res s2 got
  cases res with
  | error e => exact False.elim got
  | ok fl =>
    cases fl with
    | ret z => exact I.after got
    | next => exact got.elim
    | brk => exact got.elim
    | cont => exact got.elim
theorem v1 (b : Addr) : Vals [V.ref b] [Value.ref b] := .cons rfl .nil
theorem v2 {b : Addr} {x : V} {v : Value} (r : RelV x v) : Vals [V.ref b, x] [Value.ref b, v] := .cons rfl (.cons r .nil)
/-! ### x in obj -/
def qIn (C : Addr) (sp : Sp) : R2 := fun x y H Q => ∃ b dy gs, y = .ref b ∧ H b = some (.ins C dy gs) ∧ sp [y, x] H (fun z H' => ∃ k, z = .bl k ∧ Q (.bl k) H') C8.E0
def qNotIn (C : Addr) (sp : Sp) : R2 := fun x y H Q => ∃ b dy gs, y = .ref b ∧ H b = some (.ins C dy gs) ∧ sp [y, x] H (fun z H' => ∃ k, z = .bl k ∧ Q (.bl (!k)) H') C8.E0
theorem op_ownIn (o : OwnOp X.K C "__contains__" g) (F : FnOk X.prog X.w X.K X.mg X.base C8.CX0 n g fd ps sp) (hr : Room n X.A) (bd : Binds X.K fd ps []) : OpR X (compareOp .In) (qIn C sp) := by
  intro pins s σ H x y v u Q I rx ry now
  obtain ⟨b, dy, gs, rfl, hb, q⟩ := now
  obtain rfl : u = .ref b := ry
  obtain ⟨mB, J, _⟩ := ins_get I.hok hb
  obtain ⟨od, J, _⟩ := J.look
  obtain ⟨m, fr⟩ := I.fr
  refine PySem.W.in_K fr I.ok.mod.kin J o.at' o.fn (wpAny_mono (own_call I I.env0 hr F bd (v2 rx) q) ?_ fun _ _ e => e)
  rintro z s' ⟨v', H', I', rz, k, rfl, q'⟩
  obtain rfl : z = .bool k := rz
  exact wpAny_truthy_bool ⟨.bl k, H', I', rfl, q'⟩
theorem op_ownNotIn (o : OwnOp X.K C "__contains__" g) (F : FnOk X.prog X.w X.K X.mg X.base C8.CX0 n g fd ps sp) (hr : Room n X.A) (bd : Binds X.K fd ps []) : OpR X (compareOp .NotIn) (qNotIn C sp) := by
  intro pins s σ H x y v u Q I rx ry now
  obtain ⟨b, dy, gs, rfl, hb, q⟩ := now
  obtain rfl : u = .ref b := ry
  obtain ⟨mB, J, _⟩ := ins_get I.hok hb
  obtain ⟨od, J, _⟩ := J.look
  obtain ⟨m, fr⟩ := I.fr
  refine PySem.W.notIn_K fr I.ok.mod.kin J o.at' o.fn (wpAny_mono (own_call I I.env0 hr F bd (v2 rx) q) ?_ fun _ _ e => e)
  rintro z s' ⟨v', H', I', rz, k, rfl, q'⟩
  obtain rfl : z = .bool k := rz
  exact wpAny_truthy_bool ⟨.bl (!k), H', I', rfl, q'⟩
/-! ### len(obj), str(obj) -/
def qLenO (C : Addr) (sp : Sp) : List V → Hp → VK → Prop := fun xs H Q => ∃ b dy gs, xs = [.ref b] ∧ H b = some (.ins C dy gs) ∧ sp xs H (fun z H' => ∃ k : Nat, z = .int k ∧ k < 2 ^ 62 ∧ Q (.int k) H') C8.E0
theorem c_lenO (o : OwnOp X.K C "__len__" g) (F : FnOk X.prog X.w X.K X.mg X.base C8.CX0 n g fd ps sp) (hr : Room (n + 1) X.A) (bd : Binds X.K fd ps []) : CallR X (.builtin "len") (qLenO C sp) := by
  intro pins s σ H xs us Q I r now
  obtain ⟨b, dy, gs, rfl, hb, q⟩ := now
  obtain ⟨u, rfl, ru⟩ := vals1 r
  obtain rfl : u = .ref b := ru
  obtain ⟨mB, J, _⟩ := ins_get I.hok hb
  obtain ⟨od, J, _⟩ := J.look
  obtain ⟨m, fr⟩ := I.fr
  refine PySem.W.len_K fr I.ok.mod.kin J o.at' o.fn (wpAny_mono (own_call I I.env0.in1 hr.in1 F bd (v1 b) q) ?_ fun _ _ e => e)
  rintro z s' ⟨v', H', I', rz, k, rfl, hk, q'⟩
  obtain ⟨t, rfl⟩ := (show ∃ t, z = Value.int k t from rz)
  exact ⟨⟨by omega, by omega⟩, .int k, H', I'.tok _, ⟨_, rfl⟩, q'⟩
def qStrO (C : Addr) (sp : Sp) : List V → Hp → VK → Prop := fun xs H Q => ∃ b dy gs, xs = [.ref b] ∧ H b = some (.ins C dy gs) ∧ sp xs H (fun z H' => ∃ t : Str, z = .str t ∧ Q (.str t) H') C8.E0
theorem c_strO (o : OwnOp X.K C "__str__" g) (F : FnOk X.prog X.w X.K X.mg X.base C8.CX0 n g fd ps sp) (hr : Room (n + 2) X.A) (bd : Binds X.K fd ps []) : CallR X (.type "str") (qStrO C sp) := by
  intro pins s σ H xs us Q I r now
  obtain ⟨b, dy, gs, rfl, hb, q⟩ := now
  obtain ⟨u, rfl, ru⟩ := vals1 r
  obtain rfl : u = .ref b := ru
  obtain ⟨mB, J, _⟩ := ins_get I.hok hb
  obtain ⟨od, J, _⟩ := J.look
  refine PySem.W.kso_call hr.in1.in1.units0 I.kIn J o.at' o.fn (wpAny_mono (own_call I I.env0.in1.in1 hr.in1.in1 F bd (v1 b) q) ?_ fun _ _ e => e)
  rintro z s' ⟨v', H', I', rz, t, rfl, q'⟩
  obtain ⟨tk, rfl⟩ := (show ∃ tk, z = Value.str t tk from rz)
  exact ⟨.str t, H', I', ⟨tk, rfl⟩, q'⟩
/-- {x}, x of a class with its own __str__ -/
def tFmtO (C : Addr) (sp : Sp) (te : TE) : TE := fun σ H Q => te σ H fun x H1 => ∃ b dy gs, x = .ref b ∧ H1 b = some (.ins C dy gs) ∧ sp [x] H1 (fun z H' => ∃ t : Str, z = .str t ∧ Q (.str t) H') C8.E0
theorem pe_fmtO {e : Expr} {te : TE} {pos : Pos} (o : OwnOp X.K C "__str__" g) (fm : PySem.W.findIn X.K (.ref C) "__format__" = some (some (.builtin "object.__format__"))) (mr : PySem.W.mroIn X.K C (.type "object") = some true)
    (F : FnOk X.prog X.w X.K X.mg X.base C8.CX0 n g fd ps sp) (hr : Room (n + 2) X.A) (bd : Binds X.K fd ps []) (he : PE X e te) : PE X (.FormattedValue e (-1) none pos) (tFmtO C sp te) := by
  constructor
  intro pins s σ H Q I now
  refine wpAny_FormattedValue_plain (thn (he.run pins s σ H _ I now) ?_)
  rintro v s1 ⟨x, H1, I1, r1, b, dy, gs, rfl, hb, q⟩
  obtain rfl : v = .ref b := r1
  have I2 : Inv X pins σ H1 { s1 with toks := s1.toks + 1 } := I1.tok _
  obtain ⟨mB, J, _⟩ := ins_get I1.hok hb
  obtain ⟨od, J, _⟩ := J.look
  refine PySem.W.kfo_fieldS hr.in1.units0 I1.kIn J fm mr o.at' o.fn (wpAny_mono (own_call I2 I2.env0.in1 (hr.in1.mono (Nat.le_succ _)) F bd (v1 b) q) ?_ fun _ _ e => e)
  rintro z s' ⟨v', H', I', rz, t, rfl, q'⟩
  obtain ⟨tk, rfl⟩ := (show ∃ tk, z = Value.str t tk from rz)
  exact ⟨.str t, H', I', ⟨tk, rfl⟩, q'⟩
/-! ### ~obj, obj[x] -/
def qInv (C : Addr) (sp : Sp) : V → Hp → VK → Prop := fun x H Q => ∃ b dy gs, x = .ref b ∧ H b = some (.ins C dy gs) ∧ sp [x] H Q C8.E0
theorem un_ownInv (o : OwnOp X.K C "__invert__" g) (F : FnOk X.prog X.w X.K X.mg X.base C8.CX0 n g fd ps sp) (hr : Room n X.A) (bd : Binds X.K fd ps []) : UnR X (unaryOp .Invert) (qInv C sp) := by
  intro pins s σ H x v Q I rx now
  obtain ⟨b, dy, gs, rfl, hb, q⟩ := now
  obtain rfl : v = .ref b := rx
  obtain ⟨mB, J, _⟩ := ins_get I.hok hb
  obtain ⟨od, J, _⟩ := J.look
  obtain ⟨m, fr⟩ := I.fr
  exact PySem.W.ksp_inv fr I.ok.mod.kin J o.at' o.fn (own_call I I.env0 hr F bd (v1 b) q)
def qItem (C : Addr) (sp : Sp) : R2 := fun x y H Q => ∃ b dy gs, x = .ref b ∧ H b = some (.ins C dy gs) ∧ sp [x, y] H Q C8.E0
end
end Ob

/-! Sz: zip over three tuples. -/
namespace Sw
open PySem PySem.Spec PyProof.Rows L2 Sx Sy
open Sem (wp)
/-- the tuples at a, b, c side by side, their items in new triples -/
def It3 (K : PySem.W.Frag) (a b c : Addr) : It :=
  ⟨fun i H => ∃ (xs ys zs : List V) (x y z : V), SqT K H a xs ∧ SqT K H b ys ∧ SqT K H c zs ∧ xs[i]? = some x ∧ ys[i]? = some y ∧ zs[i]? = some z,
   fun i H v H2 => ∃ p x y z, v = V.ref p ∧ H p = none ∧ H2 = upd H p (.tup [x, y, z]) ∧ (∀ xs, SqT K H a xs → xs[i]? = some x) ∧ (∀ ys, SqT K H b ys → ys[i]? = some y) ∧ (∀ zs, SqT K H c zs → zs[i]? = some z),
   fun i H => ∃ xs ys zs : List V, SqT K H a xs ∧ SqT K H b ys ∧ SqT K H c zs ∧ i = min (min xs.length ys.length) zs.length⟩
def At3 (N a b c : Nat) (i : Nat) (h : Heap) : Prop :=
  IsZip h (N + 5 : Nat) (N + 3 : Nat) (N + 4 : Nat) .none ∧ IsTupOf3 h (N + 3 : Nat) (.ref N) (.ref (N + 1 : Nat)) (.ref (N + 2 : Nat)) ∧ (∃ a1 a2 a3, IsTupOf3 h (N + 4 : Nat) a1 a2 a3) ∧ h.IsTupleIter N a i ∧ h.IsTupleIter (N + 1 : Nat) b i ∧ h.IsTupleIter (N + 2 : Nat) c i
def six (N : Nat) : List Addr := [(N + 5 : Nat), (N + 3 : Nat), (N + 4 : Nat), N, (N + 1 : Nat), (N + 2 : Nat)]
theorem six_mem {N : Nat} {b : Addr} : b ∈ six N ↔ b = N + 5 ∨ b = N + 3 ∨ b = N + 4 ∨ b = N ∨ b = N + 1 ∨ b = N + 2 := by unfold six; simp
section
variable {P : Program} {w : World} {K : PySem.W.Frag}
theorem walks3 {A : Around} (hh : A.handled = none) (N a b c : Nat) (ha : a < N) (hb : b < N) (hc : c < N) (xs ys zs : Array Value) :
    WalksT P w A (N + 5 : Nat) ((N + 5 : Nat) :: (N + 3 : Nat) :: (N + 4 : Nat) :: ([N, a] ++ [(N + 1 : Nat), b] ++ [(N + 2 : Nat), c])) [(N + 5 : Nat), (N + 4 : Nat), N, (N + 1 : Nat), (N + 2 : Nat)] (min (min xs.size ys.size) zs.size)
      (fun i vals => ∃ x1 x2 x3, xs[i]? = some x1 ∧ ys[i]? = some x2 ∧ zs[i]? = some x3 ∧ vals = #[x1, x2, x3])
      (fun i h => IsZip h (N + 5 : Nat) (N + 3 : Nat) (N + 4 : Nat) .none ∧ IsTupOf3 h (N + 3 : Nat) (.ref N) (.ref (N + 1 : Nat)) (.ref (N + 2 : Nat)) ∧ (∃ a1 a2 a3, IsTupOf3 h (N + 4 : Nat) a1 a2 a3) ∧ (h.IsTupleIter N a i ∧ h.IsTuple a xs) ∧ (h.IsTupleIter (N + 1 : Nat) b i ∧ h.IsTuple b ys) ∧ (h.IsTupleIter (N + 2 : Nat) c i ∧ h.IsTuple c zs))
      (fun i T h => IsZip h (N + 5 : Nat) (N + 3 : Nat) (N + 4 : Nat) (rawInt T) ∧ IsTupOf3 h (N + 3 : Nat) (.ref N) (.ref (N + 1 : Nat)) (.ref (N + 2 : Nat)) ∧ (∃ a1 a2 a3, IsTupOf3 h (N + 4 : Nat) a1 a2 a3) ∧ (h.IsTupleIter N a (i + 1) ∧ h.IsTuple a xs) ∧ (h.IsTupleIter (N + 1 : Nat) b (i + 1) ∧ h.IsTuple b ys) ∧ (h.IsTupleIter (N + 2 : Nat) c (i + 1) ∧ h.IsTuple c zs) ∧ T ≠ (N + 5 : Nat) ∧ T ≠ (N + 4 : Nat) ∧ T ≠ N ∧ T ≠ (N + 1 : Nat) ∧ T ≠ (N + 2 : Nat)) := by
  have D1 := Draws.tuple (prog := P) (w := w) (A := A.in1) hh N a (Nat.ne_of_lt ha) xs
  have D2 := Draws.tuple (prog := P) (w := w) (A := A.in1) hh (N + 1 : Nat) b (show (b : Nat) ≠ N + 1 by omega) ys
  have D3 := Draws.tuple (prog := P) (w := w) (A := A.in1) hh (N + 2 : Nat) c (show (c : Nat) ≠ N + 2 by omega) zs
  have sep := zip_sep3 (N := N) (fp1 := [a]) (fp2 := [b]) (fp3 := [c]) (by intro q m; cases List.mem_singleton.mp m; exact ha) (by intro q m; cases List.mem_singleton.mp m; exact hb) (by intro q m; cases List.mem_singleton.mp m; exact hc)
  exact WalksT.zipD3 sep D1 D2 D3
theorem turn_zip3 {tgs : List Expr} {q : Nat} {at' : Pos} {N a b c : Nat} (ha : a < N) (hb : b < N) (hc : c < N) :
    Turn P w K (.Tuple tgs q at') (It3 K a b c) (six N) (N + 5 : Nat) (fun i g => At3 N a b c i g) where
  mem := List.mem_cons_self ..
  obj := fun i g ⟨x1, x2, ⟨a1, a2, a3, x3⟩, x4, x5, x6⟩ e m => by
    have it : ∀ e t : Addr, g.IsTupleIter e t i → ∃ o, g.get? e = some o ∧ ∀ v, o.data ≠ .cell v := fun e t z => by
      obtain ⟨ob, y1, y2, y3⟩ := z
      exact ⟨ob, y1, fun v z => by rw [y3] at z; exact nomatch z⟩
    rcases six_mem.mp m with rfl | rfl | rfl | rfl | rfl | rfl
    · exact ⟨_, x1, nofun⟩
    · exact ⟨_, x2, nofun⟩
    · exact ⟨_, x3, nofun⟩
    · exact it _ _ x4
    · exact it _ _ x5
    · exact it _ _ x6
  keep := fun i g g' ⟨x1, x2, ⟨a1, a2, a3, x3⟩, x4, x5, x6⟩ same =>
    ⟨same _ (six_mem.mpr (by simp)) _ x1, same _ (six_mem.mpr (by simp)) _ x2, ⟨a1, a2, a3, same _ (six_mem.mpr (by simp)) _ x3⟩, x4.at fun ob z => same _ (six_mem.mpr (by simp)) ob z, x5.at fun ob z => same _ (six_mem.mpr (by simp)) ob z, x6.at fun ob z => same _ (six_mem.mpr (by simp)) ob z⟩
  item := by
    rintro X rfl rfl rfl calm i pins s σ H E I free st ⟨xs, ys, zs, x, y, z, h1, h2, h3, g1, g2, g3⟩
    obtain ⟨x1, x2, x3, x4, x5, x6⟩ := st
    obtain ⟨us, r1, t1, _⟩ := I.tuple h1
    obtain ⟨vs, r2, t2, _⟩ := I.tuple h2
    obtain ⟨ws, r3, t3, _⟩ := I.tuple h3
    obtain ⟨u, hu, ru⟩ := r1.get g1
    obtain ⟨v, hv, rv⟩ := r2.get g2
    obtain ⟨o, ho, ro⟩ := r3.get g3
    have W := walks3 (P := X.prog) (w := X.w) (A := X.A) (I.ok.hd calm) N a b c ha hb hc us.toArray vs.toArray ws.toArray
    have lt : i < min (min us.toArray.size vs.toArray.size) ws.toArray.size := by
      obtain ⟨l1, _⟩ := List.getElem?_eq_some_iff.mp hu
      obtain ⟨l2, _⟩ := List.getElem?_eq_some_iff.mp hv
      obtain ⟨l3, _⟩ := List.getElem?_eq_some_iff.mp ho
      simp only [List.size_toArray]; omega
    refine W.item i s _ _ lt ⟨x1, x2, x3, ⟨x4, t1⟩, ⟨x5, t2⟩, x6, t3⟩ ?_
    rintro T vals g tk ⟨b1, b2, b3, c1, c2, c3, rfl⟩ big tup mid others
    have e1 : b1 = u := by rw [List.getElem?_toArray, hu] at c1; exact (Option.some.inj c1).symm
    have e2 : b2 = v := by rw [List.getElem?_toArray, hv] at c2; exact (Option.some.inj c2).symm
    have e3 : b3 = o := by rw [List.getElem?_toArray, ho] at c3; exact (Option.some.inj c3).symm
    subst e1 e2 e3
    refine ⟨_, rfl, W.go tgs q at' i T { s with heap := g, toks := tk } _ _ mid ?_⟩
    rintro gg ⟨k1, k2, k3, ⟨k4, _⟩, ⟨k5, _⟩, k6, _⟩ others2
    have sub : ∀ e, e ∈ [((N + 5 : Nat) : Addr), (N + 4 : Nat), N, (N + 1 : Nat), (N + 2 : Nat)] → e ∈ six N := by
      intro e m
      rw [six_mem]
      simp only [List.mem_cons, List.not_mem_nil, or_false] at m
      rcases m with rfl | rfl | rfl | rfl | rfl <;> simp
    have apart := W.apart i T g mid
    obtain ⟨ot, d1, d2, d3⟩ := tup
    obtain ⟨slots, d3⟩ := d3
    have new : ObjOk X.prog X.w (upd H T (.tup [x, y, z])) gg T (.tup [x, y, z]) :=
      ⟨by rw [sizeLine_eq]; exact (by decide : 3 ≤ 16777216), [b1, b2, b3], .cons ru (.cons rv (.cons ro .nil)), ⟨ot, others2 T ot apart d1, d2, slots, d3⟩⟩
    have I2 : Inv X pins σ (upd H T (.tup [x, y, z])) { s with heap := gg, toks := tk } := by
      refine I.turnedNew (ch := [((N + 5 : Nat) : Addr), (N + 4 : Nat), N, (N + 1 : Nat), (N + 2 : Nat)]) (fun e ob m w1 => others2 e ob m (others e ob m w1)) (fun e m => free e (sub e m)) big new
    refine ⟨.ref T, _, I2, rfl, ⟨T, x, y, z, rfl, I.hok.fresh big, rfl, ?_, ?_, ?_⟩, ⟨k1, k2, k3, k4, k5, k6⟩, ?_⟩
    · intro q1 q2; rw [I.tuple_inj q2 h1]; exact g1
    · intro q1 q2; rw [I.tuple_inj q2 h2]; exact g2
    · intro q1 q2; rw [I.tuple_inj q2 h3]; exact g3
    · intro e m
      have ne : e ≠ T := by
        rintro rfl
        have old : s.heap.get? e ≠ none := by
          rcases six_mem.mp m with rfl | rfl | rfl | rfl | rfl | rfl
          · rw [show s.heap.get? (N + 5 : Nat) = some _ from x1]; simp
          · rw [show s.heap.get? (N + 3 : Nat) = some _ from x2]; simp
          · obtain ⟨_, _, _, x3⟩ := x3
            rw [show s.heap.get? (N + 4 : Nat) = some _ from x3]; simp
          · obtain ⟨ob, y1, _⟩ := x4; rw [y1]; simp
          · obtain ⟨ob, y1, _⟩ := x5; rw [y1]; simp
          · obtain ⟨ob, y1, _⟩ := x6; rw [y1]; simp
        cases old' : s.heap.get? e with
        | none => exact old old'
        | some ob => exact absurd (Heap.lt_size old') (Nat.not_lt.mpr big)
      rw [upd_ne ne]
      exact (free e m).1
  done := by
    rintro X rfl rfl rfl calm i pins s σ H E I free ⟨x1, x2, x3, x4, x5, x6⟩ ⟨xs, ys, zs, h1, h2, h3, rfl⟩
    obtain ⟨us, r1, t1, _⟩ := I.tuple h1
    obtain ⟨vs, r2, t2, _⟩ := I.tuple h2
    obtain ⟨ws, r3, t3, _⟩ := I.tuple h3
    have W := walks3 (P := X.prog) (w := X.w) (A := X.A) (I.ok.hd calm) N a b c ha hb hc us.toArray vs.toArray ws.toArray
    have e1 : xs.length = us.toArray.size := by rw [List.size_toArray]; exact r1.length
    have e2 : ys.length = vs.toArray.size := by rw [List.size_toArray]; exact r2.length
    have e3 : zs.length = ws.toArray.size := by rw [List.size_toArray]; exact r3.length
    rw [e1, e2, e3] at x4 x5 x6
    refine W.done s _ _ ⟨x1, x2, x3, ⟨x4, t1⟩, ⟨x5, t2⟩, x6, t3⟩ ?_
    intro g tk others
    refine ⟨rfl, I.turnedL (ch := [((N + 5 : Nat) : Addr), (N + 4 : Nat), N, (N + 1 : Nat), (N + 2 : Nat)]) others fun e m => free e ?_⟩
    rw [six_mem]
    simp only [List.mem_cons, List.not_mem_nil, or_false] at m
    rcases m with rfl | rfl | rfl | rfl | rfl <;> simp
  self := fun A i s Q E ⟨x1, _⟩ h => wpAny_pyIter_zip x1 h
end
def iZip3 (K : PySem.W.Frag) (ta : TA) : TI := fun σ H R => ta σ H fun vs H1 => ∃ a b c xs ys zs, vs = [V.ref a, V.ref b, V.ref c] ∧ SqT K H1 a xs ∧ SqT K H1 b ys ∧ SqT K H1 c zs ∧ R (It3 K a b c) H1
theorem pi_zip3 {X : Cx} {e1 e2 e3 : Expr} {ta : TA} {p pos tpos : Pos} {tgs : List Expr} {q : Nat} (hg : Gl X "zip") (hm : X.mg "zip" = none) (ha : PA X [e1, e2, e3] ta)
    (na : starEach [e1, e2, e3] X.env = (false, eval e1 X.env) :: starEach [e2, e3] X.env := by rfl) (nb : (backTo pos (starEach [e2, e3] X.env)).any (·.1) = false := by rfl) :
    PI X (.Tuple tgs q tpos) (.Call (.Name "zip" p) [e1, e2, e3] [] pos) (iZip3 X.K ta) := by
  constructor
  intro pins s σ H R I h
  refine Call_ (ld_blt I hg hm PyProof.Rows.boot_zip (PyProof.Rows.callWith_type1 (thn (ha.run pos pins s σ H _ I h) ?_) na nb))
  rintro us s1 ⟨vs, H1, I1, rr, a, b, c, xs, ys, zs, rfl, h1, h2, h3, next⟩
  obtain ⟨u1, us, rfl⟩ : ∃ u t, us = u :: t := by cases rr; exact ⟨_, _, rfl⟩
  cases rr with | cons ra rr =>
  cases rr with | cons rb rr =>
  cases rr with | cons rc rr =>
  cases rr
  cases ra
  cases rb
  cases rc
  obtain ⟨l1, r1, t1, _⟩ := I1.tuple h1
  obtain ⟨l2, r2, t2, _⟩ := I1.tuple h2
  obtain ⟨l3, r3, t3, _⟩ := I1.tuple h3
  have below : ∀ {t : Addr} {vs : Array Value}, s1.heap.IsTuple t vs → t < s1.heap.objs.size := by
    rintro t vs ⟨ob, y1, _⟩
    exact Heap.lt_size y1
  refine zip_begins3 (begins_tuple a l1.toArray) (begins_tuple b l2.toArray) (begins_tuple c l3.toArray) t1 t2 t3 ?_
  intro g x1 x2 x3 y1 y2 y3 size same
  refine wpAny_pyIter_zip x1 ?_
  refine ⟨_, six s1.heap.objs.size, _, It3 X.K a b c, H1, rfl, I1.kept (t' := s1.toks) same, turn_zip3 (below t1) (below t2) (below t3), ⟨x1, x2, ⟨_, _, _, x3⟩, ⟨_, y1, rfl, rfl⟩, ⟨_, y2, rfl, rfl⟩, ⟨_, y3, rfl, rfl⟩⟩, ?_, next⟩
  intro e m
  have le : s1.heap.objs.size ≤ e := by
    rcases six_mem.mp m with rfl | rfl | rfl | rfl | rfl | rfl
    · exact Nat.le_add_right _ _
    · exact Nat.le_add_right _ _
    · exact Nat.le_add_right _ _
    · exact Nat.le_refl _
    · exact Nat.le_add_right _ _
    · exact Nat.le_add_right _ _
  exact I1.fpOk le (I1.hok.fresh le)
/-- a new triple -/
def YTri (xs ys zs : Nat → Option V) : Nat → Hp → V → Hp → Prop := fun i H v H2 => ∃ p x y z, v = V.ref p ∧ H p = none ∧ H2 = upd H p (.tup [x, y, z]) ∧ xs i = some x ∧ ys i = some y ∧ zs i = some z
theorem walk_zip3 {K : PySem.W.Frag} {a b c : Addr} {xs ys zs : List V} {n : Nat} (h1 : xs.length = n) (h2 : ys.length = n) (h3 : zs.length = n) : Walk (It3 K a b c) n (fun H => SqT K H a xs ∧ SqT K H b ys ∧ SqT K H c zs) (YTri (fun i => xs[i]?) (fun i => ys[i]?) (fun i => zs[i]?)) := by
  constructor
  · intro i H hi q
    exact ⟨xs, ys, zs, xs[i], ys[i], zs[i], q.1, q.2.1, q.2.2, List.getElem?_eq_getElem _, List.getElem?_eq_getElem _, List.getElem?_eq_getElem _⟩
  · intro H q
    exact ⟨xs, ys, zs, q.1, q.2.1, q.2.2, by omega⟩
  · rintro i H v H2 _ q ⟨p, x, y, z, rfl, k1, k2, k3, k4, k5⟩
    exact ⟨p, x, y, z, rfl, k1, k2, k3 xs q.1, k4 ys q.2.1, k5 zs q.2.2⟩
section
variable {σ : L2.St} {H : Hp} {Q : VK} {te : TE} {tt : TT} {tl : TA} {g : TG} {K : PySem.W.Frag} {vs : List Nat}
theorem r_lc3 (h : tl σ H fun us H1 => ∃ a b c xs ys zs, us = [V.ref a, V.ref b, V.ref c] ∧ SqT K H1 a xs ∧ SqT K H1 b ys ∧ SqT K H1 c zs ∧ LCW (It3 K a b c) g tt te vs σ H1 Q) : tLc (iZip3 K tl) g tt te vs σ H Q := h
end
end Sw

/-! Zp: zip over two, each a list, a tuple or a text. -/
namespace Zp
open PySem PySem.Spec PyProof.Rows L2 Sx Sy
inductive SD where
  | l (a : Addr) | t (a : Addr) | s (x : Str)
def SD.v : SD → V
  | .l a => .ref a
  | .t a => .ref a
  | .s x => .str x
def chars (x : Str) : List V := x.cps.toList.map fun c => V.str ⟨#[c]⟩
/-- its items -/
def SD.has (K : PySem.W.Frag) (H : Hp) : SD → List V → Prop
  | .l a, xs => SqL K H a xs
  | .t a, xs => SqT K H a xs
  | .s x, xs => xs = chars x
/-- the iterator at n, i items gone -/
def SD.at' (n : Addr) (i : Nat) (h : Heap) : SD → Prop
  | .l a => h.IsListIter n a i
  | .t a => h.IsTupleIter n a i
  | .s x => ∃ tk, h.IsStrIter n (strIterType x) x tk i
def SD.low (N : Nat) : SD → Prop
  | .l a => a < N
  | .t a => a < N
  | .s _ => True
theorem has_inj {X : Cx} {pins : List (Addr × Obj)} {σ : L2.St} {H : Hp} {s : Shared} (I : Inv X pins σ H s) {S : SD} {xs ys : List V} (h : S.has X.K H xs) (g : S.has X.K H ys) : xs = ys := by
  cases S with
  | l a => exact I.list_inj h g
  | t a => exact I.tuple_inj h g
  | s x => exact h.trans g.symm
theorem at_keep {S : SD} {n : Addr} {i : Nat} {h h' : Heap} (z : S.at' n i h) (k : ∀ o, h.get? n = some o → h'.get? n = some o) : S.at' n i h' := by
  cases S with
  | l a => exact z.at k
  | t a => exact z.at k
  | s x => obtain ⟨tk, o, y1, y2⟩ := z; exact ⟨tk, o, k _ y1, y2⟩
theorem at_obj {S : SD} {n : Addr} {i : Nat} {h : Heap} (z : S.at' n i h) : ∃ o, h.get? n = some o ∧ ∀ v, o.data ≠ .cell v := by
  cases S with
  | l a => obtain ⟨o, y1, y2, y3⟩ := z; exact ⟨o, y1, fun v q => by rw [y3] at q; cases q⟩
  | t a => obtain ⟨o, y1, y2, y3⟩ := z; exact ⟨o, y1, fun v q => by rw [y3] at q; cases q⟩
  | s x => obtain ⟨tk, o, y1, y2, y3⟩ := z; exact ⟨o, y1, fun v q => by rw [y3] at q; cases q⟩
theorem vals_back {xs : List V} {us : List Value} (r : Vals xs us) {j : Nat} {u : Value} (h : us[j]? = some u) : ∃ x, xs[j]? = some x ∧ RelV x u := by
  have lt : j < xs.length := by rw [r.length]; exact (List.getElem?_eq_some_iff.mp h).1
  obtain ⟨u', h', r'⟩ := r.get (List.getElem?_eq_getElem lt)
  rw [h] at h'; cases h'
  exact ⟨_, List.getElem?_eq_getElem lt, r'⟩
/-- what drawing from it needs -/
theorem pack {X : Cx} {pins : List (Addr × Obj)} {σ : L2.St} {H : Hp} {s : Shared} (I : Inv X pins σ H s) (hh : X.A.handled = none) {S : SD} {xs : List V} {n i N : Nat} (h : S.has X.K H xs) (low : S.low N) (hn : N ≤ n) (z : S.at' n i s.heap) :
    ∃ (fp : List Addr) (m : Nat) (Pr : Nat → Value → Prop) (St : Nat → Heap → Prop), Draws X.prog X.w X.A.in1 n (n :: fp) m Pr St ∧ (∀ b, b ∈ fp → b < N) ∧ m = xs.length ∧ (∀ j v, Pr j v → ∃ x, xs[j]? = some x ∧ RelV x v) ∧ St i s.heap ∧ ∀ j h', St j h' → S.at' n j h' := by
  cases S with
  | l a =>
    obtain ⟨its, r, ⟨o, n0, e1, e2, e3, e4⟩, _⟩ := I.list h
    have il : s.heap.IsList a its.toArray := ⟨o, e1, e2, n0, e4⟩
    refine ⟨[a], _, _, _, Draws.list (A := X.A.in1) hh n a (Nat.ne_of_lt (Nat.lt_of_lt_of_le low hn)) its.toArray, fun b hb => by cases List.mem_singleton.mp hb; exact low, ?_, fun j v q => ?_, ⟨z, il⟩, fun j h' q => q.1⟩
    · rw [List.size_toArray]; exact r.length.symm
    · have q : its.toArray[j]? = some v := q
      rw [List.getElem?_toArray] at q
      exact vals_back r q
  | t a =>
    obtain ⟨its, r, il, _⟩ := I.tuple h
    refine ⟨[a], _, _, _, Draws.tuple (A := X.A.in1) hh n a (Nat.ne_of_lt (Nat.lt_of_lt_of_le low hn)) its.toArray, fun b hb => by cases List.mem_singleton.mp hb; exact low, ?_, fun j v q => ?_, ⟨z, il⟩, fun j h' q => q.1⟩
    · rw [List.size_toArray]; exact r.length.symm
    · have q : its.toArray[j]? = some v := q
      rw [List.getElem?_toArray] at q
      exact vals_back r q
  | s x =>
    obtain ⟨tk, z⟩ := z
    have h : xs = chars x := h
    subst h
    refine ⟨[], _, _, _, Draws.text (A := X.A.in1) hh n x tk, (by intro b hb; cases hb), ?_, fun j v q => ?_, z, fun j h' q => ⟨tk, q⟩⟩
    · unfold chars; rw [List.length_map, Array.length_toList]
    · obtain ⟨c, u, q1, rfl⟩ := q
      refine ⟨.str ⟨#[c]⟩, ?_, ⟨u, rfl⟩⟩
      unfold chars
      rw [List.getElem?_map, Array.getElem?_toList, q1]; rfl
/-! ### side by side -/
def It2 (K : PySem.W.Frag) (S R : SD) : It :=
  ⟨fun i H => ∃ (xs ys : List V) (x y : V), S.has K H xs ∧ R.has K H ys ∧ xs[i]? = some x ∧ ys[i]? = some y,
   fun i H v H2 => ∃ p x y, v = V.ref p ∧ H p = none ∧ H2 = upd H p (.tup [x, y]) ∧ (∀ xs, S.has K H xs → xs[i]? = some x) ∧ (∀ ys, R.has K H ys → ys[i]? = some y),
   fun i H => ∃ xs ys : List V, S.has K H xs ∧ R.has K H ys ∧ i = min xs.length ys.length⟩
def At2 (N : Nat) (S R : SD) (i : Nat) (h : Heap) : Prop :=
  IsZip h (N + 4 : Nat) (N + 2 : Nat) (N + 3 : Nat) .none ∧ IsTupOf2 h (N + 2 : Nat) (.ref N) (.ref (N + 1 : Nat)) ∧ (∃ a1 a2, IsTupOf2 h (N + 3 : Nat) a1 a2) ∧ S.at' N i h ∧ R.at' (N + 1 : Nat) i h
def five (N : Nat) : List Addr := [(N + 4 : Nat), (N + 2 : Nat), (N + 3 : Nat), N, (N + 1 : Nat)]
theorem five_mem {N : Nat} {b : Addr} : b ∈ five N ↔ b = N + 4 ∨ b = N + 2 ∨ b = N + 3 ∨ b = N ∨ b = N + 1 := by unfold five; simp
section
variable {P : Program} {w : World} {K : PySem.W.Frag}
theorem turn_zip2 {tgs : List Expr} {q : Nat} {at' : Pos} {N : Nat} {S R : SD} (lS : S.low N) (lR : R.low N) : Turn P w K (.Tuple tgs q at') (It2 K S R) (five N) (N + 4 : Nat) (fun i g => At2 N S R i g) where
  mem := List.mem_cons_self ..
  obj := fun i g ⟨x1, x2, ⟨a1, a2, x3⟩, x4, x5⟩ e m => by
    rcases five_mem.mp m with rfl | rfl | rfl | rfl | rfl
    · exact ⟨_, x1, nofun⟩
    · exact ⟨_, x2, nofun⟩
    · exact ⟨_, x3, nofun⟩
    · exact at_obj x4
    · exact at_obj x5
  keep := fun i g g' ⟨x1, x2, ⟨a1, a2, x3⟩, x4, x5⟩ same =>
    ⟨same _ (five_mem.mpr (by simp)) _ x1, same _ (five_mem.mpr (by simp)) _ x2, ⟨a1, a2, same _ (five_mem.mpr (by simp)) _ x3⟩, at_keep x4 fun ob z => same _ (five_mem.mpr (by simp)) ob z, at_keep x5 fun ob z => same _ (five_mem.mpr (by simp)) ob z⟩
  item := by
    rintro X rfl rfl rfl calm i pins s σ H E I free st ⟨xs, ys, x, y, h1, h2, g1, g2⟩
    obtain ⟨x1, x2, x3, x4, x5⟩ := st
    obtain ⟨fp1, m1, P1, St1, D1, b1, e1, k1, s1, t1⟩ := pack I (I.ok.hd calm) h1 lS (Nat.le_refl N) x4
    obtain ⟨fp2, m2, P2, St2, D2, b2, e2, k2, s2, t2⟩ := pack I (I.ok.hd calm) h2 lR (Nat.le_succ N) x5
    have W := WalksT.zipD2 (zip_sep2 (N := N) b1 b2) D1 D2
    have lt : i < min m1 m2 := by
      obtain ⟨l1, _⟩ := List.getElem?_eq_some_iff.mp g1
      obtain ⟨l2, _⟩ := List.getElem?_eq_some_iff.mp g2
      omega
    refine W.item i s _ _ lt ⟨x1, x2, x3, s1, s2⟩ ?_
    rintro T vals g tk ⟨c1, c2, d1, d2, rfl⟩ big tup mid others
    obtain ⟨x', q1, r1⟩ := k1 i c1 d1
    obtain ⟨y', q2, r2⟩ := k2 i c2 d2
    have ex : x' = x := by rw [g1] at q1; exact (Option.some.inj q1).symm
    have ey : y' = y := by rw [g2] at q2; exact (Option.some.inj q2).symm
    subst ex ey
    refine ⟨_, rfl, W.go tgs q at' i T { s with heap := g, toks := tk } _ _ mid ?_⟩
    rintro gg ⟨y1, y2, y3, y4, y5⟩ others2
    have sub : ∀ e, e ∈ [((N + 4 : Nat) : Addr), (N + 3 : Nat), N, (N + 1 : Nat)] → e ∈ five N := by
      intro e m
      rw [five_mem]
      simp only [List.mem_cons, List.not_mem_nil, or_false] at m
      rcases m with rfl | rfl | rfl | rfl <;> simp
    have apart := W.apart i T g mid
    obtain ⟨ot, f1, f2, f3⟩ := tup
    obtain ⟨slots, f3⟩ := f3
    have new : ObjOk X.prog X.w (upd H T (.tup [x', y'])) gg T (.tup [x', y']) :=
      ⟨by rw [sizeLine_eq]; exact (by decide : 2 ≤ 16777216), [c1, c2], .cons r1 (.cons r2 .nil), ⟨ot, others2 T ot apart f1, f2, slots, f3⟩⟩
    have I2 : Inv X pins σ (upd H T (.tup [x', y'])) { s with heap := gg, toks := tk } := by
      refine I.turnedNew (ch := [((N + 4 : Nat) : Addr), (N + 3 : Nat), N, (N + 1 : Nat)]) (fun e ob m w1 => others2 e ob m (others e ob m w1)) (fun e m => free e (sub e m)) big new
    refine ⟨.ref T, _, I2, rfl, ⟨T, x', y', rfl, I.hok.fresh big, rfl, ?_, ?_⟩, ⟨y1, y2, y3, t1 _ _ y4, t2 _ _ y5⟩, ?_⟩
    · intro q1 q2; rw [has_inj I q2 h1]; exact g1
    · intro q1 q2; rw [has_inj I q2 h2]; exact g2
    · intro e m
      have ne : e ≠ T := by
        rintro rfl
        have old : s.heap.get? e ≠ none := by
          rcases five_mem.mp m with rfl | rfl | rfl | rfl | rfl
          · rw [show s.heap.get? (N + 4 : Nat) = some _ from x1]; simp
          · rw [show s.heap.get? (N + 2 : Nat) = some _ from x2]; simp
          · obtain ⟨_, _, x3⟩ := x3
            rw [show s.heap.get? (N + 3 : Nat) = some _ from x3]; simp
          · obtain ⟨ob, z1, _⟩ := at_obj x4; rw [z1]; simp
          · obtain ⟨ob, z1, _⟩ := at_obj x5; rw [z1]; simp
        cases old' : s.heap.get? e with
        | none => exact old old'
        | some ob => exact absurd (Heap.lt_size old') (Nat.not_lt.mpr big)
      rw [upd_ne ne]
      exact (free e m).1
  done := by
    rintro X rfl rfl rfl calm i pins s σ H E I free ⟨x1, x2, x3, x4, x5⟩ ⟨xs, ys, h1, h2, rfl⟩
    obtain ⟨fp1, m1, P1, St1, D1, b1, e1, k1, s1, t1⟩ := pack I (I.ok.hd calm) h1 lS (Nat.le_refl N) x4
    obtain ⟨fp2, m2, P2, St2, D2, b2, e2, k2, s2, t2⟩ := pack I (I.ok.hd calm) h2 lR (Nat.le_succ N) x5
    have W := WalksT.zipD2 (zip_sep2 (N := N) b1 b2) D1 D2
    rw [← e1, ← e2] at s1 s2
    refine W.done s _ _ ⟨x1, x2, x3, s1, s2⟩ ?_
    intro g tk others
    refine ⟨rfl, I.turnedL (ch := [((N + 4 : Nat) : Addr), (N + 3 : Nat), N, (N + 1 : Nat)]) others fun e m => free e ?_⟩
    rw [five_mem]
    simp only [List.mem_cons, List.not_mem_nil, or_false] at m
    rcases m with rfl | rfl | rfl | rfl <;> simp
  self := fun A i s Q E ⟨x1, _⟩ h => wpAny_pyIter_zip x1 h
end
def iZip2 (K : PySem.W.Frag) (ta : TA) : TI := fun σ H R => ta σ H fun vs H1 => ∃ S T : SD, ∃ xs ys, vs = [S.v, T.v] ∧ S.has K H1 xs ∧ T.has K H1 ys ∧ R (It2 K S T) H1
/-- the iterator that iter makes -/
def SD.ob : SD → (Value → Obj → Prop)
  | .l a, v, o => v = .ref a ∧ o = { cls := .type "list_iterator", data := .fields #[.ref a, .int 0 0] }
  | .t a, v, o => v = .ref a ∧ o = { cls := .type "tuple_iterator", data := .fields #[.ref a, .int 0 0] }
  | .s x, v, o => ∃ tk, v = .str x tk ∧ o = { cls := .type (strIterType x), data := .fields #[.str x tk, .int 0 0] }
theorem begin_at {X : Cx} {pins : List (Addr × Obj)} {σ : L2.St} {H : Hp} {s : Shared} (I : Inv X pins σ H s) {S : SD} {xs : List V} {u : Value} (r : RelV S.v u) (h : S.has X.K H xs) :
    ∃ (o : Obj) (Pr : Heap → Prop), Begins u o Pr ∧ Pr s.heap ∧ S.low s.heap.objs.size ∧ ∀ (n : Addr) (h' : Heap), h'.get? n = some o → S.at' n 0 h' := by
  cases S with
  | l a =>
    obtain rfl : u = .ref a := r
    obtain ⟨its, _, ⟨o, n0, e1, e2, e3, e4⟩, _⟩ := I.list h
    exact ⟨_, _, begins_list a its.toArray, ⟨o, e1, e2, n0, e4⟩, Heap.lt_size e1, fun n h' q => ⟨_, q, rfl, rfl⟩⟩
  | t a =>
    obtain rfl : u = .ref a := r
    obtain ⟨its, _, il, _⟩ := I.tuple h
    have lt : a < s.heap.objs.size := by obtain ⟨o, e1, _⟩ := il; exact Heap.lt_size e1
    exact ⟨_, _, begins_tuple a its.toArray, il, lt, fun n h' q => ⟨_, q, rfl, rfl⟩⟩
  | s x =>
    obtain ⟨tk, rfl⟩ := (show ∃ tk, u = Value.str x tk from r)
    exact ⟨_, _, begins_text x tk, trivial, trivial, fun n h' q => ⟨tk, _, q, rfl, rfl⟩⟩
theorem pi_zip2 {X : Cx} {e1 e2 : Expr} {ta : TA} {p pos tpos : Pos} {tgs : List Expr} {q : Nat} (hg : Gl X "zip") (hm : X.mg "zip" = none) (ha : PA X [e1, e2] ta)
    (na : starEach [e1, e2] X.env = (false, eval e1 X.env) :: starEach [e2] X.env := by rfl) (nb : (backTo pos (starEach [e2] X.env)).any (·.1) = false := by rfl) :
    PI X (.Tuple tgs q tpos) (.Call (.Name "zip" p) [e1, e2] [] pos) (iZip2 X.K ta) := by
  constructor
  intro pins s σ H R I h
  refine Call_ (ld_blt I hg hm PyProof.Rows.boot_zip (PyProof.Rows.callWith_type1 (thn (ha.run pos pins s σ H _ I h) ?_) na nb))
  rintro us s1 ⟨vs, H1, I1, rr, S, T, xs, ys, rfl, h1, h2, next⟩
  obtain ⟨u1, u2, rfl, ra, rb⟩ := vals2 rr
  obtain ⟨o1, Pr1, B1, p1, l1, w1⟩ := begin_at I1 ra h1
  obtain ⟨o2, Pr2, B2, p2, l2, w2⟩ := begin_at I1 rb h2
  refine zip_begins2 B1 B2 p1 p2 ?_
  intro g x1 x2 x3 y1 y2 size same
  refine wpAny_pyIter_zip x1 ?_
  refine ⟨_, five s1.heap.objs.size, _, It2 X.K S T, H1, rfl, I1.kept (t' := s1.toks) same, turn_zip2 l1 l2, ⟨x1, x2, ⟨_, _, x3⟩, w1 _ _ y1, w2 _ _ y2⟩, ?_, next⟩
  intro e m
  have le : s1.heap.objs.size ≤ e := by
    rcases five_mem.mp m with rfl | rfl | rfl | rfl | rfl
    · exact Nat.le_add_right _ _
    · exact Nat.le_add_right _ _
    · exact Nat.le_add_right _ _
    · exact Nat.le_refl _
    · exact Nat.le_add_right _ _
  exact I1.fpOk le (I1.hok.fresh le)
/-- a new pair -/
def YTwo (xs ys : List V) : Nat → Hp → V → Hp → Prop := fun i H v H2 => ∃ p x y, v = V.ref p ∧ H p = none ∧ H2 = upd H p (.tup [x, y]) ∧ xs[i]? = some x ∧ ys[i]? = some y
theorem walk_zip2 {K : PySem.W.Frag} {S R : SD} {xs ys : List V} {n : Nat} (h1 : xs.length = n) (h2 : ys.length = n) : Walk (It2 K S R) n (fun H => S.has K H xs ∧ R.has K H ys) (YTwo xs ys) := by
  constructor
  · intro i H hi q
    exact ⟨xs, ys, xs[i], ys[i], q.1, q.2, List.getElem?_eq_getElem _, List.getElem?_eq_getElem _⟩
  · intro H q
    exact ⟨xs, ys, q.1, q.2, by omega⟩
  · rintro i H v H2 _ q ⟨p, x, y, rfl, k1, k2, k3, k4⟩
    exact ⟨p, x, y, rfl, k1, k2, k3 xs q.1, k4 ys q.2⟩
section
variable {σ : L2.St} {H : Hp} {Q : VK} {te : TE} {tt : TT} {tl : TA} {g : TG} {K : PySem.W.Frag} {vs : List Nat} {tb : TS} {D : Ends}
theorem r_lcP (h : tl σ H fun us H1 => ∃ S T : SD, ∃ xs ys, us = [S.v, T.v] ∧ S.has K H1 xs ∧ T.has K H1 ys ∧ LCW (It2 K S T) g tt te vs σ H1 Q) : tLc (iZip2 K tl) g tt te vs σ H Q := h
theorem r_forP (h : tl σ H fun us H1 => ∃ S T : SD, ∃ xs ys, us = [S.v, T.v] ∧ S.has K H1 xs ∧ T.has K H1 ys ∧ FR (It2 K S T) g tb D σ H1) : tFor (iZip2 K tl) g tb D σ H := h
end
end Zp

/-! Mj: a call of a class in a variable; a range with any step; list of it. -/
namespace Mj
open PySem PySem.Spec PyProof.Rows L2 Sx Sy
section
variable {X : Cx} {CX : CXT} {k i : Nat} {f C : Addr} {fd : FuncData} {ps : List Str} {sp : Sp} {dvs : List V} {ds : List Value} {E : XK} {x : Str} {p pos : Pos} {e : Expr} {es : List Expr} {t : TA}
def tMakeL (i : Nat) (C : Addr) (sp : Sp) (dvs : List V) (E : XK) (t : TA) : TE := fun σ H Q => σ[i]? = some (some (.ref C)) ∧ t σ H fun vs H1 => ∀ x dx, H1 x = none → H1 dx = none → dx ≠ x → sp (.ref x :: (vs ++ dvs)) (upd (upd H1 dx (.own x)) x (.ins C dx [])) (fun v H2 => v = .non ∧ Q (.ref x) H2) E
theorem pe_makeL (M : Mk X.K C f) (F : FnOk X.prog X.w X.K X.mg X.base CX k f fd ps sp) (hr : Room (k + 1) X.A) (hN : X.N[i]? = some x) (hv : Vis X.env.scope x) (hb : Binds X.K fd ps ds) (hd : Vals dvs ds) (hx : Passes CX X E) (ha : PA X (e :: es) t)
    (nd : (x == ("__debug__" : Str)) = false := by decide) (ncd : (x == ("__classdict__" : Str)) = false := by decide) (he : starEach (e :: es) X.env = (false, eval e X.env) :: starEach es X.env := by rfl) (hpl : (backTo pos (starEach es X.env)).any (·.1) = false := by rfl) :
    PE X (.Call (.Name x p) (e :: es) [] pos) (tMakeL i C sp dvs E t) := by
  constructor
  intro pins s σ H Q I now
  obtain ⟨hσ, now⟩ := now
  refine wpAny_Call_Name_kw (thn ((pe_var hN hv nd ncd).run pins s σ H (fun v H1 => v = .ref C ∧ H1 = H) I ⟨_, hσ, rfl, rfl⟩) ?_)
  rintro u s0 ⟨v, H0, I0, ru, rfl, rfl⟩
  obtain rfl : u = .ref C := ru
  refine PySem.W.callWith_K (h₀ := X.base) I.ok.mod.kin M.kp (thn (ha.run pos pins s0 σ H0 _ I0 now) ?_) he hpl
  rintro us s1 ⟨vs, H1, I1, r, wish⟩
  exact ⟨I1.kIn, run_make M F hr hb hd hx I1 r wish⟩
end
theorem hu1 {k : Nat} {A : Around} (hr : Room k A) : A.units + 1 < cLine := by have := hr.un; omega
/-! ### range(a, b, c) as a value -/
def RgH (h : Heap) (a : Addr) (i j c : Int) : Prop := ∃ t u v, IsRange h a i j c t u v
def RgO (a : Addr) (i j c : Int) : HO := .ext fun h => RgH h a i j c
theorem rgO_ok {P : Program} {w : World} {H : Hp} {h : Heap} {a : Addr} {i j c : Int} (R : RgH h a i j c) : ObjOk P w H h a (RgO a i j c) := by
  obtain ⟨t, u, v, r⟩ := R
  refine ⟨⟨t, u, v, r⟩, ⟨_, r⟩, fun h1 h2 q k => ?_⟩
  obtain ⟨t', u', v', r'⟩ := q
  exact ⟨t', u', v', k _ r'⟩
def qRng3 : List V → Hp → VK → Prop := fun xs H Q => ∃ i j c : Int, xs = [.int i, .int j, .int c] ∧ c ≠ 0 ∧ c.natAbs < 1073741824 ∧ ∀ p, H p = none → Q (.ref p) (upd H p (RgO p i j c))
def qLstR : List V → Hp → VK → Prop := fun xs H Q => ∃ (p : Addr) (i j c : Int) (n : Nat), xs = [.ref p] ∧ H p = some (RgO p i j c) ∧ RgC i j c n ∧ n ≤ 1000000 ∧ ∀ q, H q = none → Q (.ref q) (upd H q (.lst ((List.range n).map fun t : Nat => V.int (i + (t : Int) * c))))
theorem vals_at {f : Nat → V} : ∀ {ms : List Nat} {vs : List Value}, ms.length = vs.length → (∀ (j : Nat) (v : Value), vs[j]? = some v → ∃ m, ms[j]? = some m ∧ RelV (f m) v) → Vals (ms.map f) vs
  | [], [], _, _ => .nil
  | [], _ :: _, h, _ => nomatch h
  | _ :: _, [], h, _ => nomatch h
  | m :: ms, v :: vs, h, g => by
    refine .cons ?_ (vals_at (Nat.succ.inj h) fun j w hw => g (j + 1) w hw)
    obtain ⟨m', e, r⟩ := g 0 v rfl
    cases e
    exact r
section
variable {X : Cx}
theorem c_rng3 : CallR X (.type "range") qRng3 := by
  intro pins s σ H xs us Q I r h
  obtain ⟨i, j, c, rfl, c0, cs, q⟩ := h
  cases r with
  | cons r1 r =>
    cases r with
    | cons r2 r =>
      cases r with
      | cons r3 r =>
        cases r
        obtain ⟨t1, rfl⟩ := r1
        obtain ⟨t2, rfl⟩ := r2
        obtain ⟨t3, rfl⟩ := r3
        refine call_range_3 c0 ?_ (.inl ?_)
        · refine ⟨.ref s.heap.objs.size, upd H s.heap.objs.size (RgO s.heap.objs.size i j c), ?_, rfl, q _ (I.hok.fresh (Nat.le_refl _))⟩
          refine I.laid (t' := s.toks) (fun b o z => Heap.get?_push_of_some _ z) (Nat.le_refl _) (rgO_ok ⟨t1, t2, t3, Heap.get?_push_size _ rfl⟩)
        · exact PyProof.noPylong_small cs
theorem c_lstR (hc : X.calm = true) : CallR X (.type "list") qLstR := by
  intro pins s σ H xs us Q I r h
  obtain ⟨p, i, j, c, n, rfl, hp, rc, hn, q⟩ := h
  obtain ⟨u, rfl, rx⟩ := vals1 r
  obtain rfl : u = .ref p := rx
  obtain ⟨t1, t2, t3, rg⟩ := (I.hok p (RgO p i j c) hp).1
  refine call_list_range (I.ok.hd hc) rg rc.2.2.1 rc.2.2.2 (by omega) ?_
  intro h2 tk acc room keep got its
  refine ⟨.ref s.heap.objs.size, upd H s.heap.objs.size (.lst ((List.range n).map fun t : Nat => V.int (i + (t : Int) * c))), ?_, rfl, q _ (I.hok.fresh (Nat.le_refl _))⟩
  refine I.laid keep (Nat.le_refl _) ?_
  refine ⟨by rw [List.length_map, List.length_range, sizeLine_eq]; omega, acc.toList, room, ?_, got⟩
  refine vals_at (by rw [List.length_range, Array.length_toList, its.1]) fun m v hv => ?_
  rw [Array.getElem?_toList] at hv
  have hm : m < n := by
    have := (Array.getElem?_eq_some_iff.mp hv).1
    rw [its.1] at this; exact this
  obtain ⟨t, rfl⟩ := its.2 m v hv
  exact ⟨m, by rw [List.getElem?_range hm], t, rfl⟩
end
/-! ### readings -/
section
variable {ty td tv te ta : TE} {σ : L2.St} {H : Hp} {Q : VK}
theorem r_makeL {i : Nat} {C : Addr} {sp : Sp} {E : XK} {t : TA} (h : σ[i]? = some (some (.ref C)) ∧ t σ H fun vs H1 => MakeP C sp E vs H1 Q) : tMakeL i C sp [] E t σ H Q := h
theorem r_din (h : ty σ H fun y H1 => td σ H1 fun x H2 => ∃ a o, x = .ref a ∧ DGet H2 a y o ∧ Q (.bl o.isSome) H2) : tDIn ty td σ H Q := h
theorem r_dnotin (h : ty σ H fun y H1 => td σ H1 fun x H2 => ∃ a o, x = .ref a ∧ DGet H2 a y o ∧ Q (.bl (!o.isSome)) H2) : tDNotIn ty td σ H Q := h
theorem r_dget (h : td σ H fun x H1 => ty σ H1 fun y H2 => ∃ a v, x = .ref a ∧ DGet H2 a y (some v) ∧ Q v H2) : tDGet td ty σ H Q := h
theorem r_dnew (h : ∀ p, H p = none → Q (.ref p) (upd H p (.dK []))) : tDNewK σ H Q := h
theorem r_dput {D : Ends} (h : tv σ H fun v H1 => td σ H1 fun x H2 => ty σ H2 fun y H3 => ∃ a H4, x = .ref a ∧ DPut H3 a y v H4 ∧ D.nx σ H4) : sDPut td ty tv D σ H := h
theorem r_lock (h : ∃ d u, H d = some u ∧ Mut (some u) ∧ ∀ od, te σ (upd H d (.frz od u)) fun v H' => H' d = some (.frz od u) ∧ Q v (upd H' d u)) : tLockE te σ H Q := h
end
/-! ### range(g - a, 0, -a) -/
theorem fits {x : Int} (h : x.natAbs < 1000000000) : Builtin.Range.rangeFitsLong x = true := by
  unfold Builtin.Range.rangeFitsLong
  simp
  omega
theorem rg_dn {g : Int} {a : Nat} (ha : 0 < a) (ha1 : a ≤ 1000) (hg : 0 ≤ g) (hg1 : g ≤ 100000) (nd : g = 0 ∨ ¬ (a : Int) ∣ g) : RgC (g - a) 0 (-(a : Int)) (g / (a : Int)).toNat := by
  have q0 : 0 ≤ g / (a : Int) := Int.ediv_nonneg hg (by omega)
  have q1 : g / (a : Int) ≤ g := Int.ediv_le_self _ hg
  have sz : Builtin.Range.rangeSize (g - a) 0 (-(a : Int)) = g / (a : Int) := by
    unfold Builtin.Range.rangeSize
    rw [if_neg (by omega)]
    have m1 := Int.emod_add_mul_ediv g a
    have m2 := Int.emod_nonneg g (show (a : Int) ≠ 0 by omega)
    have m3 := Int.emod_lt_of_pos g (show (0 : Int) < a by omega)
    by_cases h : g - a > 0
    · rw [if_pos h]
      have nz : g % (a : Int) ≠ 0 := by
        intro z
        rcases nd with rfl | nd
        · omega
        · exact nd (Int.dvd_of_emod_eq_zero z)
      have e : (g - (a : Int) - 0 - 1) / (a : Int) = g / (a : Int) - 1 := by
        refine ((Int.ediv_emod_unique (r := g % (a : Int) - 1) (q := g / (a : Int) - 1) (show (0 : Int) < a by omega)).mpr ⟨?_, by omega, by omega⟩).1
        rw [Int.mul_sub, Int.mul_one]; omega
      rw [show -(-(a : Int)) = a by omega, e]; omega
    · rw [if_neg h]
      have gl : g < a := by
        rcases Int.lt_or_eq_of_le (show g ≤ a by omega) with h1 | h1
        · exact h1
        · rcases nd with nd | nd
          · omega
          · exact absurd ⟨1, by omega⟩ nd
      exact (Int.ediv_eq_zero_of_lt hg gl).symm
  refine ⟨by omega, by omega, ?_, by rw [sz]; omega⟩
  unfold Builtin.Range.small
  rw [sz, fits (by omega), fits (by omega), fits (by omega), fits (by omega), if_neg (by omega), fits (by omega)]
  simp
/-! ### {k: v for .. in t} -/
section
variable {K : PySem.W.Frag} {g : TG} {tt : TT} {tk tv ta : TE} {vs : List Nat} {σ : L2.St} {H1 : Hp} {Q : VK}
def DCW (J : It) (g : TG) (tt : TT) (tk tv : TE) (vs : List Nat) (σ : L2.St) (H1 : Hp) (Q : VK) : Prop := ∀ D, H1 D = none →
  ∃ W : Nat → Nat → Hp → Prop, (∃ m, W 0 m (upd H1 D (.dK []))) ∧ ∀ i m H, W i m H → (J.stop i H ∧ Q (.ref D) H) ∨ (J.go i H ∧ ∃ Nx : Hp → Prop, (∀ H', Nx H' → ∃ m', m' < m ∧ W (i + 1) m' H') ∧ ∀ x H', J.yld i H x H' → g x (wipe σ vs) H' fun σ2 H2 => wipe σ2 vs = wipe σ vs ∧ tt σ2 H2 fun b H3 => if b = true then tk σ2 H3 fun y H4 => tv σ2 H4 fun z H5 => ∃ kvs k, y = kV k ∧ H5 D = some (.dK kvs) ∧ kvs.length < sizeLine ∧ Nx (upd H5 D (.dK (putK kvs k z))) else Nx H3)
theorem r_dcT (h : ta σ H1 fun x H1 => ∃ a, x = .ref a ∧ (∃ xs, SqT K H1 a xs) ∧ DCW (Itt K a) g tt tk tv vs σ H1 Q) : tDc (iTup K ta) g tt tk tv vs σ H1 Q := h
theorem dw_tup {a : Addr} {xs : List V} (Pv : Addr → Nat → Hp → Prop) (h0 : ∀ D, H1 D = none → Pv D 0 (upd H1 D (.dK []))) (hl : ∀ D, H1 D = none → ∀ i H, i ≤ xs.length → Pv D i H → SqT K H a xs)
    (hs : ∀ D, H1 D = none → ∀ i x H, xs[i]? = some x → Pv D i H → g x (wipe σ vs) H fun σ2 H2 => wipe σ2 vs = wipe σ vs ∧ tt σ2 H2 fun b H3 => if b = true then tk σ2 H3 fun y H4 => tv σ2 H4 fun z H5 => ∃ kvs k, y = kV k ∧ H5 D = some (.dK kvs) ∧ kvs.length < sizeLine ∧ Pv D (i + 1) (upd H5 D (.dK (putK kvs k z))) else Pv D (i + 1) H3)
    (hd : ∀ D, H1 D = none → ∀ H, Pv D xs.length H → Q (.ref D) H) : DCW (Itt K a) g tt tk tv vs σ H1 Q :=
  fun D hD => dc_tup (Qd := Q (.ref D)) (Pv D) (h0 D hD) (hl D hD) (hs D hD) (hd D hD)
end
theorem r_fmt {te : TE} {σ : L2.St} {H : Hp} {Q : VK} (h : te σ H fun x H1 => (∃ y : Str, x = .str y ∧ y.length ≤ sizeLine ∧ Q (.str y) H1) ∨ ∃ i : Int, x = .int i ∧ i.natAbs.log2 < 1920 ∧ Q (.str (toString i)) H1) : tFmt te σ H Q := h
theorem r_lcK {g : TG} {tt : TT} {te td : TE} {vs : List Nat} {σ : L2.St} {H : Hp} {Q : VK} (h : td σ H fun x H1 => ∃ d o, x = .ref d ∧ ((∃ kvs, H1 d = some (.frz o (.dK kvs)) ∧ LCW (Itk d o kvs) g tt te vs σ H1 Q) ∨ ∃ kvs, H1 d = some (.frz o (.dT kvs)) ∧ LCW (Itkt d o kvs) g tt te vs σ H1 Q)) : tLc (iKeys td) g tt te vs σ H Q := h
/-! ### dicts of numbers -/
/-- the dict at d has just the keys in G -/
def TabAt (H : Hp) (d : Addr) (G : Int → Prop) : Prop := ∃ kvs : List (Key × V), H d = some (.dK kvs) ∧ ∀ x : Int, (valV kvs (.inl x)).isSome = true ↔ G x
theorem TabAt.mono {H H' : Hp} {d : Addr} {G : Int → Prop} (h : TabAt H d G) (s : ∀ b o, H b = some o → H' b = some o) : TabAt H' d G := by
  obtain ⟨kvs, e, k⟩ := h; exact ⟨kvs, s _ _ e, k⟩
theorem TabAt.get {H : Hp} {d : Addr} {G : Int → Prop} (h : TabAt H d G) (x : Int) : ∃ o, DGet H d (.int x) o ∧ (o.isSome = true ↔ G x) := by
  obtain ⟨kvs, e, k⟩ := h
  exact ⟨_, .inl ⟨kvs, .inl x, .inl e, rfl, rfl⟩, k x⟩
theorem r_isin {H : Hp} {d : Addr} {G : Int → Prop} {x : Int} {Q : VK} (h : TabAt H d G) (q : ∀ b : Bool, (b = true ↔ G x) → Q (.bl b) H) : ∃ a o, V.ref d = .ref a ∧ DGet H a (.int x) o ∧ Q (.bl o.isSome) H := by
  obtain ⟨kvs, e, k⟩ := h
  exact ⟨d, _, rfl, .inl ⟨kvs, .inl x, .inl e, rfl, rfl⟩, q _ (k x)⟩
theorem r_notin {H : Hp} {d : Addr} {G : Int → Prop} {x : Int} {Q : VK} (h : TabAt H d G) (q : ∀ b : Bool, (b = true ↔ ¬ G x) → Q (.bl b) H) : ∃ a o, V.ref d = .ref a ∧ DGet H a (.int x) o ∧ Q (.bl (!o.isSome)) H := by
  obtain ⟨kvs, e, k⟩ := h
  refine ⟨d, _, rfl, .inl ⟨kvs, .inl x, .inl e, rfl, rfl⟩, q _ ?_⟩
  rw [← k x]
  cases (valV kvs (Sum.inl x)).isSome <;> simp
theorem tab_put {kvs : List (Key × V)} {G : Int → Prop} {x : Int} {v : V} (k : ∀ x : Int, (valV kvs (.inl x)).isSome = true ↔ G x) (y : Int) : (valV (putK kvs (.inl x) v) (.inl y)).isSome = true ↔ (G y ∨ y = x) := by
  rw [valV_put]
  by_cases h : y = x
  · subst h; simp
  · rw [if_neg (by intro z; exact h (Sum.inl.inj z)), k y]; simp [h]
/-- {g: True for g in t}, of a tuple of numbers that are all unlike -/
def tabKv (ns : List Int) : List (Key × V) := ns.map fun n => (.inl n, V.bl true)
theorem tabKv_get (ns : List Int) (x : Int) : (valV (tabKv ns) (.inl x)).isSome = true ↔ x ∈ ns := by
  induction ns with
  | nil => simp [tabKv, valV]
  | cons n ns ih =>
    by_cases e : n = x
    · subst e
      rw [show tabKv (n :: ns) = (.inl n, V.bl true) :: tabKv ns from rfl, valV_pos rfl]; simp
    · rw [show tabKv (n :: ns) = (.inl n, V.bl true) :: tabKv ns from rfl, valV_neg (by intro z; exact e (Sum.inl.inj z)), ih]
      simp [Ne.symm e]
theorem tabKv_put {ns : List Int} {x : Int} (h : x ∉ ns) : putK (tabKv ns) (.inl x) (V.bl true) = tabKv (ns ++ [x]) := by
  rw [putK_new]
  · unfold tabKv; rw [List.map_append]; rfl
  · have := mt (tabKv_get ns x).mp h
    simpa using this
end Mj
namespace Mj
open PySem PySem.Spec PyProof.Rows L2 Sx Sy
section
variable {σ : L2.St} {H : Hp} {Q : VK} {tl : TA}
theorem r_makeD {C : Addr} {sp : Sp} {E : XK} {v0 : V} (h : tl σ H fun vs H1 => MakeP C sp E (vs ++ [v0]) H1 Q) : tMake C sp [v0] E tl σ H Q := by
  unfold tMake
  simpa only [MakeP, List.append_nil] using h
end
section
variable {K : PySem.W.Frag} {x qual : Str} {st : Stmt} {f ed e : Addr} {fd : FuncData} {ps : List Str} {pr : Arguments} {bd : List Stmt} {sc : Scope}
theorem fund_mk {oc kV doc pm cdv ct tc : Value} {od an td : Option Addr} {osl ts : Array (Option Value)} {tn : Nat}
    (l : K.lookup f = some ⟨oc, od, .func (PySem.W.fnOf x qual (defArgs st) (defBody st) (defScope st) (.ref ed) kV doc pm an cdv ct), osl⟩)
    (ld : K.lookup ed = some ⟨tc, td, .seq #[.ref e] tn, ts⟩) (c : PySem.W.codeIn K cdv qual = true) (k : PySem.W.keepIn K (.ref f) = true) :
    FunD K x qual (defArgs st) (defBody st) (defScope st) [.ref e] [] f (PySem.W.fnOf x qual (defArgs st) (defBody st) (defScope st) (.ref ed) kV doc pm an cdv ct) :=
  ⟨⟨_, _, _, _, _, _, _, _, _, _, rfl, l, c, .inr ⟨by simp, _, _, [.ref e], _, rfl, ld, rfl, .cons rfl .nil⟩, .inl rfl⟩, k⟩
theorem bind_a (F : FunD K x qual pr bd sc [.ref e] [] f fd) (n : Nat) (hn : n = ps.length)
    (h : ∀ (T : Addr) (kV doc pm : Value) (an : Option Addr) (cdv ct : Value) (us its : List Value), us.length = n → its.length = [V.ref e].length →
      ∃ k, bindArgs (PySem.W.fnOf x qual pr bd sc (.ref T) kV doc pm an cdv ct) { pos := us } = seqItems? (.ref T) >>= k ∧ k (some its.toArray) = pure (ps.zip (us ++ List.drop 1 its))) : Binds K fd ps [] := by
  obtain ⟨ds, hv, hb⟩ := F.binds1 n 1 (by simp) (by simpa using hn) h
  cases hv
  exact hb
theorem bind_d (F : FunD K x qual pr bd sc [.ref e] [] f fd) (n : Nat) (hn : n + 1 = ps.length)
    (h : ∀ (T : Addr) (kV doc pm : Value) (an : Option Addr) (cdv ct : Value) (us its : List Value), us.length = n → its.length = [V.ref e].length →
      ∃ k, bindArgs (PySem.W.fnOf x qual pr bd sc (.ref T) kV doc pm an cdv ct) { pos := us } = seqItems? (.ref T) >>= k ∧ k (some its.toArray) = pure (ps.zip (us ++ List.drop 0 its))) : Binds K fd ps [.ref e] := by
  obtain ⟨ds, hv, hb⟩ := F.binds1 n 0 (by simp) (by simpa using hn) h
  cases hv with
  | cons hr hn =>
    cases hn
    cases hr
    exact hb
end
end Mj

namespace Mj
open PySem
theorem kit_no {K : PySem.W.Frag} {t : Value} {C : Addr} (h1 : PySem.W.isClsIn K C = true) (h2 : PySem.W.typeIn K (.ref C) = some (.type "type")) (h3 : PySem.W.subIn K t (.ref C) = some false) (h4 : PySem.W.subIn K (.ref C) (.ref C) = some true) : PySem.W.kitOne K t (.ref C) = some false := by
  unfold PySem.W.kitOne
  split
  · rename_i e
    have e := eq_of_beq e
    subst e
    rw [h4] at h3; cases h3
  · unfold PySem.W.kitCls
    have : (PySem.W.clsIn K C).isSome = true := h1
    simp [this, h2, h3]

end Mj

namespace Mj
open PySem PySem.Spec PyProof.Rows L2
theorem r_cmeth {C : Addr} {sp : Sp} {E : XK} {ta : TE} {t : TA} {σ : L2.St} {H : Hp} {Q : VK} (h : ta σ H fun x H1 => x = .ref C ∧ t σ H1 fun vs H2 => sp (.ref C :: vs) H2 Q E) : ClX.tCMeth C sp E ta t σ H Q := h
end Mj

/-! Ox: an own comparison with a value of any kind. -/
namespace Ox
open PySem PySem.Spec PyProof.Rows L2 Sx Sw
section
variable {X : Cx} {n : Nat} {sp : Sp} {C g : Addr} {fd : FuncData} {ps : List Str}
def qOwnX (K : PySem.W.Frag) (C : Addr) (sp : Sp) : R2 := fun x y H Q => ∃ a dx fs t, x = .ref a ∧ H a = some (.ins C dx fs) ∧ TyX K H y t ∧ PySem.W.notFirst K C t = true ∧ sp [x, y] H Q C8.E0
theorem op_ownX {op : CmpOp} (hop : ∀ a b, compareOp op a b = richCompare op a b) (o : OwnOp X.K C (cmpInfo op).2.1 g) (F : FnOk X.prog X.w X.K X.mg X.base C8.CX0 n g fd ps sp) (hr : Room n X.A) (bd : Binds X.K fd ps []) : OpR X (compareOp op) (qOwnX X.K C sp) := by
  intro pins s σ H x y v u Q I rx ry h
  obtain ⟨a, dx, fs, t, rfl, ha, ty, nf, q⟩ := h
  obtain rfl : v = .ref a := rx
  obtain ⟨mA, J, _⟩ := ins_get I.hok ha
  obtain ⟨od, J, _⟩ := J.look
  obtain ⟨m, fr⟩ := I.fr
  obtain ⟨P, kx, hp, _⟩ := kit_of I ry ty
  rw [hop]
  refine PySem.W.cmp_K (op := op) (tb := t) hr.units0 fr I.ok.mod.kin J (kx.ty _ _ I.kIn hp) nf o.at' o.fn ?_
  have len := F.len _ _ _ _ q
  have both : Vals [V.ref a, y] [Value.ref a, u] := .cons rfl (.cons ry .nil)
  have bind := bd s [.ref a, u] I.kIn (by simpa using len)
  refine wpAny_call (codeAny_mono (F.run X.A X.stack s H ⟨[.ref a, u], []⟩ [.ref a, u] [.ref a, y] Q C8.E0 hr I.env0 (by simpa using bind) both q) ?_)
  intro r s2 hq
  cases r with
  | error e => exact False.elim hq
  | ok fl =>
    cases fl with
    | ret z =>
      obtain ⟨v, H2, I2, rz, qz⟩ := I.after hq
      exact SlX.cmpback rz ⟨v, H2, I2, rz, qz⟩
    | next => exact hq.elim
    | brk => exact hq.elim
    | cont => exact hq.elim
theorem nf_same {K : PySem.W.Frag} {C : Addr} : PySem.W.notFirst K C (.ref C) = true := by simp [PySem.W.notFirst]
end
end Ox

/-! Er: error classes over any built-in one, whose own __init__ keeps one value. -/
namespace Er
open PySem PySem.Spec PyProof.Rows L2 Sx PySem.Builtin.ObjectAttr
/-- the class at C, its __init__ a def at fI, the mro of its built-in base bmB, made by nw -/
structure Own (K : PySem.W.Frag) (C fI : Addr) (bmB : List Value) (nw : String) : Prop where
  made : PySem.W.excInitIn K C bmB nw = true
  over : PySem.W.excOver K C bmB = true
  dict : PySem.W.hasDictIn K C = true
  sets : PySem.W.findIn K (.ref C) "__setattr__" = some (some (.builtin "object.__setattr__"))
  init : PySem.W.findIn K (.ref C) "__init__" = some (some (.ref fI))
  fn : PySem.W.isFn K (.ref fI) = true
  kept : PySem.W.keepIn K (.ref C) = true
  exc : PySem.W.subIn K (.ref C) (.type "BaseException") = some true
  ty : PySem.W.typeIn K (.ref C) = some (.type "type")
  gets : PySem.W.findIn K (.ref C) "__getattribute__" = some (some (.builtin "BaseException.__getattribute__"))
  none' : PySem.W.findIn K (.ref C) "__getattr__" = some none
theorem Own.raises {X : Cx} {C fI : Addr} {bm : List Value} {nw : String} (T : Own X.K C fI bm nw) : Raises X (.ref C) := raises_own T.exc T.ty
theorem Own.field {K : PySem.W.Frag} {C fI : Addr} {bm : List Value} {nw : String} (T : Own K C fI bm nw) : XfC K C := ⟨T.gets, T.none', T.exc, T.dict⟩
section
variable {X : Cx} {pins : List (Addr × Obj)} {σ : L2.St} {H : Hp} {s : Shared} {C fI : Addr} {bm : List Value} {nw B : String}
/-- the first field of a fresh error -/
theorem first_field {a : Addr} {f : Str} {y : V} {u : Value} {Q : Unit → Shared → Prop} {E : Value → Shared → Prop} {A : Around} (T : Own X.K C fI bm nw) (SF : StoreFacts B bm "object.__setattr__" "object")
    (no : PySem.W.findIn X.K (.ref C) f = some none) (I : Inv X pins σ H s) (ha : H a = some (exo a C none)) (r : RelV y u)
    (go : ∀ dx s', H dx = none → dx ≠ a → Inv X pins σ (upd (upd H dx (exd dx [(f, y)])) a (exo a C (some dx))) s' → Q () s') : wpAny (model X.prog X.w) A (setAttr (.ref a) f u) Q E s := by
  obtain ⟨t1, at0⟩ := exo_at I.hok ha
  obtain ⟨cd, hcd, hdict⟩ : ∃ cd, PySem.W.clsIn X.K C = some cd ∧ cd.hasDict = true := PySem.W.any_some T.dict
  obtain ⟨hp, gs, dr, tk, os⟩ := s
  have inst : PySem.W.InstAt hp a { cls := .ref C, dict := none, data := .fields #[.ref t1, .none, .none, .none, .bool false, .none] } C none := ⟨at0, rfl, rfl, trivial⟩
  refine PySem.W.set_plain I.kIn inst T.sets ?_
  have taker : PySem.W.takerIn X.K C f = some none := by unfold PySem.W.takerIn; rw [no]; rfl
  refine PySem.W.osa_openX SF I.kIn inst T.over taker fun bb => ?_
  have know : PySem.W.Looks (model X.prog X.w) hp (classData C) cd := PySem.W.looks_clsIn I.kIn hcd
  have apart : hp.objs.size ≠ a := fun z => Nat.lt_irrefl _ (by have q := Heap.lt_size at0; rw [← z] at q; exact q)
  show wpAny _ _ (storeInOwnDict (.ref a) (.ref C) (.str f tk) f u bb) _ _ _
  obtain ⟨nm, bs, mro, ns, qn, hd, sn, sb, ab, col, dl⟩ := cd
  dsimp only at hdict
  subst hdict
  unfold storeInOwnDict ownDictForStores
  repeat (first | with_reducible refine HandSPX.store_in_new ?_ ?_ | with_reducible refine wpAny_loadPart_at at0 ?_ | with_reducible refine know.at ?_ | wp_step)
  · refine ⟨_, #[], _, (Heap.get?_update_ne _ _ _ _ apart).trans (Heap.get?_push_at rfl rfl), rfl, ?_, fun _ => rfl⟩
    intro z hz
    exact absurd hz (by simp)
  · intro h3 t3 named same
    have at1 : (hp.push { cls := .type "dict", data := .dict #[] }).get? a = some _ := Heap.get?_push_of_some _ at0
    have old : ∀ b o, b ≠ a → hp.get? b = some o → h3.get? b = some o := fun b o hb e => (same.2 b (Nat.ne_of_lt (Heap.lt_size e))).trans ((Heap.get?_update_ne _ _ _ _ hb).trans (Heap.get?_push_of_some _ e))
    have at3 : h3.get? a = some { cls := .ref C, dict := some hp.objs.size, data := .fields #[.ref t1, .none, .none, .none, .bool false, .none] } := (same.2 a (Ne.symm apart)).trans (Heap.get?_update_self _ at1 rfl)
    have newD : H hp.objs.size = none := I.hok.fresh (Nat.le_refl _)
    -- in two steps: the dict beside the error as it was, then the error
    have back : (h3.update a fun _ => { cls := .ref C, dict := none, data := .fields #[.ref t1, .none, .none, .none, .bool false, .none] }).get? a = some { cls := .ref C, dict := none, data := .fields #[.ref t1, .none, .none, .none, .bool false, .none] } := Heap.get?_update_self _ at3 rfl
    have beside : ∀ b, b ≠ a → (h3.update a fun _ => { cls := .ref C, dict := none, data := .fields #[.ref t1, .none, .none, .none, .bool false, .none] }).get? b = h3.get? b := fun b hb => Heap.get?_update_ne _ _ _ _ hb
    have I1 : Inv X pins σ (upd H hp.objs.size (exd hp.objs.size [(f, y)])) ⟨h3.update a fun _ => { cls := .ref C, dict := none, data := .fields #[.ref t1, .none, .none, .none, .bool false, .none] }, gs, dr, t3, os⟩ := by
      refine I.laid (t' := t3) (fun b o e => ?_) (Nat.le_refl _) (exd_ok (named.at fun o q => (beside _ apart).trans q) (relO_put (fs := []) r fun g => True.intro))
      by_cases hb : b = a
      · subst hb; rw [at0] at e; cases e; exact back
      · rw [beside b hb]; exact old b o hb e
    have ha1 : upd H hp.objs.size (exd hp.objs.size [(f, y)]) a = some (exo a C none) := by rw [upd_ne (Ne.symm apart)]; exact ha
    have I2 := I1.write (t' := t3) (h' := h3) (x := a) (e := a) (o := exo a C (some hp.objs.size)) (by rw [ha1]; exact True.intro) (.inl rfl) (fun b o hb e => by rw [beside b hb] at e; exact e) ⟨_, at3⟩ (exo_ok at3)
    exact go _ _ newD apart I2
/-- self.f = e in such an __init__ -/
def tSelf (C : Addr) (f : Str) (to te : TE) : TS := fun D σ H => te σ H fun y H1 => to σ H1 fun x H2 => ∃ a : Addr, x = .ref a ∧ H2 a = some (exo a C none) ∧
  ∀ dx, H2 dx = none → dx ≠ a → D.nx σ (upd (upd H2 dx (exd dx [(f, y)])) a (exo a C (some dx)))
theorem ps_self {o e : Expr} {f : Str} {p1 pos : Pos} {to te : TE} (T : Own X.K C fI bm nw) (SF : StoreFacts B bm "object.__setattr__" "object") (no : PySem.W.findIn X.K (.ref C) f = some none) (ho : PE X o to) (he : PE X e te)
    (sw : swapsWith e (some (.Attribute o f p1)) pos.line X.env = pure false := by rfl) : PS X (.Assign [.Attribute o f p1] e pos) (tSelf C f to te) := by
  constructor
  intro pn s σ H D I now
  refine plainObj_wpAny_Assign_Attribute (thn (he.run pn s σ H _ I now) ?_) sw
  rintro v s1 ⟨y, H1, I1, r1, now1⟩
  refine thn (ho.run pn s1 σ H1 _ I1 now1) ?_
  rintro z s2 ⟨x, H2, I2, r2, a, rfl, ha, go⟩
  obtain rfl : z = Value.ref a := r2
  exact first_field T SF no I2 ha r1 fun dx s' n ne J => ⟨σ, _, J, go dx n ne⟩
end
/-- what __init__ promises -/
def spInit (C : Addr) (f : Str) : Sp := fun vs H Q _ => ∃ (a : Addr) (v : V), vs = [.ref a, v] ∧ H a = some (exo a C none) ∧ ∀ dx, H dx = none → dx ≠ a → Q .non (upd (upd H dx (exd dx [(f, v)])) a (exo a C (some dx)))
theorem r_self {C a : Addr} {f : Str} {to te : TE} {nx bk ct : L2.St → Hp → Prop} {rt : VK} {σ : L2.St} {H : Hp}
    (h : te σ H fun y H1 => to σ H1 fun x H2 => ∃ a : Addr, x = .ref a ∧ H2 a = some (exo a C none) ∧ ∀ dx, H2 dx = none → dx ≠ a → nx σ (upd (upd H2 dx (exd dx [(f, y)])) a (exo a C (some dx)))) : tSelf C f to te ⟨nx, rt, bk, ct⟩ σ H := h
/-- C(e) -/
def tErr (C : Addr) (f : Str) (ta : TA) : L2.St → Hp → XK → Prop := fun σ H Q => ta σ H fun vs H1 => ∃ v, vs = [v] ∧ ∀ d, H1 d = none → Q (.ref C) (some d) (upd H1 d (.xd [(f, v)]))
theorem pmk_err {X : Cx} {x f : Str} {C fI : Addr} {bm : List Value} {nw B ini : String} {k : Nat} {fd : FuncData} {ps : List Str} {e : Expr} {ta : TA} {p pos : Pos} (T : Own X.K C fI bm nw) (F : ExcBaseFacts B nw ini bm)
    (F1 : FnOk X.prog X.w X.K X.mg X.base C8.CX0 k fI fd ps (spInit C f)) (hr : Room (k + 1) X.A) (hb : Binds X.K fd ps []) (hg : Gl X x) (hm : X.mg x = some (.ref C)) (ha : PA X [e] ta)
    (nd : (x == ("__debug__" : Str)) = false := by decide) (he : starEach (e :: []) X.env = (false, eval e X.env) :: starEach [] X.env := by rfl) (hpl : (backTo pos (starEach [] X.env)).any (·.1) = false := by rfl) :
    PMk X (.Call (.Name x p) [e] [] pos) (tErr C f ta) := by
  intro pins s σ H Q I now
  refine wpAny_Call_Name_kw (ld_glob I hg hm ?_ nd)
  refine PySem.W.callWith_K (h₀ := X.base) I.ok.mod.kin T.kept (thn (ha.run pos pins s σ H _ I now) ?_) he hpl
  rintro us s1 ⟨vs, H1, I1, r1, v, rfl, go⟩
  refine ⟨I1.kIn, ?_⟩
  show wpAny _ _ (call (.ref C) us) _ _ _
  obtain ⟨nm, N', qn, bs, bm', hdct, sn, sub, ab, col, dd, k0, k1, k2, k3, k5, hC, tail⟩ := PySem.W.excInit_of I1.kIn T.made
  obtain ⟨hp, g, dr, tk, os⟩ := s1
  cases r1 with
  | @cons _ v' _ us' rv rest =>
    cases rest
    have grow : hp.objs.size ≤ hp.objs.size + 1 := Nat.le_succ _
    have fresh : H1 (hp.objs.size + 1) = none := I1.hok.fresh grow
    have kept : ∀ b o, hp.get? b = some o → ((hp.push (PySem.W.kdv_tup [v'])).push (PySem.HandSPX.excO C hp.objs.size)).get? b = some o := fun b o z => Heap.get?_push_of_some _ (Heap.get?_push_of_some _ z)
    have there : ((hp.push (PySem.W.kdv_tup [v'])).push (PySem.HandSPX.excO C hp.objs.size)).get? (hp.objs.size + 1) = some (PySem.HandSPX.excO C hp.objs.size) := by heap_get
    have I2 : Inv X pins σ (upd H1 (hp.objs.size + 1) (exo (hp.objs.size + 1) C none)) ⟨(hp.push (PySem.W.kdv_tup [v'])).push (PySem.HandSPX.excO C hp.objs.size), g, dr, tk, os⟩ := I1.laid (t' := tk) kept grow (exo_ok there)
    have wish : spInit C f [.ref (hp.objs.size + 1), v] (upd H1 (hp.objs.size + 1) (exo (hp.objs.size + 1) C none))
        (fun w H2 => w = .non ∧ ∃ d : Addr, H2 (hp.objs.size + 1) = some (exo (hp.objs.size + 1) C (some d)) ∧ H2 d = some (exd d [(f, v)]) ∧ H1 d = none ∧ Q (.ref C) (some d) (upd (del H2 (hp.objs.size + 1)) d (.xd [(f, v)]))) (fun _ _ _ => False) := by
      refine ⟨_, v, rfl, upd_same, fun dx n ne => ⟨rfl, dx, upd_same, by rw [upd_ne ne, upd_same], by rw [upd_ne ne] at n; exact n, ?_⟩⟩
      have n1 : H1 dx = none := by rw [upd_ne ne] at n; exact n
      have same : upd (del (upd (upd (upd H1 (hp.objs.size + 1) (exo (hp.objs.size + 1) C none)) dx (exd dx [(f, v)])) (hp.objs.size + 1) (exo (hp.objs.size + 1) C (some dx))) (hp.objs.size + 1)) dx (.xd [(f, v)]) = upd H1 dx (.xd [(f, v)]) := by
        funext b
        by_cases h1 : b = dx
        · subst h1; rw [upd_same, upd_same]
        · rw [upd_ne h1, upd_ne h1]
          by_cases h2 : b = hp.objs.size + 1
          · subst h2; rw [del_same, fresh]
          · rw [del_ne h2, upd_ne h2, upd_ne h1, upd_ne h2]
      rw [same]
      exact go dx n1
    have args : Vals [V.ref (hp.objs.size + 1), v] [Value.ref (hp.objs.size + 1), v'] := .cons rfl (.cons rv .nil)
    have len : ([Value.ref (hp.objs.size + 1), v'] : List Value).length = ps.length := by have z := F1.len _ _ _ _ wish; exact z ▸ rfl
    have isf : PySem.W.typeIn X.K (.ref fI) = some (.type "function") := by
      have z := T.fn
      unfold PySem.W.isFn at z
      exact beq_iff_eq.mp z
    refine wpAny_call (PySem.HandSPX.call_own F tail hC (PySem.W.looks_findIn I1.kIn T.init) (fun self => PySem.W.bind_fn I1.kIn self isf) (by rw [sizeLine_eq]; exact (by decide : (1 : Nat) ≤ 16777216)) ?_)
    refine codeAny_mono (F1.run _ X.stack _ _ ⟨[Value.ref (hp.objs.size + 1), v'], []⟩ [Value.ref (hp.objs.size + 1), v'] _ _ (fun _ _ _ => False) (hr.make C _ []) (I2.env0.make C _ []) ?_ args wish) ?_
    · have z := hb ⟨(hp.push (PySem.W.kdv_tup [v'])).push (PySem.HandSPX.excO C hp.objs.size), g, dr, tk, os⟩ [Value.ref (hp.objs.size + 1), v'] I2.kIn
      rw [List.append_nil] at z
      exact z len
    · intro res s' got
      cases res with
      | error er => exact (show False from got).elim
      | ok fl =>
        cases fl with
        | next => exact False.elim got
        | brk => exact False.elim got
        | cont => exact False.elim got
        | ret u =>
          obtain ⟨w', H2, os2, bare2, un2, hok2, rw', ew, d, ea, ed, hd1, q2⟩ := got
          subst ew
          obtain ⟨h2, g2, d2, t2, os'⟩ := s'
          exact ⟨rw', mk_end T.raises I1 grow kept un2 hok2 os2 bare2 ea ed hd1 q2⟩
theorem ps_err {X : Cx} {W : WX} {x f : Str} {C fI : Addr} {bm : List Value} {nw B ini : String} {k : Nat} {fd : FuncData} {ps : List Str} {e : Expr} {ta : TA} {p pos pos2 : Pos} (hc : X.calm = true) (tk : Takes X W) (T : Own X.K C fI bm nw) (F : ExcBaseFacts B nw ini bm)
    (F1 : FnOk X.prog X.w X.K X.mg X.base C8.CX0 k fI fd ps (spInit C f)) (hr : Room (k + 1) X.A) (hb : Binds X.K fd ps []) (hg : Gl X x) (hm : X.mg x = some (.ref C)) (ha : PA X [e] ta)
    (nd : (x == ("__debug__" : Str)) = false := by decide) (he : starEach (e :: []) X.env = (false, eval e X.env) :: starEach [] X.env := by rfl) (hpl : (backTo pos (starEach [] X.env)).any (·.1) = false := by rfl) :
    PS X (.Raise (some (.Call (.Name x p) [e] [] pos)) none pos2) (fun _ σ H => tErr C f ta σ H fun cls d H' => W cls d σ H') :=
  ps_raise hc tk (pmk_err T F F1 hr hb hg hm ha nd he hpl)
/-- raise C(e), raise C('m'): what comes out -/
def tRaise (C : Addr) (f : Str) (E : XK) (ta : TA) : TS := fun _ σ H => tErr C f ta σ H fun cls d H' => E cls d H'
def tRaise0 (C : Addr) (E : XK) : TS := fun _ _ H => E (.ref C) none H
theorem ps_raise1 {X : Cx} {E : XK} {x f : Str} {C fI : Addr} {bm : List Value} {nw B ini : String} {k : Nat} {fd : FuncData} {ps : List Str} {e : Expr} {ta : TA} {p pos pos2 : Pos} (hc : X.calm = true) (tk : Takes X (fun cls d _ H => E cls d H)) (T : Own X.K C fI bm nw) (F : ExcBaseFacts B nw ini bm)
    (F1 : FnOk X.prog X.w X.K X.mg X.base C8.CX0 k fI fd ps (spInit C f)) (hr : Room (k + 1) X.A) (hb : Binds X.K fd ps []) (hg : Gl X x) (hm : X.mg x = some (.ref C)) (ha : PA X [e] ta)
    (nd : (x == ("__debug__" : Str)) = false := by decide) (he : starEach (e :: []) X.env = (false, eval e X.env) :: starEach [] X.env := by rfl) (hpl : (backTo pos (starEach [] X.env)).any (·.1) = false := by rfl) :
    PS X (.Raise (some (.Call (.Name x p) [e] [] pos)) none pos2) (tRaise C f E ta) := ps_err hc tk T F F1 hr hb hg hm ha nd he hpl
theorem ps_raise0 {X : Cx} {E : XK} {x m : Str} {C : Addr} {bm : List Value} {nw B ini : String} {j : Nat} {p p2 pos pos2 : Pos} (hc : X.calm = true) (tk : Takes X (fun cls d _ H => E cls d H)) (F : ExcBaseFacts B nw ini bm)
    (q : PySem.W.excIn X.K C bm nw = true) (hm : X.mg x = some (.ref C)) (kp : PySem.W.keepIn X.K (.ref C) = true) (ex : PySem.W.subIn X.K (.ref C) (.type "BaseException") = some true) (ty : PySem.W.typeIn X.K (.ref C) = some (.type "type")) (hg : Gl X x)
    (nd : (x == ("__debug__" : Str)) = false := by decide) : PS X (.Raise (some (.Call (.Name x p) [.Constant (.str m) j p2] [] pos)) none pos2) (tRaise0 C E) := ps_raise hc tk (pmk_own F q hm kp (raises_own ex ty) hg nd)
theorem r_raise {C : Addr} {f : Str} {E : XK} {ta : TA} {D : Ends} {σ : L2.St} {H : Hp} (h : ta σ H fun vs H1 => ∃ v, vs = [v] ∧ ∀ d, H1 d = none → E (.ref C) (some d) (upd H1 d (.xd [(f, v)]))) : tRaise C f E ta D σ H := h
theorem r_raise0 {C : Addr} {E : XK} {D : Ends} {σ : L2.St} {H : Hp} (h : E (.ref C) none H) : tRaise0 C E D σ H := h
/-! ### the built-in classes above -/
abbrev bmValueError : List Value := [.type "ValueError", .type "Exception", .type "BaseException", .type "object"]
abbrev bmIndexError : List Value := [.type "IndexError", .type "LookupError", .type "Exception", .type "BaseException", .type "object"]
abbrev bmArithmeticError : List Value := [.type "ArithmeticError", .type "Exception", .type "BaseException", .type "object"]
abbrev bmOverflowError : List Value := [.type "OverflowError", .type "ArithmeticError", .type "Exception", .type "BaseException", .type "object"]
abbrev bmLookupError : List Value := [.type "LookupError", .type "Exception", .type "BaseException", .type "object"]
/-- which class an error is of, for an except clause -/
theorem exm {K : PySem.W.Frag} {R C : Addr} {b : Bool} (h1 : PySem.W.subIn K (.ref R) (.type "BaseException") = some true) (c1 : PySem.W.subIn K (.ref C) (.type "BaseException") = some true) (h2 : PySem.W.isClsIn K C = true) (h3 : PySem.W.typeIn K (.ref C) = some (.type "type")) (h4 : PySem.W.subIn K (.ref R) (.ref C) = some b) :
    PySem.W.exmOne K (.ref R) (.ref C) = some b := by
  have z1 : (PySem.W.subIn K (.ref C) (.type "BaseException") == some true) = true := by rw [c1] <;> rfl
  have z2 : ((PySem.W.clsIn K C).isSome && PySem.W.typeIn K (.ref C) == some (.type "type")) = true := by
    have h2' : (PySem.W.clsIn K C).isSome = true := h2
    rw [h2', h3] <;> rfl
  show (if (PySem.W.subIn K (.ref C) (.type "BaseException") == some true) = true then (if ((PySem.W.clsIn K C).isSome && PySem.W.typeIn K (.ref C) == some (.type "type")) = true then PySem.W.subIn K (.ref R) (.ref C) else none) else none) = some b
  rw [if_pos z1, if_pos z2]
  exact h4
end Er

/-! En: functions that are run where nothing is being shown (repr of a list asks for it), calls of them, and the end of a law with tables. -/
namespace En
open PySem PySem.Spec PyProof.Rows L2 LamX
/-- as FnOk, but only where the guards are known to be none -/
structure FnG (P : Program) (w : World) (K : PySem.W.Frag) (mg : Str → Option Value) (base : Heap) (CX : CXT) (k : Nat) (f : Addr) (fd : FuncData) (ps : List Str) (sp : Sp) : Prop where
  many : ∀ vs H Q E, sp vs H Q E → vs.length = ps.length
  goes : ∀ (A : Around) (outer : List Env) (s : Shared) (H : Hp) (args : Args) (us : List Value) (vs : List V) (Q : VK) (E : XK), A.guards = some [] → Room k A → Env0 P w K mg base A outer s H → BindsTo s fd args (ps.zip us) → Vals vs us → sp vs H Q E →
    codeAny (model P w) A (.call (.ref f) args) (CR CX outer P w H s Q E) s
section
variable {P : Program} {w : World} {K : PySem.W.Frag} {mg : Str → Option Value} {base : Heap} {k : Nat} {f : Addr} {fd : FuncData} {ps : List Str} {sp : Sp}
theorem fnG {x qual : Str} {st : Stmt} {N : List Str} (F : Fun K x qual st f fd) (S : FnScope N ps (defScope st)) (many : ∀ vs H Q E, sp vs H Q E → vs.length = ps.length)
    (go : ∀ (cdv : Value) (A : Around) (outer : List Env) (s : Shared) (H : Hp) (vs : List V) (Q : VK) (E : XK), fd.code = cdv → (A.deeper (envOfC qual (defScope st) s.heap.objs.size f cdv)).guards = some [] → Room k (A.deeper (envOfC qual (defScope st) s.heap.objs.size f cdv)) → sp vs H Q E →
      ∃ t, PSs (cxOf CX0 P w K mg base N qual (defScope st) f cdv A outer s H E).nox (defBody st) t ∧ t { nx := fun _ H' => Q .non H', rt := Q } (start N vs) H) : FnG P w K mg base CX0 (k + 1) f fd ps sp := by
  obtain ⟨oc, od, kV, doc, pm, an, cdv, ct, osl, rfl, lk, code⟩ := F.ex
  refine ⟨many, ?_⟩
  intro A outer s H args us vs Q E clear room e0 binds args' wish
  exact run_ofS lk code S room e0 binds args' (many _ _ _ _ wish) fun room' => (go cdv A outer s H vs Q E rfl clear room' wish).imp fun t z => ⟨z.1.nox, z.2⟩
end
section
variable {X : Cx} {CX : CXT} {k : Nat} {f : Addr} {fd : FuncData} {ps : List Str} {sp : Sp} {E : XK} {x : Str} {p pos : Pos} {e : Expr} {es : List Expr} {t : TA}
/-- a call of such a function, from one of its kind -/
theorem pe_callG (clear : X.A.guards = some []) (F : FnG X.prog X.w X.K X.mg X.base CX k f fd ps sp) (room : Room k X.A) (hg : Gl X x) (hm : X.mg x = some (.ref f)) (hk : PySem.W.keepIn X.K (.ref f) = true) (hb : Binds X.K fd ps []) (pass : Passes CX X E) (ha : PA X (e :: es) t)
    (nd : (x == ("__debug__" : Str)) = false := by decide) (he : starEach (e :: es) X.env = (false, eval e X.env) :: starEach es X.env := by rfl) (hpl : (backTo pos (starEach es X.env)).any (·.1) = false := by rfl) :
    PE X (.Call (.Name x p) (e :: es) [] pos) (tCall sp [] E t) := by
  constructor
  intro pins s σ H Q I now
  refine wpAny_Call_Name_kw (ld_glob I hg hm ?_ nd)
  refine PySem.W.callWith_K (h₀ := X.base) I.ok.mod.kin hk (thn (ha.run pos pins s σ H _ I now) ?_) he hpl
  rintro us s1 ⟨vs, H1, I1, r, wish⟩
  refine ⟨I1.kIn, ?_⟩
  rw [List.append_nil] at wish
  have len : us.length = ps.length := by rw [← r.length]; exact F.many _ _ _ _ wish
  have b := hb s1 us I1.kIn (by rw [List.append_nil]; exact len)
  rw [List.append_nil] at b
  refine wpAny_call (codeAny_mono (F.goes X.A X.stack s1 H1 ⟨us, []⟩ us vs Q E clear room I1.env0 b r wish) ?_)
  intro res s' got
  cases res with
  | error er => exact pass pins σ H1 s1 er s' I1 got
  | ok fl =>
    cases fl with
    | ret u => exact I1.after got
    | next => exact False.elim got
    | brk => exact False.elim got
    | cont => exact False.elim got
end
/-- nothing comes out where nothing may -/
theorem passN {X : Cx} : Passes (L2.CX X.prog X.w) X (fun _ _ _ => False) := fun _ _ _ _ _ _ _ c => by
  obtain ⟨_, _, _, _, _, _, _, _, _, _, _, _, _, _, z⟩ := c

/-- f(lambda: body), told by f's own facts -/
theorem pe_lam {X : Cx} {T : List (Addr × Str)} {TT : (XK → Hp → VK → Prop) → Hp → VK → Prop} {x a : Str} {st : Stmt} {g c P : Addr} {fd : FuncData} {k : Nat} {Ng : List Str} {params : Arguments} {body : Expr} {scope : Scope} {t : XK → TE} {p lpos pos : Pos}
    (F : Fun X.K x x st g fd) (hm : X.mg x = some (.ref g)) (hb : L2.Binds X.K fd [a] []) (Sg : FnScope Ng [a] (defScope st)) (gives : ∀ cdv, GivesTo X Ng x (defScope st) g cdv (defBody st) a (X.env.qual ++ "<lambda>") TT)
    (TB : TabB X.base X.mg c P) (code : X.env.code = .ref c) (hmT : (P, X.env.qual ++ "<lambda>") ∈ T) (hu : ∀ p ∈ T, p.1 = P → p.2 = X.env.qual ++ "<lambda>") (room : Room (k + 2) X.A) (L : LamS X.env.scope scope)
    (run : ∀ (A : Around) (outer : List Env) (s : Shared) (H : Hp) (E : XK) (f c' : Addr), Room k (A.deeper (lamEnv X scope s.heap.objs.size f c')) → PE (lamCx X A outer s H E scope f c') body (t E))
    (hNg : Ng[0]? = some a := by rfl) (hva : Vis (defScope st) a := by exact .inl rfl) (hg : Gl X x := by rfl) (hdef : defaultsOf params X.env = ([], []) := by rfl) (hbind : ∀ (q : Str) (cl : List (Str × Addr)) (pm cv ctv : Value), bindArgs (PySem.W.kla_fn "<lambda>" q params body scope cl pm cv ctv) ⟨[], []⟩ = pure [] := by intros; rfl)
    (hdb : (x == ("__debug__" : Str)) = false := by decide) (hd : (a == ("__debug__" : Str)) = false := by decide) (hcd : (a == ("__classdict__" : Str)) = false := by decide) :
    PE X (.Call (.Name x p) [.Lambda params body scope lpos] [] pos) (tLam T TT t) := by
  obtain ⟨oc, od, kV, doc, pm, an, cdv, ct, osl, rfl, lk, codeF⟩ := F.ex
  exact pe_lamcall hg hm F.kp lk codeF hb Sg hNg hva (gives cdv) TB code hmT hu room L hdef hbind run hdb hd hcd
/-! ### values that are no integers -/
theorem TyOf_mono {K : PySem.W.Frag} {H H' : Hp} (s : ∀ b o, H b = some o → H' b = some o) {x : V} {t : Value} (h : TyOf K H x t) : TyOf K H' x t := by
  cases h with
  | non => exact .non
  | bl x => exact .bl x
  | int i => exact .int i
  | str x => exact .str x
  | flt x => exact .flt x
  | lst e => exact .lst (s _ _ e)
  | frz e => exact .frz (s _ _ e)
  | tup e => exact .tup (s _ _ e)
  | dK e => exact .dK (s _ _ e)
  | dT e => exact .dT (s _ _ e)
  | ins e cl ha hn hk hm => exact .ins (s _ _ e) cl ha hn hk hm
theorem TyX_mono {K : PySem.W.Frag} {H H' : Hp} (s : ∀ b o, H b = some o → H' b = some o) {x : V} {t : Value} (h : TyX K H x t) : TyX K H' x t := by
  cases h with
  | base h => exact .base (TyOf_mono s h)
  | byt b => exact .byt b
  | set e => exact .set (s _ _ e)
  | kList e c => exact .kList e c
  | kTuple e c => exact .kTuple e c
  | kDict e c => exact .kDict e c
  | fTuple e => exact .fTuple (s _ _ e)
  | fDict e => exact .fDict (s _ _ e)
def NoNum (K : PySem.W.Frag) (H : Hp) (v : V) : Prop := ∃ t b1 b2, TyX K H v t ∧ PySem.W.kitOne K t (.type "int") = some b1 ∧ PySem.W.kitOne K t (.type "bool") = some b2 ∧ (b1 && !b2) = false
theorem NoNum.mono {K : PySem.W.Frag} {H H' : Hp} {v : V} (h : NoNum K H v) (s : ∀ b o, H b = some o → H' b = some o) : NoNum K H' v := by
  obtain ⟨t, b1, b2, h1, h2, h3, h4⟩ := h
  exact ⟨t, b1, b2, TyX_mono s h1, h2, h3, h4⟩
theorem noNum_none {K : PySem.W.Frag} {H : Hp} : NoNum K H .non := ⟨_, false, false, .base .non, by rfl, by rfl, rfl⟩
theorem noNum_bl {K : PySem.W.Frag} {H : Hp} (b : Bool) : NoNum K H (.bl b) := ⟨_, true, true, .base (.bl b), by rfl, by rfl, rfl⟩
theorem noNum_str {K : PySem.W.Frag} {H : Hp} (z : Str) : NoNum K H (.str z) := ⟨_, false, false, .base (.str z), by rfl, by rfl, rfl⟩
theorem noNum_lst {K : PySem.W.Frag} {H : Hp} {a : Addr} {xs : List V} (e : H a = some (.lst xs)) : NoNum K H (.ref a) := ⟨_, false, false, .base (.lst e), by rfl, by rfl, rfl⟩
theorem noNum_tup {K : PySem.W.Frag} {H : Hp} {a : Addr} {xs : List V} (e : H a = some (.tup xs)) : NoNum K H (.ref a) := ⟨_, false, false, .base (.tup e), by rfl, by rfl, rfl⟩
theorem noNum_dK {K : PySem.W.Frag} {H : Hp} {a : Addr} {xs : List (Key × V)} (e : H a = some (.dK xs)) : NoNum K H (.ref a) := ⟨_, false, false, .base (.dK e), by rfl, by rfl, rfl⟩
/-! ### the end -/
/-- a tracked heap with which a law begins: the tables, empty, and the script, frozen unless the written part tells it -/
structure Begin (K : PySem.W.Frag) (T : List Addr) (a : Addr) (ns : List Int) (P : Program) (w : World) (h : Heap) (H : Hp) : Prop where
  tab : ∀ b, b ∈ T → H b = some (.tbl #[])
  only : ∀ b, H b = none ∨ b ∈ T ∨ ∃ o u, H b = some (.frz o (.lst u))
  where' : ∀ b, H b ≠ none → b = a ∨ b ∈ T
  script : SqL K H a (ns.map V.int)
  good : HOk P w H h
  out : H a ≠ none → K.lookup a = none
section
variable {P : Program} {w : World} {K : PySem.W.Frag} {mg mb : Str → Option Value} {k : Nat} {fa a : Addr} {cs : List (Addr × Addr)} {fd : FuncData} {x : Str} {sp : Sp} {s₁ : Shared} {vs : List Value} {ns : List Int} {H : Hp}
theorem law_goes (KX : K.In s₁.heap) (G : s₁.heap.Ns mainGlobals mg) (GB : s₁.heap.Ns builtinsNs mb) (boot : ∀ y : Str, y ≠ "__name__" → mb y = bootBuiltins y) (lim : s₁.heap.NoLimit) (bare : s₁.gens = #[])
    (empty : ∀ p ∈ cs, s₁.heap.get? p.2 = some { cls := .none, data := .fields #[] }) (outside : ∀ p ∈ cs, K.lookup p.2 = none) (codes : ∀ p ∈ cs, PySem.W.CodeHd s₁.heap p.1 p.2)
    (bmod : ∃ (bm : Addr) (ob : Obj), mg "__builtins__" = some (.ref bm) ∧ bm ≠ builtinsNs ∧ s₁.heap.get? bm = some ob ∧ ob.cls = .type "module" ∧ ob.dict = some builtinsNs ∧ ob.data = .plain)
    (there : s₁.heap.get? a = some { cls := .type "list", data := .seq vs.toArray }) (room : Room k callerA)
    (F : ∀ base : Heap, K.In base → base.Ns mainGlobals mg → (∀ p ∈ cs, TabB base mg p.1 p.2) → FnG P w K mg base CX0 k fa fd [x] sp) (binds : ∀ (s : Shared) (u : Value), BindsTo s fd ⟨[u], []⟩ [(x, u)])
    (B : Begin K (cs.map (·.2)) a ns P w s₁.heap H) (wish : sp [.ref a] H (fun v _ => v = .bl true) fun _ _ _ => False) :
    codeAny (model P w) callerA (.call (.ref fa) ⟨[.ref a], []⟩) (fun r s' => r = .ok (.ret (.bool true)) ∧ OldK s₁.heap s'.heap ∧ s'.os = s₁.os ∧ AllBare s'.gens) s₁ := by
  have inT : ∀ p ∈ cs, p.2 ∈ cs.map (·.2) := fun p m => List.mem_map.mpr ⟨p, m, rfl⟩
  have atT : ∀ b, b ∈ cs.map (·.2) → s₁.heap.get? b = some { cls := .none, data := .fields #[] } := by
    intro b m
    obtain ⟨p, mp, rfl⟩ := List.mem_map.mp m
    exact empty p mp
  have untracked : ∀ {b : Addr} {o : Obj}, s₁.heap.get? b = some o → (∀ y n, o.data ≠ .seq y n) → o.data ≠ .fields #[] → H b = none := by
    intro b o e n1 n2
    by_cases q : H b = none
    · exact q
    · rcases B.where' b q with rfl | m
      · rw [there] at e; cases e; exact absurd rfl (n1 _ _)
      · rw [atT b m] at e; cases e; exact absurd rfl n2
  have seen : ∀ {b : Addr} {o : Obj}, s₁.heap.get? b = some o → H b = none → (hidT s₁.heap H).get? b = some o := fun e n => hidT_get e n
  have names : ∀ {b : Addr} {m : Str → Option Value}, s₁.heap.Ns b m → (hidT s₁.heap H).Ns b m := by
    rintro b m ⟨o, es, ep, e, dd, r⟩
    refine ⟨o, es, ep, seen e (untracked e ?_ ?_), dd, r⟩
    · intro y n z; rw [dd] at z; cases z
    · intro z; rw [dd] at z; cases z
  have known : K.In (hidT s₁.heap H) := by
    intro b o e
    refine seen (KX b o e) ?_
    by_cases q : H b = none
    · exact q
    · rcases B.where' b q with rfl | m
      · rw [B.out q] at e; cases e
      · obtain ⟨p, mp, rfl⟩ := List.mem_map.mp m
        rw [outside p mp] at e; cases e
  have notDict : ∀ {b : Addr} {m : Str → Option Value} {q : Addr}, s₁.heap.Ns b m → q ∈ cs.map (·.2) → b ≠ q := by
    rintro b m q ⟨o, es, ep, e, dd, _⟩ mq rfl
    rw [atT b mq] at e; cases e; cases dd
  have tabs : ∀ p ∈ cs, TabB (hidT s₁.heap H) mg p.1 p.2 := by
    intro p mp
    refine ⟨?_, ?_, notDict G (inT p mp)⟩
    · obtain ⟨o, us, file, tf, flags, tg, inF, text, tt, e1, r1, r2, r3, r4, rest⟩ := codes p mp
      refine ⟨o, us, file, tf, flags, tg, inF, text, tt, seen e1 (untracked e1 ?_ ?_), r1, r2, r3, r4, rest⟩
      · intro y n z; rw [r2] at z; cases z
      · intro z; rw [r2] at z; cases z; simp at r3
    · obtain ⟨bm, ob, b1, b2, b3, b4, b5, b6⟩ := bmod
      refine ⟨bm, ob, b1, b2, ?_, ?_, seen b3 (untracked b3 ?_ ?_), b4, b5, b6⟩
      · rintro rfl
        obtain ⟨o, es, ep, e, dd, _⟩ := G
        rw [e] at b3; cases b3; rw [dd] at b6; cases b6
      · rintro rfl
        rw [empty p mp] at b3; cases b3; cases b6
      · intro y n z; rw [b6] at z; cases z
      · intro z; rw [b6] at z; cases z
  have base : L2.Mod K mg (hidT s₁.heap H) := ⟨known, names G, ⟨mb, names GB, boot⟩, lim.elim fun mc ⟨h1, h2⟩ => ⟨mc, names h1, h2⟩⟩
  have e0 : Env0 P w K mg (hidT s₁.heap H) callerA [] s₁ H := ⟨rfl, base, fun b o e => of_hidT e, Nat.le_of_eq (hidT_size _ _), trivial, fun b hb => absurd (show b ∈ ([] : List Addr) from hb) (by simp), B.good, .of_eq bare⟩
  refine codeAny_mono ((F _ known (names G) tabs).goes callerA [] s₁ H ⟨[.ref a], []⟩ [.ref a] [.ref a] _ _ rfl room e0 (binds s₁ (.ref a)) (.cons rfl .nil) wish) ?_
  intro r s' got
  cases r with
  | error er => exact (show False from got).elim
  | ok fl =>
    cases fl with
    | next => exact False.elim got
    | brk => exact False.elim got
    | cont => exact False.elim got
    | ret u =>
      obtain ⟨v, H', os, bare', un, good', rv, rfl⟩ := got
      obtain rfl : u = Value.bool true := rv
      have stays : ∀ b o, b ∉ cs.map (·.2) → s₁.heap.get? b = some o → s'.heap.get? b = some o := by
        intro b o nb e
        by_cases q : H b = none
        · exact un.keep b o e q (by intro z; exact absurd (show b ∈ ([] : List Addr) from z) (by simp)) (by simp)
        · rcases B.only b with z | z | ⟨ob, u', z⟩
          · exact absurd z q
          · exact absurd z nb
          · obtain ⟨e1, _⟩ := B.good b _ z
            obtain ⟨e2, _⟩ := good' b _ (un.frzs b ob _ z)
            rw [e] at e1; cases e1; exact e2
      have grown : ∀ p ∈ cs, ∃ more : Array Value, s'.heap.get? p.2 = some { cls := .none, data := .fields more } := by
        intro p mp
        obtain ⟨more, z⟩ := un.tbls p.2 #[] (B.tab _ (inT p mp))
        exact ⟨_, good' p.2 _ z⟩
      refine ⟨rfl, ⟨?_, ?_⟩, os, bare'⟩
      · intro b o e
        by_cases hb : b ∈ cs.map (·.2)
        · obtain ⟨p, mp, rfl⟩ := List.mem_map.mp hb
          obtain ⟨more, hm⟩ := grown p mp
          rw [empty p mp] at e; cases e
          exact .inr (.inl ⟨((codes p mp).tab (empty p mp)).isCodeTable, rfl, #[], more, rfl, by rw [Array.empty_append]; exact hm⟩)
        · exact .inl (stays b o hb e)
      · intro b o e
        by_cases hb : b ∈ cs.map (·.2)
        · obtain ⟨p, mp, rfl⟩ := List.mem_map.mp hb
          obtain ⟨more, hm⟩ := grown p mp
          exact ⟨_, hm⟩
        · exact ⟨o, stays b o hb e⟩
/-- there is such a heap -/
theorem begin_is (KX : K.In s₁.heap) (T : List Addr) (empty : ∀ b ∈ T, s₁.heap.get? b = some { cls := .none, data := .fields #[] }) (there : s₁.heap.get? a = some { cls := .type "list", data := .seq vs.toArray }) (numb : IntsAre vs ns) (few : ns.length ≤ sizeLine) :
    ∃ H, Begin K T a ns P w s₁.heap H := by
  have rv := vals_ints numb
  have lenV := numb.length
  have apart : a ∉ T := by
    intro m
    have q := empty a m
    rw [there] at q; cases q
  have tabOk : ∀ {H : Hp} {b : Addr}, b ∈ T → ObjOk P w H s₁.heap b (.tbl #[]) := fun m => empty _ m
  cases known : K.lookup a with
  | some o =>
    have e := KX a o known
    rw [there] at e; cases e
    refine ⟨fun b => if b ∈ T then some (.tbl #[]) else none, fun b m => if_pos m, fun b => ?_, fun b z => ?_, ?_, fun b u z => ?_, fun z => absurd (if_neg apart) z⟩
    · by_cases m : b ∈ T
      · exact .inr (.inl m)
      · exact .inl (if_neg m)
    · by_cases m : b ∈ T
      · exact .inr m
      · exact absurd (if_neg m) z
    · exact .inr ⟨_, vs.toArray, _, known, rfl, rfl, rfl, by rw [List.size_toArray, lenV]; exact few, by simpa using rv⟩
    · by_cases m : b ∈ T
      · simp only [if_pos m] at z; cases z; exact tabOk m
      · simp only [if_neg m] at z; cases z
  | none =>
    refine ⟨fun b => if b ∈ T then some (.tbl #[]) else if b = a then some (.frz { cls := .type "list", data := .seq vs.toArray } (.lst (ns.map V.int))) else none, fun b m => if_pos m, fun b => ?_, fun b z => ?_, ?_, fun b u z => ?_, fun _ => known⟩
    · by_cases m : b ∈ T
      · exact .inr (.inl m)
      · by_cases q : b = a
        · exact .inr (.inr ⟨{ cls := .type "list", data := .seq vs.toArray }, ns.map V.int, by simp only [if_neg m, if_pos q]⟩)
        · exact .inl (by simp only [if_neg m, if_neg q])
    · by_cases m : b ∈ T
      · exact .inr m
      · by_cases q : b = a
        · exact .inl q
        · exact absurd (show (if b ∈ T then some (HO.tbl #[]) else if b = a then some (HO.frz { cls := .type "list", data := .seq vs.toArray } (.lst (ns.map V.int))) else none) = none by simp only [if_neg m, if_neg q]) z
    · exact .inl (.inr ⟨{ cls := .type "list", data := .seq vs.toArray }, by simp only [if_neg apart, if_pos]⟩)
    · by_cases m : b ∈ T
      · simp only [if_pos m] at z; cases z; exact tabOk m
      · by_cases q : b = a
        · simp only [if_neg m, if_pos q] at z; cases z
          subst q
          exact ⟨there, by rw [List.length_map]; exact few, vs, _, rv, there⟩
        · simp only [if_neg m, if_neg q] at z; cases z
end
/-- what a law's own text has to give at the head's heap -/
def Law (l : PySem.W.OpenLaw) (w : World) (K : PySem.W.Frag) (k n : Nat) (x : Str) (mg : Str → Option Value) (fa : Addr) (h : Heap) : Prop :=
  ∃ (fd : FuncData) (cs : List (Addr × Addr)) (sp : Sp), (∀ p ∈ cs, h.get? p.2 = some { cls := .none, data := .fields #[] } ∧ K.lookup p.2 = none ∧ PySem.W.CodeHd h p.1 p.2) ∧ (∀ (s : Shared) (u : Value), BindsTo s fd ⟨[u], []⟩ [(x, u)]) ∧
    (∀ (H : Hp) (a : Addr) (ns : List Int), ns.length ≤ n → (∀ p ∈ cs, H p.2 = some (.tbl #[])) → SqL K H a (ns.map V.int) → sp [.ref a] H (fun v _ => v = .bl true) fun _ _ _ => False) ∧
    ∀ base : Heap, K.In base → base.Ns mainGlobals mg → (∀ p ∈ cs, TabB base mg p.1 p.2) → FnG l.prog w K mg base CX0 k fa fd [x] sp
theorem walkG {l : PySem.W.OpenLaw} {n k : Nat} {q : Program} {loose : List Str} {XP : (Str → Option Value) → Heap → Prop} {YP : World → Heap → Prop} {d : DefRec} {K : Params → PySem.W.Frag} {x : Str}
    (hn : l.most = some n) (hn2 : n ≤ sizeLine) (hdf : d.params.defaults = []) (room : Room k callerA) (hY : ∀ (w : World) (h : Heap), YP w h → (K w.params).In h)
    (F : ∀ (w : World) (mg : Str → Option Value) (fa : Addr) (h : Heap), YP w h → (K w.params).In h → h.Ns mainGlobals mg → mg d.name = some (.ref fa) → Law l w (K w.params) k n x mg fa h) :
    PySem.W.WalkO q loose XP YP l.row.toRowW d [] (fun f vs => PySem.call f vs) := by
  refine Att.attach_callB hn hdf ?_
  intro w s₀ s₁ mg mb fa o pm cd doc a vs ns G Y ho hd hcd hmg there numb many bits bare
  have KX := hY w _ Y
  obtain ⟨fd, cs, sp, facts, binds, wish, run⟩ := F w mg fa _ Y KX G.T.g hmg
  obtain ⟨H, B⟩ := begin_is (P := l.prog) (w := w) KX (cs.map (·.2)) (by
    intro b m
    obtain ⟨p, mp, rfl⟩ := List.mem_map.mp m
    exact (facts p mp).1) there numb (Nat.le_trans many hn2)
  exact law_goes KX G.T.g G.T.b G.T.builtins G.T.nolimit bare (fun p m => (facts p m).1) (fun p m => (facts p m).2.1) (fun p m => (facts p m).2.2) G.T.bmain there room run binds B (wish H a ns many (fun p m => B.tab _ (List.mem_map.mpr ⟨p, m, rfl⟩)) B.script)
end En

/-! Rp: repr of data, where nothing is being shown. -/
namespace Rp
open PySem PySem.Spec PyProof.Rows L2
/-- data whose text is short, without dicts -/
structure Short (d : PyData) : Prop where
  show' : d.showable = true
  flat : d.hasDict = false
  low : d.depth ≤ 60
  fits : d.shown.length + 64 ≤ sizeLine
def qRepr (K : PySem.W.Frag) : List V → Hp → VK → Prop := fun xs H Q => ∃ x d, xs = [x] ∧ Dp K H x d ∧ Short d ∧ Q (.str d.shown) H
section
variable {X : Cx}
theorem c_repr (clear : X.A.guards = some []) (un : X.A.units + 64 < cLine) : CallR X (.builtin "repr") (qRepr X.K) := by
  intro pins s σ H xs us Q I r now
  obtain ⟨x, d, rfl, dp, sh, q⟩ := now
  obtain ⟨u, rfl, ru⟩ := vals1 r
  have fin : ∀ (t : Tok) (h' : Heap) (tk : Nat), (∀ b o, s.heap.get? b = some o → h'.get? b = some o) → EP X pins σ Q (.str d.shown t) { s with heap := h', toks := tk } :=
    fun t h' tk kp => ⟨.str d.shown, H, I.kept kp, ⟨t, rfl⟩, q⟩
  cases dp with
  | non =>
    obtain rfl : u = Value.none := ru
    exact PySem.P.repr_of_none (fin _ _ _ fun _ _ e => e)
  | bl b =>
    obtain rfl : u = Value.bool b := ru
    refine PySem.P.repr_of_bool ?_
    have z := fin s.toks s.heap (s.toks + 1) fun _ _ e => e
    cases b with
    | true => exact z
    | false => exact z
  | int i =>
    obtain ⟨t, rfl⟩ := (show ∃ t, u = Value.int i t from ru)
    refine PySem.P.repr_of_int (of_decide_eq_true (show decide (i.natAbs.log2 < 1920) = true from sh.show')) ?_
    exact fin _ _ _ fun _ _ e => e
  | str z =>
    obtain ⟨t, rfl⟩ := (show ∃ t, u = Value.str z t from ru)
    exact PySem.P.repr_of_str (fin _ _ _ fun _ _ e => e) (Nat.le_trans (Nat.le_add_right _ 64) sh.fits)
  | @lst a ys ds hs ha =>
    obtain rfl : u = Value.ref a := ru
    obtain ⟨as, rd⟩ := Dp.reads I _ _ _ (.lst hs ha) rfl
    exact repr_of_reads' rd sh.show' (PyData.noDict_hsm sh.flat) clear (by have := sh.low; omega) (fun _ _ e => e) (fun h' t tk kp => fin t h' tk kp) (Nat.le_trans (Nat.le_add_right _ 64) sh.fits)
  | @tup a ys ds hs ha =>
    obtain rfl : u = Value.ref a := ru
    obtain ⟨as, rd⟩ := Dp.reads I _ _ _ (.tup hs ha) rfl
    exact repr_of_reads' rd sh.show' (PyData.noDict_hsm sh.flat) clear (by have := sh.low; omega) (fun _ _ e => e) (fun h' t tk kp => fin t h' tk kp) (Nat.le_trans (Nat.le_add_right _ 64) sh.fits)
end
end Rp
namespace Rp
open PySem PySem.Spec PyProof.Rows L2
/-- x is shown as t: short data, or a dict with nothing in it -/
def Shw (K : PySem.W.Frag) (H : Hp) (x : V) (t : Str) : Prop := (∃ d, Dp K H x d ∧ Short d ∧ t = d.shown) ∨ ∃ a, x = .ref a ∧ H a = some (.dK []) ∧ t = ("{}" : Str)
def qReprX (K : PySem.W.Frag) : List V → Hp → VK → Prop := fun xs H Q => ∃ x t, xs = [x] ∧ Shw K H x t ∧ Q (.str t) H
theorem c_reprX {X : Cx} (clear : X.A.guards = some []) (un : X.A.units + 64 < cLine) : CallR X (.builtin "repr") (qReprX X.K) := by
  intro pins s σ H xs us Q I r now
  obtain ⟨x, t, rfl, ⟨d, dp, sh, rfl⟩ | ⟨a, rfl, e, rfl⟩, q⟩ := now
  · exact c_repr clear un pins s σ H [x] us Q I r ⟨x, d, rfl, dp, sh, q⟩
  · obtain ⟨u, rfl, ru⟩ := vals1 r
    obtain rfl : u = Value.ref a := ru
    obtain ⟨_, hs, vs, hkv, o, es, ep, ho, hc, hda, _, hp, _⟩ := dk_of I.hok e
    cases hkv
    have he : es.toList = [] := by
      cases h : es.toList with
      | nil => rfl
      | cons z zs => rw [h] at hp; cases hp
    have rd : Reads s.heap (.ref a) (.dict []) (a :: [] ++ []) := .dict ho hc.1 hda (by rw [he]; exact .nil) (by rw [he]; exact .nil)
    refine repr_of_reads' rd (by rfl) (fun _ => ?_) clear (by show X.A.units + (1 + 1) < cLine; omega) (fun _ _ e => e) (fun h' t tk kp => ?_) ?_
    · simp only [List.append_nil, List.mem_singleton]
      rintro rfl
      simp at hs
    · have et : (PyData.dict []).shown = ("{}" : Str) := by decide +kernel
      rw [et]
      exact ⟨.str "{}", H, I.kept kp, ⟨t, rfl⟩, q⟩
    · have et : (PyData.dict []).shown = ("{}" : Str) := by decide +kernel
      rw [et]; decide +kernel
theorem Shw.of {K : PySem.W.Frag} {H : Hp} {x : V} {d : PyData} (h : Dp K H x d) (s : Short d) : Shw K H x d.shown := .inl ⟨d, h, s, rfl⟩
theorem Shw.fits {K : PySem.W.Frag} {H : Hp} {x : V} {t : Str} (h : Shw K H x t) : t.length + 64 ≤ sizeLine := by
  rcases h with ⟨d, _, s, rfl⟩ | ⟨a, _, _, rfl⟩
  · exact s.fits
  · decide +kernel
end Rp

/-! Tr: a try with several clauses, some of them with a name. -/
namespace Tr
open PySem PySem.Spec PyProof.Rows L2 Sx
abbrev Clause := Value × Option Nat × (Addr → Value → Option Addr → TS)
/-- behind a suite with a name: its slot is empty again -/
def out (i : Nat) (D : Ends) : Ends := ⟨fun σ H => D.nx (σ.set i none) H, D.rt, fun σ H => D.bk (σ.set i none) H, fun σ H => D.ct (σ.set i none) H⟩
def wAll (K : PySem.W.Frag) (Wout : WX) (D : Ends) : List Clause → WX
  | [] => Wout
  | (c, none, ts) :: r => fun cls d σ H => ∃ k, PySem.W.exmOne K cls c = some k ∧ (k = true → ∀ a, H a = none → ts a cls d D σ H) ∧ (k = false → wAll K Wout D r cls d σ H)
  | (c, some i, ts) :: r => fun cls d σ H => ∃ k, PySem.W.exmOne K cls c = some k ∧ (k = true → ∀ a, H a = none → i < σ.length → ts a cls d (out i D) (σ.set i (some (.ref a))) H) ∧ (k = false → wAll K Wout D r cls d σ H)
inductive Clauses (X : Cx) : List ExceptHandler → List Clause → Prop
  | nil : Clauses X [] []
  | plain {x : Str} {c : Value} {ts : Addr → Value → Option Addr → TS} {st : Stmt} {sts : List Stmt} {p1 p2 : Pos} {hs : List ExceptHandler} {l : List Clause} (n : Names X x c)
      (run : ∀ (a : Addr) (ob : Obj) (cls : Value) (d : Option Addr) (pn : List (Addr × Obj)), Zc cls d ob → (∃ vs, ob.data = .fields vs) → PSs (X.suite a ((a, ob) :: pn)) (st :: sts) (ts a cls d)) (rest : Clauses X hs l) :
      Clauses X (.ExceptHandler (some (.Name x p1)) none (st :: sts) p2 :: hs) ((c, none, ts) :: l)
  | named {x y : Str} {c : Value} {i : Nat} {ts : Addr → Value → Option Addr → TS} {st : Stmt} {sts : List Stmt} {p1 p2 : Pos} {hs : List ExceptHandler} {l : List Clause} (n : Names X x c) (at' : X.N[i]? = some y) (lo : X.env.kindOf y = some .local)
      (run : ∀ (a : Addr) (ob : Obj) (cls : Value) (d : Option Addr) (pn : List (Addr × Obj)), Zc cls d ob → (∃ vs, ob.data = .fields vs) → PSs (X.suite a ((a, ob) :: pn)) (st :: sts) (ts a cls d)) (rest : Clauses X hs l) :
      Clauses X (.ExceptHandler (some (.Name x p1)) (some y) (st :: sts) p2 :: hs) ((c, some i, ts) :: l)
section
variable {X : Cx} {body : List Stmt} {h1 : ExceptHandler} {hs : List ExceptHandler} {l : List Clause} {pos : Pos} {tb : WX → TS} {Wout : WX}
theorem ps_try_all (stk : X.stack = X.env :: X.outer) (frm : X.env.frame = some X.env.locals) (uniq : X.N.Nodup) (tk : Takes X Wout)
    (hb : ∀ (W : WX) (pn : List (Addr × Obj)) (xe : Value → Shared → Prop), Takes (X.tr pn xe) W → PassesOwn (model X.prog X.w) X.A X.env xe → PSs (X.tr pn xe) body (tb W))
    (cl : Clauses X (h1 :: hs) l) : PS X (.Try body (h1 :: hs) [] [] pos) (fun D σ H => tb (wAll X.K Wout D l) D σ H) := by
  constructor
  intro pins s σ H D I now
  have good := I.ok
  have frames : X.A.frames = some (X.env :: X.outer) := by rw [good.frames, stk]
  apply wpAny_Try_except
  have landing : ∀ u s', XE X (wAll X.K Wout D l) u s' → True := fun _ _ _ => trivial
  refine wpAny_mono ((hb (wAll X.K Wout D l) (X.pn ++ pins) _ ?caught PassesOwn.looking).run [] s σ H D (I.toTry _) now) ?ended (fun _ _ z => z)
  case ended =>
    intro f s1 got
    cases f with
    | next => obtain ⟨σ1, H1, J, q⟩ := got; exact wpAny_execs_nil ⟨σ1, H1, J.ofTry good, q⟩
    | brk => obtain ⟨σ1, H1, J, q⟩ := got; exact ⟨σ1, H1, J.ofTry good, q⟩
    | cont => obtain ⟨σ1, H1, J, q⟩ := got; exact ⟨σ1, H1, J.ofTry good, q⟩
    | ret u => obtain ⟨v, σ1, H1, J, r, q⟩ := got; exact ⟨v, σ1, H1, J.ofTry good, r, q⟩
  case caught =>
    rintro u s1 ⟨a, B, s0, pins1, σ1, H1, cls, d, rfl, J0, keep0, same0, air, na, os, gens, wish⟩
    have J : Inv X pins σ1 H1 s0 := J0.ofTry good
    have air1 : Sky B (X.env :: X.outer) a (Zc cls d) X.env.locals s1.heap := stk ▸ air
    show wpAny (model X.prog X.w) X.A (noteFrame (.ref a) X.env) _ _ _
    refine Sky.land Zc.steady frames frm air1 ?_
    intro g2 down2 same2
    have J2 : Inv X pins σ1 H1 { s1 with heap := g2 } := J.landed keep0 down2.1 (same0.trans same2) os gens
    obtain ⟨ob2, vs2, at2, z2, data2⟩ := down2.there
    have noframe : a ∉ frs (X.env :: X.outer) := by
      intro m
      obtain ⟨_, ob3, at3, nf⟩ := down2.2.2.1.mem m
      rw [at2] at at3; cases at3
      exact nf _ data2
    have nL : a ≠ X.env.locals := by
      intro e
      exact noframe (List.mem_filterMap.mpr ⟨X.env, List.mem_cons_self, by rw [frm, e]⟩)
    have nF : a ∉ X.fs := by
      intro m
      obtain ⟨v, hv, q⟩ := List.mem_filterMap.mp m
      exact noframe (List.mem_filterMap.mpr ⟨v, List.mem_cons_of_mem _ hv, q⟩)
    have S2 := J2.suite at2 data2 na nL nF
    have look2 : PySem.W.Looks (model X.prog X.w) g2 (typeOf (.ref a)) cls := fun A Q E s k q => wpAny_typeOf_ref (k _ _ at2) (by rw [z2.1]; exact q)
    have each : ∀ {hs' : List ExceptHandler} {l' : List Clause}, Clauses X hs' l' → wAll X.K Wout D l' cls d σ1 H1 → wpAny (model X.prog X.w) X.A (handleBy (.ref a) X.env hs') (SP X pins D) X.xe { s1 with heap := g2 } := by
      intro hs' l' ok
      induction ok with
      | nil =>
        intro w
        apply wpAny_handleBy_nil
        obtain ⟨k1, k2, k3, ob, vs, T, oT, ts', e1, e2, e3, e4, e5⟩ := id down2
        unfold PySem.passOn
        refine wpAny_bind (wpAny_field e1 e3 e4 ?_)
        rw [if_neg (show ¬ ((Value.ref T == Value.none) = true) by simp)]
        have last : wpAny (model X.prog X.w) X.A (setFlight (.ref a) X.env.frame) (fun _ s4 => wpAny (model X.prog X.w) X.A (throw (.ref a) : Sem Flow) (SP X pins D) X.xe s4) X.xe { s1 with heap := g2 } := by
          rw [frm]
          refine HandSPX.setFlight_upZ down2 ?_
          intro g4 held4 same4
          refine wpAny_throw (tk _ _ ⟨a, B, s0, pins, σ1, H1, cls, d, rfl, J, keep0, (same0.trans same2).trans same4, .inr (.inr ?_), na, os, gens, w⟩)
          rw [stk]; exact held4
        first
          | exact wpAny_bind (wpAny_pure (wpAny_bind last))
          | exact wpAny_bind last
      | @plain x c ts st sts p1 p2 hs2 l2 n run rest ih =>
        rintro ⟨k, hk, yes, no⟩
        refine wpAny_handleBy_cons (codeAny_handlers_test ?_) nofun
        have asked := PySem.W.exm_one (M := model X.prog X.w) J2.kIn look2 hk
        have name : ∀ {Q E : Value → Shared → Prop}, Q c { s1 with heap := g2 } → wpAny (model X.prog X.w) (X.A.mark (some (.ref a))) (eval (.Name x p1) X.env) Q E { s1 with heap := g2 } := by
          intro Q E q
          obtain ⟨gl, nd, m | ⟨m, b, nn⟩⟩ := n
          · exact ld_glob (X := X.suite a ((a, ob2) :: (X.pn ++ pins))) S2 gl m q nd
          · exact ld_blt (X := X.suite a ((a, ob2) :: (X.pn ++ pins))) S2 gl m b q nn nd
        refine name (asked.here ?_)
        cases k with
        | false =>
          show wpAny _ X.A (handleBy (.ref a) X.env hs2) _ _ _
          exact ih (no rfl)
        | true =>
          apply codeAny_handlers_suite
          refine HandSPX.lands_againZ down2 ?_
          intro g4 down4 same4
          have J4 : Inv X pins σ1 H1 { s1 with heap := g4 } := J.landed keep0 down4.1 ((same0.trans same2).trans same4) os gens
          obtain ⟨ob4, vs4, at4, z4, data4⟩ := down4.there
          have S4 := J4.suite at4 data4 na nL nF
          refine wpAny_mono ((run a ob4 cls d (X.pn ++ pins) z4 ⟨_, data4⟩).run [] _ _ H1 _ S4 (yes rfl a na)) ?_ (fun _ _ z => z.elim)
          intro f s6 got
          cases f with
          | next => obtain ⟨σ6, H6, S6, q6⟩ := got; exact ⟨_, _, S6.unsuite good, q6⟩
          | brk => obtain ⟨σ6, H6, S6, q6⟩ := got; exact ⟨_, _, S6.unsuite good, q6⟩
          | cont => obtain ⟨σ6, H6, S6, q6⟩ := got; exact ⟨_, _, S6.unsuite good, q6⟩
          | ret u => obtain ⟨v6, σ6, H6, S6, r6, q6⟩ := got; exact ⟨_, _, _, S6.unsuite good, r6, q6⟩
      | @named x y c i ts st sts p1 p2 hs2 l2 n at' lo run rest ih =>
        rintro ⟨k, hk, yes, no⟩
        refine wpAny_handleBy_cons (codeAny_handlers_test ?_) nofun
        have asked := PySem.W.exm_one (M := model X.prog X.w) J2.kIn look2 hk
        have name : ∀ {Q E : Value → Shared → Prop}, Q c { s1 with heap := g2 } → wpAny (model X.prog X.w) (X.A.mark (some (.ref a))) (eval (.Name x p1) X.env) Q E { s1 with heap := g2 } := by
          intro Q E q
          obtain ⟨gl, nd, m | ⟨m, b, nn⟩⟩ := n
          · exact ld_glob (X := X.suite a ((a, ob2) :: (X.pn ++ pins))) S2 gl m q nd
          · exact ld_blt (X := X.suite a ((a, ob2) :: (X.pn ++ pins))) S2 gl m b q nn nd
        refine name (asked.here ?_)
        cases k with
        | false =>
          show wpAny _ X.A (handleBy (.ref a) X.env hs2) _ _ _
          exact ih (no rfl)
        | true =>
          apply codeAny_handlers_suite_as
          refine HandSPX.lands_againZ down2 ?_
          intro g4 down4 same4
          have J4 : Inv X pins σ1 H1 { s1 with heap := g4 } := J.landed keep0 down4.1 ((same0.trans same2).trans same4) os gens
          obtain ⟨ob4, vs4, at4, z4, data4⟩ := down4.there
          have S4 := J4.suite at4 data4 na nL nF
          refine store_ok (X := X.suite a ((a, ob4) :: (X.pn ++ pins))) (v := .ref a) S4 uniq at' (.inl lo) rfl ?_ (.inr lo)
          intro s5 S5
          have slot : i < σ1.length := by rw [J.len]; exact (List.getElem?_eq_some_iff.mp at').1
          refine wpAny_mono ((run a ob4 cls d (X.pn ++ pins) z4 ⟨_, data4⟩).run [] s5 _ H1 _ S5 (yes rfl a na slot)) ?_ (fun _ _ z => z.elim)
          intro f s6 got
          have gone : ∀ {σ6 : L2.St} {H6 : Hp} {Q : Shared → Prop}, Inv (X.suite a ((a, ob4) :: (X.pn ++ pins))) [] σ6 H6 s6 → (∀ s7, Inv X pins (σ6.set i none) H6 s7 → Q s7) →
              wpAny (model X.prog X.w) X.A (do bindName X.env y .none; unbindBehindTheSuite X.env y p2) (fun _ s7 => Q s7) X.xe s6 := by
            intro σ6 H6 Q S6 hq
            exact gone_ok (S6.unsuite good) uniq at' lo hq
          cases f with
          | next => obtain ⟨σ6, H6, S6, q6⟩ := got; exact gone S6 fun s7 J7 => ⟨_, _, J7, q6⟩
          | brk => obtain ⟨σ6, H6, S6, q6⟩ := got; exact gone S6 fun s7 J7 => ⟨_, _, J7, q6⟩
          | cont => obtain ⟨σ6, H6, S6, q6⟩ := got; exact gone S6 fun s7 J7 => ⟨_, _, J7, q6⟩
          | ret u => obtain ⟨v6, σ6, H6, S6, r6, q6⟩ := got; exact gone S6 fun s7 J7 => ⟨_, _, _, J7, r6, q6⟩
    exact each cl wish
end
end Tr

/-! Ln: heaps in which dice and tables change. -/
namespace Ln
open PySem PySem.Spec PyProof.Rows L2 Sx LamX
/-- all but the dice at d and the tables stands as it stood -/
structure KpN (d : Addr) (H H' : Hp) : Prop where
  k : ∀ b o, b ≠ d → (∀ ps, o ≠ .tbl ps) → H b = some o → H' b = some o
  d1 : Dice H' d
theorem KpN.of {d : Addr} {H H' : Hp} (a : Kp d H H') : KpN d H H' := ⟨fun b o n _ e => a.k b o n e, a.d1⟩
theorem KpN.kp {d : Addr} {H H1 H2 : Hp} (a : KpN d H H1) (b : Kp d H1 H2) : KpN d H H2 := ⟨fun c o n t e => b.k c o n (a.k c o n t e), b.d1⟩
theorem KpN.trans {d : Addr} {H H1 H2 : Hp} (a : KpN d H H1) (b : KpN d H1 H2) : KpN d H H2 := ⟨fun c o n t e => b.k c o n t (a.k c o n t e), b.d1⟩
theorem dice_ext {d : Addr} {H H1 : Hp} (e : ExtN H H1) (h : Dice H d) : Dice H1 d := by
  obtain ⟨x, y, z, q⟩ := h
  exact ⟨x, y, z, e _ _ q fun ps z => by cases z⟩
theorem KpN.ext {d : Addr} {H H1 H2 : Hp} (a : KpN d H H1) (e : ExtN H1 H2) : KpN d H H2 := ⟨fun c o n t q => e c o (a.k c o n t q) t, dice_ext e a.d1⟩
theorem KpN.same {d : Addr} {H H1 H2 : Hp} (a : KpN d H H1) (s : Same H1 H2) : KpN d H H2 := a.ext (ExtN.of s)
theorem KpN.refl {d : Addr} {H : Hp} (h : Dice H d) : KpN d H H := ⟨fun _ _ _ _ e => e, h⟩
theorem tabs_kp {T : List (Addr × Str)} {d : Addr} {H H' : Hp} (t : Tabs T H) (h : Dice H d) (a : Kp d H H') : Tabs T H' := by
  obtain ⟨x, y, z, hd⟩ := h
  intro p hp
  obtain ⟨ps, h1, h2, h3⟩ := t p hp
  have go : ∀ b o, H b = some o → (∀ xs, o ≠ .lst xs) → H' b = some o := fun b o e n => a.k b o (fun q => by rw [q, hd] at e; exact n _ (Option.some.inj e).symm) e
  refine ⟨ps, go _ _ h1 (fun xs z => by cases z), h2, fun pos cv hc => ?_⟩
  obtain ⟨c, e1, e2⟩ := h3 pos cv hc
  exact ⟨c, e1, go _ _ e2 (fun xs z => by unfold CodeO at z; cases z)⟩
theorem tabs_same {T : List (Addr × Str)} {H H' : Hp} (t : Tabs T H) (s : Same H H') : Tabs T H' := t.ext s
theorem seq_extN {K : PySem.W.Frag} {H H' : Hp} {a : Addr} {xs : List V} (e : ExtN H H') (h : SqL K H a xs) : SqL K H' a xs := by
  rcases h with (h | ⟨o, h⟩) | h
  · exact .inl (.inl (e _ _ h fun ps z => by cases z))
  · exact .inl (.inr ⟨o, e _ _ h fun ps z => by cases z⟩)
  · exact .inr h
/-- behind rounds with fresh dice -/
theorem extN_dice {H H1 H2 H3 : Hp} {d : Addr} (e : ExtN H H1) (n : H1 d = none) (s : Same H1 H2) (k : KpN d H2 H3) : ExtN H H3 := fun b o q t =>
  have q1 := e b o q t
  k.k b o (fun z => by rw [z, n] at q1; cases q1) t (s _ _ q1)
end Ln
namespace Ln
open PySem PySem.Spec PyProof.Rows L2 Sx LamX
theorem kpn_mut {d p : Addr} {H H1 : Hp} {o : HO} (a : KpN d H H1) (e : H p = none) (n : p ≠ d) : KpN d H (upd H1 p o) := by
  refine ⟨fun b x nb t q => ?_, ?_⟩
  · rw [upd_ne (ne_of_none q e)]; exact a.k b x nb t q
  · obtain ⟨x, y, z, h⟩ := a.d1
    exact ⟨x, y, z, by rw [upd_ne (Ne.symm n)]; exact h⟩
theorem tabs_mut {T : List (Addr × Str)} {p : Addr} {H : Hp} {xs : List V} {o' : HO} (t : Tabs T H) (h : H p = some (.lst xs)) : Tabs T (upd H p o') := by
  intro q hq
  obtain ⟨ps, h1, h2, h3⟩ := t q hq
  have go : ∀ b o, H b = some o → (∀ xs, o ≠ .lst xs) → (upd H p o') b = some o := fun b o e n => by
    rw [upd_ne (fun z => by rw [z, h] at e; exact n _ (Option.some.inj e).symm)]; exact e
  refine ⟨ps, go _ _ h1 (fun xs z => by cases z), h2, fun pos cv hc => ?_⟩
  obtain ⟨c, e1, e2⟩ := h3 pos cv hc
  exact ⟨c, e1, go _ _ e2 (fun xs z => by unfold CodeO at z; cases z)⟩
theorem KpN.at_ {d p : Addr} {H H1 : Hp} {o : HO} (a : KpN d H H1) (e : H p = some o) (n : p ≠ d) (t : ∀ ps, o ≠ .tbl ps) : H1 p = some o := a.k p o n t e
end Ln
namespace Ln
open PySem PySem.Spec PyProof.Rows L2 Sx LamX
theorem kpn_mut2 {d p : Addr} {H H1 H2 : Hp} {o : HO} (a : KpN d H H1) (e : H1 p = none) (b : KpN d H H2) : KpN d H (upd H2 p o) := by
  have n : p ≠ d := by
    obtain ⟨x, y, z, h⟩ := a.d1
    exact (ne_of_none h e).symm
  refine ⟨fun q x nq t h => ?_, ?_⟩
  · rw [upd_ne (ne_of_none (a.k q x nq t h) e)]; exact b.k q x nq t h
  · obtain ⟨x, y, z, h⟩ := b.d1
    exact ⟨x, y, z, by rw [upd_ne (Ne.symm n)]; exact h⟩
end Ln

/-! Px: a property that raises. -/
namespace Px
open PySem PySem.Spec PyProof.Rows L2
theorem note_no {M : Model} {A : Around} {a R : Addr} {oe oR : Obj} {cd : ClassData} {s : Shared} {o nm : Value} {Q : Unit → Shared → Prop} {E : Value → Shared → Prop}
    (h1 : s.heap.get? a = some oe) (h2 : oe.cls = .ref R) (h3 : s.heap.get? R = some oR) (h4 : oR.data = .cls cd) (h5 : cd.mro.isEmpty = false) (h6 : cd.mro.contains (.type "AttributeError") = false) (q : Q () s) :
    wpAny M A (noteIf true o nm (.ref a)) Q E s := by
  unfold noteIf noteAttr lacksNameAndObj isInstance isSubtype mroOf classData
  simp only [if_true]
  wp_step
  wp_step
  wp_step
  refine wpAny_typeOf_ref h1 ?_
  rw [h2]
  wp_step
  wp_step
  wp_step
  refine wpAny_load h3 ?_
  rw [h4]
  wp_step
  wp_step
  simp only [h5, h6, Bool.false_eq_true, if_false]
  wp_step
  simp only [Bool.not_false, if_true]
  wp_step
  simp only [Bool.false_eq_true, if_false]
  wp_step
  exact q
/-- the class R is none that a look-up would note -/
def NoAtt (K : PySem.W.Frag) (cls : Value) : Prop := ∃ R, cls = .ref R ∧ PySem.W.mroIn K R (.type "AttributeError") = some false
def tPropX (K : PySem.W.Frag) (C : Addr) (sp : Sp) (dvs : List V) (E : XK) (ta : TE) : TE := fun σ H Q => ta σ H fun x H1 => ∃ a dx fs, x = .ref a ∧ H1 a = some (.ins C dx fs) ∧ sp (.ref a :: dvs) H1 Q (fun cls d H' => NoAtt K cls ∧ E cls d H')
section
variable {X : Cx} {k : Nat} {C p g a dx : Addr} {fs : List (Str × V)} {f : Str} {fd : FuncData} {ps : List Str} {sp : Sp} {dvs : List V} {ds : List Value} {E : XK} {pins : List (Addr × Obj)} {σ : L2.St} {H : Hp} {s : Shared} {Q : VK} {b : Bool}
theorem getprop_okX (I : Inv X pins σ H s) (ea : H a = some (.ins C dx fs)) (c : Cls X.K C) (hp : PropOf X.K C f p g) (F : FnOk X.prog X.w X.K X.mg X.base (L2.CX X.prog X.w) k g fd ps sp) (hr : Room (k + 1) X.A) (hb : Binds X.K fd ps ds) (hd : Vals dvs ds) (hx : Passes (L2.CX X.prog X.w) X E)
    (h : sp (.ref a :: dvs) H Q (fun cls d H' => NoAtt X.K cls ∧ E cls d H')) : wpAny (model X.prog X.w) X.A (getAttr (.ref a) f b) (EP X pins σ Q) X.xe s := by
  obtain ⟨mA, O, _⟩ := ins_get I.hok ea
  obtain ⟨od, J, _⟩ := O.look
  obtain ⟨rest, hrec⟩ := hp.rec_
  have I1 := I.tok (s.toks + 1)
  have hl : ([Value.ref a] ++ ds).length = ps.length := by
    rw [← F.len _ _ _ _ h]
    simp [hd.length]
  obtain ⟨cd, hcd, _⟩ : ∃ cd, PySem.W.clsIn X.K C = some cd ∧ cd.hasDict = true := PySem.W.any_some c.hd
  refine PySem.W.get_bind I.kIn J (PySem.W.plainGet_of (c.get f)).1 (PySem.W.findObj_data (by rw [hcd]; rfl) hp.at_ hp.get hp.tak) (PySem.W.plainGet_of (c.get f)).2 ?_
  refine wpAny_call (PySem.W.prop_get I.kIn hrec (codeAny_mono (F.run X.A.in1 X.stack _ H ⟨[.ref a], []⟩ (.ref a :: ds) (.ref a :: dvs) Q _ hr.in1 I1.env0.in1 (hb _ [.ref a] I1.kIn hl) (.cons rfl hd) h) ?_))
  intro r s' hq
  cases r with
  | error er =>
    have hq : L2.CX X.prog X.w X.stack H { s with toks := s.toks + 1 } (fun cls d H' => NoAtt X.K cls ∧ E cls d H') er s' := hq
    obtain ⟨a3, B3, H3, cls3, d3, u1, u2, u3, u4, u5, u6, u7, ⟨⟨R, rfl, hm⟩, u8⟩⟩ := id hq
    subst u1
    have hE : L2.CX X.prog X.w X.stack H { s with toks := s.toks + 1 } E (.ref a3) s' := ⟨a3, B3, H3, _, d3, rfl, u2, u3, u4, u5, u6, u7, u8⟩
    have last := hx pins σ H _ _ s' I1 hE
    obtain ⟨oe, vs, T, oT, ts, g1, g2, _⟩ := u2.2.2.2
    obtain ⟨a2, B, sI, pins2, σ2, H2, cls, d, e1, I2, hB, hU, _⟩ := XE.of_call (W := fun cls d _ H' => NoAtt X.K cls ∧ E cls d H') I1 (fun _ _ _ z => z) hq
    obtain ⟨cdR, hcl, he⟩ := Option.bind_eq_some_iff.mp (show (PySem.W.clsIn X.K R).bind _ = some false from hm)
    have h5 : cdR.mro.isEmpty = false := by
      cases e : cdR.mro.isEmpty with
      | false => rfl
      | true => rw [if_pos e] at he; cases he
    rw [if_neg (by rw [h5]; decide)] at he
    have h6 := Option.some.inj he
    obtain ⟨oR, hR, hd4⟩ : ∃ o, X.K.lookup R = some o ∧ o.data = .cls cdR := by
      unfold PySem.W.clsIn at hcl
      split at hcl
      · rename_i heq
        cases hcl
        exact ⟨_, heq, rfl⟩
      · cases hcl
    have hI := I2.kIn R oR hR
    obtain ⟨sl, hs'⟩ := hU R oR hI (fun vs z => by rw [hd4] at z; cases z)
    show wpAny _ _ (noteIf true _ _ (.ref a3)) _ _ _
    exact note_no g1 g2.1 hs' hd4 h5 h6 last
  | ok fl =>
    cases fl with
    | ret u =>
      obtain ⟨v, H', I3, rv, q3⟩ := I1.after hq
      show wpAny _ _ (handedOut u) _ _ _
      rw [PySem.W.handedOut_of (handed_of rv)]
      exact wpAny_pure ⟨v, H', I3, rv, q3⟩
    | next => exact False.elim hq
    | brk => exact False.elim hq
    | cont => exact False.elim hq
theorem pe_propX {e : Expr} {pos : Pos} {ta : TE} (he : PE X e ta) (c : Cls X.K C) (hp : PropOf X.K C f p g) (F : FnOk X.prog X.w X.K X.mg X.base (L2.CX X.prog X.w) k g fd ps sp) (hr : Room (k + 1) X.A) (hb : Binds X.K fd ps ds) (hd : Vals dvs ds) (hx : Passes (L2.CX X.prog X.w) X E)
    (hab : attributeBase e f X.env (eval e X.env) = eval e X.env) : PE X (.Attribute e f pos) (tPropX X.K C sp dvs E ta) := by
  constructor
  intro pins s σ H Q I h
  refine attr_of hab (thn (he.run pins s σ H _ I h) ?_)
  rintro u s1 ⟨x, H1, I1, rx, a, dx, fs, rfl, ea, q⟩
  obtain rfl : u = .ref a := rx
  exact getprop_okX I1 ea c hp F hr hb hd hx q
theorem pe_propXK {K : PySem.W.Frag} {e : Expr} {pos : Pos} {ta : TE} (hK : X.K = K) (he : PE X e ta) (c : Cls K C) (hp : PropOf K C f p g) (F : FnOk X.prog X.w K X.mg X.base (L2.CX X.prog X.w) k g fd ps sp) (hr : Room (k + 1) X.A) (hb : Binds K fd ps ds) (hd : Vals dvs ds) (hx : Passes (L2.CX X.prog X.w) X E)
    (hab : attributeBase e f X.env (eval e X.env) = eval e X.env) : PE X (.Attribute e f pos) (tPropX K C sp dvs E ta) := by
  subst hK; exact pe_propX he c hp F hr hb hd hx hab
theorem r_tpropX {K : PySem.W.Frag} {ta : TE} (h : ta σ H fun x H1 => ∃ a dx fs, x = .ref a ∧ H1 a = some (.ins C dx fs) ∧ sp (.ref a :: []) H1 Q (fun cls d H' => NoAtt K cls ∧ E cls d H')) : tPropX K C sp [] E ta σ H Q := h
end
end Px

/-! Un: an item of, and the length of, a list or a text. -/
namespace Un
open PySem PySem.Spec PyProof.Rows L2 Sx
def ixU (K : PySem.W.Frag) : R2 := fun x y H Q => rIxL K x y H Q ∨ rIxS x y H Q
theorem ix_listStr {X : Cx} : IxR X (ixU X.K) := fun value slice pins s σ H x y v u Q I rx ry h e =>
  h.elim (fun h => ix_list value slice pins s σ H x y v u Q I rx ry h e) (fun h => ix_str value slice pins s σ H x y v u Q I rx ry h e)
def lenU (K : PySem.W.Frag) : List V → Hp → VK → Prop := fun vs H Q => Sx.qLen K vs H Q ∨ qLenS vs H Q
theorem c_lenU {X : Cx} : CallR X (.builtin "len") (lenU X.K) := fun pins s σ H xs us Q I r h =>
  h.elim (fun h => Sx.c_len pins s σ H xs us Q I r h) (fun h => Sx.c_lenS pins s σ H xs us Q I r h)
end Un

local macro_rules | `(tactic| walk_at "sx1") => `(tactic| with_reducible first
  | refine Sx.r_seq ?_ | refine Sx.r_asg ?_ | refine Sx.r_name ?_ | refine Sx.r_c ?_ | refine Sx.r_op ?_ | refine Sx.r_cons ?_ | refine Sx.r_nil ?_
  | (refine' Sx.r_var ?vxe ?_; (case vxe => with_unfolding_all exact rfl))
  | refine Sx.r_I0 ?_ | refine Sx.r_Ih ?_ ?_ | refine Sx.r_U ?_ | refine Sx.r_eqI ?_ | refine Sx.r_neI ?_ | refine Sx.r_eqS ?_ | refine Sx.r_neS ?_ | refine Sx.r_eqB ?_ | refine Sx.r_neB ?_
  | refine Sx.r_test ?_ | refine Sx.r_B ?_ | refine Sx.r_bl ?_ | refine Sx.r_int ?_ | refine Sx.r_ret ?_ | refine Sx.r_retN ?_ | refine Sx.r_drop ?_ | refine Sx.r_next ?_
  | refine Sx.r_and ?_ | refine Sx.r_or ?_ | refine Sx.r_not ?_ | refine Sx.r_andV ?_ | refine Sx.r_orV ?_ | refine Sx.r_notV ?_ | refine Sx.r_chain ?_
  | refine Sx.r_call ?_ | refine Sx.r_cb ?_ | refine Sx.r_make ?_ | refine Sx.r_tup ?_ | refine Sx.r_lst ?_ | refine Sx.r_tprop ?_ | refine Sx.r_meth ?_ | refine Sx.r_fld ?_ | refine Sx.r_sFld ?_ | refine Sx.r_BM ?_ | refine Sx.r_BM0 ?_
  | refine Sx.r_sub ?_ | refine Sx.r_sl ?_ | refine Sx.r_noPart ?_ | refine Sx.r_part ?_ | refine Sx.r_un ?_ | refine Sx.r_par ?_ | refine Sx.r_par3 ?_ | refine Sx.r_two ?_ | refine Sx.r_three ?_
  | refine Sx.r_isi_int_bool ?_ | refine Sx.r_isi_int_int ?_ | refine Sx.r_isi_str_str ?_
  | refine Sx.iteT' ?_ | refine Sx.iteF' ?_ | refine Sx.iteNT ?_ | refine Sx.iteNF ?_
  | refine Sx.r_for1 ?_ | refine Sx.r_for2 ?_ | refine Sx.r_forL ?_ | refine Sx.r_forT ?_ | refine Sx.r_forS ?_ | refine Sx.r_lc1 ?_ | refine Sx.r_lc2 ?_ | refine Sx.r_lcL ?_ | refine Sx.r_lcT ?_ | refine Sx.r_lcS ?_ | refine Sx.r_yes ?_ | refine Sx.r_seqS ?_
  | refine Sx.r_int1 ?_ | refine Sx.r_intB ?_ | refine Sx.r_abs ?_ | refine Sx.r_max ?_ | refine Sx.r_min ?_ | refine Sx.r_lenS ?_ ?_ | refine Sx.r_strI ?_ ?_ | refine Sx.r_strS ?_ | refine Sx.r_addS ?_ ?_ | refine Sx.r_ltS ?_ | refine Sx.r_cntS ?_ | refine Sx.r_findS ?_ | refine Sx.r_find3 ?_ | refine ⟨Sx.tyS, ?_⟩
  | refine Sy.r_lcN ?_ | refine Sy.r_forN ?_ | refine Sy.r_lcE ?_ | refine Sy.r_forE ?_ | refine Sy.r_mulS ?_ ?_ ?_ | refine Sy.r_listS ?_ ?_ | refine Mw.r_slS ?_ ?_
  | refine Rt.r_revT ?_ | refine Mj.r_din ?_ | refine Mj.r_dnotin ?_ | refine Mj.r_dget ?_ | refine Mj.r_dnew ?_ | refine Mj.r_dput ?_ | refine Mj.r_makeL ?_ | refine Mj.r_makeD ?_ | refine Px.r_tpropX ?_ | refine Mj.r_cmeth ?_ | refine Mj.r_dcT ?_ | refine Mj.r_lock ?_ | refine Mj.r_lcK ?_
  | refine Sx.r_gcons ?_ | refine Sx.r_gnil ?_
  | refine Sx.r_gcd ?_ | refine Sx.r_break ?_ | refine Sx.r_cont ?_)
local macro_rules | `(tactic| walk_at "sx") => `(tactic| (repeat walk_at "sx1"))
local macro_rules | `(tactic| walk_at "sd") => `(tactic| first | omega | assumption | decide | (exact Sx.cmA_l (by omega)) | (exact Sx.cmA_r (by omega)) | (exact ⟨by decide, by decide⟩) | (exact ⟨by decide, by decide, by decide⟩) | (exact Sx.cdivw (b := 64) (by omega) (by omega) (by decide)) | (exact Sx.cmA_w (Sx.cmulw (a := 64) (b := 64) (by omega) (by omega) (by decide))))
local macro_rules | `(tactic| walk_at "sxi") => `(tactic| (walk_at "sx"; refine Sx.r_ifs ?_; walk_at "sx"))

namespace Lw
open PySem PySem.Spec PyProof.Rows L2 Sx Sy Sw Mw Me
open En (NoNum)
open Ln (KpN)
open LamX (Tabs TabB ExtN)
open SX (S)
open C8 (pe_gc)
open SkE (call_repr_int call_str_str)
open RZ (pi_zipA)
def top (i : Nat) : Stmt := PySem.Challenge.pw_slantways_k00_slopes_and_their_texts.main.body.getD i (.Pass ⟨0, 0, 0, 0⟩)
abbrev st_ParseError_init : Stmt := inClass (top 7) 0
abbrev N_ParseError_init : List Str := ["self", "index"]
theorem sc_ParseError_init : FnScope N_ParseError_init ["self", "index"] (defScope st_ParseError_init) := ⟨rfl, rfl, rfl, by decide +kernel, rfl, by decide +kernel, by decide +kernel⟩
abbrev st_InvalidNumber_init : Stmt := inClass (top 8) 0
abbrev N_InvalidNumber_init : List Str := ["self", "value"]
theorem sc_InvalidNumber_init : FnScope N_InvalidNumber_init ["self", "value"] (defScope st_InvalidNumber_init) := ⟨rfl, rfl, rfl, by decide +kernel, rfl, by decide +kernel, by decide +kernel⟩
abbrev st_Refused_init : Stmt := inClass (top 9) 0
abbrev N_Refused_init : List Str := ["self", "reason"]
theorem sc_Refused_init : FnScope N_Refused_init ["self", "reason"] (defScope st_Refused_init) := ⟨rfl, rfl, rfl, by decide +kernel, rfl, by decide +kernel, by decide +kernel⟩
abbrev st_is_number : Stmt := top 11
abbrev N_is_number : List Str := ["value"]
theorem sc_is_number : FnScope N_is_number ["value"] (defScope st_is_number) := ⟨rfl, rfl, rfl, by decide +kernel, rfl, by decide +kernel, by decide +kernel⟩
abbrev st_is_whole_between : Stmt := top 12
abbrev N_is_whole_between : List Str := ["value", "least", "most"]
theorem sc_is_whole_between : FnScope N_is_whole_between ["value", "least", "most"] (defScope st_is_whole_between) := ⟨rfl, rfl, rfl, by decide +kernel, rfl, by decide +kernel, by decide +kernel⟩
abbrev st_read_side : Stmt := top 16
abbrev N_read_side : List Str := ["text", "start", "number", "index", "longer"]
theorem sc_read_side : FnScope N_read_side ["text", "start"] (defScope st_read_side) := ⟨rfl, rfl, rfl, by decide +kernel, rfl, by decide +kernel, by decide +kernel⟩
abbrev st_Slope_init : Stmt := inClass (top 17) 0
abbrev N_Slope_init : List Str := ["self", "rises", "steps"]
theorem sc_Slope_init : FnScope N_Slope_init ["self", "rises", "steps"] (defScope st_Slope_init) := ⟨rfl, rfl, rfl, by decide +kernel, rfl, by decide +kernel, by decide +kernel⟩
abbrev st_Slope_of_text : Stmt := inClass (top 17) 1
abbrev N_Slope_of_text : List Str := ["cls", "text", "rises", "middle", "steps", "end"]
theorem sc_Slope_of_text : FnScope N_Slope_of_text ["cls", "text"] (defScope st_Slope_of_text) := ⟨rfl, rfl, rfl, by decide +kernel, rfl, by decide +kernel, by decide +kernel⟩
abbrev st_Slope_rises : Stmt := inClass (top 17) 2
abbrev N_Slope_rises : List Str := ["self"]
theorem sc_Slope_rises : FnScope N_Slope_rises ["self"] (defScope st_Slope_rises) := ⟨rfl, rfl, rfl, by decide +kernel, rfl, by decide +kernel, by decide +kernel⟩
abbrev st_Slope_steps : Stmt := inClass (top 17) 3
abbrev N_Slope_steps : List Str := ["self"]
theorem sc_Slope_steps : FnScope N_Slope_steps ["self"] (defScope st_Slope_steps) := ⟨rfl, rfl, rfl, by decide +kernel, rfl, by decide +kernel, by decide +kernel⟩
abbrev st_Slope_common : Stmt := inClass (top 17) 4
abbrev N_Slope_common : List Str := ["self"]
theorem sc_Slope_common : FnScope N_Slope_common ["self"] (defScope st_Slope_common) := ⟨rfl, rfl, rfl, by decide +kernel, rfl, by decide +kernel, by decide +kernel⟩
abbrev st_Slope_is_coprime : Stmt := inClass (top 17) 5
abbrev N_Slope_is_coprime : List Str := ["self"]
theorem sc_Slope_is_coprime : FnScope N_Slope_is_coprime ["self"] (defScope st_Slope_is_coprime) := ⟨rfl, rfl, rfl, by decide +kernel, rfl, by decide +kernel, by decide +kernel⟩
abbrev st_Slope_half : Stmt := inClass (top 17) 6
abbrev N_Slope_half : List Str := ["self"]
theorem sc_Slope_half : FnScope N_Slope_half ["self"] (defScope st_Slope_half) := ⟨rfl, rfl, rfl, by decide +kernel, rfl, by decide +kernel, by decide +kernel⟩
abbrev st_Slope_exchanged : Stmt := inClass (top 17) 7
abbrev N_Slope_exchanged : List Str := ["self"]
theorem sc_Slope_exchanged : FnScope N_Slope_exchanged ["self"] (defScope st_Slope_exchanged) := ⟨rfl, rfl, rfl, by decide +kernel, rfl, by decide +kernel, by decide +kernel⟩
abbrev st_Slope_eq : Stmt := inClass (top 17) 8
abbrev N_Slope_eq : List Str := ["self", "other"]
theorem sc_Slope_eq : FnScope N_Slope_eq ["self", "other"] (defScope st_Slope_eq) := ⟨rfl, rfl, rfl, by decide +kernel, rfl, by decide +kernel, by decide +kernel⟩
abbrev st_Slope_str : Stmt := inClass (top 17) 9
abbrev N_Slope_str : List Str := ["self"]
theorem sc_Slope_str : FnScope N_Slope_str ["self"] (defScope st_Slope_str) := ⟨rfl, rfl, rfl, by decide +kernel, rfl, by decide +kernel, by decide +kernel⟩
abbrev st_check_coprime : Stmt := top 18
abbrev N_check_coprime : List Str := ["slope"]
theorem sc_check_coprime : FnScope N_check_coprime ["slope"] (defScope st_check_coprime) := ⟨rfl, rfl, rfl, by decide +kernel, rfl, by decide +kernel, by decide +kernel⟩
abbrev st_law_dice : Stmt := top 20
abbrev N_law_dice : List Str := ["_law_script", "_law_spot", "_law_cell", "_law_left"]
theorem sc_law_dice : FnScope N_law_dice ["_law_script", "_law_spot"] (defScope st_law_dice) := ⟨rfl, rfl, rfl, by decide +kernel, rfl, by decide +kernel, by decide +kernel⟩
abbrev st_law_roll : Stmt := top 21
abbrev N_law_roll : List Str := ["_law_dice_here", "_law_total", "_law_found", "_law_one", "_law_two"]
theorem sc_law_roll : FnScope N_law_roll ["_law_dice_here", "_law_total"] (defScope st_law_roll) := ⟨rfl, rfl, rfl, by decide +kernel, rfl, by decide +kernel, by decide +kernel⟩
abbrev st_law_pick : Stmt := top 22
abbrev N_law_pick : List Str := ["_law_dice_here", "_law_items"]
theorem sc_law_pick : FnScope N_law_pick ["_law_dice_here", "_law_items"] (defScope st_law_pick) := ⟨rfl, rfl, rfl, by decide +kernel, rfl, by decide +kernel, by decide +kernel⟩
abbrev st_law_any_slope : Stmt := top 23
abbrev N_law_any_slope : List Str := ["_law_dice_here", "_law_most"]
theorem sc_law_any_slope : FnScope N_law_any_slope ["_law_dice_here", "_law_most"] (defScope st_law_any_slope) := ⟨rfl, rfl, rfl, by decide +kernel, rfl, by decide +kernel, by decide +kernel⟩
abbrev st_law_common : Stmt := top 24
abbrev N_law_common : List Str := ["_law_one", "_law_other"]
theorem sc_law_common : FnScope N_law_common ["_law_one", "_law_other"] (defScope st_law_common) := ⟨rfl, rfl, rfl, by decide +kernel, rfl, by decide +kernel, by decide +kernel⟩
abbrev st_law_first_fault : Stmt := top 25
abbrev N_law_first_fault : List Str := ["_law_call", "e"]
theorem sc_law_first_fault : FnScope N_law_first_fault ["_law_call"] (defScope st_law_first_fault) := ⟨rfl, rfl, rfl, by decide +kernel, rfl, by decide +kernel, by decide +kernel⟩
abbrev st_law_is_number : Stmt := top 26
abbrev N_law_is_number : List Str := ["_law_text", "_law_number"]
theorem sc_law_is_number : FnScope N_law_is_number ["_law_text"] (defScope st_law_is_number) := ⟨rfl, rfl, rfl, by decide +kernel, rfl, by decide +kernel, by decide +kernel⟩
abbrev st_law_begins_number : Stmt := top 27
abbrev N_law_begins_number : List Str := ["_law_text"]
theorem sc_law_begins_number : FnScope N_law_begins_number ["_law_text"] (defScope st_law_begins_number) := ⟨rfl, rfl, rfl, by decide +kernel, rfl, by decide +kernel, by decide +kernel⟩
abbrev st_law_begins : Stmt := top 28
abbrev N_law_begins : List Str := ["_law_text", "_law_parts"]
theorem sc_law_begins : FnScope N_law_begins ["_law_text"] (defScope st_law_begins) := ⟨rfl, rfl, rfl, by decide +kernel, rfl, by decide +kernel, by decide +kernel⟩
abbrev st_law_due : Stmt := top 29
abbrev N_law_due : List Str := ["_law_text", "_law_at", "_law_parts"]
theorem sc_law_due : FnScope N_law_due ["_law_text"] (defScope st_law_due) := ⟨rfl, rfl, rfl, by decide +kernel, rfl, by decide +kernel, by decide +kernel⟩
abbrev st_law_bent_text : Stmt := top 30
abbrev N_law_bent_text : List Str := ["_law_dice_here", "_law_text", "_law_spot", "_law_way", "_law_put"]
theorem sc_law_bent_text : FnScope N_law_bent_text ["_law_dice_here", "_law_text"] (defScope st_law_bent_text) := ⟨rfl, rfl, rfl, by decide +kernel, rfl, by decide +kernel, by decide +kernel⟩
abbrev st_law_texts_right : Stmt := top 31
abbrev N_law_texts_right : List Str := ["_law_dice_here", "_law_text", "_law_near", "_law_due_here", "_law_one"]
theorem sc_law_texts_right : FnScope N_law_texts_right ["_law_dice_here", "_law_text"] (defScope st_law_texts_right) := ⟨rfl, rfl, rfl, by decide +kernel, rfl, by decide +kernel, by decide +kernel⟩
abbrev st_law_slope_right : Stmt := top 32
abbrev N_law_slope_right : List Str := ["_law_dice_here", "_law_rises", "_law_steps", "_law_common_here", "_law_text", "_law_other", "_law_further", "_law_slope"]
theorem sc_law_slope_right : FnScope N_law_slope_right ["_law_dice_here", "_law_rises", "_law_steps"] (defScope st_law_slope_right) := ⟨rfl, rfl, rfl, by decide +kernel, rfl, by decide +kernel, by decide +kernel⟩
abbrev st_law_errors_right : Stmt := top 33
abbrev N_law_errors_right : List Str := ["_law_dice_here", "_law_odd", "_law_told", "_law_one", "_law_other", "_law_text"]
theorem sc_law_errors_right : FnScope N_law_errors_right ["_law_dice_here"] (defScope st_law_errors_right) := ⟨rfl, rfl, rfl, by decide +kernel, rfl, by decide +kernel, by decide +kernel⟩
abbrev st_law : Stmt := top 34
abbrev N_law : List Str := ["_law_script", "_law_spot", "_law_dice_here", "_law_turn", "_law_pair"]
theorem sc_law : FnScope N_law ["_law_script"] (defScope st_law) := ⟨rfl, rfl, rfl, by decide +kernel, rfl, by decide +kernel, by decide +kernel⟩
structure Tx (K : PySem.W.Frag) (mg : Str → Option Value) where
  C_Slope : Addr
  C_InvalidNumber : Addr
  C_InvalidOperation : Addr
  C_InvalidSlope : Addr
  C_InvalidText : Addr
  C_InvalidWay : Addr
  C_ParseError : Addr
  C_Refused : Addr
  a_ParseError_init : Addr
  d_ParseError_init : FuncData
  F_ParseError_init : Fun K "__init__" "ParseError.__init__" st_ParseError_init a_ParseError_init d_ParseError_init
  b_ParseError_init : Binds K d_ParseError_init ["self", "index"] []
  a_InvalidNumber_init : Addr
  d_InvalidNumber_init : FuncData
  F_InvalidNumber_init : Fun K "__init__" "InvalidNumber.__init__" st_InvalidNumber_init a_InvalidNumber_init d_InvalidNumber_init
  b_InvalidNumber_init : Binds K d_InvalidNumber_init ["self", "value"] []
  a_Refused_init : Addr
  d_Refused_init : FuncData
  F_Refused_init : Fun K "__init__" "Refused.__init__" st_Refused_init a_Refused_init d_Refused_init
  b_Refused_init : Binds K d_Refused_init ["self", "reason"] []
  a_is_number : Addr
  d_is_number : FuncData
  F_is_number : Fun K "is_number" "is_number" st_is_number a_is_number d_is_number
  b_is_number : Binds K d_is_number ["value"] []
  g_is_number : mg "is_number" = some (.ref a_is_number)
  a_is_whole_between : Addr
  d_is_whole_between : FuncData
  F_is_whole_between : Fun K "is_whole_between" "is_whole_between" st_is_whole_between a_is_whole_between d_is_whole_between
  b_is_whole_between : Binds K d_is_whole_between ["value", "least", "most"] []
  g_is_whole_between : mg "is_whole_between" = some (.ref a_is_whole_between)
  a_read_side : Addr
  d_read_side : FuncData
  F_read_side : Fun K "read_side" "read_side" st_read_side a_read_side d_read_side
  b_read_side : Binds K d_read_side ["text", "start"] []
  g_read_side : mg "read_side" = some (.ref a_read_side)
  a_Slope_init : Addr
  d_Slope_init : FuncData
  F_Slope_init : Fun K "__init__" "Slope.__init__" st_Slope_init a_Slope_init d_Slope_init
  b_Slope_init : Binds K d_Slope_init ["self", "rises", "steps"] []
  a_Slope_of_text : Addr
  d_Slope_of_text : FuncData
  F_Slope_of_text : Fun K "of_text" "Slope.of_text" st_Slope_of_text a_Slope_of_text d_Slope_of_text
  b_Slope_of_text : Binds K d_Slope_of_text ["cls", "text"] []
  a_Slope_rises : Addr
  d_Slope_rises : FuncData
  F_Slope_rises : Fun K "rises" "Slope.rises" st_Slope_rises a_Slope_rises d_Slope_rises
  b_Slope_rises : Binds K d_Slope_rises ["self"] []
  a_Slope_steps : Addr
  d_Slope_steps : FuncData
  F_Slope_steps : Fun K "steps" "Slope.steps" st_Slope_steps a_Slope_steps d_Slope_steps
  b_Slope_steps : Binds K d_Slope_steps ["self"] []
  a_Slope_common : Addr
  d_Slope_common : FuncData
  F_Slope_common : Fun K "common" "Slope.common" st_Slope_common a_Slope_common d_Slope_common
  b_Slope_common : Binds K d_Slope_common ["self"] []
  a_Slope_is_coprime : Addr
  d_Slope_is_coprime : FuncData
  F_Slope_is_coprime : Fun K "is_coprime" "Slope.is_coprime" st_Slope_is_coprime a_Slope_is_coprime d_Slope_is_coprime
  b_Slope_is_coprime : Binds K d_Slope_is_coprime ["self"] []
  a_Slope_half : Addr
  d_Slope_half : FuncData
  F_Slope_half : Fun K "half" "Slope.half" st_Slope_half a_Slope_half d_Slope_half
  b_Slope_half : Binds K d_Slope_half ["self"] []
  a_Slope_exchanged : Addr
  d_Slope_exchanged : FuncData
  F_Slope_exchanged : Fun K "exchanged" "Slope.exchanged" st_Slope_exchanged a_Slope_exchanged d_Slope_exchanged
  b_Slope_exchanged : Binds K d_Slope_exchanged ["self"] []
  a_Slope_eq : Addr
  d_Slope_eq : FuncData
  F_Slope_eq : Fun K "__eq__" "Slope.__eq__" st_Slope_eq a_Slope_eq d_Slope_eq
  b_Slope_eq : Binds K d_Slope_eq ["self", "other"] []
  a_Slope_str : Addr
  d_Slope_str : FuncData
  F_Slope_str : Fun K "__str__" "Slope.__str__" st_Slope_str a_Slope_str d_Slope_str
  b_Slope_str : Binds K d_Slope_str ["self"] []
  a_check_coprime : Addr
  d_check_coprime : FuncData
  F_check_coprime : Fun K "check_coprime" "check_coprime" st_check_coprime a_check_coprime d_check_coprime
  b_check_coprime : Binds K d_check_coprime ["slope"] []
  g_check_coprime : mg "check_coprime" = some (.ref a_check_coprime)
  a_law_dice : Addr
  d_law_dice : FuncData
  F_law_dice : Fun K "_law_dice" "_law_dice" st_law_dice a_law_dice d_law_dice
  b_law_dice : Binds K d_law_dice ["_law_script", "_law_spot"] []
  g_law_dice : mg "_law_dice" = some (.ref a_law_dice)
  a_law_roll : Addr
  d_law_roll : FuncData
  F_law_roll : Fun K "_law_roll" "_law_roll" st_law_roll a_law_roll d_law_roll
  b_law_roll : Binds K d_law_roll ["_law_dice_here", "_law_total"] []
  g_law_roll : mg "_law_roll" = some (.ref a_law_roll)
  a_law_pick : Addr
  d_law_pick : FuncData
  F_law_pick : Fun K "_law_pick" "_law_pick" st_law_pick a_law_pick d_law_pick
  b_law_pick : Binds K d_law_pick ["_law_dice_here", "_law_items"] []
  g_law_pick : mg "_law_pick" = some (.ref a_law_pick)
  a_law_any_slope : Addr
  d_law_any_slope : FuncData
  F_law_any_slope : Fun K "_law_any_slope" "_law_any_slope" st_law_any_slope a_law_any_slope d_law_any_slope
  b_law_any_slope : Binds K d_law_any_slope ["_law_dice_here", "_law_most"] []
  g_law_any_slope : mg "_law_any_slope" = some (.ref a_law_any_slope)
  a_law_common : Addr
  d_law_common : FuncData
  F_law_common : Fun K "_law_common" "_law_common" st_law_common a_law_common d_law_common
  b_law_common : Binds K d_law_common ["_law_one", "_law_other"] []
  g_law_common : mg "_law_common" = some (.ref a_law_common)
  a_law_first_fault : Addr
  d_law_first_fault : FuncData
  F_law_first_fault : Fun K "_law_first_fault" "_law_first_fault" st_law_first_fault a_law_first_fault d_law_first_fault
  b_law_first_fault : Binds K d_law_first_fault ["_law_call"] []
  g_law_first_fault : mg "_law_first_fault" = some (.ref a_law_first_fault)
  a_law_is_number : Addr
  d_law_is_number : FuncData
  F_law_is_number : Fun K "_law_is_number" "_law_is_number" st_law_is_number a_law_is_number d_law_is_number
  b_law_is_number : Binds K d_law_is_number ["_law_text"] []
  g_law_is_number : mg "_law_is_number" = some (.ref a_law_is_number)
  a_law_begins_number : Addr
  d_law_begins_number : FuncData
  F_law_begins_number : Fun K "_law_begins_number" "_law_begins_number" st_law_begins_number a_law_begins_number d_law_begins_number
  b_law_begins_number : Binds K d_law_begins_number ["_law_text"] []
  g_law_begins_number : mg "_law_begins_number" = some (.ref a_law_begins_number)
  a_law_begins : Addr
  d_law_begins : FuncData
  F_law_begins : Fun K "_law_begins" "_law_begins" st_law_begins a_law_begins d_law_begins
  b_law_begins : Binds K d_law_begins ["_law_text"] []
  g_law_begins : mg "_law_begins" = some (.ref a_law_begins)
  a_law_due : Addr
  d_law_due : FuncData
  F_law_due : Fun K "_law_due" "_law_due" st_law_due a_law_due d_law_due
  b_law_due : Binds K d_law_due ["_law_text"] []
  g_law_due : mg "_law_due" = some (.ref a_law_due)
  a_law_bent_text : Addr
  d_law_bent_text : FuncData
  F_law_bent_text : Fun K "_law_bent_text" "_law_bent_text" st_law_bent_text a_law_bent_text d_law_bent_text
  b_law_bent_text : Binds K d_law_bent_text ["_law_dice_here", "_law_text"] []
  g_law_bent_text : mg "_law_bent_text" = some (.ref a_law_bent_text)
  a_law_texts_right : Addr
  d_law_texts_right : FuncData
  F_law_texts_right : Fun K "_law_texts_right" "_law_texts_right" st_law_texts_right a_law_texts_right d_law_texts_right
  b_law_texts_right : Binds K d_law_texts_right ["_law_dice_here", "_law_text"] []
  g_law_texts_right : mg "_law_texts_right" = some (.ref a_law_texts_right)
  a_law_slope_right : Addr
  d_law_slope_right : FuncData
  F_law_slope_right : Fun K "_law_slope_right" "_law_slope_right" st_law_slope_right a_law_slope_right d_law_slope_right
  b_law_slope_right : Binds K d_law_slope_right ["_law_dice_here", "_law_rises", "_law_steps"] []
  g_law_slope_right : mg "_law_slope_right" = some (.ref a_law_slope_right)
  a_law_errors_right : Addr
  d_law_errors_right : FuncData
  F_law_errors_right : Fun K "_law_errors_right" "_law_errors_right" st_law_errors_right a_law_errors_right d_law_errors_right
  b_law_errors_right : Binds K d_law_errors_right ["_law_dice_here"] []
  g_law_errors_right : mg "_law_errors_right" = some (.ref a_law_errors_right)
  a_law : Addr
  d_law : FuncData
  F_law : Fun K "law" "law" st_law a_law d_law
  b_law : Binds K d_law ["_law_script"] []
  g_law : mg "law" = some (.ref a_law)
  g_Slope : mg "Slope" = some (.ref C_Slope)
  cl_Slope : Cls K C_Slope
  na_Slope_rises : NoAttr K C_Slope "_rises"
  na_Slope_steps : NoAttr K C_Slope "_steps"
  na_Slope_common : NoAttr K C_Slope "_common"
  mk_Slope : Mk K C_Slope a_Slope_init
  me_Slope_exchanged : Meth K C_Slope "exchanged" a_Slope_exchanged
  me_Slope_eq : Meth K C_Slope "__eq__" a_Slope_eq
  me_Slope_str : Meth K C_Slope "__str__" a_Slope_str
  mc_Slope : Value
  cr_Slope : ClX.CRead K C_Slope mc_Slope
  p_Slope_of_text : Addr
  cm_Slope_of_text : ClX.CMet K C_Slope mc_Slope "of_text" p_Slope_of_text a_Slope_of_text
  fo_Slope : PySem.W.findIn K (.ref C_Slope) "__format__" = some (some (.builtin "object.__format__"))
  p_Slope_rises : Addr
  pr_Slope_rises : PropOf K C_Slope "rises" p_Slope_rises a_Slope_rises
  p_Slope_steps : Addr
  pr_Slope_steps : PropOf K C_Slope "steps" p_Slope_steps a_Slope_steps
  p_Slope_common : Addr
  pr_Slope_common : PropOf K C_Slope "common" p_Slope_common a_Slope_common
  p_Slope_is_coprime : Addr
  pr_Slope_is_coprime : PropOf K C_Slope "is_coprime" p_Slope_is_coprime a_Slope_is_coprime
  p_Slope_half : Addr
  pr_Slope_half : PropOf K C_Slope "half" p_Slope_half a_Slope_half
  ic_Slope : PySem.W.findIn K (.ref C_Slope) "__class__" = some (some (.builtin "object.__class__"))
  mr_Slope : PySem.W.mroIn K C_Slope (.type "object") = some true
  ks_Slope : PySem.W.kitOne K (.ref C_Slope) (.ref C_Slope) = some true
  nn_Slope : PySem.W.findIn K (.ref C_Slope) "__ne__" = some (some (.builtin "object.__ne__"))
  of_Slope_str : PySem.W.notFirst K C_Slope (.type "str") = true
  ot_Slope_str : PySem.W.kitOne K (.type "str") (.ref C_Slope) = some false
  of_Slope_tuple : PySem.W.notFirst K C_Slope (.type "tuple") = true
  ot_Slope_tuple : PySem.W.kitOne K (.type "tuple") (.ref C_Slope) = some false
  cg : PySem.W.specialIn K (.builtin "object.__class__") "__get__" = some (some (.builtin "getset_descriptor.__get__"))
  ct : PySem.W.takesIn K (.builtin "object.__class__") = some true
  g_InvalidNumber : mg "InvalidNumber" = some (.ref C_InvalidNumber)
  kp_InvalidNumber : PySem.W.keepIn K (.ref C_InvalidNumber) = true
  ex_InvalidNumber : PySem.W.subIn K (.ref C_InvalidNumber) (.type "BaseException") = some true
  ty_InvalidNumber : PySem.W.typeIn K (.ref C_InvalidNumber) = some (.type "type")
  is_InvalidNumber : PySem.W.isClsIn K C_InvalidNumber = true
  xf_InvalidNumber : XfC K C_InvalidNumber
  nf_InvalidNumber : PySem.W.findIn K (.ref C_InvalidNumber) "value" = some none
  ow_InvalidNumber : Er.Own K C_InvalidNumber a_InvalidNumber_init Er.bmIndexError "IndexError.__new__"
  g_InvalidOperation : mg "InvalidOperation" = some (.ref C_InvalidOperation)
  kp_InvalidOperation : PySem.W.keepIn K (.ref C_InvalidOperation) = true
  ex_InvalidOperation : PySem.W.subIn K (.ref C_InvalidOperation) (.type "BaseException") = some true
  ty_InvalidOperation : PySem.W.typeIn K (.ref C_InvalidOperation) = some (.type "type")
  is_InvalidOperation : PySem.W.isClsIn K C_InvalidOperation = true
  xi_InvalidOperation : PySem.W.excIn K C_InvalidOperation Er.bmValueError "ValueError.__new__" = true
  g_InvalidSlope : mg "InvalidSlope" = some (.ref C_InvalidSlope)
  kp_InvalidSlope : PySem.W.keepIn K (.ref C_InvalidSlope) = true
  ex_InvalidSlope : PySem.W.subIn K (.ref C_InvalidSlope) (.type "BaseException") = some true
  ty_InvalidSlope : PySem.W.typeIn K (.ref C_InvalidSlope) = some (.type "type")
  is_InvalidSlope : PySem.W.isClsIn K C_InvalidSlope = true
  xi_InvalidSlope : PySem.W.excIn K C_InvalidSlope Er.bmValueError "ValueError.__new__" = true
  g_InvalidText : mg "InvalidText" = some (.ref C_InvalidText)
  kp_InvalidText : PySem.W.keepIn K (.ref C_InvalidText) = true
  ex_InvalidText : PySem.W.subIn K (.ref C_InvalidText) (.type "BaseException") = some true
  ty_InvalidText : PySem.W.typeIn K (.ref C_InvalidText) = some (.type "type")
  is_InvalidText : PySem.W.isClsIn K C_InvalidText = true
  xi_InvalidText : PySem.W.excIn K C_InvalidText Er.bmValueError "ValueError.__new__" = true
  g_InvalidWay : mg "InvalidWay" = some (.ref C_InvalidWay)
  kp_InvalidWay : PySem.W.keepIn K (.ref C_InvalidWay) = true
  ex_InvalidWay : PySem.W.subIn K (.ref C_InvalidWay) (.type "BaseException") = some true
  ty_InvalidWay : PySem.W.typeIn K (.ref C_InvalidWay) = some (.type "type")
  is_InvalidWay : PySem.W.isClsIn K C_InvalidWay = true
  xi_InvalidWay : PySem.W.excIn K C_InvalidWay Er.bmValueError "ValueError.__new__" = true
  g_ParseError : mg "ParseError" = some (.ref C_ParseError)
  kp_ParseError : PySem.W.keepIn K (.ref C_ParseError) = true
  ex_ParseError : PySem.W.subIn K (.ref C_ParseError) (.type "BaseException") = some true
  ty_ParseError : PySem.W.typeIn K (.ref C_ParseError) = some (.type "type")
  is_ParseError : PySem.W.isClsIn K C_ParseError = true
  xf_ParseError : XfC K C_ParseError
  nf_ParseError : PySem.W.findIn K (.ref C_ParseError) "index" = some none
  ow_ParseError : Er.Own K C_ParseError a_ParseError_init Er.bmValueError "ValueError.__new__"
  g_Refused : mg "Refused" = some (.ref C_Refused)
  kp_Refused : PySem.W.keepIn K (.ref C_Refused) = true
  ex_Refused : PySem.W.subIn K (.ref C_Refused) (.type "BaseException") = some true
  ty_Refused : PySem.W.typeIn K (.ref C_Refused) = some (.type "type")
  is_Refused : PySem.W.isClsIn K C_Refused = true
  xf_Refused : XfC K C_Refused
  nf_Refused : PySem.W.findIn K (.ref C_Refused) "reason" = some none
  ma_Refused : PySem.W.mroIn K C_Refused (.type "AttributeError") = some false
  ow_Refused : Er.Own K C_Refused a_Refused_init Er.bmArithmeticError "ArithmeticError.__new__"
  sb_InvalidNumber_InvalidNumber : PySem.W.subIn K (.ref C_InvalidNumber) (.ref C_InvalidNumber) = some true
  sb_ParseError_InvalidNumber : PySem.W.subIn K (.ref C_ParseError) (.ref C_InvalidNumber) = some false
  sb_ParseError_InvalidOperation : PySem.W.subIn K (.ref C_ParseError) (.ref C_InvalidOperation) = some false
  sb_ParseError_InvalidSlope : PySem.W.subIn K (.ref C_ParseError) (.ref C_InvalidSlope) = some false
  sb_ParseError_InvalidText : PySem.W.subIn K (.ref C_ParseError) (.ref C_InvalidText) = some false
  sb_ParseError_InvalidWay : PySem.W.subIn K (.ref C_ParseError) (.ref C_InvalidWay) = some false
  sb_ParseError_ParseError : PySem.W.subIn K (.ref C_ParseError) (.ref C_ParseError) = some true
  sb_Refused_InvalidNumber : PySem.W.subIn K (.ref C_Refused) (.ref C_InvalidNumber) = some false
  sb_Refused_InvalidOperation : PySem.W.subIn K (.ref C_Refused) (.ref C_InvalidOperation) = some false
  sb_Refused_InvalidSlope : PySem.W.subIn K (.ref C_Refused) (.ref C_InvalidSlope) = some false
  sb_Refused_InvalidText : PySem.W.subIn K (.ref C_Refused) (.ref C_InvalidText) = some false
  sb_Refused_InvalidWay : PySem.W.subIn K (.ref C_Refused) (.ref C_InvalidWay) = some false
  sb_Refused_ParseError : PySem.W.subIn K (.ref C_Refused) (.ref C_ParseError) = some false
  sb_Refused_Refused : PySem.W.subIn K (.ref C_Refused) (.ref C_Refused) = some true
  sb_InvalidText_InvalidNumber : PySem.W.subIn K (.ref C_InvalidText) (.ref C_InvalidNumber) = some false
  sb_InvalidText_InvalidOperation : PySem.W.subIn K (.ref C_InvalidText) (.ref C_InvalidOperation) = some false
  sb_InvalidText_InvalidSlope : PySem.W.subIn K (.ref C_InvalidText) (.ref C_InvalidSlope) = some false
  sb_InvalidText_InvalidText : PySem.W.subIn K (.ref C_InvalidText) (.ref C_InvalidText) = some true
  cc_law_texts_right : Addr
  pp_law_texts_right : Addr
  cq_law_texts_right : d_law_texts_right.code = .ref cc_law_texts_right
  cc_law_slope_right : Addr
  pp_law_slope_right : Addr
  cq_law_slope_right : d_law_slope_right.code = .ref cc_law_slope_right
  cc_law_errors_right : Addr
  pp_law_errors_right : Addr
  cq_law_errors_right : d_law_errors_right.code = .ref cc_law_errors_right
  pn_law_texts_right_law_slope_right : pp_law_texts_right ≠ pp_law_slope_right
  pn_law_texts_right_law_errors_right : pp_law_texts_right ≠ pp_law_errors_right
  pn_law_slope_right_law_errors_right : pp_law_slope_right ≠ pp_law_errors_right
  n_abs : mg "abs" = none
  n_bool : mg "bool" = none
  n_int : mg "int" = none
  n_isinstance : mg "isinstance" = none
  n_len : mg "len" = none
  n_max : mg "max" = none
  n_min : mg "min" = none
  n_range : mg "range" = none
  n_repr : mg "repr" = none
  n_str : mg "str" = none
  i_gcd : mg "gcd" = some (.builtin "math.gcd")
  c_MAX_SIDE : ∃ u, mg "MAX_SIDE" = some u ∧ RelV (.int 60) u
  c_DIGITS : ∃ u, mg "DIGITS" = some u ∧ RelV (.str "0123456789") u
section
variable {P : Program} {w : World} {K : PySem.W.Frag} {mg : Str → Option Value} {base : Heap}
/-! ### the error that keeps a number -/
theorem ok_InvalidNumber_init (T : Tx K mg) : FnOk P w K mg base CX0 1 T.a_InvalidNumber_init T.d_InvalidNumber_init ["self", "value"] (Er.spInit T.C_InvalidNumber "value") := by
  refine T.F_InvalidNumber_init.ok sc_InvalidNumber_init (fun vs H Q E h => ?_) (fun cdv A outer s H vs Q E hr h => ?_)
  · obtain ⟨a, v, rfl, _⟩ := h; rfl
  · obtain ⟨a, v, rfl, ha, q⟩ := h
    refine ⟨_, (pss_one (Er.ps_self T.ow_InvalidNumber PySem.F.store_IndexError T.nf_InvalidNumber (pv 0) (pv 1))), ?_⟩
    refine Sx.r_st (σ' := [some (.ref a), some (v)]) rfl ?_
    walk_at "sx"
    refine Er.r_self (a := a) ?_
    walk_at "sx"
    exact ⟨a, rfl, ha, q⟩
theorem ok_ParseError_init (T : Tx K mg) : FnOk P w K mg base CX0 1 T.a_ParseError_init T.d_ParseError_init ["self", "index"] (Er.spInit T.C_ParseError "index") := by
  refine T.F_ParseError_init.ok sc_ParseError_init (fun vs H Q E h => ?_) (fun cdv A outer s H vs Q E hr h => ?_)
  · obtain ⟨a, v, rfl, _⟩ := h; rfl
  · obtain ⟨a, v, rfl, ha, q⟩ := h
    refine ⟨_, (pss_one (Er.ps_self T.ow_ParseError PySem.F.store_ValueError T.nf_ParseError (pv 0) (pv 1))), ?_⟩
    refine Sx.r_st (σ' := [some (.ref a), some (v)]) rfl ?_
    walk_at "sx"
    refine Er.r_self (a := a) ?_
    walk_at "sx"
    exact ⟨a, rfl, ha, q⟩
theorem ok_Refused_init (T : Tx K mg) : FnOk P w K mg base CX0 1 T.a_Refused_init T.d_Refused_init ["self", "reason"] (Er.spInit T.C_Refused "reason") := by
  refine T.F_Refused_init.ok sc_Refused_init (fun vs H Q E h => ?_) (fun cdv A outer s H vs Q E hr h => ?_)
  · obtain ⟨a, v, rfl, _⟩ := h; rfl
  · obtain ⟨a, v, rfl, ha, q⟩ := h
    refine ⟨_, (pss_one (Er.ps_self T.ow_Refused PySem.F.store_ArithmeticError T.nf_Refused (pv 0) (pv 1))), ?_⟩
    refine Sx.r_st (σ' := [some (.ref a), some (v)]) rfl ?_
    walk_at "sx"
    refine Er.r_self (a := a) ?_
    walk_at "sx"
    exact ⟨a, rfl, ha, q⟩
/-! ### is_number, is_whole_between -/
def sp_is_number (K : PySem.W.Frag) : Sp := fun vs H Q _ => (∃ i : Int, vs = [.int i] ∧ Q (.bl true) H) ∨ ∃ v, vs = [v] ∧ NoNum K H v ∧ Q (.bl false) H
theorem ok_is_number (T : Tx K mg) : FnOk P w K mg base CX0 1 T.a_is_number T.d_is_number ["value"] (sp_is_number K) := by
  refine T.F_is_number.ok sc_is_number (fun vs H Q E h => ?_) (fun cdv A outer s H vs Q E hr h => ?_)
  · obtain ⟨i, rfl, _⟩ | ⟨v, rfl, _⟩ := h <;> rfl
  · refine ⟨_, (pss_one (ps_ret (pe_and (pe_callB call_isi (by rfl) T.n_isinstance Sx.bt_isinstance (pa_cons (pv 0) (pa_cons (pe_bltn (v := .ty "int") (by rfl) T.n_int Sx.bt_int rfl) pa_nil))) (pe_one (pe_not (pe_callB call_isi (by rfl) T.n_isinstance Sx.bt_isinstance (pa_cons (pv 0) (pa_cons (pe_bltn (v := .ty "bool") (by rfl) T.n_bool Sx.bt_bool rfl) pa_nil)))))))), ?_⟩
    obtain ⟨i, rfl, q⟩ | ⟨v, rfl, ⟨t, b1, b2, ht, h1, h2, h3⟩, q⟩ := h
    · refine Sx.r_st (σ' := [some (.int i)]) rfl ?_
      walk_at "sx"
      exact q
    · refine Sx.r_st (σ' := [some (v)]) rfl ?_
      walk_at "sx"
      refine ⟨v, .ty "int", t, .type "int", b1, rfl, .ty _, ht, h1, ?_⟩
      cases b1 with
      | false => walk_at "sx"; exact q
      | true =>
        have e2 : b2 = true := by simpa using h3
        subst e2
        walk_at "sx"
        refine ⟨v, .ty "bool", t, .type "bool", true, rfl, .ty _, ht, h2, ?_⟩
        walk_at "sx"
        exact q
def sp_is_whole_between (K : PySem.W.Frag) : Sp := fun vs H Q _ => (∃ v a b : Int, vs = [.int v, .int a, .int b] ∧ Q (.bl (decide (a ≤ v ∧ v ≤ b))) H) ∨ ∃ v, ∃ a b : Int, vs = [v, .int a, .int b] ∧ NoNum K H v ∧ Q (.bl false) H
theorem ok_is_whole_between (T : Tx K mg) : FnOk P w K mg base CX0 2 T.a_is_whole_between T.d_is_whole_between ["value", "least", "most"] (sp_is_whole_between K) := by
  refine T.F_is_whole_between.ok sc_is_whole_between (fun vs H Q E h => ?_) (fun cdv A outer s H vs Q E hr h => ?_)
  · obtain ⟨v, a, b, rfl, _⟩ | ⟨v, a, b, rfl, _⟩ := h <;> rfl
  · refine ⟨_, (pss_one (ps_ret (pe_and (pe_call (ok_is_number T) (hr.mono (by decide)) (by rfl) T.g_is_number T.F_is_number.kp T.b_is_number .nil pass0 (pa_cons (pv 0) pa_nil)) (pe_one (pe_chain op_le op_le (pv 1) (pv 0) (pv 2)))))), ?_⟩
    obtain ⟨v, a, b, rfl, q⟩ | ⟨v, a, b, rfl, hn, q⟩ := h
    · refine Sx.r_st (σ' := [some (.int v), some (.int a), some (.int b)]) rfl ?_
      walk_at "sx"
      refine .inl ⟨v, rfl, ?_⟩
      walk_at "sx"
      refine ite_d (fun h1 => ?_) (fun h1 => ?_)
      · walk_at "sx"
        have e : decide (a ≤ v ∧ v ≤ b) = decide (v ≤ b) := by simp [h1]
        rw [← e]; exact q
      · have e : decide (a ≤ v ∧ v ≤ b) = false := by simp [h1]
        rw [← e]; exact q
    · refine Sx.r_st (σ' := [some (v), some (.int a), some (.int b)]) rfl ?_
      walk_at "sx"
      refine .inr ⟨v, rfl, hn, ?_⟩
      walk_at "sx"
      exact q
/-! ### Slope -/
def slF (a b : Int) : List (Str × V) := putF "_common" (.int ((Nat.gcd a.natAbs b.natAbs : Nat) : Int)) (putF "_steps" (.int b) (putF "_rises" (.int a) []))
theorem slF_r (a b : Int) : (slF a b).lookup ("_rises" : Str) = some (.int a) := by
  unfold slF; rw [lookup_putF, if_neg (by decide +kernel), lookup_putF, if_neg (by decide +kernel), lookup_putF, if_pos rfl]
theorem slF_s (a b : Int) : (slF a b).lookup ("_steps" : Str) = some (.int b) := by
  unfold slF; rw [lookup_putF, if_neg (by decide +kernel), lookup_putF, if_pos rfl]
theorem slF_c (a b : Int) : (slF a b).lookup ("_common" : Str) = some (.int ((Nat.gcd a.natAbs b.natAbs : Nat) : Int)) := by
  unfold slF; rw [lookup_putF, if_pos rfl]
/-- v is the slope a:b -/
def SlopeAt (C : Addr) (H : Hp) (v : V) (a b : Int) : Prop := (1 ≤ a ∧ a ≤ 60 ∧ 1 ≤ b ∧ b ≤ 60) ∧ ∃ p dx, v = .ref p ∧ H p = some (.ins C dx (slF a b))
theorem SlopeAt.mono {C : Addr} {H H' : Hp} {v : V} {a b : Int} (h : SlopeAt C H v a b) (s : Same H H') : SlopeAt C H' v a b := by
  obtain ⟨h1, p, dx, h2, h3⟩ := h; exact ⟨h1, p, dx, h2, s _ _ h3⟩
theorem SlopeAt.kp {C : Addr} {H H' : Hp} {v : V} {a b : Int} {d : Addr} (h : SlopeAt C H v a b) (s : Kp d H H') : SlopeAt C H' v a b := by
  obtain ⟨h1, p, dx, h2, h3⟩ := h; exact ⟨h1, p, dx, h2, s.ins h3⟩
/-- no number of a slope -/
def NoSide (K : PySem.W.Frag) (H : Hp) (v : V) : Prop := (∃ i : Int, v = .int i ∧ ¬ (1 ≤ i ∧ i ≤ 60)) ∨ NoNum K H v
theorem NoSide.mono {K : PySem.W.Frag} {H H' : Hp} {v : V} (h : NoSide K H v) (s : Same H H') : NoSide K H' v := by
  rcases h with h | h
  · exact .inl h
  · exact .inr (h.mono s)
/-- the error that keeps v -/
def ErrV (C : Addr) (f : Str) (E : XK) (H : Hp) (v : V) : Prop := ∀ d, H d = none → E (.ref C) (some d) (upd H d (.xd [(f, v)]))
def sp_Slope_init (K : PySem.W.Frag) (C CN : Addr) : Sp := fun vs H Q E => ∃ p dx v u, vs = [.ref p, v, u] ∧ H p = some (.ins C dx []) ∧
  ((∃ a b : Int, v = .int a ∧ u = .int b ∧ (1 ≤ a ∧ a ≤ 60 ∧ 1 ≤ b ∧ b ≤ 60) ∧ Q .non (upd (upd (upd H p (.ins C dx (putF "_rises" (.int a) []))) p (.ins C dx (putF "_steps" (.int b) (putF "_rises" (.int a) [])))) p (.ins C dx (slF a b)))) ∨
   (NoSide K H v ∧ ErrV CN "value" E H v) ∨ (∃ a : Int, v = .int a ∧ (1 ≤ a ∧ a ≤ 60) ∧ NoSide K H u ∧ ErrV CN "value" E H u))
theorem ok_Slope_init (T : Tx K mg) : FnOk P w K mg base (L2.CX P w) 3 T.a_Slope_init T.d_Slope_init ["self", "rises", "steps"] (sp_Slope_init K T.C_Slope T.C_InvalidNumber) := by
  refine T.F_Slope_init.okX sc_Slope_init (fun vs H Q E h => ?_) (fun cdv A outer s H vs Q E hr h => ?_)
  · obtain ⟨p, dx, v, u, rfl, _⟩ := h; rfl
  · obtain ⟨p, dx, v, u, rfl, hp, h⟩ := h
    refine ⟨_, (pss_cons (ps_if (pt_not (pt_val (pe_call (ok_is_whole_between T) (hr.mono (by decide)) (by rfl) T.g_is_whole_between T.F_is_whole_between.kp T.b_is_whole_between .nil pass0 (pa_cons (pv 1) (pa_cons pe_int (pa_cons (pe_gc (by rfl) T.c_MAX_SIDE) pa_nil)))))) (pss_one (Er.ps_raise1 rfl (takes_of rfl rfl rfl rfl) T.ow_InvalidNumber PySem.F.excBase_IndexError (ok_InvalidNumber_init T) (hr.mono (by decide)) T.b_InvalidNumber_init rfl T.g_InvalidNumber (pa_cons (pv 1) pa_nil))) pss_nil)
      (pss_cons (ps_if (pt_not (pt_val (pe_call (ok_is_whole_between T) (hr.mono (by decide)) (by rfl) T.g_is_whole_between T.F_is_whole_between.kp T.b_is_whole_between .nil pass0 (pa_cons (pv 2) (pa_cons pe_int (pa_cons (pe_gc (by rfl) T.c_MAX_SIDE) pa_nil)))))) (pss_one (Er.ps_raise1 rfl (takes_of rfl rfl rfl rfl) T.ow_InvalidNumber PySem.F.excBase_IndexError (ok_InvalidNumber_init T) (hr.mono (by decide)) T.b_InvalidNumber_init rfl T.g_InvalidNumber (pa_cons (pv 2) pa_nil))) pss_nil)
      (pss_cons (ps_fld (pv 0) (pv 1) rfl)
      (pss_cons (ps_fld (pv 0) (pv 2) rfl)
      (pss_one (ps_fld (pv 0) (pe_callBfun cr_gcd (by rfl) T.i_gcd (pa_cons (pv 1) (pa_cons (pv 2) pa_nil))) rfl)))))), ?_⟩
    obtain ⟨a, b, rfl, rfl, ⟨a1, a2, b1, b2⟩, q⟩ | ⟨hv, q⟩ | ⟨a, rfl, ⟨a1, a2⟩, hu, q⟩ := h
    · refine Sx.r_st (σ' := [some (.ref p), some (.int a), some (.int b)]) rfl ?_
      walk_at "sxi"
      refine .inl ⟨a, 1, 60, rfl, ?_⟩
      walk_at "sx"
      rw [show decide (1 ≤ a ∧ a ≤ 60) = true by simp [a1, a2]]
      walk_at "sxi"
      refine .inl ⟨b, 1, 60, rfl, ?_⟩
      walk_at "sx"
      rw [show decide (1 ≤ b ∧ b ≤ 60) = true by simp [b1, b2]]
      walk_at "sx"
      refine r_insput hp T.cl_Slope T.na_Slope_rises (by decide) ?_
      walk_at "sx"
      refine r_insput upd_same T.cl_Slope T.na_Slope_steps len1 ?_
      walk_at "sx"
      exact ⟨p, _, dx, _, rfl, upd_same, T.cl_Slope, T.na_Slope_common, len2, q⟩
    · refine Sx.r_st (σ' := [some (.ref p), some (v), some (u)]) rfl ?_
      walk_at "sxi"
      obtain ⟨i, rfl, hi⟩ | hn := hv
      · refine .inl ⟨i, 1, 60, rfl, ?_⟩
        rw [decide_eq_false hi]
        walk_at "sx"
        refine Er.r_raise ?_
        walk_at "sx"
        exact ⟨_, rfl, q⟩
      · refine .inr ⟨v, 1, 60, rfl, hn, ?_⟩
        walk_at "sx"
        refine Er.r_raise ?_
        walk_at "sx"
        exact ⟨_, rfl, q⟩
    · refine Sx.r_st (σ' := [some (.ref p), some (.int a), some (u)]) rfl ?_
      walk_at "sxi"
      refine .inl ⟨a, 1, 60, rfl, ?_⟩
      walk_at "sx"
      rw [show decide (1 ≤ a ∧ a ≤ 60) = true by simp [a1, a2]]
      walk_at "sxi"
      obtain ⟨i, rfl, hi⟩ | hn := hu
      · refine .inl ⟨i, 1, 60, rfl, ?_⟩
        rw [decide_eq_false hi]
        walk_at "sx"
        refine Er.r_raise ?_
        walk_at "sx"
        exact ⟨_, rfl, q⟩
      · refine .inr ⟨u, 1, 60, rfl, hn, ?_⟩
        walk_at "sx"
        refine Er.r_raise ?_
        walk_at "sx"
        exact ⟨_, rfl, q⟩
/-- a new slope -/
theorem mk_slope {K : PySem.W.Frag} {C CN : Addr} {H : Hp} {Q : VK} {E : XK} {a b : Int} (h : 1 ≤ a ∧ a ≤ 60 ∧ 1 ≤ b ∧ b ≤ 60) (q : ∀ v H', Same H H' → SlopeAt C H' v a b → Q v H') :
    MakeP C (sp_Slope_init K C CN) E [.int a, .int b] H Q := by
  intro x dx hx hdx hne
  refine ⟨x, dx, .int a, .int b, rfl, upd_same, .inl ⟨a, b, rfl, rfl, h, rfl, q _ _ ?_ ⟨h, x, dx, rfl, upd_same⟩⟩⟩
  intro c o e
  have n1 : c ≠ x := ne_of_none e hx
  have n2 : c ≠ dx := ne_of_none e hdx
  rw [upd_ne n1, upd_ne n1, upd_ne n1, upd_ne n1, upd_ne n2]; exact e
theorem same_ins {H : Hp} {x dx : Addr} {o o' : HO} (hx : H x = none) (hdx : H dx = none) : Same H (upd (upd H dx o) x o') := by
  intro c o e
  rw [upd_ne (ne_of_none e hx), upd_ne (ne_of_none e hdx)]; exact e
/-- no slope -/
theorem no_slope1 {K : PySem.W.Frag} {C CN : Addr} {H : Hp} {Q : VK} {E : XK} {v u : V} (h : NoSide K H v) (q : ∀ H', Same H H' → ErrV CN "value" E H' v) :
    MakeP C (sp_Slope_init K C CN) E [v, u] H Q := by
  intro x dx hx hdx hne
  have s := same_ins (o := .own x) (o' := .ins C dx []) hx hdx
  exact ⟨x, dx, v, u, rfl, upd_same, .inr (.inl ⟨h.mono s, q _ s⟩)⟩
theorem no_slope2 {K : PySem.W.Frag} {C CN : Addr} {H : Hp} {Q : VK} {E : XK} {a : Int} {u : V} (ha : 1 ≤ a ∧ a ≤ 60) (h : NoSide K H u) (q : ∀ H', Same H H' → ErrV CN "value" E H' u) :
    MakeP C (sp_Slope_init K C CN) E [.int a, u] H Q := by
  intro x dx hx hdx hne
  have s := same_ins (o := .own x) (o' := .ins C dx []) hx hdx
  exact ⟨x, dx, .int a, u, rfl, upd_same, .inr (.inr ⟨a, rfl, ha, h.mono s, q _ s⟩)⟩
theorem ok_Slope_rises (T : Tx K mg) : FnOk P w K mg base CX0 1 T.a_Slope_rises T.d_Slope_rises ["self"] (getSp T.C_Slope "_rises") := by
  refine T.F_Slope_rises.ok sc_Slope_rises (fun vs H Q E h => ?_) (fun cdv A outer s H vs Q E hr h => ?_)
  · obtain ⟨a, dx, fs, v, rfl, _⟩ := h; rfl
  · obtain ⟨a, dx, fs, v, rfl, e, l, q⟩ := h
    refine ⟨_, (pss_one (ps_ret (pe_fld (pv 0) rfl))), ?_⟩
    refine Sx.r_st (σ' := [some (.ref a)]) rfl ?_
    walk_at "sx"
    exact ⟨a, _, dx, fs, v, rfl, e, T.cl_Slope, T.na_Slope_rises, l, q⟩
theorem ok_Slope_steps (T : Tx K mg) : FnOk P w K mg base CX0 1 T.a_Slope_steps T.d_Slope_steps ["self"] (getSp T.C_Slope "_steps") := by
  refine T.F_Slope_steps.ok sc_Slope_steps (fun vs H Q E h => ?_) (fun cdv A outer s H vs Q E hr h => ?_)
  · obtain ⟨a, dx, fs, v, rfl, _⟩ := h; rfl
  · obtain ⟨a, dx, fs, v, rfl, e, l, q⟩ := h
    refine ⟨_, (pss_one (ps_ret (pe_fld (pv 0) rfl))), ?_⟩
    refine Sx.r_st (σ' := [some (.ref a)]) rfl ?_
    walk_at "sx"
    exact ⟨a, _, dx, fs, v, rfl, e, T.cl_Slope, T.na_Slope_steps, l, q⟩
/-- a slope's numbers, read -/
theorem rd_r {C : Addr} {H : Hp} {v : V} {a b : Int} {Q : VK} {E : XK} (h : SlopeAt C H v a b) (q : Q (.int a) H) : ∃ p dx fs, v = .ref p ∧ H p = some (.ins C dx fs) ∧ getSp C "_rises" (.ref p :: []) H Q E := by
  obtain ⟨_, p, dx, rfl, e⟩ := h; exact ⟨p, dx, _, rfl, e, r_getSp e (slF_r a b) q⟩
theorem rd_s {C : Addr} {H : Hp} {v : V} {a b : Int} {Q : VK} {E : XK} (h : SlopeAt C H v a b) (q : Q (.int b) H) : ∃ p dx fs, v = .ref p ∧ H p = some (.ins C dx fs) ∧ getSp C "_steps" (.ref p :: []) H Q E := by
  obtain ⟨_, p, dx, rfl, e⟩ := h; exact ⟨p, dx, _, rfl, e, r_getSp e (slF_s a b) q⟩
theorem ok_Slope_common (T : Tx K mg) : FnOk P w K mg base CX0 1 T.a_Slope_common T.d_Slope_common ["self"] (getSp T.C_Slope "_common") := by
  refine T.F_Slope_common.ok sc_Slope_common (fun vs H Q E h => ?_) (fun cdv A outer s H vs Q E hr h => ?_)
  · obtain ⟨a, dx, fs, v, rfl, _⟩ := h; rfl
  · obtain ⟨a, dx, fs, v, rfl, e, l, q⟩ := h
    refine ⟨_, (pss_one (ps_ret (pe_fld (pv 0) rfl))), ?_⟩
    refine Sx.r_st (σ' := [some (.ref a)]) rfl ?_
    walk_at "sx"
    exact ⟨a, _, dx, fs, v, rfl, e, T.cl_Slope, T.na_Slope_common, l, q⟩
theorem rd_c {C : Addr} {H : Hp} {v : V} {a b : Int} {Q : VK} {E : XK} (h : SlopeAt C H v a b) (q : Q (.int ((Nat.gcd a.natAbs b.natAbs : Nat) : Int)) H) : ∃ p dx fs, v = .ref p ∧ H p = some (.ins C dx fs) ∧ getSp C "_common" (.ref p :: []) H Q E := by
  obtain ⟨_, p, dx, rfl, e⟩ := h; exact ⟨p, dx, _, rfl, e, r_getSp e (slF_c a b) q⟩
def sp_Slope_exchanged (C : Addr) : Sp := fun vs H Q _ => ∃ v, ∃ a b : Int, vs = [v] ∧ SlopeAt C H v a b ∧ ∀ u H', Same H H' → SlopeAt C H' u b a → Q u H'
theorem ok_Slope_exchanged (T : Tx K mg) : FnOk P w K mg base CX0 5 T.a_Slope_exchanged T.d_Slope_exchanged ["self"] (sp_Slope_exchanged T.C_Slope) := by
  refine T.F_Slope_exchanged.ok sc_Slope_exchanged (fun vs H Q E h => ?_) (fun cdv A outer s H vs Q E hr h => ?_)
  · obtain ⟨v, a, b, rfl, _⟩ := h; rfl
  · obtain ⟨v, a, b, rfl, ⟨hb, p, dx, rfl, e⟩, q⟩ := h
    refine ⟨_, (pss_one (ps_ret (pe_make T.mk_Slope (ok_Slope_init T) (hr.mono (by decide)) (by rfl) T.g_Slope T.b_Slope_init .nil En.passN (pa_cons (pe_fld (pv 0) rfl) (pa_cons (pe_fld (pv 0) rfl) pa_nil))))), ?_⟩
    refine Sx.r_st (σ' := [some (.ref p)]) rfl ?_
    walk_at "sx"
    refine ⟨p, _, dx, _, _, rfl, e, T.cl_Slope, T.na_Slope_steps, slF_s a b, ?_⟩
    walk_at "sx"
    refine ⟨p, _, dx, _, _, rfl, e, T.cl_Slope, T.na_Slope_rises, slF_r a b, ?_⟩
    walk_at "sx"
    exact mk_slope ⟨hb.2.2.1, hb.2.2.2, hb.1, hb.2.1⟩ q
/-! ### coprime slopes and others -/
def sp_is_coprime (C : Addr) : Sp := fun vs H Q _ => ∃ v, ∃ a b : Nat, vs = [v] ∧ SlopeAt C H v a b ∧ Q (.bl (decide (Nat.gcd a b = 1))) H
theorem ok_Slope_is_coprime (T : Tx K mg) : FnOk P w K mg base CX0 1 T.a_Slope_is_coprime T.d_Slope_is_coprime ["self"] (sp_is_coprime T.C_Slope) := by
  refine T.F_Slope_is_coprime.ok sc_Slope_is_coprime (fun vs H Q E h => ?_) (fun cdv A outer s H vs Q E hr h => ?_)
  · obtain ⟨v, a, b, rfl, _⟩ := h; rfl
  · obtain ⟨v, a, b, rfl, ⟨hb, p, dx, rfl, e⟩, q⟩ := h
    refine ⟨_, (pss_one (ps_ret (pe_cmpR op_eq (pe_fld (pv 0) rfl) pe_int (nomark _)))), ?_⟩
    refine Sx.r_st (σ' := [some (.ref p)]) rfl ?_
    walk_at "sx"
    refine ⟨p, _, dx, _, _, rfl, e, T.cl_Slope, T.na_Slope_common, slF_c a b, ?_⟩
    walk_at "sx"
    rw [Int.natAbs_natCast, Int.natAbs_natCast, show decide (((Nat.gcd a b : Nat) : Int) = 1) = decide (Nat.gcd a b = 1) by by_cases h : Nat.gcd a b = 1 <;> simp [h] <;> omega]
    exact q
theorem rd_cop {C : Addr} {H : Hp} {v : V} {a b : Nat} {Q : VK} {E : XK} (h : SlopeAt C H v a b) (q : Q (.bl (decide (Nat.gcd a b = 1))) H) : ∃ p dx fs, v = .ref p ∧ H p = some (.ins C dx fs) ∧ sp_is_coprime C (.ref p :: []) H Q E := by
  obtain ⟨h1, p, dx, rfl, e⟩ := h
  exact ⟨p, dx, _, rfl, e, .ref p, a, b, rfl, ⟨h1, p, dx, rfl, e⟩, q⟩
/-- the error of a common part -/
def ErrCom (C : Addr) (E : XK) (H : Hp) (g : Nat) : Prop := ∀ p, H p = none → ErrV C "reason" E (upd H p (.tup [.str "common", .int g])) (.ref p)
def sp_check_coprime (C CR : Addr) : Sp := fun vs H Q E => ∃ v, ∃ a b : Nat, vs = [v] ∧ SlopeAt C H v a b ∧ ((Nat.gcd a b = 1 ∧ Q .non H) ∨ (Nat.gcd a b ≠ 1 ∧ ErrCom CR E H (Nat.gcd a b)))
theorem ok_check_coprime (T : Tx K mg) : FnOk P w K mg base (L2.CX P w) 3 T.a_check_coprime T.d_check_coprime ["slope"] (sp_check_coprime T.C_Slope T.C_Refused) := by
  refine T.F_check_coprime.okX sc_check_coprime (fun vs H Q E h => ?_) (fun cdv A outer s H vs Q E hr h => ?_)
  · obtain ⟨v, a, b, rfl, _⟩ := h; rfl
  · obtain ⟨v, a, b, rfl, hS, h⟩ := h
    refine ⟨_, (pss_one (ps_if (pt_not (pt_val (pe_prop (pv 0) T.cl_Slope T.pr_Slope_is_coprime (ok_Slope_is_coprime T) (hr.mono (by decide)) T.b_Slope_is_coprime .nil pass0 rfl))) (pss_one (Er.ps_raise1 rfl (takes_of rfl rfl rfl rfl) T.ow_Refused PySem.F.excBase_ArithmeticError (ok_Refused_init T) (hr.mono (by decide)) T.b_Refused_init rfl T.g_Refused (pa_cons (pe_tup (pa_cons pe_str (pa_cons (pe_prop (pv 0) T.cl_Slope T.pr_Slope_common (ok_Slope_common T) (hr.mono (by decide)) T.b_Slope_common .nil pass0 rfl) pa_nil))) pa_nil))) pss_nil)), ?_⟩
    refine Sx.r_st (σ' := [some (v)]) rfl ?_
    walk_at "sxi"
    refine rd_cop hS ?_
    walk_at "sx"
    rcases h with ⟨hg, q⟩ | ⟨hg, q⟩
    · rw [decide_eq_true hg]
      walk_at "sx"
      exact q
    · rw [decide_eq_false hg]
      walk_at "sx"
      refine Er.r_raise ?_
      walk_at "sx"
      refine rd_c hS ?_
      rw [Int.natAbs_natCast, Int.natAbs_natCast]
      walk_at "sx"
      exact ⟨sz _ (Nat.le_of_ble_eq_true rfl), fun p hp => ⟨_, rfl, q p hp⟩⟩
def sp_half (C CR : Addr) : Sp := fun vs H Q E => ∃ v, ∃ a b : Nat, vs = [v] ∧ SlopeAt C H v a b ∧ ((Nat.gcd a b = 1 ∧ Q (.int (((a : Int) - 1) * ((b : Int) - 1) / 2)) H) ∨ (Nat.gcd a b ≠ 1 ∧ ErrCom CR E H (Nat.gcd a b)))
theorem ok_Slope_half (T : Tx K mg) : FnOk P w K mg base (L2.CX P w) 4 T.a_Slope_half T.d_Slope_half ["self"] (sp_half T.C_Slope T.C_Refused) := by
  refine T.F_Slope_half.okX sc_Slope_half (fun vs H Q E h => ?_) (fun cdv A outer s H vs Q E hr h => ?_)
  · obtain ⟨v, a, b, rfl, _⟩ := h; rfl
  · obtain ⟨v, a, b, rfl, hS, h⟩ := h
    have hS0 := hS
    obtain ⟨hb, p, dx, rfl, e⟩ := hS
    refine ⟨_, (pss_cons (ps_expr (pe_call (ok_check_coprime T) (hr.mono (by decide)) (by rfl) T.g_check_coprime T.F_check_coprime.kp T.b_check_coprime .nil (passes_call (E := E) (W := fun cls d _ H => E cls d H) (takes_of rfl rfl rfl rfl) (fun _ _ _ _ h => h)) (pa_cons (pv 0) pa_nil)))
      (pss_one (ps_ret (pe_op op_fdivW (pe_op Sx.op_mulA (pe_op op_sub (pe_fld (pv 0) rfl) pe_int) (pe_op op_sub (pe_fld (pv 0) rfl) pe_int)) pe_int)))), ?_⟩
    refine Sx.r_st (σ' := [some (.ref p)]) rfl ?_
    walk_at "sx"
    refine ⟨.ref p, a, b, rfl, hS0, ?_⟩
    rcases h with ⟨hg, q⟩ | ⟨hg, q⟩
    · refine .inl ⟨hg, ?_⟩
      walk_at "sx"
      refine ⟨p, _, dx, _, _, rfl, e, T.cl_Slope, T.na_Slope_rises, slF_r a b, ?_⟩
      walk_at "sx"
      refine ⟨p, _, dx, _, _, rfl, e, T.cl_Slope, T.na_Slope_steps, slF_s a b, ?_⟩
      walk_at "sx"
      · exact q
      · exact cdivw (b := 64) (by omega) (by omega) (by decide)
      · exact cmA_r (by omega)
    · exact .inr ⟨hg, q⟩
theorem rd_half {C CR : Addr} {H : Hp} {v : V} {a b : Nat} {Q : VK} {E : XK} (h : SlopeAt C H v a b) (q : (Nat.gcd a b = 1 ∧ Q (.int (((a : Int) - 1) * ((b : Int) - 1) / 2)) H) ∨ (Nat.gcd a b ≠ 1 ∧ ErrCom CR E H (Nat.gcd a b))) : ∃ p dx fs, v = .ref p ∧ H p = some (.ins C dx fs) ∧ sp_half C CR (.ref p :: []) H Q E := by
  obtain ⟨h1, p, dx, rfl, e⟩ := h
  exact ⟨p, dx, _, rfl, e, .ref p, a, b, rfl, ⟨h1, p, dx, rfl, e⟩, q⟩
/-! ### Slope.__eq__, with values of any kind -/
def sp_Slope_eq (K : PySem.W.Frag) (C : Addr) : Sp := fun vs H Q _ => (∃ v u, ∃ a b c d : Int, vs = [v, u] ∧ SlopeAt C H v a b ∧ SlopeAt C H u c d ∧ Q (.bl (decide (a = c ∧ b = d))) H) ∨ ∃ v y t, ∃ a b : Int, vs = [v, y] ∧ SlopeAt C H v a b ∧ TyX K H y t ∧ PySem.W.kitOne K t (.ref C) = some false ∧ Q (.bl false) H
theorem ok_Slope_eq (T : Tx K mg) : FnOk P w K mg base CX0 1 T.a_Slope_eq T.d_Slope_eq ["self", "other"] (sp_Slope_eq K T.C_Slope) := by
  refine T.F_Slope_eq.ok sc_Slope_eq (fun vs H Q E h => ?_) (fun cdv A outer s H vs Q E hr h => ?_)
  · obtain ⟨v, u, a, b, c, d, rfl, _⟩ | ⟨v, y, t, a, b, rfl, _⟩ := h <;> rfl
  · refine ⟨_, (pss_one (ps_ret (pe_and (pe_callB call_isi (by rfl) T.n_isinstance Sx.bt_isinstance (pa_cons (pv 1) (pa_cons (pe_glob (v := .ref T.C_Slope) (by rfl) T.g_Slope rfl) pa_nil))) (pe_and (pe_cmpR op_eq (pe_fld (pv 0) rfl) (pe_fld (pv 1) rfl) (nomark _)) (pe_one (pe_cmpR op_eq (pe_fld (pv 0) rfl) (pe_fld (pv 1) rfl) (nomark _))))))), ?_⟩
    obtain ⟨v, u, a, b, c, d, rfl, ⟨_, p, dx, rfl, e1⟩, ⟨_, p2, dx2, rfl, e2⟩, q⟩ | ⟨v, y, t, a, b, rfl, ⟨_, p, dx, rfl, e1⟩, ty, kt, q⟩ := h
    · refine Sx.r_st (σ' := [some (.ref p), some (.ref p2)]) rfl ?_
      walk_at "sx"
      refine r_isi_own e2 T.cl_Slope T.ic_Slope T.cg T.ct T.mr_Slope T.ks_Slope ?_
      walk_at "sx"
      refine ⟨p, _, dx, _, _, rfl, e1, T.cl_Slope, T.na_Slope_rises, slF_r a b, ?_⟩
      walk_at "sx"
      refine ⟨p2, _, dx2, _, _, rfl, e2, T.cl_Slope, T.na_Slope_rises, slF_r c d, ?_⟩
      walk_at "sx"
      refine ite_d (fun h => ?_) (fun h => ?_)
      · walk_at "sx"
        refine ⟨p, _, dx, _, _, rfl, e1, T.cl_Slope, T.na_Slope_steps, slF_s a b, ?_⟩
        walk_at "sx"
        refine ⟨p2, _, dx2, _, _, rfl, e2, T.cl_Slope, T.na_Slope_steps, slF_s c d, ?_⟩
        walk_at "sx"
        rw [show decide (a = c ∧ b = d) = decide (b = d) by simp [h]] at q
        exact q
      · rw [show decide (a = c ∧ b = d) = false by simp [h]] at q
        exact q
    · refine Sx.r_st (σ' := [some (.ref p), some (y)]) rfl ?_
      walk_at "sx"
      refine ⟨y, .ref T.C_Slope, t, .ref T.C_Slope, false, rfl, .own _, ty, kt, ?_⟩
      walk_at "sx"
      exact q
end
end Lw

namespace Lw
open PySem PySem.Spec PyProof.Rows L2 Sx Sy Sw Mw Me
open En (NoNum)
open Ln (KpN)
open LamX (Tabs TabB ExtN)
open SX (S)
open C8 (pe_gc)
open SkE (call_repr_int call_str_str)
open RZ (pi_zipA)
section
variable {P : Program} {w : World} {K : PySem.W.Frag} {mg : Str → Option Value} {base : Heap}
/-! ### texts -/
def it (i : Int) : Str := Str.ofString (toString i)
theorem it_log {i : Int} (h : i.natAbs ≤ 1000000) : i.natAbs.log2 < 1920 := PySem.Flt.log2_lt_of (by decide) (Nat.lt_of_le_of_lt h (by decide +kernel))
theorem it_len {i : Int} (h : i.natAbs ≤ 1000000) : (it i).length ≤ 1921 := PyProof.Rows.int_text_len_1921 (it_log h)
theorem len_eq1 : (":" : Str).length = 1 := by decide +kernel
def slT (a b : Nat) : Str := (Str.empty ++ it a) ++ ":" ++ it b
theorem len_e : Str.empty.length = 0 := by decide +kernel
theorem slT_len {a b : Nat} (ha : a ≤ 60) (hb : b ≤ 60) : (slT a b).length ≤ 4000 := by
  unfold slT
  rw [Str.length_append, Str.length_append, Str.length_append, len_e, len_eq1]
  have h1 := it_len (i := (a : Int)) (by omega)
  have h2 := it_len (i := (b : Int)) (by omega)
  omega
def sp_Slope_str (C : Addr) : Sp := fun vs H Q _ => ∃ v, ∃ a b : Nat, vs = [v] ∧ SlopeAt C H v a b ∧ Q (.str (slT a b)) H
theorem ok_Slope_str (T : Tx K mg) : FnOk P w K mg base CX0 1 T.a_Slope_str T.d_Slope_str ["self"] (sp_Slope_str T.C_Slope) := by
  refine T.F_Slope_str.ok sc_Slope_str (fun vs H Q E h => ?_) (fun cdv A outer s H vs Q E hr h => ?_)
  · obtain ⟨v, a, b, rfl, _⟩ := h; rfl
  · obtain ⟨v, a, b, rfl, ⟨hb, p, dx, rfl, e⟩, q⟩ := h
    refine ⟨_, (pss_one (ps_ret (pe_joined (PJ.cons (pe_fmt (pe_fld (pv 0) rfl)) (PJ.cons pe_str (PJ.cons (pe_fmt (pe_fld (pv 0) rfl)) PJ.nil)))))), ?_⟩
    refine Sx.r_st (σ' := [some (.ref p)]) rfl ?_
    walk_at "sx"
    have h1 := it_len (i := (a : Int)) (by omega)
    have h2 := it_len (i := (b : Int)) (by omega)
    refine ⟨_, rfl, p, _, dx, _, _, rfl, e, T.cl_Slope, T.na_Slope_rises, slF_r a b, .inr ⟨_, rfl, it_log (by omega), _, rfl, ?_, ?_⟩⟩
    · rw [Str.length_append, len_e, sizeLine_eq]; exact Nat.le_trans (by rw [Nat.zero_add]; exact h1) (by omega)
    refine ⟨_, rfl, ?_, ?_⟩
    · show ((Str.empty ++ it a) ++ ":").length ≤ _
      rw [Str.length_append, Str.length_append, len_e, len_eq1, sizeLine_eq]; omega
    refine ⟨_, rfl, p, _, dx, _, _, rfl, e, T.cl_Slope, T.na_Slope_steps, slF_s a b, .inr ⟨_, rfl, it_log (by omega), _, rfl, ?_, q⟩⟩
    · have := slT_len (a := a) (b := b) (by omega) (by omega)
      rw [sizeLine_eq]
      show (slT a b).length ≤ _
      omega
def sp_spaced (K : PySem.W.Frag) : Sp := fun vs H Q _ => ∃ t, ∃ ns : List Int, vs = [.ref t] ∧ SqT K H t (ns.map V.int) ∧ ns.length ≤ 5000 ∧ (∀ x, x ∈ ns → x.natAbs ≤ 1000000) ∧ ∀ H', Same H H' → Q (.str (Txt.join " " (ns.map it))) H'
/-! ### read_side, Slope.of_text -/
theorem occ_dig : ∀ c, c < 128 → (Builtin.Str.occurrences ("0123456789" : Str) (⟨#[c]⟩ : Str) 0 ("0123456789" : Str).length 1).isEmpty = !(decide (48 ≤ c ∧ c ≤ 57)) := by decide +kernel
theorem find_dig : ∀ c, c < 128 → 48 ≤ c → c ≤ 57 → Txt.find ("0123456789" : Str) (⟨#[c]⟩ : Str) = ((c - 48 : Nat) : Int) := by decide +kernel
theorem r_ixLet {l : List Nat} {i c : Nat} {H : Hp} {Q : VK} (hc : l[i]? = some c) (hl : l.length ≤ 1000) (h : Q (.str ⟨#[c]⟩) H) : rIxS (.str (S l)) (.int (i : Nat)) H Q :=
  ⟨S l, i, c, rfl, rfl, small_S hl, atI_nat (by simpa [S] using hc), h⟩
theorem r_aug {σ : L2.St} {H : Hp} {nx bk ct : L2.St → Hp → Prop} {rt : VK} {i : Nat} {n m : Int} {f : Int → Int → Int} (e : σ[i]? = some (some (.int n))) (h : nx (σ.set i (some (.int (f n m)))) H) : tAug i (tC (.int m)) (ipI f) ⟨nx, rt, bk, ct⟩ σ H := ⟨_, e, n, m, rfl, rfl, h⟩
def sp_read_side (CP : Addr) : Sp := fun vs H Q E => ∃ (l : List Nat) (st : Nat), vs = [.str (S l), .int st] ∧ st ≤ l.length ∧ l.length ≤ 900 ∧ (∀ c ∈ l, c < 128) ∧
  (((Mp.rd 0 (l.drop st)).1 = 0 ∧ ErrV CP "index" E H (.int st)) ∨ ((Mp.rd 0 (l.drop st)).1 ≠ 0 ∧ ∀ p, H p = none → Q (.ref p) (upd H p (.tup [.int (Mp.rd 0 (l.drop st)).1, .int ((st + (Mp.rd 0 (l.drop st)).2 : Nat) : Int)]))))
theorem ok_read_side (T : Tx K mg) : FnOk P w K mg base (L2.CX P w) 3 T.a_read_side T.d_read_side ["text", "start"] (sp_read_side T.C_ParseError) := by
  refine T.F_read_side.okX sc_read_side (fun vs H Q E h => ?_) (fun cdv A outer s H vs Q E hr h => ?_)
  · obtain ⟨l, st, rfl, _⟩ := h; rfl
  · obtain ⟨l, st, rfl, hst, hl, hc, h⟩ := h
    refine ⟨_, (pss_cons (ps_set (i := 2) sc_read_side.nd rfl (.inl rfl) pe_int)
      (pss_cons (ps_set (i := 3) sc_read_side.nd rfl (.inl rfl) (pv 1))
      (pss_cons (ps_while (passes_of rfl) (PW.pt (pw_and (pt_cmpR op_lt (pv 3) (pe_callB Sx.c_lenS (by rfl) T.n_len Sx.bt_len (pa_cons (pv 0) pa_nil)) (nomark _)) (pw_and1 (pt_cmpR op_in_str (pe_ix ix_str (pv 0) (pv 3) (fun _ _ => rfl)) (pe_gc (by rfl) T.c_DIGITS) (by rfl))))) (pss_cons (ps_set (i := 4) sc_read_side.nd rfl (.inl rfl) (pe_op op_add (pe_op Sx.op_mulA (pv 2) pe_int) (pe_bm PySem.F.plainAttrs_str PySem.F.slot_str_find PySem.F.type_str_find Sx.m_findS (pe_gc (by rfl) T.c_DIGITS) (pa_cons (pe_ix ix_str (pv 0) (pv 3) (fun _ _ => rfl)) pa_nil))))
      (pss_cons (ps_if (pt_not (pt_chain op_le op_le pe_int (pv 4) (pe_gc (by rfl) T.c_MAX_SIDE))) (pss_one ps_break) pss_nil)
      (pss_cons (ps_set (i := 2) sc_read_side.nd rfl (.inl rfl) (pv 4))
      (pss_one (ps_aug (i := 3) sc_read_side.nd rfl (.inl rfl) pe_int ip_add))))))
      (pss_cons (ps_if (pt_cmpR op_eq (pv 2) pe_int (nomark _)) (pss_one (Er.ps_raise1 rfl (takes_of rfl rfl rfl rfl) T.ow_ParseError PySem.F.excBase_ValueError (ok_ParseError_init T) (hr.mono (by decide)) T.b_ParseError_init rfl T.g_ParseError (pa_cons (pv 1) pa_nil))) pss_nil)
      (pss_one (ps_ret (pe_tup (pa_cons (pv 2) (pa_cons (pv 3) pa_nil))))))))), ?_⟩
    refine Sx.r_st (σ' := [some (.str (S l)), some (.int st), none, none, none]) rfl ?_
    walk_at "sx"
    refine r_cutS (fun σ3 H3 => H3 = H ∧ ∃ y, σ3 = [some (.str (S l)), some (.int st), some (.int (Mp.rd 0 (l.drop st)).1), some (.int ((st + (Mp.rd 0 (l.drop st)).2 : Nat) : Int)), y]) (fun nx' k => ?_) ?_
    · refine r_while (fun m σ' H' => H' = H ∧ ∃ n i : Nat, ∃ y, σ' = [some (.str (S l)), some (.int st), some (.int n), some (.int i), y] ∧ i ≤ l.length ∧ n ≤ 60 ∧ m = l.length - i ∧ (Mp.rd n (l.drop i)).1 = (Mp.rd 0 (l.drop st)).1 ∧ i + (Mp.rd n (l.drop i)).2 = st + (Mp.rd 0 (l.drop st)).2) (l.length - st) ⟨rfl, 0, st, none, rfl, hst, Nat.zero_le _, rfl, rfl, rfl⟩ ?_
      rintro m σ' H' ⟨rfl, n, i, y, rfl, hi, hn, rfl, h1, h2⟩
      have stop : Mp.rd n (l.drop i) = (n, 0) → ∀ y, nx' [some (.str (S l)), some (.int st), some (.int n), some (.int i), y] H' := fun e y => by
        rw [e] at h1 h2
        exact k _ _ ⟨rfl, y, by rw [← h1, ← h2]; rfl⟩
      walk_at "sx"
      rotate_left
      · exact small_S (by omega)
      rw [SX.S_len]
      refine ite_d (fun hlt => ?_) (fun hge => ?_)
      · have hlt' : i < l.length := by omega
        have ec : l[i]? = some l[i] := List.getElem?_eq_getElem hlt'
        have c128 := hc _ (List.getElem_mem hlt')
        have ed : l.drop i = l[i] :: l.drop (i + 1) := List.drop_eq_getElem_cons hlt'
        generalize l[i] = c at ec c128 ed
        rw [ed] at h1 h2 stop
        walk_at "sx"
        refine r_ixLet ec (by omega) ?_
        walk_at "sx"
        refine ⟨_, _, rfl, rfl, ?_⟩
        rw [occ_dig _ c128, Bool.not_not]
        walk_at "sx"
        refine ite_d (fun hd => ?_) (fun hd => ?_)
        · refine ⟨fun σ2 H2 => Mp.goes n c = true ∧ H2 = H' ∧ ∃ y, σ2 = [some (.str (S l)), some (.int st), some (.int ((n * 10 + (c - 48) : Nat) : Int)), some (.int ((i + 1 : Nat) : Int)), y], ?_, ?_⟩
          · rintro σ2 H2 ⟨g, rfl, y, rfl⟩
            rw [Mp.rd_go g] at h1 h2
            refine ⟨l.length - (i + 1), by omega, rfl, _, _, _, rfl, hlt', (Mp.goes_iff.mp g).2.2, rfl, h1, ?_⟩
            rw [← h2]; show i + 1 + _ = i + (_ + 1); omega
          · walk_at "sx"
            refine r_ixLet ec (by omega) ?_
            walk_at "sx"
            rotate_left
            · exact cmA_r (by omega)
            rw [find_dig c c128 hd.1 hd.2, show ((n : Int) * 10 + ((c - 48 : Nat) : Int)) = ((n * 10 + (c - 48) : Nat) : Int) by rw [Int.natCast_add, Int.natCast_mul]; rfl]
            walk_at "sxi"
            have brk : ¬ Mp.goes n c = true → nx' [some (.str (S l)), some (.int st), some (.int n), some (.int i), some (.int ((n * 10 + (c - 48) : Nat) : Int))] H' := fun g => stop (Mp.rd_no g) _
            refine ite_d (fun h3 => ?_) (fun h3 => ?_)
            · walk_at "sx"
              refine ite_nd (fun h4 => ?_) (fun h4 => ?_)
              · walk_at "sx"
                exact brk fun g => by have := (Mp.goes_iff.mp g).2; omega
              · walk_at "sx"
                refine r_aug rfl ?_
                exact ⟨Mp.goes_iff.mpr ⟨hd, by omega, by omega⟩, rfl, _, rfl⟩
            · walk_at "sx"
              exact brk fun g => by have := (Mp.goes_iff.mp g).2; omega
        · walk_at "sx"
          refine stop ?_ _
          exact Mp.rd_no (fun g => hd (Mp.goes_iff.mp g).1)
      · walk_at "sx"
        refine stop ?_ _
        rw [List.drop_eq_nil_iff.mpr (by omega)]; rfl
    · rintro σ3 H3 ⟨rfl, y, rfl⟩
      walk_at "sxi"
      rcases h with ⟨h, q⟩ | ⟨h, q⟩
      · rw [h]
        walk_at "sx"
        refine Er.r_raise (D := ⟨fun _ _ => True, fun _ _ => True, fun _ _ => True, fun _ _ => True⟩) ?_
        walk_at "sx"
        exact ⟨_, rfl, q⟩
      · refine ite_d (fun z => absurd z (by omega)) (fun _ => ?_)
        walk_at "sx"
        exact ⟨sz _ (Nat.le_of_ble_eq_true rfl), q⟩
theorem is_58 {c : Nat} : (⟨#[c]⟩ : Str) = (":" : Str) ↔ c = 58 := by
  rw [show (":" : Str) = ⟨#[58]⟩ by decide +kernel]
  constructor
  · intro z; injection z with z; injection z with z; injection z
  · rintro rfl; rfl
def NoStr (K : PySem.W.Frag) (H : Hp) (v : V) : Prop := ∃ t, TyX K H v t ∧ PySem.W.kitOne K t (.type "str") = some false
def sp_of_text (K : PySem.W.Frag) (C CT CP : Addr) : Sp := fun vs H Q E => ∃ x, vs = [.ref C, x] ∧ ((NoStr K H x ∧ E (.ref CT) none H) ∨ ∃ l, x = .str (S l) ∧ l.length ≤ 900 ∧ (∀ c ∈ l, c < 128) ∧
  ((∃ f : Nat, Mp.fault l = some f ∧ ∀ H', Same H H' → ErrV CP "index" E H' (.int f)) ∨ ∃ a b : Nat, (1 ≤ a ∧ a ≤ 60) ∧ (1 ≤ b ∧ b ≤ 60) ∧ l = Mp.sT a b ∧ ∀ v H', Same H H' → SlopeAt C H' v a b → Q v H'))
theorem ok_Slope_of_text (T : Tx K mg) : FnOk P w K mg base (L2.CX P w) 5 T.a_Slope_of_text T.d_Slope_of_text ["cls", "text"] (sp_of_text K T.C_Slope T.C_InvalidText T.C_ParseError) := by
  refine T.F_Slope_of_text.okX sc_Slope_of_text (fun vs H Q E h => ?_) (fun cdv A outer s H vs Q E hr h => ?_)
  · obtain ⟨x, rfl, _⟩ := h; rfl
  · obtain ⟨x, rfl, h⟩ := h
    refine ⟨_, (pss_cons (ps_if (pt_not (pt_val (pe_callB call_isi (by rfl) T.n_isinstance Sx.bt_isinstance (pa_cons (pv 1) (pa_cons (pe_bltn (v := .ty "str") (by rfl) T.n_str Sx.bt_str rfl) pa_nil))))) (pss_one (Er.ps_raise0 rfl (takes_of rfl rfl rfl rfl) PySem.F.excBase_ValueError T.xi_InvalidText T.g_InvalidText T.kp_InvalidText T.ex_InvalidText T.ty_InvalidText rfl)) pss_nil)
      (pss_cons (ps_asg (pe_call (ok_read_side T) (hr.mono (by decide)) (by rfl) T.g_read_side T.F_read_side.kp T.b_read_side .nil (passes_call (E := E) (W := fun cls d _ H => E cls d H) (takes_of rfl rfl rfl rfl) (fun _ _ _ _ h => h)) (pa_cons (pv 1) (pa_cons pe_int pa_nil))) (pg_tup rfl (pgs_cons (pg_name (i := 2) sc_Slope_of_text.nd rfl (.inl rfl)) (pgs_cons (pg_name (i := 3) sc_Slope_of_text.nd rfl (.inl rfl)) pgs_nil))))
      (pss_cons (ps_if (PW.pt (pw_or (pt_cmpR op_eq (pv 3) (pe_callB Sx.c_lenS (by rfl) T.n_len Sx.bt_len (pa_cons (pv 1) pa_nil)) (nomark _)) (pw_or1 (pt_cmpR op_ne (pe_ix ix_str (pv 1) (pv 3) (fun _ _ => rfl)) pe_str (nomark _))))) (pss_one (Er.ps_raise1 rfl (takes_of rfl rfl rfl rfl) T.ow_ParseError PySem.F.excBase_ValueError (ok_ParseError_init T) (hr.mono (by decide)) T.b_ParseError_init rfl T.g_ParseError (pa_cons (pv 3) pa_nil))) pss_nil)
      (pss_cons (ps_asg (pe_call (ok_read_side T) (hr.mono (by decide)) (by rfl) T.g_read_side T.F_read_side.kp T.b_read_side .nil (passes_call (E := E) (W := fun cls d _ H => E cls d H) (takes_of rfl rfl rfl rfl) (fun _ _ _ _ h => h)) (pa_cons (pv 1) (pa_cons (pe_op op_add (pv 3) pe_int) pa_nil))) (pg_tup rfl (pgs_cons (pg_name (i := 4) sc_Slope_of_text.nd rfl (.inl rfl)) (pgs_cons (pg_name (i := 5) sc_Slope_of_text.nd rfl (.inl rfl)) pgs_nil))))
      (pss_cons (ps_if (pt_cmpR op_lt (pv 5) (pe_callB Sx.c_lenS (by rfl) T.n_len Sx.bt_len (pa_cons (pv 1) pa_nil)) (nomark _)) (pss_one (Er.ps_raise1 rfl (takes_of rfl rfl rfl rfl) T.ow_ParseError PySem.F.excBase_ValueError (ok_ParseError_init T) (hr.mono (by decide)) T.b_ParseError_init rfl T.g_ParseError (pa_cons (pv 5) pa_nil))) pss_nil)
      (pss_one (ps_ret (Mj.pe_makeL (i := 0) T.mk_Slope (ok_Slope_init T) (hr.mono (by decide)) rfl (.inl rfl) T.b_Slope_init .nil (passes_call (E := E) (W := fun cls d _ H => E cls d H) (takes_of rfl rfl rfl rfl) (fun _ _ _ _ h => h)) (pa_cons (pv 2) (pa_cons (pv 4) pa_nil)))))))))), ?_⟩
    refine Sx.r_st (σ' := [some (.ref T.C_Slope), some (x), none, none, none, none]) rfl ?_
    walk_at "sxi"
    rcases h with ⟨⟨t, ht, hk⟩, q⟩ | ⟨l, rfl, hl, hc, h⟩
    · refine ⟨x, .ty "str", t, .type "str", false, rfl, .ty _, ht, hk, ?_⟩
      walk_at "sx"
      exact q
    · have dr0 : l.drop 0 = l := List.drop_zero
      walk_at "sx"
      rcases h with ⟨f, hf, q⟩ | ⟨a, b, ⟨a1, a2⟩, ⟨b1, b2⟩, rfl, q⟩
      · unfold Mp.fault at hf
        simp only at hf
        split at hf
        · rename_i n0
          cases hf
          exact ⟨l, 0, rfl, Nat.zero_le _, hl, hc, .inl ⟨by rw [dr0]; exact n0, q _ (Same.refl H)⟩⟩
        · rename_i n0
          refine ⟨l, 0, rfl, Nat.zero_le _, hl, hc, .inr ⟨by rw [dr0]; exact n0, fun p hp => ?_⟩⟩
          rw [dr0, Nat.zero_add]
          have s1 := same_new (o := .tup [.int ((Mp.rd 0 l).1 : Int), .int ((Mp.rd 0 l).2 : Int)]) hp
          refine r_gtup upd_same rfl ?_
          generalize upd H p (.tup [.int ((Mp.rd 0 l).1 : Int), .int ((Mp.rd 0 l).2 : Int)]) = H1 at s1 ⊢
          have hk := (Mp.rd_is l 0 [] (.inl ⟨rfl, rfl⟩) hc).2.1
          generalize Mp.rd 0 l = a at n0 hk hf ⊢
          walk_at "sxi"
          rotate_left
          · exact small_S (by omega)
          rw [SX.S_len]
          refine ite_d (fun hz => ?_) (fun hz => ?_)
          · walk_at "sx"
            first | refine Er.r_raise ?_ | refine Er.r_raise (D := ⟨fun _ _ => True, fun _ _ => True, fun _ _ => True, fun _ _ => True⟩) ?_
            walk_at "sx"
            have e58 : l[a.2]? ≠ some 58 := by rw [List.getElem?_eq_none (by omega)]; exact fun z => nomatch z
            rw [if_pos e58] at hf
            cases hf
            exact ⟨_, rfl, q _ s1⟩
          · have hlt : a.2 < l.length := by omega
            have ec : l[a.2]? = some l[a.2] := List.getElem?_eq_getElem hlt
            generalize l[a.2] = c at ec
            walk_at "sx"
            refine r_ixLet ec (by omega) ?_
            walk_at "sx"
            refine ite_nd (fun h58 => ?_) (fun h58 => ?_)
            · walk_at "sx"
              first | refine Er.r_raise ?_ | refine Er.r_raise (D := ⟨fun _ _ => True, fun _ _ => True, fun _ _ => True, fun _ _ => True⟩) ?_
              walk_at "sx"
              have e58 : l[a.2]? ≠ some 58 := by rw [ec]; exact fun z => h58 (is_58.mpr (Option.some.inj z))
              rw [if_pos e58] at hf
              cases hf
              exact ⟨_, rfl, q _ s1⟩
            · have h58 := is_58.mp h58
              subst h58
              rw [if_neg (fun z => z ec)] at hf
              walk_at "sx"
              split at hf
              · rename_i m0
                cases hf
                exact ⟨l, a.2 + 1, rfl, hlt, hl, hc, .inl ⟨m0, q _ s1⟩⟩
              · rename_i m0
                refine ⟨l, a.2 + 1, rfl, hlt, hl, hc, .inr ⟨m0, fun p2 hp2 => ?_⟩⟩
                have s2 := same_new (o := .tup [.int ((Mp.rd 0 (l.drop (a.2 + 1))).1 : Int), .int ((a.2 + 1 + (Mp.rd 0 (l.drop (a.2 + 1))).2 : Nat) : Int)]) hp2
                refine r_gtup upd_same rfl ?_
                generalize upd H1 p2 (.tup [.int ((Mp.rd 0 (l.drop (a.2 + 1))).1 : Int), .int ((a.2 + 1 + (Mp.rd 0 (l.drop (a.2 + 1))).2 : Nat) : Int)]) = H2 at s2 ⊢
                generalize a.2 + 1 + (Mp.rd 0 (l.drop (a.2 + 1))).2 = e at hf ⊢
                walk_at "sxi"
                rotate_left
                · exact small_S (by omega)
                rw [SX.S_len]
                split at hf
                · rename_i lt
                  cases hf
                  refine ite_d (fun _ => ?_) (fun z => absurd (Int.ofNat_lt.mpr lt) z)
                  walk_at "sx"
                  first | refine Er.r_raise ?_ | refine Er.r_raise (D := ⟨fun _ _ => True, fun _ _ => True, fun _ _ => True, fun _ _ => True⟩) ?_
                  walk_at "sx"
                  exact ⟨_, rfl, q _ fun c o z => s2 _ _ (s1 c o z)⟩
                · cases hf
      · obtain ⟨r1, r2, r3, r4, _⟩ := Mp.fault_sT a1 a2 b1 b2
        have hk := (List.getElem?_eq_some_iff.mp r2).1
        refine ⟨Mp.sT a b, 0, rfl, Nat.zero_le _, hl, hc, .inr ⟨by rw [dr0, r1]; show a ≠ 0; omega, fun p hp => ?_⟩⟩
        rw [dr0, Nat.zero_add, r1]
        have s1 := same_new (o := .tup [.int (a : Int), .int ((Mp.dig a).length : Int)]) hp
        refine r_gtup upd_same rfl ?_
        generalize upd H p (.tup [.int (a : Int), .int ((Mp.dig a).length : Int)]) = H1 at s1 ⊢
        walk_at "sxi"
        rotate_left
        · exact small_S (by omega)
        rw [SX.S_len]
        refine ite_d (fun hz => absurd hz (by omega)) (fun _ => ?_)
        walk_at "sx"
        refine r_ixLet r2 (by omega) ?_
        walk_at "sx"
        refine ite_nd (fun h58 => absurd (is_58.mpr rfl) h58) (fun _ => ?_)
        walk_at "sx"
        refine ⟨Mp.sT a b, (Mp.dig a).length + 1, rfl, hk, hl, hc, .inr ⟨by rw [r3, r4]; show b ≠ 0; omega, fun p2 hp2 => ?_⟩⟩
        rw [r3, r4]
        have s2 := same_new (o := .tup [.int (b : Int), .int (((Mp.dig a).length + 1 + (Mp.dig b).length : Nat) : Int)]) hp2
        refine r_gtup upd_same rfl ?_
        generalize upd H1 p2 (.tup [.int (b : Int), .int (((Mp.dig a).length + 1 + (Mp.dig b).length : Nat) : Int)]) = H2 at s2 ⊢
        have el : (Mp.sT a b).length = (Mp.dig a).length + 1 + (Mp.dig b).length := by unfold Mp.sT; rw [List.length_append, List.length_cons]; omega
        walk_at "sxi"
        rotate_left
        · exact small_S (by omega)
        rw [SX.S_len]
        refine ite_d (fun z => absurd z (by omega)) (fun _ => ?_)
        walk_at "sx"
        refine ⟨rfl, ?_⟩
        walk_at "sx"
        exact mk_slope ⟨by omega, by omega, by omega, by omega⟩ fun v H3 s3 hv => q v H3 (fun c o z => s3 _ _ (s2 _ _ (s1 c o z))) hv
end
end Lw

namespace Lw
open PySem PySem.Spec PyProof.Rows L2 Sx Sy Sw Mw Me
open En (NoNum)
open Ln (KpN)
open LamX (Tabs TabB ExtN)
open SX (S)
open C8 (pe_gc)
open SkE (call_repr_int call_str_str)
open RZ (pi_zipA)
section
variable {P : Program} {w : World} {K : PySem.W.Frag} {mg : Str → Option Value} {base : Heap}
def sp_law_dice (K : PySem.W.Frag) : Sp := fun vs H Q _ => ∃ (a : Addr) (ns : List Int) (i : Nat), vs = [.ref a, .int i] ∧ SqL K H a (ns.map V.int) ∧ i ≤ 63 ∧ ∀ d H', Same H H' → H d = none → Dice H' d → Q (.ref d) H'
theorem ok_law_dice (T : Tx K mg) : FnOk P w K mg base CX0 1 T.a_law_dice T.d_law_dice ["_law_script", "_law_spot"] (sp_law_dice K) := by
  refine T.F_law_dice.ok sc_law_dice (fun vs H Q E h => ?_) (fun cdv A outer s H vs Q E hr h => ?_)
  · obtain ⟨a, ns, i, rfl, _⟩ := h; rfl
  · obtain ⟨a, ns, i, rfl, hS, hi, q⟩ := h
    refine ⟨_, (pss_cons (ps_set (i := 2) sc_law_dice.nd rfl (.inl rfl) (pe_ifExp (pt_cmpR op_lt (pv 1) (pe_callB Sx.c_len (by rfl) T.n_len Sx.bt_len (pa_cons (pv 0) pa_nil)) (nomark _)) (pe_callTy Sx.c_int (by rfl) T.n_int Sx.bt_int (pa_cons (pe_ix ix_list (pv 0) (pv 1) (fun _ _ => rfl)) pa_nil)) (pe_op op_add (pe_op Sx.op_mulA pe_int (pv 1)) pe_int)))
      (pss_cons (ps_set (i := 3) sc_law_dice.nd rfl (.inl rfl) (pe_op op_mod (pe_callB (Sx.c_max rfl) (by rfl) T.n_max Sx.bt_max (pa_cons pe_int (pa_cons (pe_op op_sub (pe_callB Sx.c_abs (by rfl) T.n_abs Sx.bt_abs (pa_cons (pv 2) pa_nil)) (pe_op op_pow pe_int pe_int)) pa_nil))) (pe_op Sx.op_mulA (pe_op op_pow pe_int pe_int) (pe_op op_pow pe_int pe_int))))
      (pss_one (ps_ret (pe_lst (pa_cons (pv 3) (pa_cons (pe_op op_add (pe_op op_add (pe_op op_add (pe_op Sx.op_mulA (pe_op op_mod (pe_callB Sx.c_abs (by rfl) T.n_abs Sx.bt_abs (pa_cons (pv 2) pa_nil)) pe_int) pe_int) (pe_op Sx.op_mulA pe_int (pv 1))) (pe_op Sx.op_mulA pe_int (pe_callTy Sx.c_int (by rfl) T.n_int Sx.bt_int (pa_cons (pe_cmpR op_lt (pv 2) pe_int (nomark _)) pa_nil)))) pe_int) (pa_cons pe_int pa_nil)))))))), ?_⟩
    refine Sx.r_st (σ' := [some (.ref a), some (.int i), none, none]) rfl ?_
    walk_at "sx"
    refine r_cutQ (fun v H1 => H1 = H ∧ ∃ x : Int, v = .int x) (fun Q' k => ?_) ?_
    · refine r_ifE ?_
      walk_at "sx"
      refine r_lenL hS ?_
      walk_at "sx"
      rw [List.length_map]
      refine ite_d (fun h => ?_) (fun h => ?_)
      · have h' : i < ns.length := by omega
        walk_at "sx"
        refine ⟨a, _, _, _, rfl, rfl, hS, atI_nat (j := i) (v := .int ns[i]) (by rw [List.getElem?_map, List.getElem?_eq_getElem h']; rfl), ?_⟩
        walk_at "sx"
        exact k _ _ ⟨rfl, _, rfl⟩
      · walk_at "sx"
        · exact k _ _ ⟨rfl, _, rfl⟩
        all_goals walk_at "sd"
    · rintro v H1 ⟨rfl, x, rfl⟩
      walk_at "sx"
      · refine ⟨sz _ (Nat.le_of_ble_eq_true rfl), fun d hd => ?_⟩
        exact q _ _ (same_new hd) hd ⟨_, _, _, upd_same⟩
      all_goals first | walk_at "sd" | exact cmA_w (by unfold CMulW; decide +kernel)
def sp_law_roll : Sp := fun vs H Q _ => ∃ (d : Addr) (n : Int), vs = [.ref d, .int n] ∧ Dice H d ∧ 0 < n ∧ n.natAbs.log2 < 9000 ∧ ∀ r H', 0 ≤ r → r < n → Kp d H H' → Q (.int r) H'
theorem ok_law_roll (T : Tx K mg) : FnOk P w K mg base CX0 1 T.a_law_roll T.d_law_roll ["_law_dice_here", "_law_total"] sp_law_roll := by
  refine T.F_law_roll.ok sc_law_roll (fun vs H Q E h => ?_) (fun cdv A outer s H vs Q E hr h => ?_)
  · obtain ⟨d, n, rfl, _⟩ := h; rfl
  · obtain ⟨d, n, rfl, ⟨x, y, z, hd⟩, hn, hl, q⟩ := h
    refine ⟨_, (pss_cons (ps_if (pt_cmpR op_gt (pe_ix ix_list (pv 0) pe_int (fun _ _ => rfl)) pe_int (nomark _)) (pss_cons (ps_set (i := 2) sc_law_roll.nd rfl (.inl rfl) (pe_op op_mod (pe_callTy Sx.c_int (by rfl) T.n_int Sx.bt_int (pa_cons (pe_ix ix_list (pv 0) pe_int (fun _ _ => rfl)) pa_nil)) (pv 1)))
      (pss_cons (ps_asg (pe_op op_fdivW (pe_ix ix_list (pv 0) pe_int (fun _ _ => rfl)) (pv 1)) (pg_sub (pv 0) pe_int set_list))
      (pss_one (ps_ret (pv 2))))) pss_nil)
      (pss_cons (ps_asg (pe_op op_add (pe_ix ix_list (pv 0) pe_int (fun _ _ => rfl)) pe_int) (pg_sub (pv 0) pe_int set_list))
      (pss_cons (ps_set (i := 3) sc_law_roll.nd rfl (.inl rfl) (pe_op op_mod (pe_callTy Sx.c_int (by rfl) T.n_int Sx.bt_int (pa_cons (pe_op op_add (pe_ix ix_list (pv 0) pe_int (fun _ _ => rfl)) (pe_op Sx.op_mulA pe_int (pe_ix ix_list (pv 0) pe_int (fun _ _ => rfl)))) pa_nil)) pe_int))
      (pss_cons (ps_set (i := 4) sc_law_roll.nd rfl (.inl rfl) (pe_op op_add (pe_op Sx.op_mulA (pe_op op_mod (pe_callTy Sx.c_int (by rfl) T.n_int Sx.bt_int (pa_cons (pe_op op_add (pe_op Sx.op_mulA (pv 3) (pv 3)) (pe_op Sx.op_mulA pe_int (pe_ix ix_list (pv 0) pe_int (fun _ _ => rfl)))) pa_nil)) pe_int) pe_int) (pv 3)))
      (pss_one (ps_ret (pe_op op_mod (pe_callTy Sx.c_int (by rfl) T.n_int Sx.bt_int (pa_cons (pe_op op_fdivW (pv 4) pe_int) pa_nil)) (pv 1)))))))), ?_⟩
    refine Sx.r_st (σ' := [some (.ref d), some (.int n), none, none, none]) rfl ?_
    walk_at "sxi"
    refine r_ixL hd (v := .int x) rfl ?_
    walk_at "sx"
    refine ite_d (fun h => ?_) (fun h => ?_)
    · walk_at "sx"
      refine r_ixL hd (v := .int x) rfl ?_
      walk_at "sx"
      · refine r_ixL hd (v := .int x) rfl ?_
        walk_at "sx"
        · refine r_setL hd (j := 0) rfl ?_
          walk_at "sx"
          refine q _ _ (Int.emod_nonneg _ (by omega)) (Int.emod_lt_of_pos _ hn) (Kp.put ⟨x, y, z, hd⟩)
        · exact ⟨hn, hl⟩
      · exact hn
    · walk_at "sx"
      refine r_ixL hd (v := .int z) rfl ?_
      walk_at "sx"
      refine r_setL hd (j := 2) rfl ?_
      walk_at "sx"
      refine r_ixL upd_same (v := .int y) rfl ?_
      walk_at "sx"
      refine r_ixL upd_same (v := .int (z + 1)) rfl ?_
      walk_at "sx"
      refine r_ixL upd_same (v := .int (z + 1)) rfl ?_
      walk_at "sx"
      · exact q _ _ (Int.emod_nonneg _ (by omega)) (Int.emod_lt_of_pos _ hn) (Kp.put ⟨x, y, z, hd⟩)
      all_goals walk_at "sd"
theorem log_small {n : Int} (h0 : 0 ≤ n) (h : n ≤ 1000) : n.natAbs.log2 < 9000 := PySem.Flt.log2_lt_of (by decide) (Nat.lt_of_le_of_lt (show n.natAbs ≤ 1000 by omega) (by decide +kernel))
def sp_law_pick : Sp := fun vs H Q _ => (∃ (d l : Addr) (xs : List V), vs = [.ref d, .ref l] ∧ Dice H d ∧ l ≠ d ∧ H l = some (.lst xs) ∧ 0 < xs.length ∧ xs.length ≤ 1000 ∧ ∀ v H', v ∈ xs → Kp d H H' → Q v H') ∨
  ∃ (d : Addr) (l : List Nat), vs = [.ref d, .str (S l)] ∧ Dice H d ∧ 0 < l.length ∧ l.length ≤ 900 ∧ ∀ c H', c ∈ l → Kp d H H' → Q (.str ⟨#[c]⟩) H'
theorem ok_law_pick (T : Tx K mg) : FnOk P w K mg base CX0 2 T.a_law_pick T.d_law_pick ["_law_dice_here", "_law_items"] sp_law_pick := by
  refine T.F_law_pick.ok sc_law_pick (fun vs H Q E h => ?_) (fun cdv A outer s H vs Q E hr h => ?_)
  · obtain ⟨d, n, xs, rfl, _⟩ | ⟨d, l, rfl, _⟩ := h <;> rfl
  · refine ⟨_, (pss_one (ps_ret (pe_ix Un.ix_listStr (pv 1) (pe_call (ok_law_roll T) (hr.mono (by decide)) (by rfl) T.g_law_roll T.F_law_roll.kp T.b_law_roll .nil pass0 (pa_cons (pv 0) (pa_cons (pe_callB Un.c_lenU (by rfl) T.n_len Sx.bt_len (pa_cons (pv 1) pa_nil)) pa_nil))) (fun _ _ => rfl)))), ?_⟩
    obtain ⟨d, l, xs, rfl, hd, hld, hl, h0, hn, q⟩ | ⟨d, l, rfl, hd, h0, hn, q⟩ := h
    · refine Sx.r_st (σ' := [some (.ref d), some (.ref l)]) rfl ?_
      walk_at "sx"
      refine .inl (r_lenL (SqL.of hl) ?_)
      walk_at "sx"
      refine ⟨d, xs.length, rfl, hd, by omega, ?_, fun r H' h1 h2 kp => ?_⟩
      · exact PySem.Flt.log2_lt_of (by decide) (Nat.lt_of_le_of_lt (show (xs.length : Int).natAbs ≤ 1000 by omega) (by decide +kernel))
      have hr : r.toNat < xs.length := by omega
      refine .inl (r_ixL (kp.k l _ hld hl) (v := xs[r.toNat]) ?_ ?_)
      · have := atI_nat (xs := xs) (j := r.toNat) (v := xs[r.toNat]) (List.getElem?_eq_getElem hr)
        rw [Int.toNat_of_nonneg h1] at this; exact this
      exact q _ _ (List.getElem_mem hr) kp
    · refine Sx.r_st (σ' := [some (.ref d), some (.str (S l))]) rfl ?_
      walk_at "sx"
      refine .inr ⟨S l, rfl, small_S (by omega), ?_⟩
      rw [SX.S_len]
      walk_at "sx"
      refine ⟨d, l.length, rfl, hd, by omega, ?_, fun r H' h1 h2 kp => ?_⟩
      · exact PySem.Flt.log2_lt_of (by decide) (Nat.lt_of_le_of_lt (show (l.length : Int).natAbs ≤ 1000 by omega) (by decide +kernel))
      obtain ⟨n, rfl⟩ : ∃ n : Nat, r = n := ⟨r.toNat, by omega⟩
      have hr : n < l.length := by omega
      refine .inr (r_ixLet (List.getElem?_eq_getElem hr) (by omega) ?_)
      exact q _ _ (List.getElem_mem hr) kp
def sp_law_any_slope : Sp := fun vs H Q _ => ∃ (d : Addr) (n : Int), vs = [.ref d, .int n] ∧ Dice H d ∧ 0 < n ∧ n ≤ 1000 ∧ ∀ p a b H', 1 ≤ a → a ≤ n → 1 ≤ b → b ≤ n → Kp d H H' → H' p = some (.tup [.int a, .int b]) → Q (.ref p) H'
theorem ok_law_any_slope (T : Tx K mg) : FnOk P w K mg base CX0 2 T.a_law_any_slope T.d_law_any_slope ["_law_dice_here", "_law_most"] sp_law_any_slope := by
  refine T.F_law_any_slope.ok sc_law_any_slope (fun vs H Q E h => ?_) (fun cdv A outer s H vs Q E hr h => ?_)
  · obtain ⟨d, n, rfl, _⟩ := h; rfl
  · obtain ⟨d, n, rfl, hd, h0, hn, q⟩ := h
    refine ⟨_, (pss_one (ps_ret (pe_tup (pa_cons (pe_op op_add pe_int (pe_call (ok_law_roll T) (hr.mono (by decide)) (by rfl) T.g_law_roll T.F_law_roll.kp T.b_law_roll .nil pass0 (pa_cons (pv 0) (pa_cons (pv 1) pa_nil)))) (pa_cons (pe_op op_add pe_int (pe_call (ok_law_roll T) (hr.mono (by decide)) (by rfl) T.g_law_roll T.F_law_roll.kp T.b_law_roll .nil pass0 (pa_cons (pv 0) (pa_cons (pv 1) pa_nil)))) pa_nil))))), ?_⟩
    refine Sx.r_st (σ' := [some (.ref d), some (.int n)]) rfl ?_
    walk_at "sx"
    refine ⟨d, n, rfl, hd, h0, log_small (by omega) hn, fun r H1 h1 h2 k1 => ?_⟩
    walk_at "sx"
    refine ⟨d, n, rfl, k1.d1, h0, log_small (by omega) hn, fun r2 H2 h3 h4 k2 => ?_⟩
    walk_at "sx"
    refine ⟨sz _ (Nat.le_of_ble_eq_true rfl), fun p hp => ?_⟩
    exact q p _ _ _ (by omega) (by omega) (by omega) (by omega) ((k1.trans k2).new hp) upd_same
/-! ### gcd by the law's own way -/
def sp_law_common : Sp := fun vs H Q _ => ∃ a b : Nat, vs = [.int a, .int b] ∧ 0 < a ∧ a ≤ 1000000 ∧ b ≤ 1000000 ∧ Q (.int ((Nat.gcd a b : Nat) : Int)) H
theorem ok_law_common (T : Tx K mg) : FnOk P w K mg base CX0 1 T.a_law_common T.d_law_common ["_law_one", "_law_other"] sp_law_common := by
  refine T.F_law_common.ok sc_law_common (fun vs H Q E h => ?_) (fun cdv A outer s H vs Q E hr h => ?_)
  · obtain ⟨a, b, rfl, _⟩ := h; rfl
  · obtain ⟨a, b, rfl, h0, ha, hb, q⟩ := h
    refine ⟨_, (pss_cons (ps_while PassesOwn.never (pt_cmpR op_gt (pv 1) pe_int (nomark _)) (pss_one (ps_par (i := 0) (j := 1) (by rfl) sc_law_common.nd rfl rfl (by decide) rfl rfl (pa_cons (pv 1) (pa_cons (pe_op op_sub (pv 0) (pe_op Sx.op_mulA (pe_op op_fdivW (pv 0) (pv 1)) (pv 1))) pa_nil)) (by rfl))))
      (pss_one (ps_ret (pv 0)))), ?_⟩
    refine Sx.r_st (σ' := [some (.int a), some (.int b)]) rfl ?_
    walk_at "sx"
    refine r_while (fun m σ' H' => H' = H ∧ ∃ x y : Nat, σ' = [some (.int x), some (.int y)] ∧ x ≤ 1000000 ∧ y ≤ 1000000 ∧ Nat.gcd x y = Nat.gcd a b ∧ y = m) b ⟨rfl, a, b, rfl, ha, hb, rfl, rfl⟩ ?_
    rintro m σ' H' ⟨rfl, x, y, rfl, hx, hy, hg, rfl⟩
    walk_at "sx"
    refine ite_d (fun h => ?_) (fun h => ?_)
    · refine ⟨fun σ2 H2 => H2 = H' ∧ σ2 = [some (.int y), some (.int ((x % y : Nat) : Int))], ?_, ?_⟩
      · rintro σ2 H2 ⟨rfl, rfl⟩
        have hy0 : 0 < y := by omega
        have hm := Nat.mod_lt x hy0
        refine ⟨x % y, hm, rfl, y, x % y, rfl, hy, by omega, ?_, rfl⟩
        rw [← hg, Nat.gcd_comm x y, Nat.gcd_comm y (x % y), ← Nat.gcd_rec]
      · have hy0 : 0 < y := by omega
        have e : (x : Int) - (x : Int) / (y : Int) * (y : Int) = ((x % y : Nat) : Int) := by
          have h1 := Int.mul_ediv_add_emod (x : Int) (y : Int)
          rw [Int.natCast_emod, Int.mul_comm ((x : Int) / (y : Int))]; omega
        walk_at "sx"
        · rw [e]; exact ⟨rfl, rfl⟩
        · exact cmA_r (by omega)
        · exact cdivw (b := 64) (by omega) (by omega) (by decide)
    · have hy0 : y = 0 := by omega
      subst hy0
      rw [Nat.gcd_zero_right] at hg
      walk_at "sx"
      rw [hg]; exact q
end
end Lw

namespace Lw
open PySem PySem.Spec PyProof.Rows L2 Sx Sy Sw Mw Me
open En (NoNum)
open Ln (KpN)
open LamX (Tabs TabB ExtN)
open SX (S)
open C8 (pe_gc)
open SkE (call_repr_int call_str_str)
open RZ (pi_zipA)
section
variable {P : Program} {w : World} {K : PySem.W.Frag} {mg : Str → Option Value} {base : Heap}
/-! ### the law's own beginnings of texts -/
theorem inV_strs {x : Str} : ∀ {zs : List Str}, inV (.str x) (zs.map V.str) = decide (x ∈ zs)
  | [] => rfl
  | z :: zs => by
    show (eqV (.str z) (.str x) || inV (.str x) (zs.map V.str)) = _
    rw [inV_strs, show eqV (.str z) (.str x) = decide (z = x) from rfl]
    by_cases h : z = x
    · subst h; simp
    · simp [h, Ne.symm h]
theorem flat_strs (zs : List Str) : (zs.map V.str).all flatV = true := by
  rw [List.all_eq_true]
  intro x hx
  obtain ⟨y, _, rfl⟩ := List.mem_map.mp hx
  rfl
theorem S_inj {l m : List Nat} : S l = S m ↔ l = m := by
  constructor
  · intro h
    have := congrArg (fun z : Str => z.cps.toList) h
    simpa [SX.S] using this
  · rintro rfl; rfl
theorem in_nums {l : List Nat} : decide (S l ∈ (List.range 60).map fun j : Nat => Str.ofString (toString (1 + (j : Int)))) = Mp.isN l := by
  unfold Mp.isN Mp.numL
  rw [decide_eq_decide, List.mem_map, List.mem_map]
  constructor
  · rintro ⟨j, hj, e⟩
    rw [Int.add_comm, Mp.nums_are j (List.mem_range.mp hj)] at e
    exact ⟨j, hj, S_inj.mp e⟩
  · rintro ⟨j, hj, rfl⟩
    exact ⟨j, hj, by rw [Int.add_comm, Mp.nums_are j (List.mem_range.mp hj)]⟩
def sp_law_is_number : Sp := fun vs H Q _ => ∃ l, vs = [.str (S l)] ∧ ∀ H', Same H H' → Q (.bl (Mp.isN l)) H'
theorem ok_law_is_number (T : Tx K mg) : FnOk P w K mg base CX0 1 T.a_law_is_number T.d_law_is_number ["_law_text"] sp_law_is_number := by
  refine T.F_law_is_number.ok sc_law_is_number (fun vs H Q E h => ?_) (fun cdv A outer s H vs Q E hr h => ?_)
  · obtain ⟨l, rfl, _⟩ := h; rfl
  · obtain ⟨l, rfl, q⟩ := h
    refine ⟨_, (pss_one (ps_ret (pe_cmpR op_in_seq (pv 0) (pe_lc (own := [("_law_number", 1)]) (g := (gName 1)) (tt := tYes) rfl sc_law_is_number.nd (pi_range2 (by rfl) T.n_range (pa_cons pe_int (pa_cons pe_int pa_nil))) (blkOk_by (N := N_law_is_number) (sc := defScope st_law_is_number) (by decide +kernel)) (fun _ _ _ _ _ => (pg_name (i := 1) sc_law_is_number.nd rfl (.inl rfl))) (fun _ _ _ _ _ => pts_nil) (fun _ _ _ _ _ => (pe_callTy Sx.c_strI (by rfl) T.n_str Sx.bt_str (pa_cons (pv 1) pa_nil)))) (by rfl)))), ?_⟩
    refine Sx.r_st (σ' := [some (.str (S l)), none]) rfl ?_
    walk_at "sx"
    refine r_rng2 ?_ (by decide)
    refine lw_range (lo := 1) (n := 60) (fun D i H' => Same H H' ∧ H' D = some (.lst (((List.range i).map fun j : Nat => Str.ofString (toString (1 + (j : Int)))).map V.str))) (fun D hD => ⟨same_new hD, upd_same⟩) ?_ ?_
    · rintro D hD i H1 hi ⟨s1, h1⟩
      walk_at "sx"
      refine ⟨rfl, ?_⟩
      walk_at "sx"
      rotate_left
      · exact PySem.Flt.log2_lt_of (by decide) (Nat.lt_of_le_of_lt (show (1 + (i : Int)).natAbs ≤ 100 by omega) (by decide +kernel))
      refine ⟨_, h1, by rw [List.length_map, List.length_map, List.length_range, sizeLine_eq]; omega, same_mut s1 hD, ?_⟩
      rw [upd_same, List.range_succ, List.map_append, List.map_append]; rfl
    · rintro D hD H2 ⟨s2, hd⟩
      refine ⟨D, _, rfl, .inl (SqL.of hd), rfl, flat_strs _, ?_⟩
      show Q (.bl (if false = true then (!inV (.str (S l)) (((List.range 60).map fun j : Nat => Str.ofString (toString (1 + (j : Int)))).map V.str)) else inV (.str (S l)) (((List.range 60).map fun j : Nat => Str.ofString (toString (1 + (j : Int)))).map V.str))) H2
      rw [if_neg Bool.false_ne_true, inV_strs, in_nums]
      exact q _ s2
def sp_law_begins_number : Sp := fun vs H Q _ => ∃ l, vs = [.str (S l)] ∧ ∀ H', Same H H' → Q (.bl (Mp.bn l)) H'
theorem S_nil {l : List Nat} : S l = ("" : Str) ↔ l = [] := by
  rw [show ("" : Str) = S [] by decide +kernel]; exact S_inj
theorem ok_law_begins_number (T : Tx K mg) : FnOk P w K mg base CX0 2 T.a_law_begins_number T.d_law_begins_number ["_law_text"] sp_law_begins_number := by
  refine T.F_law_begins_number.ok sc_law_begins_number (fun vs H Q E h => ?_) (fun cdv A outer s H vs Q E hr h => ?_)
  · obtain ⟨l, rfl, _⟩ := h; rfl
  · obtain ⟨l, rfl, q⟩ := h
    refine ⟨_, (pss_one (ps_ret (pe_or (pe_cmpR op_eq (pv 0) pe_str (nomark _)) (pe_one (pe_call (ok_law_is_number T) (hr.mono (by decide)) (by rfl) T.g_law_is_number T.F_law_is_number.kp T.b_law_is_number .nil pass0 (pa_cons (pv 0) pa_nil)))))), ?_⟩
    refine Sx.r_st (σ' := [some (.str (S l))]) rfl ?_
    walk_at "sx"
    refine ite_d (fun h => ?_) (fun h => ?_)
    · have := q H (Same.refl H)
      rw [Mp.bn, decide_eq_true (S_nil.mp h), Bool.true_or] at this
      exact this
    · walk_at "sx"
      refine ⟨l, rfl, fun H' s => ?_⟩
      have := q H' s
      rw [Mp.bn, decide_eq_false (fun z => h (S_nil.mpr z)), Bool.false_or] at this
      exact this
def sp_law_begins : Sp := fun vs H Q _ => ∃ l, vs = [.str (S l)] ∧ l.length ≤ 900 ∧ ∀ H', Same H H' → Q (.bl (Mp.beg l)) H'
theorem lit_58 : (":" : Str) = ⟨#[58]⟩ := by decide +kernel
theorem ok_law_begins (T : Tx K mg) : FnOk P w K mg base CX0 3 T.a_law_begins T.d_law_begins ["_law_text"] sp_law_begins := by
  refine T.F_law_begins.ok sc_law_begins (fun vs H Q E h => ?_) (fun cdv A outer s H vs Q E hr h => ?_)
  · obtain ⟨l, rfl, _⟩ := h; rfl
  · obtain ⟨l, rfl, hl, q⟩ := h
    refine ⟨_, (pss_cons (ps_set (i := 1) sc_law_begins.nd rfl (.inl rfl) (pe_bm PySem.F.plainAttrs_str PySem.F.slot_str_split PySem.F.type_str_split Sx.m_split (pv 0) (pa_cons pe_str pa_nil)))
      (pss_cons (ps_if (PW.pt (pw_or (pt_cmpR op_gt (pe_callB Sx.c_len (by rfl) T.n_len Sx.bt_len (pa_cons (pv 1) pa_nil)) pe_int (nomark _)) (pw_or1 (pt_not (pt_val (pe_call (ok_law_begins_number T) (hr.mono (by decide)) (by rfl) T.g_law_begins_number T.F_law_begins_number.kp T.b_law_begins_number .nil pass0 (pa_cons (pe_ix ix_list (pv 1) (pe_un un_neg pe_int) (fun _ _ => rfl)) pa_nil))))))) (pss_one (ps_ret pe_bl)) pss_nil)
      (pss_one (ps_ret (pe_or (pe_cmpR op_eq (pe_callB Sx.c_len (by rfl) T.n_len Sx.bt_len (pa_cons (pv 1) pa_nil)) pe_int (nomark _)) (pe_one (pe_call (ok_law_is_number T) (hr.mono (by decide)) (by rfl) T.g_law_is_number T.F_law_is_number.kp T.b_law_is_number .nil pass0 (pa_cons (pe_ix ix_list (pv 1) pe_int (fun _ _ => rfl)) pa_nil)))))))), ?_⟩
    refine Sx.r_st (σ' := [some (.str (S l)), none]) rfl ?_
    walk_at "sx"
    refine ⟨S l, ":", rfl, rfl, by decide +kernel, by rw [SX.S_len, sizeLine_eq]; omega, fun z hz => ?_⟩
    walk_at "sx"
    have z5 : (upd H z (.lst ((Txt.split (S l) ":").map V.str))) z = some (.lst ((Txt.split (S l) ":").map V.str)) := upd_same
    have s5 : Same H (upd H z (.lst ((Txt.split (S l) ":").map V.str))) := same_new hz
    generalize upd H z (.lst ((Txt.split (S l) ":").map V.str)) = H5 at z5 s5 ⊢
    rw [lit_58] at z5
    rcases Mp.cut_cases l with h58 | ⟨q1, r, rfl, h58⟩
    · rw [Ms.split_none (by decide) h58] at z5
      have eb : Mp.beg l = Mp.bn l := by unfold Mp.beg; rw [Mp.cutc_none h58]
      walk_at "sxi"
      refine r_lenL (SqL.of z5) ?_
      walk_at "sx"
      refine ite_d (fun hz => absurd hz (by simp)) (fun _ => ?_)
      walk_at "sx"
      refine r_ixL (i := -1) z5 (v := .str (S l)) rfl ?_
      walk_at "sx"
      refine ⟨l, rfl, fun H' s => ?_⟩
      have q' := q H' fun c o e => s _ _ (s5 c o e)
      rw [eb] at q'
      walk_at "sx"
      cases e : Mp.bn l with
      | false =>
        rw [e] at q'
        walk_at "sx"
        exact q'
      | true =>
        rw [e] at q'
        walk_at "sx"
        refine r_lenL (SqL.of (s _ _ z5)) ?_
        walk_at "sx"
        refine ite_d (fun _ => ?_) (fun hz => absurd rfl hz)
        exact q'
    · by_cases hr : 58 ∈ r
      · have eb : Mp.beg (q1 ++ 58 :: r) = false := by
          unfold Mp.beg
          rw [Mp.cutc_app h58]
          show (Mp.isN q1 && Mp.bn r) = false
          cases e : Mp.bn r with
          | false => simp
          | true => exact absurd hr (Mp.bn_no58 e)
        have h3 := Ms.split_more (c := 58) (by decide) h58 hr
        walk_at "sxi"
        refine r_lenL (SqL.of z5) ?_
        walk_at "sx"
        refine ite_d (fun _ => ?_) (fun hz => absurd (by rw [List.length_map]; omega) hz)
        walk_at "sx"
        rw [eb] at q
        exact q _ s5
      · have eb : Mp.beg (q1 ++ 58 :: r) = (Mp.isN q1 && Mp.bn r) := by
          unfold Mp.beg
          rw [Mp.cutc_app h58]
        rw [Ms.split_one (by decide) h58 hr] at z5
        walk_at "sxi"
        refine r_lenL (SqL.of z5) ?_
        walk_at "sx"
        refine ite_d (fun hz => absurd hz (by simp)) (fun _ => ?_)
        walk_at "sx"
        refine r_ixL (i := -1) z5 (v := .str (S r)) rfl ?_
        walk_at "sx"
        refine ⟨r, rfl, fun H' s => ?_⟩
        have q' := q H' fun c o e => s _ _ (s5 c o e)
        rw [eb] at q'
        walk_at "sx"
        cases e : Mp.bn r with
        | false =>
          rw [e, Bool.and_false] at q'
          walk_at "sx"
          exact q'
        | true =>
          walk_at "sx"
          refine r_lenL (SqL.of (s _ _ z5)) ?_
          walk_at "sx"
          refine ite_d (fun hz => absurd hz (by simp)) (fun _ => ?_)
          walk_at "sx"
          refine r_ixL (i := 0) (s _ _ z5) (v := .str (S q1)) rfl ?_
          walk_at "sx"
          refine ⟨q1, rfl, fun H2 s2 => ?_⟩
          have q2 := q H2 fun c o z => s2 _ _ (s _ _ (s5 c o z))
          rw [eb, e, Bool.and_true] at q2
          exact q2

def sp_law_due : Sp := fun vs H Q _ => ∃ l, vs = [.str (S l)] ∧ l.length ≤ 900 ∧ ∀ v H', Mp.DueAt l v → Same H H' → Q (.int v) H'
theorem ok_law_due (T : Tx K mg) : FnOk P w K mg base CX0 4 T.a_law_due T.d_law_due ["_law_text"] sp_law_due := by
  refine T.F_law_due.ok sc_law_due (fun vs H Q E h => ?_) (fun cdv A outer s H vs Q E hr h => ?_)
  · obtain ⟨l, rfl, _⟩ := h; rfl
  · obtain ⟨l, rfl, hl, q⟩ := h
    refine ⟨_, (pss_cons (ps_for PassesOwn.never rfl (pi_range1 (by rfl) T.n_range (pa_cons (pe_callB Sx.c_lenS (by rfl) T.n_len Sx.bt_len (pa_cons (pv 0) pa_nil)) pa_nil)) (pg_name (i := 1) sc_law_due.nd rfl (.inl rfl)) (pss_one (ps_if (pt_not (pt_val (pe_call (ok_law_begins T) (hr.mono (by decide)) (by rfl) T.g_law_begins T.F_law_begins.kp T.b_law_begins .nil pass0 (pa_cons (pe_slice sl_str (pv 0) po_none (po_some (pe_op op_add (pv 1) pe_int))) pa_nil)))) (pss_one (ps_ret (pv 1))) pss_nil)))
      (pss_cons (ps_set (i := 2) sc_law_due.nd rfl (.inl rfl) (pe_bm PySem.F.plainAttrs_str PySem.F.slot_str_split PySem.F.type_str_split Sx.m_split (pv 0) (pa_cons pe_str pa_nil)))
      (pss_one (ps_ret (pe_ifExp (PW.pt (pw_and (pt_cmpR op_eq (pe_callB Sx.c_len (by rfl) T.n_len Sx.bt_len (pa_cons (pv 2) pa_nil)) pe_int (nomark _)) (pw_and (pt_val (pe_call (ok_law_is_number T) (hr.mono (by decide)) (by rfl) T.g_law_is_number T.F_law_is_number.kp T.b_law_is_number .nil pass0 (pa_cons (pe_ix ix_list (pv 2) pe_int (fun _ _ => rfl)) pa_nil))) (pw_and1 (pt_val (pe_call (ok_law_is_number T) (hr.mono (by decide)) (by rfl) T.g_law_is_number T.F_law_is_number.kp T.b_law_is_number .nil pass0 (pa_cons (pe_ix ix_list (pv 2) pe_int (fun _ _ => rfl)) pa_nil))))))) (pe_un un_neg pe_int) (pe_callB Sx.c_lenS (by rfl) T.n_len Sx.bt_len (pa_cons (pv 0) pa_nil))))))), ?_⟩
    refine Sx.r_st (σ' := [some (.str (S l)), none, none]) rfl ?_
    walk_at "sx"
    rotate_left
    · exact small_S (by omega)
    rw [SX.S_len]
    refine r_rng1 ?_ (by omega) (by omega)
    refine fr_range (fun i σ' H' => Same H H' ∧ (∀ j, j < i → Mp.beg (l.take (j + 1)) = true) ∧ ∃ y1 y2, σ' = [some (.str (S l)), y1, y2]) ⟨Same.refl H, fun j hj => by omega, none, none, rfl⟩ ?_ ?_
    · rintro i σ' H1 hi ⟨s1, hb, y1, y2, rfl⟩
      walk_at "sxi"
      rotate_left
      · exact small_S (by omega)
      rw [show (0 : Int) + (i : Int) + 1 = ((i + 1 : Nat) : Int) by omega, cut_to (by omega)]
      refine ⟨l.take (i + 1), rfl, by rw [List.length_take]; omega, fun H2 s2 => ?_⟩
      have sA : Same H H2 := fun c o z => s2 _ _ (s1 c o z)
      walk_at "sx"
      cases e : Mp.beg (l.take (i + 1)) with
      | false =>
        walk_at "sx"
        refine q _ _ (.inl ⟨i, hi, by omega, e, hb⟩) sA
      | true =>
        walk_at "sx"
        exact ⟨sA, fun j hj => by
          rcases Nat.lt_or_eq_of_le (Nat.le_of_lt_succ hj) with z | z
          · exact hb j z
          · rw [z]; exact e, _, _, rfl⟩
    · rintro σ' H1 ⟨s1, hb, y1, y2, rfl⟩
      walk_at "sx"
      refine ⟨S l, ":", rfl, rfl, by decide +kernel, by rw [SX.S_len, sizeLine_eq]; omega, fun z hz => ?_⟩
      have z5 : (upd H1 z (.lst ((Txt.split (S l) ":").map V.str))) z = some (.lst ((Txt.split (S l) ":").map V.str)) := upd_same
      have s5 : Same H (upd H1 z (.lst ((Txt.split (S l) ":").map V.str))) := fun c o e => same_new hz _ _ (s1 c o e)
      generalize upd H1 z (.lst ((Txt.split (S l) ":").map V.str)) = H5 at z5 s5 ⊢
      rw [lit_58] at z5
      have q' : ∀ H', Same H H' → Q (.int (if Mp.full l = true then -1 else (l.length : Int))) H' := fun H' s => q _ _ (.inr ⟨hb, rfl⟩) s
      rcases Mp.cut_cases l with h58 | ⟨q1, r, rfl, h58⟩
      · rw [Ms.split_none (by decide) h58] at z5
        have eb : Mp.full l = false := by unfold Mp.full; rw [Mp.cutc_none h58]
        rw [eb] at q'
        walk_at "sx"
        refine r_ifE ?_
        walk_at "sx"
        refine r_lenL (SqL.of z5) ?_
        walk_at "sx"
        refine ite_d (fun hz => absurd hz (by simp)) (fun _ => ?_)
        walk_at "sx"
        · rw [SX.S_len]; exact q' _ s5
        · exact small_S (by omega)
      · by_cases hr : 58 ∈ r
        · have eb : Mp.full (q1 ++ 58 :: r) = false := by
            unfold Mp.full
            rw [Mp.cutc_app h58]
            show (Mp.isN q1 && Mp.isN r) = false
            cases e : Mp.isN r with
            | false => simp
            | true => exact absurd hr (Mp.isN_no58 e)
          have h3 := Ms.split_more (c := 58) (by decide) h58 hr
          rw [eb] at q'
          walk_at "sx"
          refine r_ifE ?_
          walk_at "sx"
          refine r_lenL (SqL.of z5) ?_
          walk_at "sx"
          refine ite_d (fun hz => absurd hz (by rw [List.length_map]; omega)) (fun _ => ?_)
          walk_at "sx"
          · rw [SX.S_len]; exact q' _ s5
          · exact small_S (by omega)
        · have eb : Mp.full (q1 ++ 58 :: r) = (Mp.isN q1 && Mp.isN r) := by
            unfold Mp.full
            rw [Mp.cutc_app h58]
          rw [Ms.split_one (by decide) h58 hr] at z5
          rw [eb] at q'
          walk_at "sx"
          refine r_ifE ?_
          walk_at "sx"
          refine r_lenL (SqL.of z5) ?_
          walk_at "sx"
          refine ite_d (fun _ => ?_) (fun hz => absurd rfl hz)
          walk_at "sx"
          refine r_ixL (i := 0) z5 (v := .str (S q1)) rfl ?_
          walk_at "sx"
          refine ⟨q1, rfl, fun H6 s6 => ?_⟩
          walk_at "sx"
          cases e1 : Mp.isN q1 with
          | false =>
            rw [e1, Bool.false_and] at q'
            walk_at "sx"
            · rw [SX.S_len]; exact q' _ fun c o z => s6 _ _ (s5 c o z)
            · exact small_S (by omega)
          | true =>
            rw [e1, Bool.true_and] at q'
            walk_at "sx"
            refine r_ixL (i := 1) (s6 _ _ z5) (v := .str (S r)) rfl ?_
            walk_at "sx"
            refine ⟨r, rfl, fun H7 s7 => ?_⟩
            walk_at "sx"
            have sZ : Same H H7 := fun c o z => s7 _ _ (s6 _ _ (s5 c o z))
            cases e2 : Mp.isN r with
            | false =>
              rw [e2] at q'
              walk_at "sx"
              · rw [SX.S_len]; exact q' _ sZ
              · exact small_S (by omega)
            | true =>
              rw [e2] at q'
              walk_at "sx"
              exact q' _ sZ
end
end Lw

namespace Lw
open PySem PySem.Spec PyProof.Rows L2 Sx Sy Sw Mw Me
open En (NoNum)
open Ln (KpN)
open LamX (Tabs TabB ExtN)
open SX (S)
open C8 (pe_gc)
open SkE (call_repr_int call_str_str)
open RZ (pi_zipA)
section
variable {P : Program} {w : World} {K : PySem.W.Frag} {mg : Str → Option Value} {base : Heap}
/-! ### the catcher -/
theorem lookup_one {f : Str} {v : V} : List.lookup f [(f, v)] = some v := by simp [List.lookup]
/-- what it makes of the errors that may come -/
def WishF (T : Tx K mg) (Q : VK) : XK := fun cls d H =>
  (cls = .ref T.C_InvalidNumber ∧ ∃ dd v dt, d = some dd ∧ H dd = some (.xd [(("value" : Str), v)]) ∧ Rp.Shw K H v dt ∧ Q (.str (("number " : Str) ++ dt)) H) ∨
  (cls = .ref T.C_InvalidText ∧ Q (.str "text") H) ∨
  (cls = .ref T.C_ParseError ∧ ∃ dd v dt, d = some dd ∧ H dd = some (.xd [(("index" : Str), v)]) ∧ Rp.Shw K H v dt ∧ Q (.str (("at " : Str) ++ dt)) H) ∨
  (cls = .ref T.C_Refused ∧ ∃ dd v dt, d = some dd ∧ H dd = some (.xd [(("reason" : Str), v)]) ∧ Rp.Shw K H v dt ∧ Q (.str (("refused " : Str) ++ dt)) H)
def TTf (T : Tx K mg) : (XK → Hp → VK → Prop) → Hp → VK → Prop := fun tl H Q => tl (WishF T Q) H fun _ H' => Q (.str "") H'
theorem gives_law_first_fault {X : Cx} (T : Tx X.K X.mg) (clear : X.A.guards = some []) (un : X.A.units + 200 < cLine) {q : Str} (cdv : Value) :
    LamX.GivesTo X N_law_first_fault "_law_first_fault" (defScope st_law_first_fault) T.a_law_first_fault cdv (defBody st_law_first_fault) "_law_call" q (TTf T) := by
  intro f c' s H Q tl act hc h
  refine ⟨_, pss_one (Tr.ps_try_all (tb := fun W D σ H => ∃ Ech : XK, (∀ cls d σ' H', Ech cls d H' → W cls d σ' H') ∧ σ[0]? = some (some (.ref f)) ∧ H c' = some (LamX.CodeO c' q) ∧ tl Ech H fun _ H1 => D.rt (.str "") H1) (Wout := fun _ _ _ _ => False)
    rfl rfl sc_law_first_fault.nd LamX.takes0 (fun W pn xe tk _ => ?_)
    (.named (i := 1) ⟨rfl, by decide, .inl T.g_InvalidNumber⟩ rfl rfl (fun a ob cls d pn hz hf => pss_one (ps_ret (pe_op Sx.o_addS pe_str (pe_callB (show CallR _ _ (Rp.qReprX X.K) from Rp.c_reprX (by exact clear) (by show X.A.units + 3 + 64 < cLine; omega)) (by rfl) T.n_repr Sx.bt_repr (pa_cons (pe_xf T.xf_InvalidNumber T.nf_InvalidNumber hz hf (pv 1)) pa_nil)))))
    (.plain ⟨rfl, by decide, .inl T.g_InvalidOperation⟩ (fun a ob cls d pn hz hf => pss_one (ps_ret pe_str))
    (.plain ⟨rfl, by decide, .inl T.g_InvalidSlope⟩ (fun a ob cls d pn hz hf => pss_one (ps_ret pe_str))
    (.plain ⟨rfl, by decide, .inl T.g_InvalidText⟩ (fun a ob cls d pn hz hf => pss_one (ps_ret pe_str))
    (.plain ⟨rfl, by decide, .inl T.g_InvalidWay⟩ (fun a ob cls d pn hz hf => pss_one (ps_ret pe_str))
    (.named (i := 1) ⟨rfl, by decide, .inl T.g_ParseError⟩ rfl rfl (fun a ob cls d pn hz hf => pss_one (ps_ret (pe_op Sx.o_addS pe_str (pe_callB (show CallR _ _ (Rp.qReprX X.K) from Rp.c_reprX (by exact clear) (by show X.A.units + 3 + 64 < cLine; omega)) (by rfl) T.n_repr Sx.bt_repr (pa_cons (pe_xf T.xf_ParseError T.nf_ParseError hz hf (pv 1)) pa_nil)))))
    (.named (i := 1) ⟨rfl, by decide, .inl T.g_Refused⟩ rfl rfl (fun a ob cls d pn hz hf => pss_one (ps_ret (pe_op Sx.o_addS pe_str (pe_callB (show CallR _ _ (Rp.qReprX X.K) from Rp.c_reprX (by exact clear) (by show X.A.units + 3 + 64 < cLine; omega)) (by rfl) T.n_repr Sx.bt_repr (pa_cons (pe_xf T.xf_Refused T.nf_Refused hz hf (pv 1)) pa_nil)))))
    .nil)))))))), ?_⟩
  · constructor
    intro pins s' σ H D I now
    obtain ⟨Ech, hW, h1, h2, h3⟩ := now
    exact (pss_cons (ps_expr (act W pn xe Ech _ _ tk hW)) (pss_one (ps_ret pe_str))).run pins s' σ H D I ⟨h1, h2, h3⟩
  · refine ⟨WishF T Q, ?_, rfl, hc, h⟩
    rintro cls d σ' H' (⟨rfl, dd, v, dt, rfl, hdd, hv, q'⟩ | ⟨rfl, q'⟩ | ⟨rfl, dd, v, dt, rfl, hdd, hv, q'⟩ | ⟨rfl, dd, v, dt, rfl, hdd, hv, q'⟩)
    · refine ⟨true, Er.exm T.ex_InvalidNumber T.ex_InvalidNumber T.is_InvalidNumber T.ty_InvalidNumber T.sb_InvalidNumber_InvalidNumber, fun _ a ha hl => ?_, fun z => (nomatch z)⟩
      walk_at "sx"
      refine ⟨.ref a, (List.getElem?_set_self hl).trans rfl, rfl, rfl, dd, _, v, rfl, hdd, lookup_one, ?_⟩
      walk_at "sx"
      refine ⟨v, dt, rfl, hv, ?_⟩
      refine Sx.r_addS q' ?_
      have := hv.fits
      show 7 + _ ≤ _
      omega
    · refine ⟨false, Er.exm T.ex_InvalidText T.ex_InvalidNumber T.is_InvalidNumber T.ty_InvalidNumber T.sb_InvalidText_InvalidNumber, fun z => (nomatch z), fun _ => ?_⟩
      refine ⟨false, Er.exm T.ex_InvalidText T.ex_InvalidOperation T.is_InvalidOperation T.ty_InvalidOperation T.sb_InvalidText_InvalidOperation, fun z => (nomatch z), fun _ => ?_⟩
      refine ⟨false, Er.exm T.ex_InvalidText T.ex_InvalidSlope T.is_InvalidSlope T.ty_InvalidSlope T.sb_InvalidText_InvalidSlope, fun z => (nomatch z), fun _ => ?_⟩
      refine ⟨true, Er.exm T.ex_InvalidText T.ex_InvalidText T.is_InvalidText T.ty_InvalidText T.sb_InvalidText_InvalidText, fun _ a ha => ?_, fun z => (nomatch z)⟩
      walk_at "sx"
      exact q'
    · refine ⟨false, Er.exm T.ex_ParseError T.ex_InvalidNumber T.is_InvalidNumber T.ty_InvalidNumber T.sb_ParseError_InvalidNumber, fun z => (nomatch z), fun _ => ?_⟩
      refine ⟨false, Er.exm T.ex_ParseError T.ex_InvalidOperation T.is_InvalidOperation T.ty_InvalidOperation T.sb_ParseError_InvalidOperation, fun z => (nomatch z), fun _ => ?_⟩
      refine ⟨false, Er.exm T.ex_ParseError T.ex_InvalidSlope T.is_InvalidSlope T.ty_InvalidSlope T.sb_ParseError_InvalidSlope, fun z => (nomatch z), fun _ => ?_⟩
      refine ⟨false, Er.exm T.ex_ParseError T.ex_InvalidText T.is_InvalidText T.ty_InvalidText T.sb_ParseError_InvalidText, fun z => (nomatch z), fun _ => ?_⟩
      refine ⟨false, Er.exm T.ex_ParseError T.ex_InvalidWay T.is_InvalidWay T.ty_InvalidWay T.sb_ParseError_InvalidWay, fun z => (nomatch z), fun _ => ?_⟩
      refine ⟨true, Er.exm T.ex_ParseError T.ex_ParseError T.is_ParseError T.ty_ParseError T.sb_ParseError_ParseError, fun _ a ha hl => ?_, fun z => (nomatch z)⟩
      walk_at "sx"
      refine ⟨.ref a, (List.getElem?_set_self hl).trans rfl, rfl, rfl, dd, _, v, rfl, hdd, lookup_one, ?_⟩
      walk_at "sx"
      refine ⟨v, dt, rfl, hv, ?_⟩
      refine Sx.r_addS q' ?_
      have := hv.fits
      show 3 + _ ≤ _
      omega
    · refine ⟨false, Er.exm T.ex_Refused T.ex_InvalidNumber T.is_InvalidNumber T.ty_InvalidNumber T.sb_Refused_InvalidNumber, fun z => (nomatch z), fun _ => ?_⟩
      refine ⟨false, Er.exm T.ex_Refused T.ex_InvalidOperation T.is_InvalidOperation T.ty_InvalidOperation T.sb_Refused_InvalidOperation, fun z => (nomatch z), fun _ => ?_⟩
      refine ⟨false, Er.exm T.ex_Refused T.ex_InvalidSlope T.is_InvalidSlope T.ty_InvalidSlope T.sb_Refused_InvalidSlope, fun z => (nomatch z), fun _ => ?_⟩
      refine ⟨false, Er.exm T.ex_Refused T.ex_InvalidText T.is_InvalidText T.ty_InvalidText T.sb_Refused_InvalidText, fun z => (nomatch z), fun _ => ?_⟩
      refine ⟨false, Er.exm T.ex_Refused T.ex_InvalidWay T.is_InvalidWay T.ty_InvalidWay T.sb_Refused_InvalidWay, fun z => (nomatch z), fun _ => ?_⟩
      refine ⟨false, Er.exm T.ex_Refused T.ex_ParseError T.is_ParseError T.ty_ParseError T.sb_Refused_ParseError, fun z => (nomatch z), fun _ => ?_⟩
      refine ⟨true, Er.exm T.ex_Refused T.ex_Refused T.is_Refused T.ty_Refused T.sb_Refused_Refused, fun _ a ha hl => ?_, fun z => (nomatch z)⟩
      walk_at "sx"
      refine ⟨.ref a, (List.getElem?_set_self hl).trans rfl, rfl, rfl, dd, _, v, rfl, hdd, lookup_one, ?_⟩
      walk_at "sx"
      refine ⟨v, dt, rfl, hv, ?_⟩
      refine Sx.r_addS q' ?_
      have := hv.fits
      show 8 + _ ≤ _
      omega
/-! ### bent texts -/
def abc : List Nat := [48, 49, 50, 51, 52, 53, 54, 55, 56, 57, 58, 58, 32, 45, 43, 97, 120]
theorem lit_abc : ("0123456789:: -+ax" : Str) = S abc := by decide +kernel
theorem abc_lt : ∀ c ∈ abc, c < 128 := by decide
/-- a text of plain letters -/
def Pl (n : Nat) (l : List Nat) : Prop := l.length ≤ n ∧ ∀ c ∈ l, c < 128
def sp_law_bent_text : Sp := fun vs H Q _ => ∃ (d : Addr) (l : List Nat) (n : Nat), vs = [.ref d, .str (S l)] ∧ Dice H d ∧ Pl n l ∧ n ≤ 100 ∧ ∀ m H', Pl (n + 1) m → Kp d H H' → Q (.str (S m)) H'
theorem ok_law_bent_text (T : Tx K mg) : FnOk P w K mg base CX0 3 T.a_law_bent_text T.d_law_bent_text ["_law_dice_here", "_law_text"] sp_law_bent_text := by
  refine T.F_law_bent_text.ok sc_law_bent_text (fun vs H Q E h => ?_) (fun cdv A outer s H vs Q E hr h => ?_)
  · obtain ⟨d, l, n, rfl, _⟩ := h; rfl
  · obtain ⟨d, l, n, rfl, hd, ⟨hl, hc⟩, hn, q⟩ := h
    refine ⟨_, (pss_cons (ps_par (i := 2) (j := 3) (by rfl) sc_law_bent_text.nd rfl rfl (by decide) rfl rfl (pa_cons (pe_call (ok_law_roll T) (hr.mono (by decide)) (by rfl) T.g_law_roll T.F_law_roll.kp T.b_law_roll .nil pass0 (pa_cons (pv 0) (pa_cons (pe_op op_add (pe_callB Sx.c_lenS (by rfl) T.n_len Sx.bt_len (pa_cons (pv 1) pa_nil)) pe_int) pa_nil))) (pa_cons (pe_call (ok_law_roll T) (hr.mono (by decide)) (by rfl) T.g_law_roll T.F_law_roll.kp T.b_law_roll .nil pass0 (pa_cons (pv 0) (pa_cons pe_int pa_nil))) pa_nil)) (by rfl))
      (pss_cons (ps_set (i := 4) sc_law_bent_text.nd rfl (.inl rfl) (pe_ifExp (pt_cmpR op_eq (pv 3) pe_int (nomark _)) pe_str (pe_call (ok_law_pick T) (hr.mono (by decide)) (by rfl) T.g_law_pick T.F_law_pick.kp T.b_law_pick .nil pass0 (pa_cons (pv 0) (pa_cons pe_str pa_nil)))))
      (pss_one (ps_ret (pe_op Sx.o_addS (pe_op Sx.o_addS (pe_slice sl_str (pv 1) po_none (po_some (pv 2))) (pv 4)) (pe_slice sl_str (pv 1) (po_some (pe_op op_add (pv 2) (pe_callTy Sx.c_int (by rfl) T.n_int Sx.bt_int (pa_cons (pe_cmpR op_lt (pv 3) pe_int (nomark _)) pa_nil)))) po_none)))))), ?_⟩
    refine Sx.r_st (σ' := [some (.ref d), some (.str (S l)), none, none, none]) rfl ?_
    walk_at "sx"
    rotate_left
    · exact small_S (by omega)
    rw [SX.S_len]
    refine ⟨d, (l.length : Int) + 1, rfl, hd, by omega, log_small (by omega) (by omega), fun r H1 r0 r1 k1 => ?_⟩
    walk_at "sx"
    refine ⟨d, 3, rfl, k1.d1, by decide, log_small (by decide) (by decide), fun r2 H2 r20 r21 k2 => ?_⟩
    obtain ⟨x, rfl⟩ : ∃ x : Nat, r = x := ⟨r.toNat, by omega⟩
    walk_at "sx"
    refine r_cutQ (fun v H3 => Kp d H H3 ∧ ∃ p : List Nat, v = .str (S p) ∧ Pl 1 p) (fun Q' k => ?_) ?_
    · refine r_ifE ?_
      walk_at "sx"
      refine ite_d (fun h => ?_) (fun h => ?_)
      · walk_at "sx"
        exact k _ _ ⟨k1.trans k2, [], by rw [show S [] = ("" : Str) by decide +kernel], by simp, fun c hc => by cases hc⟩
      · walk_at "sx"
        refine .inr ⟨d, abc, by rw [lit_abc]; rfl, k2.d1, by decide, by decide, fun c H3 hc k3 => ?_⟩
        exact k _ _ ⟨(k1.trans k2).trans k3, [c], rfl, by simp, fun c' hc' => by rw [List.mem_singleton.mp hc']; exact abc_lt c hc⟩
    · rintro v H3 ⟨k3, p, rfl, hp1, hp2⟩
      obtain ⟨y, hy, hy1⟩ : ∃ y : Nat, ((x : Int) + (if decide (r2 < 2) = true then (1 : Int) else 0)) = ((x + y : Nat) : Int) ∧ y ≤ 1 := by
        by_cases h : r2 < 2
        · exact ⟨1, by rw [decide_eq_true h]; rfl, by decide⟩
        · exact ⟨0, by rw [decide_eq_false h]; simp, by decide⟩
      have c1 : cutS (S l) none (some (x : Int)) = S (l.take x) := by rw [cut_to (by omega)]; rfl
      have c2 : cutS (S l) (some ((x + y : Nat) : Int)) none = S (l.drop (x + y)) := by rw [cut_from (by omega)]; rfl
      walk_at "sx"
      · rw [hy, c1, c2, SX.S_cat, SX.S_cat]
        refine q _ _ ⟨?_, fun c hc' => ?_⟩ k3
        · rw [List.length_append, List.length_append, List.length_take, List.length_drop]; omega
        · rcases List.mem_append.mp hc' with z | z
          · rcases List.mem_append.mp z with z | z
            · exact hc c (List.mem_of_mem_take z)
            · exact hp2 c z
          · exact hc c (List.mem_of_mem_drop z)
      · rw [hy, c1, c2, SX.S_cat, SX.S_len, SX.S_len, sizeLine_eq, List.length_append, List.length_take, List.length_drop]; omega
      · exact small_S (by omega)
      · rw [c1, SX.S_len, SX.S_len, sizeLine_eq, List.length_take]; omega
      · exact small_S (by omega)
end
end Lw

namespace Lw
open PySem PySem.Spec PyProof.Rows L2 Sx Sy Sw Mw Me
open En (NoNum)
open Ln (KpN)
open LamX (Tabs TabB ExtN)
open SX (S)
open C8 (pe_gc)
open SkE (call_repr_int call_str_str)
open RZ (pi_zipA)
section
variable {P : Program} {w : World} {K : PySem.W.Frag} {mg : Str → Option Value} {base : Heap}
theorem short_int {i : Int} (h : i.natAbs < 2 ^ 200) : Rp.Short (.int i) := by
  refine ⟨decide_eq_true (PySem.Flt.log2_lt_of (by decide) (Nat.lt_of_lt_of_le h (Nat.pow_le_pow_right (by decide) (by decide)))), rfl, by simp [PyData.depth], ?_⟩
  have e := PySem.int_text_length_le (k := 200) (by decide) (PySem.Flt.log2_lt_of (by decide) h)
  show (Str.ofString (toString i)).length + 64 ≤ _
  rw [PySem.ofString_length, sizeLine_eq]; omega
theorem short_by {d : PyData} (h1 : d.showable = true) (h2 : d.hasDict = false) (h3 : d.depth ≤ 60) (h4 : d.shown.length ≤ 1000) : Rp.Short d := ⟨h1, h2, h3, by rw [sizeLine_eq]; omega⟩
def tabs (T : Tx K mg) : List (Addr × Str) := [(T.pp_law_texts_right, ("_law_texts_right" : Str) ++ ".<locals>." ++ "<lambda>"), (T.pp_law_slope_right, ("_law_slope_right" : Str) ++ ".<locals>." ++ "<lambda>"), (T.pp_law_errors_right, ("_law_errors_right" : Str) ++ ".<locals>." ++ "<lambda>")]
theorem tb_mem_law_texts_right (T : Tx K mg) : (T.pp_law_texts_right, ("_law_texts_right" : Str) ++ ".<locals>." ++ "<lambda>") ∈ tabs T := List.mem_cons_self
theorem tb_mem_law_slope_right (T : Tx K mg) : (T.pp_law_slope_right, ("_law_slope_right" : Str) ++ ".<locals>." ++ "<lambda>") ∈ tabs T := List.mem_cons_of_mem _ List.mem_cons_self
theorem tb_mem_law_errors_right (T : Tx K mg) : (T.pp_law_errors_right, ("_law_errors_right" : Str) ++ ".<locals>." ++ "<lambda>") ∈ tabs T := List.mem_cons_of_mem _ (List.mem_cons_of_mem _ List.mem_cons_self)
theorem tb_all (T : Tx K mg) {p : Addr × Str} (h : p ∈ tabs T) : p = (T.pp_law_texts_right, ("_law_texts_right" : Str) ++ ".<locals>." ++ "<lambda>") ∨ p = (T.pp_law_slope_right, ("_law_slope_right" : Str) ++ ".<locals>." ++ "<lambda>") ∨ p = (T.pp_law_errors_right, ("_law_errors_right" : Str) ++ ".<locals>." ++ "<lambda>") := by
  unfold tabs at h
  simpa only [List.mem_cons, List.not_mem_nil, or_false] using h
theorem tb_uni_law_texts_right (T : Tx K mg) : ∀ p ∈ tabs T, p.1 = T.pp_law_texts_right → p.2 = ("_law_texts_right" : Str) ++ ".<locals>." ++ "<lambda>" := by
  intro p h e
  rcases tb_all T h with rfl | rfl | rfl
  · rfl
  · exact absurd e.symm T.pn_law_texts_right_law_slope_right
  · exact absurd e.symm T.pn_law_texts_right_law_errors_right
theorem tb_uni_law_slope_right (T : Tx K mg) : ∀ p ∈ tabs T, p.1 = T.pp_law_slope_right → p.2 = ("_law_slope_right" : Str) ++ ".<locals>." ++ "<lambda>" := by
  intro p h e
  rcases tb_all T h with rfl | rfl | rfl
  · exact absurd e T.pn_law_texts_right_law_slope_right
  · rfl
  · exact absurd e.symm T.pn_law_slope_right_law_errors_right
theorem tb_uni_law_errors_right (T : Tx K mg) : ∀ p ∈ tabs T, p.1 = T.pp_law_errors_right → p.2 = ("_law_errors_right" : Str) ++ ".<locals>." ++ "<lambda>" := by
  intro p h e
  rcases tb_all T h with rfl | rfl | rfl
  · exact absurd e T.pn_law_texts_right_law_errors_right
  · exact absurd e T.pn_law_slope_right_law_errors_right
  · rfl
def TabBs (T : Tx K mg) (base : Heap) (mg : Str → Option Value) : Prop := TabB base mg T.cc_law_texts_right T.pp_law_texts_right ∧ TabB base mg T.cc_law_slope_right T.pp_law_slope_right ∧ TabB base mg T.cc_law_errors_right T.pp_law_errors_right
theorem emp_cat (x : Str) : Str.empty ++ x = x := by
  have h : (Str.empty ++ x).cps = x.cps := by show #[] ++ x.cps = x.cps; simp
  cases x; exact congrArg Str.mk h
theorem slT_sT {a b : Nat} (a1 : 1 ≤ a) (a2 : a ≤ 60) (b1 : 1 ≤ b) (b2 : b ≤ 60) : slT a b = S (Mp.sT a b) := by
  rw [Mp.sT_text a1 a2 b1 b2]
  unfold slT it
  rw [emp_cat]
def PlV (x : V) : Prop := ∃ m, x = .str (S m) ∧ Pl 40 m
theorem plv_of (z : Str) (h : (decide (z.cps.toList.length ≤ 40) && z.cps.toList.all fun c => decide (c < 128)) = true) : PlV (.str z) := by
  rw [Bool.and_eq_true, decide_eq_true_iff, List.all_eq_true] at h
  exact ⟨z.cps.toList, rfl, h.1, fun c hc => of_decide_eq_true (h.2 c hc)⟩
theorem plv_at {m : List Nat} {n : Nat} (h : Pl n m) (hn : n ≤ 40) : PlV (.str (S m)) := ⟨m, rfl, Nat.le_trans h.1 hn, h.2⟩
theorem pl_app {n k : Nat} {l m : List Nat} (h : Pl n l) (g : Pl k m) : Pl (n + k) (l ++ m) := by
  refine ⟨by rw [List.length_append]; exact Nat.add_le_add h.1 g.1, fun c hc => ?_⟩
  rcases List.mem_append.mp hc with z | z
  · exact h.2 c z
  · exact g.2 c z
theorem pl_58 : Pl 1 [58] := ⟨by decide, by decide⟩
def sp_law_texts_right (T : Tx K mg) : Sp := fun vs H Q _ => ∃ (d : Addr) (a b : Nat), vs = [.ref d, .str (S (Mp.sT a b))] ∧ Dice H d ∧ (1 ≤ a ∧ a ≤ 60) ∧ (1 ≤ b ∧ b ≤ 60) ∧ Tabs (tabs T) H ∧ ∀ H', KpN d H H' → Tabs (tabs T) H' → Q (.bl true) H'
theorem ok_law_texts_right (T : Tx K mg) (TB : TabBs T base mg) : En.FnG P w K mg base CX0 9 T.a_law_texts_right T.d_law_texts_right ["_law_dice_here", "_law_text"] (sp_law_texts_right T) := by
  refine En.fnG T.F_law_texts_right sc_law_texts_right (fun vs H Q E h => ?_) (fun cdv A outer s H vs Q E hcd hgd hr h => ?_)
  · obtain ⟨d, a, b, rfl, _⟩ := h; rfl
  · have hcq : (envOfC ("_law_texts_right" : Str) (defScope st_law_texts_right) s.heap.objs.size T.a_law_texts_right cdv).code = .ref T.cc_law_texts_right := hcd.symm.trans T.cq_law_texts_right
    obtain ⟨d, a, b, rfl, hd, ⟨a1, a2⟩, ⟨b1, b2⟩, hT, q⟩ := h
    have pT : Pl 5 (Mp.sT a b) := ⟨Mp.sT_len, Mp.sT_lt a2 b2⟩
    refine ⟨_, (pss_cons (ps_set (i := 2) sc_law_texts_right.nd rfl (.inl rfl) (pe_lst (pa_cons (pe_call (ok_law_bent_text T) (hr.mono (by decide)) (by rfl) T.g_law_bent_text T.F_law_bent_text.kp T.b_law_bent_text .nil pass0 (pa_cons (pv 0) (pa_cons (pv 1) pa_nil))) (pa_cons (pe_call (ok_law_bent_text T) (hr.mono (by decide)) (by rfl) T.g_law_bent_text T.F_law_bent_text.kp T.b_law_bent_text .nil pass0 (pa_cons (pv 0) (pa_cons (pe_call (ok_law_bent_text T) (hr.mono (by decide)) (by rfl) T.g_law_bent_text T.F_law_bent_text.kp T.b_law_bent_text .nil pass0 (pa_cons (pv 0) (pa_cons (pv 1) pa_nil))) pa_nil))) (pa_cons (pe_op Sx.o_addS (pv 1) (pv 1)) (pa_cons (pe_op Sx.o_addS pe_str (pv 1)) (pa_cons (pe_op Sx.o_addS (pv 1) pe_str) pa_nil)))))))
      (pss_cons (ps_expr (pe_bm PySem.F.plainAttrs_list PySem.F.slot_list_append PySem.F.type_list_append mt_append (pv 2) (pa_cons (pe_call (ok_law_pick T) (hr.mono (by decide)) (by rfl) T.g_law_pick T.F_law_pick.kp T.b_law_pick .nil pass0 (pa_cons (pv 0) (pa_cons (pe_lst (pa_cons pe_str (pa_cons pe_str (pa_cons pe_str (pa_cons pe_str (pa_cons pe_str (pa_cons pe_str (pa_cons pe_str (pa_cons pe_str (pa_cons pe_str (pa_cons pe_str (pa_cons pe_str (pa_cons pe_str (pa_cons pe_str (pa_cons pe_str pa_nil))))))))))))))) pa_nil))) pa_nil)))
      (pss_cons (ps_for PassesOwn.never rfl (pi_list (pv 2)) (pg_name (i := 4) sc_law_texts_right.nd rfl (.inr rfl)) (pss_cons (ps_set (i := 3) sc_law_texts_right.nd rfl (.inl rfl) (pe_call (ok_law_due T) (hr.mono (by decide)) (by rfl) T.g_law_due T.F_law_due.kp T.b_law_due .nil pass0 (pa_cons (pv 4) pa_nil)))
      (pss_cons (ps_if (PW.pt (pw_and (pt_cmpR op_ge (pv 3) pe_int (nomark _)) (pw_and1 (pt_cmpR op_ne (En.pe_lam (T := tabs T) T.F_law_first_fault T.g_law_first_fault T.b_law_first_fault sc_law_first_fault (fun cdv2 => gives_law_first_fault (X := (cxOf CX0 P w K mg base N_law_texts_right "_law_texts_right" (defScope st_law_texts_right) T.a_law_texts_right cdv A outer s H E).nox) T hgd (Nat.lt_of_le_of_lt (Nat.add_le_add_right (Nat.le_add_right _ _) 200) hr.un) cdv2) (TB.1) hcq (tb_mem_law_texts_right T) (tb_uni_law_texts_right T) hr (LamX.lamS_by (by show LamX.lamSB (defScope st_law_texts_right) _ = true; decide +kernel)) (fun A outer s H E f c' hr => (ClX.pe_cmeth (pe_glob (v := .ref T.C_Slope) (by rfl) T.g_Slope rfl) T.cr_Slope T.cm_Slope_of_text ((ok_Slope_of_text T).raw T.b_Slope_of_text .nil) (hr.mono (by decide)) (passes_call (E := E) (W := fun cls d _ H => E cls d H) (takes_of rfl rfl rfl rfl) (fun _ _ _ _ h => h)) (pa_cons (pv 4) pa_nil)))) (pe_op Sx.o_addS pe_str (pe_callB (show CallR _ _ (Rp.qReprX K) from Rp.c_reprX hgd (Nat.lt_of_le_of_lt (Nat.add_le_add (Nat.le_add_right _ _) (by decide : 64 ≤ 200)) hr.un)) (by rfl) T.n_repr Sx.bt_repr (pa_cons (pv 3) pa_nil))) (nomark _))))) (pss_one (ps_ret pe_bl)) pss_nil)
      (pss_one (ps_if (PW.pt (pw_and (pt_cmpR op_lt (pv 3) pe_int (nomark _)) (pw_and1 (pt_cmpR op_ne (pe_callTy (Ob.c_strO ⟨T.me_Slope_str.1, T.me_Slope_str.2⟩ (ok_Slope_str T) (hr.mono (by decide)) T.b_Slope_str) (by rfl) T.n_str Sx.bt_str (pa_cons (ClX.pe_cmeth (pe_glob (v := .ref T.C_Slope) (by rfl) T.g_Slope rfl) T.cr_Slope T.cm_Slope_of_text ((ok_Slope_of_text T).raw T.b_Slope_of_text .nil) (hr.mono (by decide)) En.passN (pa_cons (pv 4) pa_nil)) pa_nil)) (pv 4) (nomark _))))) (pss_one (ps_ret pe_bl)) pss_nil)))))
      (pss_one (ps_ret pe_bl))))), ?_⟩
    refine Sx.r_st (σ' := [some (.ref d), some (.str (S (Mp.sT a b))), none, none, none]) rfl ?_
    walk_at "sx"
    refine ⟨d, _, 5, rfl, hd, pT, by decide, fun m1 H1 p1 k1 => ?_⟩
    walk_at "sx"
    refine ⟨d, _, 5, rfl, k1.d1, pT, by decide, fun m2 H2 p2 k2 => ?_⟩
    walk_at "sx"
    refine ⟨d, _, 6, rfl, k2.d1, p2, by decide, fun m3 H3 p3 k3 => ?_⟩
    have lT : (S (Mp.sT a b)).length ≤ 5 := by rw [SX.S_len]; exact pT.1
    have l1 : (":" : Str).length = 1 := len_eq1
    walk_at "sx"
    rotate_left
    · rw [l1, sizeLine_eq]; omega
    · rw [l1, sizeLine_eq]; omega
    · rw [sizeLine_eq]; omega
    rw [show (":" : Str) = S [58] by decide +kernel, SX.S_cat, SX.S_cat, SX.S_cat]
    obtain ⟨xs, hxs⟩ : ∃ xs : List V, [V.str (S m1), V.str (S m3), V.str (S (Mp.sT a b ++ Mp.sT a b)), V.str (S ([58] ++ Mp.sT a b)), V.str (S (Mp.sT a b ++ [58]))] = xs := ⟨_, rfl⟩
    have hall : ∀ x ∈ xs, PlV x := by
      intro x hx
      rw [← hxs] at hx
      simp only [List.mem_cons, List.not_mem_nil, or_false] at hx
      rcases hx with rfl | rfl | rfl | rfl | rfl
      · exact plv_at p1 (by decide)
      · exact plv_at p3 (by decide)
      · exact plv_at (pl_app pT pT) (by decide)
      · exact plv_at (pl_app pl_58 pT) (by decide)
      · exact plv_at (pl_app pT pl_58) (by decide)
    have lx : xs.length = 5 := by rw [← hxs]; rfl
    rw [hxs]
    refine ⟨by rw [← hxs]; exact sz _ (Nat.le_of_ble_eq_true rfl), fun g hg => ?_⟩
    have k4 : Kp d H (upd H3 g (.lst xs)) := ((k1.trans k2).trans k3).new hg
    have gd : g ≠ d := by
      obtain ⟨x, y, z, h⟩ := k3.d1
      exact (ne_of_none h hg).symm
    have g4 : (upd H3 g (.lst xs)) g = some (.lst xs) := upd_same
    generalize upd H3 g (.lst xs) = H4 at k4 g4 ⊢
    walk_at "sx"
    refine ⟨tyL g4, ?_⟩
    walk_at "sx"
    refine ⟨sz _ (Nat.le_of_ble_eq_true rfl), fun u hu => ?_⟩
    walk_at "sx"
    have ud : u ≠ d := by
      obtain ⟨x, y, z, h⟩ := k4.d1
      exact (ne_of_none h hu).symm
    have gu : g ≠ u := ne_of_none g4 hu
    refine .inl ⟨d, u, _, rfl, (k4.new hu).d1, ud, upd_same, by decide, by decide, fun v H5 hv k5 => ?_⟩
    have hv : PlV v := by
      simp only [List.mem_cons, List.not_mem_nil, or_false] at hv
      rcases hv with rfl | rfl | rfl | rfl | rfl | rfl | rfl | rfl | rfl | rfl | rfl | rfl | rfl | rfl <;> exact plv_of _ (by decide +kernel)
    have g5 : H5 g = some (.lst xs) := k5.k g _ gd (by rw [upd_ne gu]; exact g4)
    have hg0 : H g = none := ((k1.trans k2).trans k3).free hg
    have k6 : Kp d H (upd H5 g (.lst (xs ++ [v]))) := ((k4.new hu).trans k5).mut hg0
    walk_at "sx"
    refine r_app g5 ?_ (by rw [lx]; decide)
    have g6 : (upd H5 g (.lst (xs ++ [v]))) g = some (.lst (xs ++ [v])) := upd_same
    generalize upd H5 g (.lst (xs ++ [v])) = H6 at k6 g6 ⊢
    have T6 := Ln.tabs_kp hT hd k6
    obtain ⟨ys, hys⟩ : ∃ ys, xs ++ [v] = ys := ⟨_, rfl⟩
    have yall : ∀ x ∈ ys, PlV x := by
      intro x hx
      rw [← hys] at hx
      rcases List.mem_append.mp hx with z | z
      · exact hall x z
      · rw [List.mem_singleton.mp z]; exact hv
    rw [hys] at g6
    walk_at "sx"
    refine r_seqL (SqL.of g6) ?_
    refine fr_list (xs := ys) (fun i σ' H' => KpN d H H' ∧ Tabs (tabs T) H' ∧ H' g = some (.lst ys) ∧ ∃ y1 y2, σ' = [some (.ref d), some (.str (S (Mp.sT a b))), some (.ref g), y1, y2]) ⟨KpN.of k6, T6, g6, none, none, rfl⟩ (fun i σ H' _ z => SqL.of z.2.2.1) ?_ ?_
    · rintro i x σ' H7 hi ⟨k7, T7, g7, y1, y2, rfl⟩
      obtain ⟨m, rfl, hm, hc⟩ := yall x (List.mem_of_getElem? hi)
      walk_at "sx"
      refine ⟨m, rfl, by omega, fun v H8 hv s8 => ?_⟩
      have hv := Mp.due_is hc hv
      have k8 : KpN d H H8 := k7.same s8
      have T8 := Ln.tabs_same T7 s8
      have g8 := s8 _ _ g7
      walk_at "sxi"
      cases hf : Mp.fault m with
      | some f =>
        rw [hf] at hv
        have hv : v = (f : Int) := hv
        subst hv
        refine ite_d (fun _ => ?_) (fun z => absurd (Int.natCast_nonneg f) z)
        walk_at "sx"
        refine ⟨T8, fun H9 e9 T9 => ?_⟩
        unfold TTf
        walk_at "sx"
        refine ⟨rfl, ?_⟩
        walk_at "sx"
        have k9 := k8.ext e9
        refine ⟨.str (S m), rfl, .inr ⟨m, rfl, by omega, hc, .inl ⟨f, hf, fun H10 s10 dd hdd => ?_⟩⟩⟩
        have sh : Rp.Short (.int (f : Int)) := by
          refine short_int ?_
          have : f ≤ 41 := by
            have := Mp.fault_le hf
            omega
          exact Nat.lt_of_le_of_lt (show ((f : Nat) : Int).natAbs ≤ 41 by omega) (by decide)
        have s11 : Same H9 (upd H10 dd (.xd [(("index" : Str), .int (f : Int))])) := fun c o e => same_new hdd _ _ (s10 _ _ e)
        refine .inr (.inr (.inl ⟨rfl, dd, .int f, _, rfl, upd_same, .of (.int _) sh, ?_⟩))
        walk_at "sx"
        refine ⟨.int f, _, rfl, .of (.int _) sh, ?_⟩
        refine Sx.r_addS ?_ (by have := sh.fits; show 3 + _ ≤ _; omega)
        walk_at "sx"
        rw [decide_eq_true rfl]
        walk_at "sxi"
        refine ite_d (fun z => absurd z (by omega)) (fun _ => ?_)
        walk_at "sx"
        exact ⟨k9.same s11, Ln.tabs_same T9 s11, s11 _ _ (e9 _ _ g8 fun ps z => by cases z), _, _, rfl⟩
      | none =>
        rw [hf] at hv
        have hv : v = -1 := hv
        subst hv
        refine ite_d (fun z => absurd z (by decide)) (fun _ => ?_)
        walk_at "sxi"
        refine ite_d (fun _ => ?_) (fun z => absurd (by decide) z)
        walk_at "sx"
        refine ⟨rfl, ?_⟩
        walk_at "sx"
        obtain ⟨a', b', ⟨c1, c2⟩, ⟨c3, c4⟩, rfl⟩ := Mp.fault_none hc hf
        refine ⟨.str (S (Mp.sT a' b')), rfl, .inr ⟨_, rfl, by omega, hc, .inr ⟨a', b', ⟨c1, c2⟩, ⟨c3, c4⟩, rfl, fun sv H9 s9 hS9 => ?_⟩⟩⟩
        walk_at "sx"
        obtain ⟨hb9, ps, dxs, rfl, es⟩ := hS9
        refine ⟨ps, dxs, _, rfl, es, .ref ps, a', b', rfl, ⟨hb9, ps, dxs, rfl, es⟩, ?_⟩
        refine ⟨_, rfl, ?_⟩
        walk_at "sx"
        refine ite_nd (fun h => (h (slT_sT c1 c2 c3 c4)).elim) (fun _ => ?_)
        walk_at "sx"
        exact ⟨k8.same s9, Ln.tabs_same T8 s9, s9 _ _ g8, _, _, rfl⟩
    · rintro σ' H7 ⟨k7, T7, g7, y1, y2, rfl⟩
      walk_at "sx"
      exact q _ k7 T7
end
end Lw

namespace Lw
open PySem PySem.Spec PyProof.Rows L2 Sx Sy Sw Mw Me
open En (NoNum)
open Ln (KpN)
open LamX (Tabs TabB ExtN)
open SX (S)
open C8 (pe_gc)
open SkE (call_repr_int call_str_str)
open RZ (pi_zipA)
section
variable {P : Program} {w : World} {K : PySem.W.Frag} {mg : Str → Option Value} {base : Heap}
theorem slF_no {a b : Int} {m : Str} (h1 : m ≠ "_rises") (h2 : m ≠ "_steps") (h3 : m ≠ "_common") : (slF a b).lookup m = none := by
  unfold slF; rw [lookup_putF, if_neg h3, lookup_putF, if_neg h2, lookup_putF, if_neg h1]; rfl
theorem md_slope {C : Addr} {H : Hp} {v : V} {a b : Int} {m : Str} {Pr : Prop} (h : SlopeAt C H v a b) (h1 : m ≠ "_rises") (h2 : m ≠ "_steps") (h3 : m ≠ "_common") (hp : Pr) : ∃ p dx fs, v = .ref p ∧ H p = some (.ins C dx fs) ∧ fs.lookup m = none ∧ Pr := by
  obtain ⟨_, p, dx, rfl, e⟩ := h
  exact ⟨p, dx, _, rfl, e, slF_no h1 h2 h3, hp⟩
theorem short_com : ∀ g : Nat, g < 61 → Rp.Short (.tuple [.str ("common" : Str), .int (g : Int)]) := by
  intro g hg
  have h : ∀ g : Nat, g < 61 → (PyData.tuple [.str ("common" : Str), .int (g : Int)]).showable = true ∧ (PyData.tuple [.str ("common" : Str), .int (g : Int)]).hasDict = false ∧ (PyData.tuple [.str ("common" : Str), .int (g : Int)]).depth ≤ 60 ∧ (PyData.tuple [.str ("common" : Str), .int (g : Int)]).shown.length ≤ 1000 := by decide +kernel
  obtain ⟨h1, h2, h3, h4⟩ := h g hg
  exact short_by h1 h2 h3 h4
theorem ok_plain {l : List Nat} (h : ∀ c, c ∈ l → c < 128) : PyData.strOk (S l) = true := by
  unfold PyData.strOk
  rw [Array.all_eq_true]
  intro i hi
  have hm : (S l).cps[i] ∈ l := by simp [S]
  have := h _ hm
  exact decide_eq_true (by omega)
theorem neq_slope {K : PySem.W.Frag} {C : Addr} {H : Hp} {Q : VK} {v u : V} {a b : Int} (h1 : SlopeAt C H v a b) (h2 : SlopeAt C H u a b) (q : Q (.bl false) H) : qOwnNe C (sp_Slope_eq K C) v u H Q := by
  obtain ⟨w1, p, dx, rfl, e1⟩ := id h1
  obtain ⟨w2, p2, dx2, rfl, e2⟩ := id h2
  refine ⟨p, dx, _, p2, dx2, _, rfl, rfl, e1, e2, .inl ⟨_, _, a, b, a, b, rfl, h1, h2, ⟨_, rfl, ?_⟩⟩⟩
  rw [decide_eq_true ⟨rfl, rfl⟩]
  exact q
theorem eq_slope {K : PySem.W.Frag} {C : Addr} {H : Hp} {Q : VK} {v u : V} {a b c d : Int} (h1 : SlopeAt C H v a b) (h2 : SlopeAt C H u c d) (q : Q (.bl (decide (a = c ∧ b = d))) H) : qOwn C (sp_Slope_eq K C) v u H Q := by
  obtain ⟨w1, p, dx, rfl, e1⟩ := id h1
  obtain ⟨w2, p2, dx2, rfl, e2⟩ := id h2
  exact ⟨p, dx, _, p2, dx2, _, rfl, rfl, e1, e2, .inl ⟨_, _, a, b, c, d, rfl, h1, h2, q⟩⟩
def sp_law_slope_right (T : Tx K mg) : Sp := fun vs H Q _ => ∃ (d : Addr) (a b : Nat), vs = [.ref d, .int a, .int b] ∧ Dice H d ∧ (1 ≤ a ∧ a ≤ 60) ∧ (1 ≤ b ∧ b ≤ 60) ∧ Tabs (tabs T) H ∧ ∀ H', KpN d H H' → Tabs (tabs T) H' → Q (.bl true) H'
theorem ok_law_slope_right (T : Tx K mg) (TB : TabBs T base mg) : En.FnG P w K mg base CX0 10 T.a_law_slope_right T.d_law_slope_right ["_law_dice_here", "_law_rises", "_law_steps"] (sp_law_slope_right T) := by
  refine En.fnG T.F_law_slope_right sc_law_slope_right (fun vs H Q E h => ?_) (fun cdv A outer s H vs Q E hcd hgd hr h => ?_)
  · obtain ⟨d, a, b, rfl, _⟩ := h; rfl
  · have hcq : (envOfC ("_law_slope_right" : Str) (defScope st_law_slope_right) s.heap.objs.size T.a_law_slope_right cdv).code = .ref T.cc_law_slope_right := hcd.symm.trans T.cq_law_slope_right
    obtain ⟨d, a, b, rfl, hd, ⟨a1, a2⟩, ⟨b1, b2⟩, hT, q⟩ := h
    refine ⟨_, (pss_cons (ps_asg (pe_tup (pa_cons (pe_make T.mk_Slope (ok_Slope_init T) (hr.mono (by decide)) (by rfl) T.g_Slope T.b_Slope_init .nil En.passN (pa_cons (pv 1) (pa_cons (pv 2) pa_nil))) (pa_cons (pe_call (ok_law_common T) (hr.mono (by decide)) (by rfl) T.g_law_common T.F_law_common.kp T.b_law_common .nil pass0 (pa_cons (pv 1) (pa_cons (pv 2) pa_nil))) (pa_cons (pe_op Sx.o_addS (pe_op Sx.o_addS (pe_callTy Sx.c_strI (by rfl) T.n_str Sx.bt_str (pa_cons (pv 1) pa_nil)) pe_str) (pe_callTy Sx.c_strI (by rfl) T.n_str Sx.bt_str (pa_cons (pv 2) pa_nil))) pa_nil)))) (pg_tup rfl (pgs_cons (pg_name (i := 7) sc_law_slope_right.nd rfl (.inr rfl)) (pgs_cons (pg_name (i := 3) sc_law_slope_right.nd rfl (.inl rfl)) (pgs_cons (pg_name (i := 4) sc_law_slope_right.nd rfl (.inl rfl)) pgs_nil)))))
      (pss_cons (ps_if (pt_cmpR (op_neD hr.units) (pe_lst (pa_cons (pe_prop (pv 7) T.cl_Slope T.pr_Slope_rises (ok_Slope_rises T) (hr.mono (by decide)) T.b_Slope_rises .nil pass0 rfl) (pa_cons (pe_prop (pv 7) T.cl_Slope T.pr_Slope_steps (ok_Slope_steps T) (hr.mono (by decide)) T.b_Slope_steps .nil pass0 rfl) (pa_cons (pe_prop (pv 7) T.cl_Slope T.pr_Slope_common (ok_Slope_common T) (hr.mono (by decide)) T.b_Slope_common .nil pass0 rfl) (pa_cons (pe_prop (pv 7) T.cl_Slope T.pr_Slope_is_coprime (ok_Slope_is_coprime T) (hr.mono (by decide)) T.b_Slope_is_coprime .nil pass0 rfl) (pa_cons (pe_callTy (Ob.c_strO ⟨T.me_Slope_str.1, T.me_Slope_str.2⟩ (ok_Slope_str T) (hr.mono (by decide)) T.b_Slope_str) (by rfl) T.n_str Sx.bt_str (pa_cons (pv 7) pa_nil)) pa_nil)))))) (pe_lst (pa_cons (pv 1) (pa_cons (pv 2) (pa_cons (pv 3) (pa_cons (pe_cmpR op_eq (pv 3) pe_int (nomark _)) (pa_cons (pv 4) pa_nil)))))) (nomark _)) (pss_one (ps_ret pe_bl)) pss_nil)
      (pss_cons (ps_if (PW.pt (pw_and (pt_cmpR op_eq (pv 3) pe_int (nomark _)) (pw_and1 (pt_cmpR op_ne (Px.pe_propXK (K := K) rfl (pv 7) T.cl_Slope T.pr_Slope_half (ok_Slope_half T) (hr.mono (by decide)) T.b_Slope_half .nil En.passN rfl) (pe_op op_fdivW (pe_op Sx.op_mulA (pe_op op_sub (pv 1) pe_int) (pe_op op_sub (pv 2) pe_int)) pe_int) (nomark _))))) (pss_one (ps_ret pe_bl)) pss_nil)
      (pss_cons (ps_if (PW.pt (pw_and (pt_cmpR op_gt (pv 3) pe_int (nomark _)) (pw_and1 (pt_cmpR op_ne (En.pe_lam (T := tabs T) T.F_law_first_fault T.g_law_first_fault T.b_law_first_fault sc_law_first_fault (fun cdv2 => gives_law_first_fault (X := (cxOf CX0 P w K mg base N_law_slope_right "_law_slope_right" (defScope st_law_slope_right) T.a_law_slope_right cdv A outer s H E).nox) T hgd (Nat.lt_of_le_of_lt (Nat.add_le_add_right (Nat.le_add_right _ _) 200) hr.un) cdv2) (TB.2.1) hcq (tb_mem_law_slope_right T) (tb_uni_law_slope_right T) hr (LamX.lamS_by (by show LamX.lamSB (defScope st_law_slope_right) _ = true; decide +kernel)) (fun A outer s H E f c' hr => (Px.pe_propXK (K := K) rfl (pv 7) T.cl_Slope T.pr_Slope_half (ok_Slope_half T) (hr.mono (by decide)) T.b_Slope_half .nil (passes_call (E := E) (W := fun cls d _ H => E cls d H) (takes_of rfl rfl rfl rfl) (fun _ _ _ _ h => h)) rfl))) (pe_op Sx.o_addS pe_str (pe_callB (show CallR _ _ (Rp.qReprX K) from Rp.c_reprX hgd (Nat.lt_of_le_of_lt (Nat.add_le_add (Nat.le_add_right _ _) (by decide : 64 ≤ 200)) hr.un)) (by rfl) T.n_repr Sx.bt_repr (pa_cons (pe_tup (pa_cons pe_str (pa_cons (pv 3) pa_nil))) pa_nil))) (nomark _))))) (pss_one (ps_ret pe_bl)) pss_nil)
      (pss_cons (ps_set (i := 5) sc_law_slope_right.nd rfl (.inl rfl) (pe_meth0 (pv 7) T.cl_Slope T.me_Slope_exchanged (ok_Slope_exchanged T) (hr.mono (by decide)) T.b_Slope_exchanged .nil pass0))
      (pss_cons (ps_if (PW.pt (pw_or (pt_cmpR (op_neD hr.units) (pe_lst (pa_cons (pe_prop (pv 5) T.cl_Slope T.pr_Slope_rises (ok_Slope_rises T) (hr.mono (by decide)) T.b_Slope_rises .nil pass0 rfl) (pa_cons (pe_prop (pv 5) T.cl_Slope T.pr_Slope_steps (ok_Slope_steps T) (hr.mono (by decide)) T.b_Slope_steps .nil pass0 rfl) pa_nil))) (pe_lst (pa_cons (pv 2) (pa_cons (pv 1) pa_nil))) (nomark _)) (pw_or (pt_cmpR (Sw.op_ownNe ⟨T.me_Slope_eq.1, T.me_Slope_eq.2⟩ T.mr_Slope T.nn_Slope (ok_Slope_eq T) (hr.mono (by decide)) T.b_Slope_eq) (pe_meth0 (pv 5) T.cl_Slope T.me_Slope_exchanged (ok_Slope_exchanged T) (hr.mono (by decide)) T.b_Slope_exchanged .nil pass0) (pv 7) (nomark _)) (pw_or1 (pt_cmpR op_ne (pe_cmpR (Sw.op_own (fun _ _ => rfl) ⟨T.me_Slope_eq.1, T.me_Slope_eq.2⟩ (ok_Slope_eq T) (hr.mono (by decide)) T.b_Slope_eq) (pv 5) (pv 7) (nomark _)) (pe_cmpR op_eq (pv 1) (pv 2) (nomark _)) (nomark _)))))) (pss_one (ps_ret pe_bl)) pss_nil)
      (pss_cons (ps_if (PW.pt (pw_or (pt_cmpR (Sw.op_ownNe ⟨T.me_Slope_eq.1, T.me_Slope_eq.2⟩ T.mr_Slope T.nn_Slope (ok_Slope_eq T) (hr.mono (by decide)) T.b_Slope_eq) (ClX.pe_cmeth (pe_glob (v := .ref T.C_Slope) (by rfl) T.g_Slope rfl) T.cr_Slope T.cm_Slope_of_text ((ok_Slope_of_text T).raw T.b_Slope_of_text .nil) (hr.mono (by decide)) En.passN (pa_cons (pv 4) pa_nil)) (pv 7) (nomark _)) (pw_or (pt_cmpR (Ox.op_ownX (fun _ _ => rfl) ⟨T.me_Slope_eq.1, T.me_Slope_eq.2⟩ (ok_Slope_eq T) (hr.mono (by decide)) T.b_Slope_eq) (pv 7) (pv 4) (nomark _)) (pw_or (pt_cmpR (Ox.op_ownX (fun _ _ => rfl) ⟨T.me_Slope_eq.1, T.me_Slope_eq.2⟩ (ok_Slope_eq T) (hr.mono (by decide)) T.b_Slope_eq) (pv 7) (pe_tup (pa_cons (pv 1) (pa_cons (pv 2) pa_nil))) (nomark _)) (pw_or1 (pt_not (pt_val (En.pe_callG hgd (ok_law_texts_right T TB) (hr.mono (by decide)) (by rfl) T.g_law_texts_right T.F_law_texts_right.kp T.b_law_texts_right pass0 (pa_cons (pv 0) (pa_cons (pv 4) pa_nil)))))))))) (pss_one (ps_ret pe_bl)) pss_nil)
      (pss_cons (ps_set (i := 6) sc_law_slope_right.nd rfl (.inl rfl) (pe_call (ok_law_any_slope T) (hr.mono (by decide)) (by rfl) T.g_law_any_slope T.F_law_any_slope.kp T.b_law_any_slope .nil pass0 (pa_cons (pv 0) (pa_cons pe_int pa_nil))))
      (pss_one (ps_ret (pe_cmpR op_eq (pe_cmpR (Sw.op_own (fun _ _ => rfl) ⟨T.me_Slope_eq.1, T.me_Slope_eq.2⟩ (ok_Slope_eq T) (hr.mono (by decide)) T.b_Slope_eq) (pe_make T.mk_Slope (ok_Slope_init T) (hr.mono (by decide)) (by rfl) T.g_Slope T.b_Slope_init .nil En.passN (pa_cons (pe_ix ix_tup (pv 6) pe_int (fun _ _ => rfl)) (pa_cons (pe_ix ix_tup (pv 6) pe_int (fun _ _ => rfl)) pa_nil))) (pv 7) (nomark _)) (pe_cmpR (op_eqD hr.units) (pv 6) (pe_tup (pa_cons (pv 1) (pa_cons (pv 2) pa_nil))) (nomark _)) (nomark _)))))))))))), ?_⟩
    refine Sx.r_st (σ' := [some (.ref d), some (.int a), some (.int b), none, none, none, none, none]) rfl ?_
    walk_at "sx"
    refine mk_slope (a := (a : Int)) (b := (b : Int)) ⟨by omega, by omega, by omega, by omega⟩ (fun sv H1 s1 hS1 => ?_)
    walk_at "sx"
    refine ⟨a, b, rfl, by omega, by omega, by omega, ?_⟩
    have la : (Str.ofString (toString (a : Int))).length ≤ 1921 := it_len (i := (a : Int)) (by omega)
    have lb : (Str.ofString (toString (b : Int))).length ≤ 1921 := it_len (i := (b : Int)) (by omega)
    have lc : (":" : Str).length = 1 := len_eq1
    walk_at "sx"
    rotate_left
    · rw [Str.length_append, lc, sizeLine_eq]; omega
    · exact it_log (by omega)
    · rw [lc, sizeLine_eq]; omega
    · exact it_log (by omega)
    rw [← Mp.sT_text a1 a2 b1 b2]
    refine ⟨sz _ (Nat.le_of_ble_eq_true rfl), fun p hp => ?_⟩
    have s2 := same_new (o := .tup [sv, .int ((Nat.gcd a b : Nat) : Int), .str (S (Mp.sT a b))]) hp
    refine r_gtup upd_same rfl ?_
    generalize upd H1 p (.tup [sv, .int ((Nat.gcd a b : Nat) : Int), .str (S (Mp.sT a b))]) = H2 at s2 ⊢
    have hS2 := hS1.mono s2
    walk_at "sxi"
    refine rd_r hS2 ?_
    walk_at "sx"
    refine rd_s hS2 ?_
    walk_at "sx"
    refine rd_c hS2 ?_
    rw [Int.natAbs_natCast, Int.natAbs_natCast]
    walk_at "sx"
    refine rd_cop hS2 ?_
    walk_at "sx"
    obtain ⟨hb2, ps, dxs, rfl, es⟩ := id hS2
    refine ⟨ps, dxs, _, rfl, es, .ref ps, a, b, rfl, hS2, ?_⟩
    refine ⟨_, rfl, ?_⟩
    rw [slT_sT a1 a2 b1 b2]
    walk_at "sx"
    refine ⟨sz _ (Nat.le_of_ble_eq_true rfl), fun l1 hl1 => ?_⟩
    walk_at "sx"
    refine ⟨sz _ (Nat.le_of_ble_eq_true rfl), fun l2 hl2 => ?_⟩
    have eg : decide (((Nat.gcd a b : Nat) : Int) = 1) = decide (Nat.gcd a b = 1) := by
      rw [decide_eq_decide]; omega
    rw [eg]
    have s3 := same_new (o := .lst [V.int (a : Int), V.int (b : Int), V.int ((Nat.gcd a b : Nat) : Int), V.bl (decide (Nat.gcd a b = 1)), V.str (S (Mp.sT a b))]) hl1
    have s4 := same_new (o := .lst [V.int (a : Int), V.int (b : Int), V.int ((Nat.gcd a b : Nat) : Int), V.bl (decide (Nat.gcd a b = 1)), V.str (S (Mp.sT a b))]) hl2
    have sh5 : SeqAt.shaped (.list [.int (a : Int), .int (b : Int), .int ((Nat.gcd a b : Nat) : Int), .bool (decide (Nat.gcd a b = 1)), .str (S (Mp.sT a b))]) = true :=
      lst_ok (by simp only [PyData.canLayAll0, PyData.canLay0, ok_plain (Mp.sT_lt a2 b2), Bool.and_self]) (by simp only [PyData.depthAll, PyData.depth]; decide)
    refine r_neD (.lst (SqL.of (s4 _ _ upd_same)) (.cons (.int _) (.cons (.int _) (.cons (.int _) (.cons (.bl _) (.cons (.str _) .nil)))))) (.lst (SqL.of upd_same) (.cons (.int _) (.cons (.int _) (.cons (.int _) (.cons (.bl _) (.cons (.str _) .nil)))))) sh5 sh5 ?_
    rw [Me.eqv_same sh5]
    have s5 : Same H _ := fun c o z => s4 _ _ (s3 _ _ (s2 _ _ (s1 c o z)))
    have hS5 := (hS2.mono s3).mono s4
    generalize upd (upd H2 l1 _) l2 _ = H5 at s5 hS5 ⊢
    have k5 : Kp d H H5 := (Kp.refl hd).same s5
    have T5 := Ln.tabs_same hT s5
    walk_at "sx"
    have g1 : 0 < Nat.gcd a b := Nat.gcd_pos_of_pos_left _ (by omega)
    have g2 : Nat.gcd a b ≤ 60 := Nat.le_trans (Nat.gcd_le_left _ (by omega)) a2
    refine r_cutS (fun σ3 H3 => H3 = H5 ∧ σ3 = [some (.ref d), some (.int a), some (.int b), some (.int ((Nat.gcd a b : Nat) : Int)), some (.str (S (Mp.sT a b))), none, none, some (.ref ps)]) (fun nx' k => ?_) ?_
    · refine r_ifs ?_
      walk_at "sx"
      refine ite_d (fun hg => ?_) (fun hg => ?_)
      · walk_at "sx"
        refine rd_half hS5 (.inl ⟨by omega, ?_⟩)
        walk_at "sx"
        · rw [decide_eq_true rfl]
          walk_at "sx"
          exact k _ _ ⟨rfl, rfl⟩
        · exact cdivw (b := 64) (by omega) (by omega) (by decide)
        · exact cmA_r (by omega)
      · walk_at "sx"
        exact k _ _ ⟨rfl, rfl⟩
    rintro σ3 H3 ⟨rfl, rfl⟩
    walk_at "sx"
    refine r_cutS (fun σ3 H' => KpN d H H' ∧ Tabs (tabs T) H' ∧ SlopeAt T.C_Slope H' (.ref ps) a b ∧ σ3 = [some (.ref d), some (.int a), some (.int b), some (.int ((Nat.gcd a b : Nat) : Int)), some (.str (S (Mp.sT a b))), none, none, some (.ref ps)]) (fun nx' k => ?_) ?_
    · refine r_ifs ?_
      walk_at "sx"
      refine ite_d (fun hg => ?_) (fun hg => ?_)
      · walk_at "sx"
        refine ⟨T5, fun H9 e9 T9 => ?_⟩
        unfold TTf
        walk_at "sx"
        have hS9 : SlopeAt T.C_Slope H9 (.ref ps) a b := by
          obtain ⟨h1, p, dx, h2, h3⟩ := hS5
          exact ⟨h1, p, dx, h2, e9 _ _ h3 fun ps z => by cases z⟩
        refine rd_half hS9 (.inr ⟨by omega, fun p hp dd hdd => ?_⟩)
        have sh := short_com _ (show Nat.gcd a b < 61 by omega)
        have sA := same_new (o := .tup [.str "common", .int ((Nat.gcd a b : Nat) : Int)]) hp
        have sB := same_new (o := .xd [(("reason" : Str), .ref p)]) hdd
        have sAB : Same H9 _ := fun c o e => sB _ _ (sA _ _ e)
        refine ⟨⟨_, rfl, T.ma_Refused⟩, .inr (.inr (.inr ⟨rfl, dd, .ref p, _, rfl, upd_same, .of (.tup (SqT.of (sB _ _ upd_same)) (.cons (.str _) (.cons (.int _) .nil))) sh, ?_⟩))⟩
        have tA := Ln.tabs_same T9 sAB
        have kA := ((KpN.of k5).ext e9).same sAB
        have hA := hS9.mono sAB
        generalize upd (upd H9 p _) dd _ = H10 at sAB tA kA hA ⊢
        walk_at "sx"
        refine ⟨sz _ (Nat.le_of_ble_eq_true rfl), fun p2 hp2 => ?_⟩
        have sC := same_new (o := .tup [.str "common", .int ((Nat.gcd a b : Nat) : Int)]) hp2
        refine ⟨.ref p2, _, rfl, .of (.tup (SqT.of upd_same) (.cons (.str _) (.cons (.int _) .nil))) sh, ?_⟩
        refine Sx.r_addS ?_ (by have := sh.fits; show 8 + _ ≤ _; omega)
        walk_at "sx"
        rw [decide_eq_true rfl]
        walk_at "sx"
        exact k _ _ ⟨kA.same sC, Ln.tabs_same tA sC, hA.mono sC, rfl⟩
      · walk_at "sx"
        exact k _ _ ⟨KpN.of k5, T5, hS5, rfl⟩
    rintro σ3 H6 ⟨k6, T6, hS6, rfl⟩
    walk_at "sx"
    refine md_slope hS6 (by decide +kernel) (by decide +kernel) (by decide +kernel) ?_
    walk_at "sx"
    refine ⟨.ref ps, a, b, rfl, hS6, fun u H7 s7 hu => ?_⟩
    have hS7 := hS6.mono s7
    walk_at "sxi"
    refine rd_r hu ?_
    walk_at "sx"
    refine rd_s hu ?_
    walk_at "sx"
    refine ⟨sz _ (Nat.le_of_ble_eq_true rfl), fun l1 hl1 => ?_⟩
    walk_at "sx"
    refine ⟨sz _ (Nat.le_of_ble_eq_true rfl), fun l2 hl2 => ?_⟩
    have s8a := same_new (o := .lst [V.int (b : Int), V.int (a : Int)]) hl1
    have s8b := same_new (o := .lst [V.int (b : Int), V.int (a : Int)]) hl2
    refine ne_same (d := .list [.int b, .int a]) (.lst (SqL.of (s8b _ _ upd_same)) (.cons (.int _) (.cons (.int _) .nil))) (.lst (SqL.of upd_same) (.cons (.int _) (.cons (.int _) .nil))) (sh_lstI (ns := [(b : Int), (a : Int)])) ?_
    have s8 : Same H6 _ := fun c o e => s8b _ _ (s8a _ _ (s7 c o e))
    have hu8 := (hu.mono s8a).mono s8b
    have hS8 := (hS7.mono s8a).mono s8b
    generalize upd (upd H7 l1 _) l2 _ = H8 at s8 hu8 hS8 ⊢
    walk_at "sx"
    refine md_slope hu8 (by decide +kernel) (by decide +kernel) (by decide +kernel) ?_
    walk_at "sx"
    refine ⟨u, b, a, rfl, hu8, fun u2 H9 s9 hu2 => ?_⟩
    have hS9 := hS8.mono s9
    walk_at "sx"
    refine neq_slope hu2 hS9 ?_
    walk_at "sx"
    refine eq_slope (hu8.mono s9) hS9 ?_
    walk_at "sx"
    rw [show decide ((b : Int) = a ∧ (a : Int) = b) = decide ((a : Int) = b) by rw [decide_eq_decide]; omega, decide_eq_true rfl]
    walk_at "sxi"
    refine ⟨rfl, ?_⟩
    walk_at "sx"
    refine ⟨.str (S (Mp.sT a b)), rfl, .inr ⟨_, rfl, Nat.le_trans Mp.sT_len (by decide), Mp.sT_lt a2 b2, .inr ⟨a, b, ⟨a1, a2⟩, ⟨b1, b2⟩, rfl, fun sv2 H10 s10 hv2 => ?_⟩⟩⟩
    have hS10 := hS9.mono s10
    walk_at "sx"
    refine neq_slope hv2 hS10 ?_
    walk_at "sx"
    obtain ⟨hb10, ps', dx10, e10, es10⟩ := id hS10
    cases e10
    refine ⟨ps, dx10, _, _, rfl, es10, .base (.str _), T.of_Slope_str, .inr ⟨.ref ps, _, _, a, b, rfl, hS10, .base (.str _), T.ot_Slope_str, ?_⟩⟩
    walk_at "sx"
    refine ⟨sz _ (Nat.le_of_ble_eq_true rfl), fun tp htp => ?_⟩
    have s11 := same_new (o := .tup [V.int (a : Int), V.int (b : Int)]) htp
    have ht11 : (upd H10 tp (.tup [V.int (a : Int), V.int (b : Int)])) tp = some (.tup [V.int (a : Int), V.int (b : Int)]) := upd_same
    generalize upd H10 tp (.tup [V.int (a : Int), V.int (b : Int)]) = H11 at s11 ht11 ⊢
    have hS11 := hS10.mono s11
    refine ⟨ps, dx10, _, _, rfl, s11 _ _ es10, .base (.tup ht11), T.of_Slope_tuple, .inr ⟨.ref ps, _, _, a, b, rfl, hS11, .base (.tup ht11), T.ot_Slope_tuple, ?_⟩⟩
    have sX : Same H6 H11 := fun c o e => s11 _ _ (s10 _ _ (s9 _ _ (s8 c o e)))
    have k11 := k6.same sX
    walk_at "sx"
    refine ⟨d, a, b, rfl, k11.d1, ⟨a1, a2⟩, ⟨b1, b2⟩, Ln.tabs_same T6 sX, fun H12 k12 T12 => ?_⟩
    have hS12 : SlopeAt T.C_Slope H12 (.ref ps) a b := by
      obtain ⟨h1, p, dx, h2, h3⟩ := hS11
      exact ⟨h1, p, dx, h2, k12.k _ _ (fun z => by
        obtain ⟨x, y, z', hdd⟩ := k11.d1
        rw [z, hdd] at h3; cases h3) (fun ps z => by cases z) h3⟩
    walk_at "sx"
    refine ⟨d, 60, rfl, k12.d1, by decide, by decide, fun fp x y H13 x1 x2 y1 y2 k13 hfp => ?_⟩
    have hS13 := hS12.kp k13
    walk_at "sx"
    refine r_ixT hfp (v := .int x) rfl ?_
    walk_at "sx"
    refine r_ixT hfp (v := .int y) rfl ?_
    walk_at "sx"
    refine mk_slope (a := x) (b := y) ⟨x1, x2, y1, y2⟩ (fun w H14 s14 hw => ?_)
    walk_at "sx"
    refine eq_slope hw (hS13.mono s14) ?_
    walk_at "sx"
    refine ⟨sz _ (Nat.le_of_ble_eq_true rfl), fun t2 ht2 => ?_⟩
    have s15 := same_new (o := .tup [V.int (a : Int), V.int (b : Int)]) ht2
    refine r_eqD (.tup (SqT.of (s15 _ _ (s14 _ _ hfp))) (.cons (.int x) (.cons (.int y) .nil))) (.tup (SqT.of upd_same) (.cons (.int a) (.cons (.int b) .nil))) (sh_tupI (ns := [x, y])) (sh_tupI (ns := [(a : Int), (b : Int)])) ?_
    rw [show PyData.eqv (.tuple [.int x, .int y]) (.tuple [.int (a : Int), .int (b : Int)]) = decide (x = a ∧ y = b) by
      simp only [PyData.eqv, PyData.eqvAll, Bool.and_true]
      by_cases h1 : x = a <;> by_cases h2 : y = b <;> simp [h1, h2]]
    walk_at "sx"
    rw [decide_eq_true rfl]
    exact q _ (((k11.trans k12).kp k13).same fun c o e => s15 _ _ (s14 c o e)) (Ln.tabs_same (Ln.tabs_kp T12 k12.d1 k13) fun c o e => s15 _ _ (s14 c o e))
end
end Lw

namespace Lw
open PySem PySem.Spec PyProof.Rows L2 Sx Sy Sw Mw Me
open En (NoNum)
open Ln (KpN)
open LamX (Tabs TabB ExtN)
open SX (S)
open C8 (pe_gc)
open SkE (call_repr_int call_str_str)
open RZ (pi_zipA)
section
variable {P : Program} {w : World} {K : PySem.W.Frag} {mg : Str → Option Value} {base : Heap}
def sp_law_errors_right (T : Tx K mg) : Sp := fun vs H Q _ => ∃ (d : Addr), vs = [.ref d] ∧ Dice H d ∧ Tabs (tabs T) H ∧ ∀ H', KpN d H H' → Tabs (tabs T) H' → Q (.bl true) H'
/-- no number of a slope, shown as a text, whatever comes beside -/
def Odd (K : PySem.W.Frag) (d : Addr) (H : Hp) (x : V) (t : Str) : Prop := (∀ H', KpN d H H' → Rp.Shw K H' x t) ∧ (∀ H', KpN d H H' → NoSide K H' x) ∧ PyData.strOk (("number " : Str) ++ t) = true
section
variable {d p : Addr} {H : Hp}
theorem odd_int {i : Int} (h1 : ¬ (1 ≤ i ∧ i ≤ 60)) (h2 : i.natAbs < 2 ^ 200) (h3 : PyData.strOk (("number " : Str) ++ (PyData.int i).shown) = true) : ∃ t, Odd K d H (.int i) t := ⟨_, fun H' _ => .of (.int i) (short_int h2), fun H' _ => .inl ⟨i, rfl, h1⟩, h3⟩
theorem odd_non : ∃ t, Odd K d H .non t := ⟨_, fun H' _ => .of .non (short_by (by decide +kernel) (by decide +kernel) (by decide +kernel) (by decide +kernel)), fun H' _ => .inr En.noNum_none, by decide +kernel⟩
theorem odd_bl : ∃ t, Odd K d H (.bl true) t := ⟨_, fun H' _ => .of (.bl true) (short_by (by decide +kernel) (by decide +kernel) (by decide +kernel) (by decide +kernel)), fun H' _ => .inr (En.noNum_bl _), by decide +kernel⟩
theorem odd_str : ∃ t, Odd K d H (.str "3") t := ⟨_, fun H' _ => .of (.str "3") (short_by (by decide +kernel) (by decide +kernel) (by decide +kernel) (by decide +kernel)), fun H' _ => .inr (En.noNum_str _), by decide +kernel⟩
theorem odd_tup (h : H p = some (.tup [.int 3])) (n : p ≠ d) : ∃ t, Odd K d H (.ref p) t := ⟨_, fun H' e => .of (d := .tuple [.int 3]) (.tup (SqT.of (e.at_ h n fun ps z => by cases z)) (.cons (.int 3) .nil)) (short_by (by decide +kernel) (by decide +kernel) (by decide +kernel) (by decide +kernel)), fun H' e => .inr (En.noNum_tup (e.at_ h n fun ps z => by cases z)), by decide +kernel⟩
theorem odd_lst (h : H p = some (.lst [])) (n : p ≠ d) : ∃ t, Odd K d H (.ref p) t := ⟨_, fun H' e => .of (d := .list []) (.lst (SqL.of (e.at_ h n fun ps z => by cases z)) .nil) (short_by (by decide +kernel) (by decide +kernel) (by decide +kernel) (by decide +kernel)), fun H' e => .inr (En.noNum_lst (e.at_ h n fun ps z => by cases z)), by decide +kernel⟩
theorem odd_dK (h : H p = some (.dK [])) (n : p ≠ d) : ∃ t, Odd K d H (.ref p) t := ⟨_, fun H' e => .inr ⟨p, rfl, e.at_ h n fun ps z => (by cases z), rfl⟩, fun H' e => .inr (En.noNum_dK (e.at_ h n fun ps z => by cases z)), by decide +kernel⟩
end
theorem ok_law_errors_right (T : Tx K mg) (TB : TabBs T base mg) : En.FnG P w K mg base CX0 9 T.a_law_errors_right T.d_law_errors_right ["_law_dice_here"] (sp_law_errors_right T) := by
  refine En.fnG T.F_law_errors_right sc_law_errors_right (fun vs H Q E h => ?_) (fun cdv A outer s H vs Q E hcd hgd hr h => ?_)
  · obtain ⟨d, rfl, _⟩ := h; rfl
  · have hcq : (envOfC ("_law_errors_right" : Str) (defScope st_law_errors_right) s.heap.objs.size T.a_law_errors_right cdv).code = .ref T.cc_law_errors_right := hcd.symm.trans T.cq_law_errors_right
    obtain ⟨d, rfl, hd, hT, q⟩ := h
    refine ⟨_, (pss_cons (ps_set (i := 1) sc_law_errors_right.nd rfl (.inl rfl) (pe_lst (pa_cons pe_non (pa_cons pe_int (pa_cons pe_int (pa_cons (pe_un un_neg pe_int) (pa_cons pe_bl (pa_cons pe_str (pa_cons (pe_tup (pa_cons pe_int pa_nil)) (pa_cons (pe_op op_pow pe_int pe_int) (pa_cons (pe_un un_neg (pe_op op_pow pe_int pe_int)) (pa_cons (pe_lst pa_nil) (pa_cons pe_dnewK pa_nil)))))))))))))
      (pss_cons (ps_asg (pe_tup (pa_cons (pe_call (ok_law_pick T) (hr.mono (by decide)) (by rfl) T.g_law_pick T.F_law_pick.kp T.b_law_pick .nil pass0 (pa_cons (pv 0) (pa_cons (pv 1) pa_nil))) (pa_cons (pe_call (ok_law_pick T) (hr.mono (by decide)) (by rfl) T.g_law_pick T.F_law_pick.kp T.b_law_pick .nil pass0 (pa_cons (pv 0) (pa_cons (pv 1) pa_nil))) pa_nil))) (pg_tup rfl (pgs_cons (pg_name (i := 3) sc_law_errors_right.nd rfl (.inr rfl)) (pgs_cons (pg_name (i := 4) sc_law_errors_right.nd rfl (.inr rfl)) pgs_nil))))
      (pss_cons (ps_set (i := 2) sc_law_errors_right.nd rfl (.inl rfl) (pe_lst (pa_cons (En.pe_lam (T := tabs T) T.F_law_first_fault T.g_law_first_fault T.b_law_first_fault sc_law_first_fault (fun cdv2 => gives_law_first_fault (X := (cxOf CX0 P w K mg base N_law_errors_right "_law_errors_right" (defScope st_law_errors_right) T.a_law_errors_right cdv A outer s H E).nox) T hgd (Nat.lt_of_le_of_lt (Nat.add_le_add_right (Nat.le_add_right _ _) 200) hr.un) cdv2) (TB.2.2) hcq (tb_mem_law_errors_right T) (tb_uni_law_errors_right T) hr (LamX.lamS_by (by show LamX.lamSB (defScope st_law_errors_right) _ = true; decide +kernel)) (fun A outer s H E f c' hr => (pe_make T.mk_Slope (ok_Slope_init T) (hr.mono (by decide)) (by rfl) T.g_Slope T.b_Slope_init .nil (passes_call (E := E) (W := fun cls d _ H => E cls d H) (takes_of rfl rfl rfl rfl) (fun _ _ _ _ h => h)) (pa_cons (pv 3) (pa_cons (pv 4) pa_nil))))) pa_nil)))
      (pss_cons (ps_expr (pe_bm PySem.F.plainAttrs_list PySem.F.slot_list_append PySem.F.type_list_append mt_append (pv 2) (pa_cons (En.pe_lam (T := tabs T) T.F_law_first_fault T.g_law_first_fault T.b_law_first_fault sc_law_first_fault (fun cdv2 => gives_law_first_fault (X := (cxOf CX0 P w K mg base N_law_errors_right "_law_errors_right" (defScope st_law_errors_right) T.a_law_errors_right cdv A outer s H E).nox) T hgd (Nat.lt_of_le_of_lt (Nat.add_le_add_right (Nat.le_add_right _ _) 200) hr.un) cdv2) (TB.2.2) hcq (tb_mem_law_errors_right T) (tb_uni_law_errors_right T) hr (LamX.lamS_by (by show LamX.lamSB (defScope st_law_errors_right) _ = true; decide +kernel)) (fun A outer s H E f c' hr => (pe_make T.mk_Slope (ok_Slope_init T) (hr.mono (by decide)) (by rfl) T.g_Slope T.b_Slope_init .nil (passes_call (E := E) (W := fun cls d _ H => E cls d H) (takes_of rfl rfl rfl rfl) (fun _ _ _ _ h => h)) (pa_cons pe_int (pa_cons (pv 4) pa_nil))))) pa_nil)))
      (pss_cons (ps_expr (pe_bm PySem.F.plainAttrs_list PySem.F.slot_list_append PySem.F.type_list_append mt_append (pv 2) (pa_cons (En.pe_lam (T := tabs T) T.F_law_first_fault T.g_law_first_fault T.b_law_first_fault sc_law_first_fault (fun cdv2 => gives_law_first_fault (X := (cxOf CX0 P w K mg base N_law_errors_right "_law_errors_right" (defScope st_law_errors_right) T.a_law_errors_right cdv A outer s H E).nox) T hgd (Nat.lt_of_le_of_lt (Nat.add_le_add_right (Nat.le_add_right _ _) 200) hr.un) cdv2) (TB.2.2) hcq (tb_mem_law_errors_right T) (tb_uni_law_errors_right T) hr (LamX.lamS_by (by show LamX.lamSB (defScope st_law_errors_right) _ = true; decide +kernel)) (fun A outer s H E f c' hr => (pe_make T.mk_Slope (ok_Slope_init T) (hr.mono (by decide)) (by rfl) T.g_Slope T.b_Slope_init .nil (passes_call (E := E) (W := fun cls d _ H => E cls d H) (takes_of rfl rfl rfl rfl) (fun _ _ _ _ h => h)) (pa_cons (pv 3) (pa_cons pe_int pa_nil))))) pa_nil)))
      (pss_cons (ps_set (i := 5) sc_law_errors_right.nd rfl (.inr rfl) (pe_call (ok_law_pick T) (hr.mono (by decide)) (by rfl) T.g_law_pick T.F_law_pick.kp T.b_law_pick .nil pass0 (pa_cons (pv 0) (pa_cons (pe_lst (pa_cons pe_non (pa_cons pe_int (pa_cons (pe_tup (pa_cons pe_str pa_nil)) (pa_cons (pe_lst (pa_cons pe_str pa_nil)) (pa_cons pe_dnewK (pa_cons pe_bl pa_nil))))))) pa_nil))))
      (pss_cons (ps_expr (pe_bm PySem.F.plainAttrs_list PySem.F.slot_list_append PySem.F.type_list_append mt_append (pv 2) (pa_cons (En.pe_lam (T := tabs T) T.F_law_first_fault T.g_law_first_fault T.b_law_first_fault sc_law_first_fault (fun cdv2 => gives_law_first_fault (X := (cxOf CX0 P w K mg base N_law_errors_right "_law_errors_right" (defScope st_law_errors_right) T.a_law_errors_right cdv A outer s H E).nox) T hgd (Nat.lt_of_le_of_lt (Nat.add_le_add_right (Nat.le_add_right _ _) 200) hr.un) cdv2) (TB.2.2) hcq (tb_mem_law_errors_right T) (tb_uni_law_errors_right T) hr (LamX.lamS_by (by show LamX.lamSB (defScope st_law_errors_right) _ = true; decide +kernel)) (fun A outer s H E f c' hr => (ClX.pe_cmeth (pe_glob (v := .ref T.C_Slope) (by rfl) T.g_Slope rfl) T.cr_Slope T.cm_Slope_of_text ((ok_Slope_of_text T).raw T.b_Slope_of_text .nil) (hr.mono (by decide)) (passes_call (E := E) (W := fun cls d _ H => E cls d H) (takes_of rfl rfl rfl rfl) (fun _ _ _ _ h => h)) (pa_cons (pv 5) pa_nil)))) pa_nil)))
      (pss_one (ps_ret (pe_cmpR (op_eqD hr.units) (pv 2) (pe_lst (pa_cons (pe_op Sx.o_addS pe_str (pe_callB (show CallR _ _ (Rp.qReprX K) from Rp.c_reprX hgd (Nat.lt_of_le_of_lt (Nat.add_le_add (Nat.le_add_right _ _) (by decide : 64 ≤ 200)) hr.un)) (by rfl) T.n_repr Sx.bt_repr (pa_cons (pv 3) pa_nil))) (pa_cons (pe_op Sx.o_addS pe_str (pe_callB (show CallR _ _ (Rp.qReprX K) from Rp.c_reprX hgd (Nat.lt_of_le_of_lt (Nat.add_le_add (Nat.le_add_right _ _) (by decide : 64 ≤ 200)) hr.un)) (by rfl) T.n_repr Sx.bt_repr (pa_cons (pv 4) pa_nil))) (pa_cons (pe_op Sx.o_addS pe_str (pe_callB (show CallR _ _ (Rp.qReprX K) from Rp.c_reprX hgd (Nat.lt_of_le_of_lt (Nat.add_le_add (Nat.le_add_right _ _) (by decide : 64 ≤ 200)) hr.un)) (by rfl) T.n_repr Sx.bt_repr (pa_cons (pv 3) pa_nil))) (pa_cons pe_str pa_nil))))) (nomark _))))))))))), ?_⟩
    refine Sx.r_st (σ' := [some (.ref d), none, none, none, none, none]) rfl ?_
    walk_at "sx"
    refine ⟨sz _ (Nat.le_of_ble_eq_true rfl), fun p1 hp1 => ?_⟩
    walk_at "sx"
    refine ⟨sz _ (Nat.le_of_ble_eq_true rfl), fun p2 hp2 => ?_⟩
    walk_at "sx"
    rotate_left
    · exact ⟨by decide, by decide⟩
    · exact ⟨by decide, by decide⟩
    intro p3 hp3
    walk_at "sx"
    refine ⟨sz _ (Nat.le_of_ble_eq_true rfl), fun g hg => ?_⟩
    obtain ⟨xs, hxs⟩ : ∃ xs : List V, [V.non, V.int 0, V.int 61, V.int (-1), V.bl true, V.str "3", V.ref p1, V.int (10 ^ Int.toNat 60), V.int (-10 ^ Int.toNat 59), V.ref p2, V.ref p3] = xs := ⟨_, rfl⟩
    have t1 : (upd H p1 (.tup [.int 3])) p1 = some (.tup [.int 3]) := upd_same
    have s1 : Same H (upd H p1 (.tup [.int 3])) := same_new hp1
    generalize upd H p1 (.tup [.int 3]) = H1 at t1 s1 hp2 hp3 hg ⊢
    have t2 : (upd H1 p2 (.lst [])) p2 = some (.lst []) := upd_same
    have s2 : Same H1 (upd H1 p2 (.lst [])) := same_new hp2
    generalize upd H1 p2 (.lst []) = H2 at t2 s2 hp3 hg ⊢
    have t3 : (upd H2 p3 (.dK [])) p3 = some (.dK []) := upd_same
    have s3 : Same H2 (upd H2 p3 (.dK [])) := same_new hp3
    generalize upd H2 p3 (.dK []) = H3 at t3 s3 hg ⊢
    rw [hxs]
    have g4 : (upd H3 g (.lst xs)) g = some (.lst xs) := upd_same
    have s4 : Same H3 (upd H3 g (.lst xs)) := same_new hg
    generalize upd H3 g (.lst xs) = H4 at g4 s4 ⊢
    have sH : Same H H4 := fun c o e => s4 _ _ (s3 _ _ (s2 _ _ (s1 c o e)))
    have n1 : p1 ≠ d := by
      obtain ⟨x, y, z, h⟩ := hd
      rintro rfl; rw [s1 _ _ h] at t1; cases t1
    have n2 : p2 ≠ d := by
      obtain ⟨x, y, z, h⟩ := hd
      rintro rfl; rw [s2 _ _ (s1 _ _ h)] at t2; cases t2
    have n3 : p3 ≠ d := by
      obtain ⟨x, y, z, h⟩ := hd
      rintro rfl; rw [s3 _ _ (s2 _ _ (s1 _ _ h))] at t3; cases t3
    have hall : ∀ x ∈ xs, ∃ t, Odd K d H4 x t := by
      intro x hx
      rw [← hxs] at hx
      simp only [List.mem_cons, List.not_mem_nil, or_false] at hx
      rcases hx with rfl | rfl | rfl | rfl | rfl | rfl | rfl | rfl | rfl | rfl | rfl
      · exact odd_non
      · exact odd_int (by decide) (by decide) (by decide +kernel)
      · exact odd_int (by decide) (by decide) (by decide +kernel)
      · exact odd_int (by decide) (by decide) (by decide +kernel)
      · exact odd_bl
      · exact odd_str
      · exact odd_tup (s4 _ _ (s3 _ _ (s2 _ _ t1))) n1
      · exact odd_int (by decide +kernel) (by decide +kernel) (by decide +kernel)
      · exact odd_int (by decide +kernel) (by decide +kernel) (by decide +kernel)
      · exact odd_lst (s4 _ _ (s3 _ _ t2)) n2
      · exact odd_dK (s4 _ _ t3) n3
    have lx : xs.length = 11 := by rw [← hxs]; rfl
    have hd4 : Dice H4 d := by
      obtain ⟨x, y, z, h⟩ := hd
      exact ⟨x, y, z, sH _ _ h⟩
    have gd : g ≠ d := by
      obtain ⟨x, y, z, h⟩ := hd
      exact (ne_of_none (s3 _ _ (s2 _ _ (s1 _ _ h))) hg).symm
    walk_at "sx"
    refine .inl ⟨d, g, xs, rfl, hd4, gd, g4, by rw [lx]; decide, by rw [lx]; decide, fun one H5 h1 k5 => ?_⟩
    walk_at "sx"
    refine .inl ⟨d, g, xs, rfl, k5.d1, gd, k5.k _ _ gd g4, by rw [lx]; decide, by rw [lx]; decide, fun oth H6 h2 k6 => ?_⟩
    obtain ⟨w1, o1⟩ := hall one h1
    obtain ⟨w2, o2⟩ := hall oth h2
    walk_at "sx"
    refine ⟨sz _ (Nat.le_of_ble_eq_true rfl), fun tp htp => ?_⟩
    have s7 := same_new (o := .tup [one, oth]) htp
    refine r_gtup upd_same rfl ?_
    generalize upd H6 tp (.tup [one, oth]) = H7 at s7 ⊢
    have k7 : KpN d H4 H7 := (KpN.of (k5.trans k6)).same s7
    have T7 : Tabs (tabs T) H7 := Ln.tabs_same (Ln.tabs_kp (Ln.tabs_kp (Ln.tabs_same hT sH) hd4 k5) k5.d1 k6) s7
    walk_at "sx"
    -- the first one
    refine ⟨T7, fun H8 e8 T8 => ?_⟩
    unfold TTf
    walk_at "sx"
    have k8 := k7.ext e8
    refine no_slope1 (o1.2.1 _ k8) (fun H9 s9 dd hdd => ?_)
    have s10 : Same H8 (upd H9 dd (.xd [(("value" : Str), one)])) := fun c o e => same_new hdd _ _ (s9 _ _ e)
    have k10 := k8.same s10
    have T10 := Ln.tabs_same T8 s10
    refine .inl ⟨rfl, dd, one, w1, rfl, upd_same, o1.1 _ k10, ?_⟩
    generalize upd H9 dd (.xd [(("value" : Str), one)]) = H10 at s10 k10 T10 ⊢
    walk_at "sx"
    refine ⟨sz _ (Nat.le_of_ble_eq_true rfl), fun tl htl => ?_⟩
    have f10 : tl ≠ d := by
      obtain ⟨x, y, z, h⟩ := k10.d1
      exact (ne_of_none h htl).symm
    have g11 : (upd H10 tl (.lst [.str (("number " : Str) ++ w1)])) tl = some (.lst [.str (("number " : Str) ++ w1)]) := upd_same
    have k11 : KpN d H4 (upd H10 tl (.lst [.str (("number " : Str) ++ w1)])) := k10.same (same_new htl)
    have T11 : Tabs (tabs T) (upd H10 tl (.lst [.str (("number " : Str) ++ w1)])) := Ln.tabs_same T10 (same_new htl)
    generalize upd H10 tl (.lst [.str (("number " : Str) ++ w1)]) = H11 at g11 k11 T11 ⊢
    -- the second one
    walk_at "sx"
    refine ⟨tyL g11, ?_⟩
    walk_at "sx"
    refine ⟨T11, fun H12 e12 T12 => ?_⟩
    walk_at "sx"
    have k12 := k11.ext e12
    refine no_slope2 (a := 7) (by decide) (o2.2.1 _ k12) (fun H13 s13 dd2 hdd2 => ?_)
    have s14 : Same H12 (upd H13 dd2 (.xd [(("value" : Str), oth)])) := fun c o e => same_new hdd2 _ _ (s13 _ _ e)
    have k14 := k12.same s14
    have T14 := Ln.tabs_same T12 s14
    have g14 := s14 _ _ (e12 _ _ g11 fun ps z => by cases z)
    refine .inl ⟨rfl, dd2, oth, w2, rfl, upd_same, o2.1 _ k14, ?_⟩
    generalize upd H13 dd2 (.xd [(("value" : Str), oth)]) = H14 at s14 k14 T14 g14 ⊢
    walk_at "sx"
    refine r_app g14 ?_ (show 1 < sizeLine by decide)
    have k15 : KpN d H4 (upd H14 tl (.lst ([.str (("number " : Str) ++ w1)] ++ [.str (("number " : Str) ++ w2)]))) := Ln.kpn_mut2 k10 htl k14
    have T15 : Tabs (tabs T) (upd H14 tl (.lst ([.str (("number " : Str) ++ w1)] ++ [.str (("number " : Str) ++ w2)]))) := Ln.tabs_mut T14 g14
    have g15 : (upd H14 tl (.lst ([.str (("number " : Str) ++ w1)] ++ [.str (("number " : Str) ++ w2)]))) tl = some (.lst [.str (("number " : Str) ++ w1), .str (("number " : Str) ++ w2)]) := upd_same
    generalize upd H14 tl (.lst ([.str (("number " : Str) ++ w1)] ++ [.str (("number " : Str) ++ w2)])) = H15 at k15 T15 g15 ⊢
    -- the third one
    walk_at "sx"
    refine ⟨tyL g15, ?_⟩
    walk_at "sx"
    refine ⟨T15, fun H16 e16 T16 => ?_⟩
    walk_at "sx"
    have k16 := k15.ext e16
    refine no_slope1 (o1.2.1 _ k16) (fun H17 s17 dd3 hdd3 => ?_)
    have s18 : Same H16 (upd H17 dd3 (.xd [(("value" : Str), one)])) := fun c o e => same_new hdd3 _ _ (s17 _ _ e)
    have k18 := k16.same s18
    have T18 := Ln.tabs_same T16 s18
    have g18 := s18 _ _ (e16 _ _ g15 fun ps z => by cases z)
    refine .inl ⟨rfl, dd3, one, w1, rfl, upd_same, o1.1 _ k18, ?_⟩
    generalize upd H17 dd3 (.xd [(("value" : Str), one)]) = H18 at s18 k18 T18 g18 ⊢
    walk_at "sx"
    refine r_app g18 ?_ (show 2 < sizeLine by decide)
    have k19 : KpN d H4 (upd H18 tl (.lst ([.str (("number " : Str) ++ w1), .str (("number " : Str) ++ w2)] ++ [.str (("number " : Str) ++ w1)]))) := Ln.kpn_mut2 k10 htl k18
    have T19 : Tabs (tabs T) (upd H18 tl (.lst ([.str (("number " : Str) ++ w1), .str (("number " : Str) ++ w2)] ++ [.str (("number " : Str) ++ w1)]))) := Ln.tabs_mut T18 g18
    have g19 : (upd H18 tl (.lst ([.str (("number " : Str) ++ w1), .str (("number " : Str) ++ w2)] ++ [.str (("number " : Str) ++ w1)]))) tl = some (.lst [.str (("number " : Str) ++ w1), .str (("number " : Str) ++ w2), .str (("number " : Str) ++ w1)]) := upd_same
    generalize upd H18 tl (.lst ([.str (("number " : Str) ++ w1), .str (("number " : Str) ++ w2)] ++ [.str (("number " : Str) ++ w1)])) = H19 at k19 T19 g19 ⊢
    -- no text
    walk_at "sx"
    refine ⟨sz _ (Nat.le_of_ble_eq_true rfl), fun q1 hq1 => ?_⟩
    walk_at "sx"
    refine ⟨sz _ (Nat.le_of_ble_eq_true rfl), fun q2 hq2 => ?_⟩
    walk_at "sx"
    intro q3 hq3
    walk_at "sx"
    refine ⟨sz _ (Nat.le_of_ble_eq_true rfl), fun q4 hq4 => ?_⟩
    have c1 : (upd H19 q1 (.tup [.str "3:5"])) q1 = some (.tup [.str "3:5"]) := upd_same
    have s20 : Same H19 (upd H19 q1 (.tup [.str "3:5"])) := same_new hq1
    generalize upd H19 q1 (.tup [.str "3:5"]) = H20 at c1 s20 hq2 hq3 hq4 ⊢
    have c2 : (upd H20 q2 (.lst [.str "3:5"])) q2 = some (.lst [.str "3:5"]) := upd_same
    have s21 : Same H20 (upd H20 q2 (.lst [.str "3:5"])) := same_new hq2
    generalize upd H20 q2 (.lst [.str "3:5"]) = H21 at c2 s21 hq3 hq4 ⊢
    have c3 : (upd H21 q3 (.dK [])) q3 = some (.dK []) := upd_same
    have s22 : Same H21 (upd H21 q3 (.dK [])) := same_new hq3
    generalize upd H21 q3 (.dK []) = H22 at c3 s22 hq4 ⊢
    have s23 : Same H22 (upd H22 q4 (.lst [.non, .int 3, .ref q1, .ref q2, .ref q3, .bl true])) := same_new hq4
    have c4 : (upd H22 q4 (.lst [.non, .int 3, .ref q1, .ref q2, .ref q3, .bl true])) q4 = some (.lst [.non, .int 3, .ref q1, .ref q2, .ref q3, .bl true]) := upd_same
    have dz : ∀ {q : Addr} {Hq : Hp}, Same H19 Hq → Hq q = none → q ≠ d := by
      intro q Hq sq hq
      obtain ⟨x, y, z, h⟩ := k19.d1
      exact (ne_of_none (sq _ _ h) hq).symm
    have n4 : q4 ≠ d := dz (fun c o e => s22 _ _ (s21 _ _ (s20 c o e))) hq4
    have m1 : q1 ≠ d := dz (Same.refl H19) hq1
    have m2 : q2 ≠ d := dz s20 hq2
    have m3 : q3 ≠ d := dz (fun c o e => s21 _ _ (s20 c o e)) hq3
    have s24 : Same H19 (upd H22 q4 (.lst [.non, .int 3, .ref q1, .ref q2, .ref q3, .bl true])) := fun c o e => s23 _ _ (s22 _ _ (s21 _ _ (s20 c o e)))
    generalize upd H22 q4 (.lst [.non, .int 3, .ref q1, .ref q2, .ref q3, .bl true]) = H24 at s23 c4 s24 ⊢
    have k24 := k19.same s24
    have T24 := Ln.tabs_same T19 s24
    walk_at "sx"
    refine .inl ⟨d, q4, _, rfl, k24.d1, n4, c4, by show 0 < 6; decide, by show 6 ≤ 1000; decide, fun x H25 hx k25' => ?_⟩
    have k25 := k24.kp k25'
    have T25 := Ln.tabs_kp T24 k24.d1 k25'
    have g25 : H25 tl = _ := k25'.k _ _ f10 (s24 _ _ g19)
    have c1' : H25 q1 = _ := k25'.k _ _ m1 (s23 _ _ (s22 _ _ (s21 _ _ c1)))
    have c2' : H25 q2 = _ := k25'.k _ _ m2 (s23 _ _ (s22 _ _ c2))
    have c3' : H25 q3 = _ := k25'.k _ _ m3 (s23 _ _ c3)
    have hx : ∀ H', ExtN H25 H' → NoStr K H' x := by
      intro H' e
      simp only [List.mem_cons, List.not_mem_nil, or_false] at hx
      rcases hx with rfl | rfl | rfl | rfl | rfl | rfl
      · exact ⟨_, .base .non, by rfl⟩
      · exact ⟨_, .base (.int 3), by rfl⟩
      · exact ⟨_, .base (.tup (e _ _ c1' fun ps z => by cases z)), by rfl⟩
      · exact ⟨_, .base (.lst (e _ _ c2' fun ps z => by cases z)), by rfl⟩
      · exact ⟨_, .base (.dK (e _ _ c3' fun ps z => by cases z)), by rfl⟩
      · exact ⟨_, .base (.bl true), by rfl⟩
    walk_at "sx"
    refine ⟨tyL g25, ?_⟩
    walk_at "sx"
    refine ⟨T25, fun H26 e26 T26 => ?_⟩
    walk_at "sx"
    have k26 := k25.ext e26
    have g26 := e26 _ _ g25 fun ps z => by cases z
    refine ⟨rfl, ?_⟩
    walk_at "sx"
    refine ⟨x, rfl, .inl ⟨hx _ e26, ?_⟩⟩
    refine .inr (.inl ⟨rfl, ?_⟩)
    walk_at "sx"
    refine r_app g26 ?_ (show 3 < sizeLine by decide)
    have k27 : KpN d H4 (upd H26 tl (.lst ([V.str (("number " : Str) ++ w1), V.str (("number " : Str) ++ w2), V.str (("number " : Str) ++ w1)] ++ [V.str "text"]))) := Ln.kpn_mut2 k10 htl k26
    have T27 : Tabs (tabs T) (upd H26 tl (.lst ([V.str (("number " : Str) ++ w1), V.str (("number " : Str) ++ w2), V.str (("number " : Str) ++ w1)] ++ [V.str "text"]))) := Ln.tabs_mut T26 g26
    have g27 : (upd H26 tl (.lst ([V.str (("number " : Str) ++ w1), V.str (("number " : Str) ++ w2), V.str (("number " : Str) ++ w1)] ++ [V.str "text"]))) tl = some (.lst [V.str (("number " : Str) ++ w1), V.str (("number " : Str) ++ w2), V.str (("number " : Str) ++ w1), V.str "text"]) := upd_same
    generalize upd H26 tl (.lst ([V.str (("number " : Str) ++ w1), V.str (("number " : Str) ++ w2), V.str (("number " : Str) ++ w1)] ++ [V.str "text"])) = H27 at k27 T27 g27 ⊢
    walk_at "sx"
    refine ⟨one, w1, rfl, o1.1 _ k27, ?_⟩
    refine Sx.r_addS ?_ (by have := (o1.1 _ k27).fits; show 7 + _ ≤ _; omega)
    walk_at "sx"
    refine ⟨oth, w2, rfl, o2.1 _ k27, ?_⟩
    refine Sx.r_addS ?_ (by have := (o2.1 _ k27).fits; show 7 + _ ≤ _; omega)
    walk_at "sx"
    refine ⟨one, w1, rfl, o1.1 _ k27, ?_⟩
    refine Sx.r_addS ?_ (by have := (o1.1 _ k27).fits; show 7 + _ ≤ _; omega)
    walk_at "sx"
    refine ⟨sz _ (Nat.le_of_ble_eq_true rfl), fun l2 hl2 => ?_⟩
    have s28 := same_new (o := .lst [V.str (("number " : Str) ++ w1), V.str (("number " : Str) ++ w2), V.str (("number " : Str) ++ w1), V.str "text"]) hl2
    have sh : SeqAt.shaped (.list [.str (("number " : Str) ++ w1), .str (("number " : Str) ++ w2), .str (("number " : Str) ++ w1), .str "text"]) = true :=
      lst_ok (by simp only [PyData.canLayAll0, PyData.canLay0, o1.2.2, o2.2.2, Bool.and_self, Bool.true_and]; decide +kernel) (by simp only [PyData.depthAll, PyData.depth]; decide)
    refine eq_same (d := .list [.str (("number " : Str) ++ w1), .str (("number " : Str) ++ w2), .str (("number " : Str) ++ w1), .str "text"]) (.lst (SqL.of (s28 _ _ g27)) (.cons (.str _) (.cons (.str _) (.cons (.str _) (.cons (.str _) .nil))))) (.lst (SqL.of upd_same) (.cons (.str _) (.cons (.str _) (.cons (.str _) (.cons (.str _) .nil))))) sh ?_
    have kZ : KpN d H H4 := KpN.of ⟨fun c o n e => sH _ _ e, hd, hd4⟩
    exact q _ ((kZ.trans k27).same s28) (Ln.tabs_same T27 s28)
end
end Lw

namespace Lw
open PySem PySem.Spec PyProof.Rows L2 Sx Sy Sw Mw Me
open En (NoNum)
open Ln (KpN)
open LamX (Tabs TabB ExtN)
open SX (S)
open C8 (pe_gc)
open SkE (call_repr_int call_str_str)
open RZ (pi_zipA)
section
variable {P : Program} {w : World} {K : PySem.W.Frag} {mg : Str → Option Value} {base : Heap}
def spLaw (K : PySem.W.Frag) (T : Tx K mg) : Sp := fun vs H Q _ => ∃ (a : Addr) (ns : List Int), vs = [.ref a] ∧ SqL K H a (ns.map V.int) ∧ ns.length ≤ 63 ∧ Tabs (tabs T) H ∧ ∀ H', Q (.bl true) H'
theorem ok_law (T : Tx K mg) (TB : TabBs T base mg) : En.FnG P w K mg base CX0 11 T.a_law T.d_law ["_law_script"] (spLaw K T) := by
  refine En.fnG T.F_law sc_law (fun vs H Q E h => ?_) (fun cdv A outer s H vs Q E hcd hgd hr h => ?_)
  · obtain ⟨a, ns, rfl, _⟩ := h; rfl
  · obtain ⟨a, ns, rfl, hS, hl, hT, q⟩ := h
    refine ⟨_, (pss_cons (ps_for PassesOwn.never rfl (pi_range1 (by rfl) T.n_range (pa_cons (pe_callB (Sx.c_max rfl) (by rfl) T.n_max Sx.bt_max (pa_cons pe_int (pa_cons (pe_callB (Sx.c_min rfl) (by rfl) T.n_min Sx.bt_min (pa_cons pe_int (pa_cons (pe_callB Sx.c_len (by rfl) T.n_len Sx.bt_len (pa_cons (pv 0) pa_nil)) pa_nil))) pa_nil))) pa_nil)) (pg_name (i := 1) sc_law.nd rfl (.inl rfl)) (pss_cons (ps_set (i := 2) sc_law.nd rfl (.inl rfl) (pe_call (ok_law_dice T) (hr.mono (by decide)) (by rfl) T.g_law_dice T.F_law_dice.kp T.b_law_dice .nil pass0 (pa_cons (pv 0) (pa_cons (pv 1) pa_nil))))
      (pss_one (ps_for PassesOwn.never rfl (pi_range1 (by rfl) T.n_range (pa_cons pe_int pa_nil)) (pg_name (i := 3) sc_law.nd rfl (.inl rfl)) (pss_cons (ps_set (i := 4) sc_law.nd rfl (.inl rfl) (pe_call (ok_law_any_slope T) (hr.mono (by decide)) (by rfl) T.g_law_any_slope T.F_law_any_slope.kp T.b_law_any_slope .nil pass0 (pa_cons (pv 2) (pa_cons pe_int pa_nil))))
      (pss_one (ps_if (PW.pt (pw_or (pt_not (pt_val (En.pe_callG hgd (ok_law_slope_right T TB) (hr.mono (by decide)) (by rfl) T.g_law_slope_right T.F_law_slope_right.kp T.b_law_slope_right pass0 (pa_cons (pv 2) (pa_cons (pe_ix ix_tup (pv 4) pe_int (fun _ _ => rfl)) (pa_cons (pe_ix ix_tup (pv 4) pe_int (fun _ _ => rfl)) pa_nil)))))) (pw_or1 (pt_not (pt_val (En.pe_callG hgd (ok_law_errors_right T TB) (hr.mono (by decide)) (by rfl) T.g_law_errors_right T.F_law_errors_right.kp T.b_law_errors_right pass0 (pa_cons (pv 2) pa_nil))))))) (pss_one (ps_ret pe_bl)) pss_nil)))))))
      (pss_one (ps_ret pe_bl))), ?_⟩
    refine Sx.r_st (σ' := [some (.ref a), none, none, none, none]) rfl ?_
    walk_at "sx"
    refine r_lenL hS ?_
    walk_at "sx"
    obtain ⟨n, hn, hn6⟩ : ∃ n : Nat, (if (if ((ns.map V.int).length : Int) < 4 then ((ns.map V.int).length : Int) else 4) > 1 then (if ((ns.map V.int).length : Int) < 4 then ((ns.map V.int).length : Int) else 4) else 1) = n ∧ n ≤ 6 := by
      refine ⟨(if (if ((ns.map V.int).length : Int) < 4 then ((ns.map V.int).length : Int) else 4) > 1 then (if ((ns.map V.int).length : Int) < 4 then ((ns.map V.int).length : Int) else 4) else 1).toNat, ?_, ?_⟩
      · split <;> split <;> omega
      · split <;> split <;> omega
    rw [hn]
    refine r_rng1 ?_ (by omega) (by omega)
    refine fr_range (fun i σ' H' => ExtN H H' ∧ Tabs (tabs T) H' ∧ ∃ y1 y2 y3 y4, σ' = [some (.ref a), y1, y2, y3, y4]) ⟨ExtN.refl H, hT, none, none, none, none, rfl⟩ ?_ ?_
    · rintro i σ' H1 hi ⟨sm, T1, y1, y2, y3, y4, rfl⟩
      walk_at "sx"
      refine ⟨a, ns, i, by rw [Int.zero_add]; rfl, Ln.seq_extN sm hS, by omega, fun d H2 sm2 hdn hd => ?_⟩
      walk_at "sx"
      refine r_rng1 ?_ (by decide) (by decide)
      refine fr_range (fun j σ' H' => KpN d H2 H' ∧ Tabs (tabs T) H' ∧ ∃ y1 y3 y4, σ' = [some (.ref a), y1, some (.ref d), y3, y4]) ⟨KpN.refl hd, Ln.tabs_same T1 sm2, _, _, _, rfl⟩ ?_ ?_
      · rintro j σ' H5 hj ⟨k3, T5, y6, y7, y8, rfl⟩
        walk_at "sx"
        refine ⟨d, 60, rfl, k3.d1, by decide, by decide, fun p x y H6 x1 x2 z1 z2 k6 hp => ?_⟩
        obtain ⟨x, rfl⟩ : ∃ n : Nat, x = n := ⟨x.toNat, by omega⟩
        obtain ⟨y, rfl⟩ : ∃ n : Nat, y = n := ⟨y.toNat, by omega⟩
        have T6 := Ln.tabs_kp T5 k3.d1 k6
        walk_at "sxi"
        refine r_ixT hp (v := .int (x : Int)) rfl ?_
        walk_at "sx"
        refine r_ixT hp (v := .int (y : Int)) rfl ?_
        walk_at "sx"
        refine ⟨d, x, y, rfl, k6.d1, by omega, by omega, T6, fun H7 k7 T7 => ?_⟩
        walk_at "sx"
        refine ⟨d, rfl, k7.d1, T7, fun H8 k8 T8 => ?_⟩
        walk_at "sx"
        exact ⟨((k3.kp k6).trans k7).trans k8, T8, _, _, _, rfl⟩
      · rintro σ' H5 ⟨k3, T5, y6, y7, y8, rfl⟩
        walk_at "sx"
        exact ⟨Ln.extN_dice sm hdn sm2 k3, T5, _, _, _, _, rfl⟩
    · rintro σ' H1 ⟨sm, T1, y1, y2, y3, y4, rfl⟩
      walk_at "sx"
      exact q _
end
end Lw

namespace Lw
open PySem PySem.Spec PyProof.Rows L2 Sx Sy Sw Mw Me
open En (NoNum)
open Ln (KpN)
open LamX (Tabs TabB ExtN)
open SX (S)
open C8 (pe_gc)
open SkE (call_repr_int call_str_str)
open RZ (pi_zipA)
theorem all_mk {l : PySem.W.OpenLaw} {w : World} {K : PySem.W.Frag} {h : Heap} {mg : Str → Option Value} {fa : Addr} (X : K.In h) (G : h.Ns mainGlobals mg) (hfa : mg "law" = some (.ref fa))
    {C_Slope C_InvalidNumber C_InvalidOperation C_InvalidSlope C_InvalidText C_InvalidWay C_ParseError C_Refused a_ParseError_init a_InvalidNumber_init a_Refused_init a_is_number a_is_whole_between a_read_side a_Slope_init a_Slope_of_text p_Slope_of_text a_Slope_rises p_Slope_rises a_Slope_steps p_Slope_steps a_Slope_common p_Slope_common a_Slope_is_coprime p_Slope_is_coprime a_Slope_half p_Slope_half a_Slope_exchanged a_Slope_eq a_Slope_str a_check_coprime a_law_dice a_law_roll a_law_pick a_law_any_slope a_law_common a_law_first_fault a_law_is_number a_law_begins_number a_law_begins a_law_due a_law_bent_text a_law_texts_right a_law_slope_right a_law_errors_right a_law : Addr} {t_MAX_SIDE t_DIGITS : Tok}
    {oc_ParseError_init kV_ParseError_init dc_ParseError_init pm_ParseError_init cd_ParseError_init ct_ParseError_init : Value} {od_ParseError_init an_ParseError_init : Option Addr} {sl_ParseError_init : Array (Option Value)}
    {oc_InvalidNumber_init kV_InvalidNumber_init dc_InvalidNumber_init pm_InvalidNumber_init cd_InvalidNumber_init ct_InvalidNumber_init : Value} {od_InvalidNumber_init an_InvalidNumber_init : Option Addr} {sl_InvalidNumber_init : Array (Option Value)}
    {oc_Refused_init kV_Refused_init dc_Refused_init pm_Refused_init cd_Refused_init ct_Refused_init : Value} {od_Refused_init an_Refused_init : Option Addr} {sl_Refused_init : Array (Option Value)}
    {oc_is_number kV_is_number dc_is_number pm_is_number cd_is_number ct_is_number : Value} {od_is_number an_is_number : Option Addr} {sl_is_number : Array (Option Value)}
    {oc_is_whole_between kV_is_whole_between dc_is_whole_between pm_is_whole_between cd_is_whole_between ct_is_whole_between : Value} {od_is_whole_between an_is_whole_between : Option Addr} {sl_is_whole_between : Array (Option Value)}
    {oc_read_side kV_read_side dc_read_side pm_read_side cd_read_side ct_read_side : Value} {od_read_side an_read_side : Option Addr} {sl_read_side : Array (Option Value)}
    {oc_Slope_init kV_Slope_init dc_Slope_init pm_Slope_init cd_Slope_init ct_Slope_init : Value} {od_Slope_init an_Slope_init : Option Addr} {sl_Slope_init : Array (Option Value)}
    {oc_Slope_of_text kV_Slope_of_text dc_Slope_of_text pm_Slope_of_text cd_Slope_of_text ct_Slope_of_text : Value} {od_Slope_of_text an_Slope_of_text : Option Addr} {sl_Slope_of_text : Array (Option Value)}
    {re_Slope_of_text : List Value}
    {oc_Slope_rises kV_Slope_rises dc_Slope_rises pm_Slope_rises cd_Slope_rises ct_Slope_rises : Value} {od_Slope_rises an_Slope_rises : Option Addr} {sl_Slope_rises : Array (Option Value)}
    {re_Slope_rises : List Value}
    {oc_Slope_steps kV_Slope_steps dc_Slope_steps pm_Slope_steps cd_Slope_steps ct_Slope_steps : Value} {od_Slope_steps an_Slope_steps : Option Addr} {sl_Slope_steps : Array (Option Value)}
    {re_Slope_steps : List Value}
    {oc_Slope_common kV_Slope_common dc_Slope_common pm_Slope_common cd_Slope_common ct_Slope_common : Value} {od_Slope_common an_Slope_common : Option Addr} {sl_Slope_common : Array (Option Value)}
    {re_Slope_common : List Value}
    {oc_Slope_is_coprime kV_Slope_is_coprime dc_Slope_is_coprime pm_Slope_is_coprime cd_Slope_is_coprime ct_Slope_is_coprime : Value} {od_Slope_is_coprime an_Slope_is_coprime : Option Addr} {sl_Slope_is_coprime : Array (Option Value)}
    {re_Slope_is_coprime : List Value}
    {oc_Slope_half kV_Slope_half dc_Slope_half pm_Slope_half cd_Slope_half ct_Slope_half : Value} {od_Slope_half an_Slope_half : Option Addr} {sl_Slope_half : Array (Option Value)}
    {re_Slope_half : List Value}
    {oc_Slope_exchanged kV_Slope_exchanged dc_Slope_exchanged pm_Slope_exchanged cd_Slope_exchanged ct_Slope_exchanged : Value} {od_Slope_exchanged an_Slope_exchanged : Option Addr} {sl_Slope_exchanged : Array (Option Value)}
    {oc_Slope_eq kV_Slope_eq dc_Slope_eq pm_Slope_eq cd_Slope_eq ct_Slope_eq : Value} {od_Slope_eq an_Slope_eq : Option Addr} {sl_Slope_eq : Array (Option Value)}
    {oc_Slope_str kV_Slope_str dc_Slope_str pm_Slope_str cd_Slope_str ct_Slope_str : Value} {od_Slope_str an_Slope_str : Option Addr} {sl_Slope_str : Array (Option Value)}
    {oc_check_coprime kV_check_coprime dc_check_coprime pm_check_coprime cd_check_coprime ct_check_coprime : Value} {od_check_coprime an_check_coprime : Option Addr} {sl_check_coprime : Array (Option Value)}
    {oc_law_dice kV_law_dice dc_law_dice pm_law_dice cd_law_dice ct_law_dice : Value} {od_law_dice an_law_dice : Option Addr} {sl_law_dice : Array (Option Value)}
    {oc_law_roll kV_law_roll dc_law_roll pm_law_roll cd_law_roll ct_law_roll : Value} {od_law_roll an_law_roll : Option Addr} {sl_law_roll : Array (Option Value)}
    {oc_law_pick kV_law_pick dc_law_pick pm_law_pick cd_law_pick ct_law_pick : Value} {od_law_pick an_law_pick : Option Addr} {sl_law_pick : Array (Option Value)}
    {oc_law_any_slope kV_law_any_slope dc_law_any_slope pm_law_any_slope cd_law_any_slope ct_law_any_slope : Value} {od_law_any_slope an_law_any_slope : Option Addr} {sl_law_any_slope : Array (Option Value)}
    {oc_law_common kV_law_common dc_law_common pm_law_common cd_law_common ct_law_common : Value} {od_law_common an_law_common : Option Addr} {sl_law_common : Array (Option Value)}
    {oc_law_first_fault kV_law_first_fault dc_law_first_fault pm_law_first_fault cd_law_first_fault ct_law_first_fault : Value} {od_law_first_fault an_law_first_fault : Option Addr} {sl_law_first_fault : Array (Option Value)}
    {oc_law_is_number kV_law_is_number dc_law_is_number pm_law_is_number cd_law_is_number ct_law_is_number : Value} {od_law_is_number an_law_is_number : Option Addr} {sl_law_is_number : Array (Option Value)}
    {oc_law_begins_number kV_law_begins_number dc_law_begins_number pm_law_begins_number cd_law_begins_number ct_law_begins_number : Value} {od_law_begins_number an_law_begins_number : Option Addr} {sl_law_begins_number : Array (Option Value)}
    {oc_law_begins kV_law_begins dc_law_begins pm_law_begins cd_law_begins ct_law_begins : Value} {od_law_begins an_law_begins : Option Addr} {sl_law_begins : Array (Option Value)}
    {oc_law_due kV_law_due dc_law_due pm_law_due cd_law_due ct_law_due : Value} {od_law_due an_law_due : Option Addr} {sl_law_due : Array (Option Value)}
    {oc_law_bent_text kV_law_bent_text dc_law_bent_text pm_law_bent_text cd_law_bent_text ct_law_bent_text : Value} {od_law_bent_text an_law_bent_text : Option Addr} {sl_law_bent_text : Array (Option Value)}
    {oc_law_texts_right kV_law_texts_right dc_law_texts_right pm_law_texts_right cd_law_texts_right ct_law_texts_right : Value} {od_law_texts_right an_law_texts_right : Option Addr} {sl_law_texts_right : Array (Option Value)}
    {oc_law_slope_right kV_law_slope_right dc_law_slope_right pm_law_slope_right cd_law_slope_right ct_law_slope_right : Value} {od_law_slope_right an_law_slope_right : Option Addr} {sl_law_slope_right : Array (Option Value)}
    {oc_law_errors_right kV_law_errors_right dc_law_errors_right pm_law_errors_right cd_law_errors_right ct_law_errors_right : Value} {od_law_errors_right an_law_errors_right : Option Addr} {sl_law_errors_right : Array (Option Value)}
    {oc_law kV_law dc_law pm_law cd_law ct_law : Value} {od_law an_law : Option Addr} {sl_law : Array (Option Value)}
    (g_Slope : PySem.W.nsIn K mainGlobals "Slope" = some (some (.ref C_Slope)))
    (g_InvalidNumber : PySem.W.nsIn K mainGlobals "InvalidNumber" = some (some (.ref C_InvalidNumber)))
    (g_InvalidOperation : PySem.W.nsIn K mainGlobals "InvalidOperation" = some (some (.ref C_InvalidOperation)))
    (g_InvalidSlope : PySem.W.nsIn K mainGlobals "InvalidSlope" = some (some (.ref C_InvalidSlope)))
    (g_InvalidText : PySem.W.nsIn K mainGlobals "InvalidText" = some (some (.ref C_InvalidText)))
    (g_InvalidWay : PySem.W.nsIn K mainGlobals "InvalidWay" = some (some (.ref C_InvalidWay)))
    (g_ParseError : PySem.W.nsIn K mainGlobals "ParseError" = some (some (.ref C_ParseError)))
    (g_Refused : PySem.W.nsIn K mainGlobals "Refused" = some (some (.ref C_Refused)))
    (m_ParseError_init : PySem.W.findIn K (.ref C_ParseError) "__init__" = some (some (.ref a_ParseError_init)))
    (f_ParseError_init : PySem.W.isFn K (.ref a_ParseError_init) = true)
    (l_ParseError_init : K.lookup a_ParseError_init = some ⟨oc_ParseError_init, od_ParseError_init, .func (PySem.W.fnOf "__init__" "ParseError.__init__" (defArgs st_ParseError_init) (defBody st_ParseError_init) (defScope st_ParseError_init) .none kV_ParseError_init dc_ParseError_init pm_ParseError_init an_ParseError_init cd_ParseError_init ct_ParseError_init), sl_ParseError_init⟩)
    (c_ParseError_init : PySem.W.codeIn K cd_ParseError_init "ParseError.__init__" = true)
    (k_ParseError_init : PySem.W.keepIn K (.ref a_ParseError_init) = true)
    (m_InvalidNumber_init : PySem.W.findIn K (.ref C_InvalidNumber) "__init__" = some (some (.ref a_InvalidNumber_init)))
    (f_InvalidNumber_init : PySem.W.isFn K (.ref a_InvalidNumber_init) = true)
    (l_InvalidNumber_init : K.lookup a_InvalidNumber_init = some ⟨oc_InvalidNumber_init, od_InvalidNumber_init, .func (PySem.W.fnOf "__init__" "InvalidNumber.__init__" (defArgs st_InvalidNumber_init) (defBody st_InvalidNumber_init) (defScope st_InvalidNumber_init) .none kV_InvalidNumber_init dc_InvalidNumber_init pm_InvalidNumber_init an_InvalidNumber_init cd_InvalidNumber_init ct_InvalidNumber_init), sl_InvalidNumber_init⟩)
    (c_InvalidNumber_init : PySem.W.codeIn K cd_InvalidNumber_init "InvalidNumber.__init__" = true)
    (k_InvalidNumber_init : PySem.W.keepIn K (.ref a_InvalidNumber_init) = true)
    (m_Refused_init : PySem.W.findIn K (.ref C_Refused) "__init__" = some (some (.ref a_Refused_init)))
    (f_Refused_init : PySem.W.isFn K (.ref a_Refused_init) = true)
    (l_Refused_init : K.lookup a_Refused_init = some ⟨oc_Refused_init, od_Refused_init, .func (PySem.W.fnOf "__init__" "Refused.__init__" (defArgs st_Refused_init) (defBody st_Refused_init) (defScope st_Refused_init) .none kV_Refused_init dc_Refused_init pm_Refused_init an_Refused_init cd_Refused_init ct_Refused_init), sl_Refused_init⟩)
    (c_Refused_init : PySem.W.codeIn K cd_Refused_init "Refused.__init__" = true)
    (k_Refused_init : PySem.W.keepIn K (.ref a_Refused_init) = true)
    (g_is_number : PySem.W.nsIn K mainGlobals "is_number" = some (some (.ref a_is_number)))
    (l_is_number : K.lookup a_is_number = some ⟨oc_is_number, od_is_number, .func (PySem.W.fnOf "is_number" "is_number" (defArgs st_is_number) (defBody st_is_number) (defScope st_is_number) .none kV_is_number dc_is_number pm_is_number an_is_number cd_is_number ct_is_number), sl_is_number⟩)
    (c_is_number : PySem.W.codeIn K cd_is_number "is_number" = true)
    (k_is_number : PySem.W.keepIn K (.ref a_is_number) = true)
    (g_is_whole_between : PySem.W.nsIn K mainGlobals "is_whole_between" = some (some (.ref a_is_whole_between)))
    (l_is_whole_between : K.lookup a_is_whole_between = some ⟨oc_is_whole_between, od_is_whole_between, .func (PySem.W.fnOf "is_whole_between" "is_whole_between" (defArgs st_is_whole_between) (defBody st_is_whole_between) (defScope st_is_whole_between) .none kV_is_whole_between dc_is_whole_between pm_is_whole_between an_is_whole_between cd_is_whole_between ct_is_whole_between), sl_is_whole_between⟩)
    (c_is_whole_between : PySem.W.codeIn K cd_is_whole_between "is_whole_between" = true)
    (k_is_whole_between : PySem.W.keepIn K (.ref a_is_whole_between) = true)
    (g_read_side : PySem.W.nsIn K mainGlobals "read_side" = some (some (.ref a_read_side)))
    (l_read_side : K.lookup a_read_side = some ⟨oc_read_side, od_read_side, .func (PySem.W.fnOf "read_side" "read_side" (defArgs st_read_side) (defBody st_read_side) (defScope st_read_side) .none kV_read_side dc_read_side pm_read_side an_read_side cd_read_side ct_read_side), sl_read_side⟩)
    (c_read_side : PySem.W.codeIn K cd_read_side "read_side" = true)
    (k_read_side : PySem.W.keepIn K (.ref a_read_side) = true)
    (m_Slope_init : PySem.W.findIn K (.ref C_Slope) "__init__" = some (some (.ref a_Slope_init)))
    (f_Slope_init : PySem.W.isFn K (.ref a_Slope_init) = true)
    (l_Slope_init : K.lookup a_Slope_init = some ⟨oc_Slope_init, od_Slope_init, .func (PySem.W.fnOf "__init__" "Slope.__init__" (defArgs st_Slope_init) (defBody st_Slope_init) (defScope st_Slope_init) .none kV_Slope_init dc_Slope_init pm_Slope_init an_Slope_init cd_Slope_init ct_Slope_init), sl_Slope_init⟩)
    (c_Slope_init : PySem.W.codeIn K cd_Slope_init "Slope.__init__" = true)
    (k_Slope_init : PySem.W.keepIn K (.ref a_Slope_init) = true)
    (pa_Slope_of_text : PySem.W.findCls K (.ref C_Slope) (.type "type") "of_text" = some (.get (.builtin "classmethod.__get__") (.ref p_Slope_of_text) .none (.ref C_Slope)))
    (pq_Slope_of_text : PySem.W.recIn K p_Slope_of_text "classmethod" = some (.ref a_Slope_of_text :: re_Slope_of_text))
    (pf_Slope_of_text : PySem.W.fnIn K a_Slope_of_text = true)
    (l_Slope_of_text : K.lookup a_Slope_of_text = some ⟨oc_Slope_of_text, od_Slope_of_text, .func (PySem.W.fnOf "of_text" "Slope.of_text" (defArgs st_Slope_of_text) (defBody st_Slope_of_text) (defScope st_Slope_of_text) .none kV_Slope_of_text dc_Slope_of_text pm_Slope_of_text an_Slope_of_text cd_Slope_of_text ct_Slope_of_text), sl_Slope_of_text⟩)
    (c_Slope_of_text : PySem.W.codeIn K cd_Slope_of_text "Slope.of_text" = true)
    (k_Slope_of_text : PySem.W.keepIn K (.ref a_Slope_of_text) = true)
    (pa_Slope_rises : PySem.W.findIn K (.ref C_Slope) "rises" = some (some (.ref p_Slope_rises)))
    (pg_Slope_rises : PySem.W.specialIn K (.ref p_Slope_rises) "__get__" = some (some (.builtin "property.__get__")))
    (pt_Slope_rises : PySem.W.takesIn K (.ref p_Slope_rises) = some true)
    (pq_Slope_rises : PySem.W.recIn K p_Slope_rises "property" = some (.ref a_Slope_rises :: re_Slope_rises))
    (l_Slope_rises : K.lookup a_Slope_rises = some ⟨oc_Slope_rises, od_Slope_rises, .func (PySem.W.fnOf "rises" "Slope.rises" (defArgs st_Slope_rises) (defBody st_Slope_rises) (defScope st_Slope_rises) .none kV_Slope_rises dc_Slope_rises pm_Slope_rises an_Slope_rises cd_Slope_rises ct_Slope_rises), sl_Slope_rises⟩)
    (c_Slope_rises : PySem.W.codeIn K cd_Slope_rises "Slope.rises" = true)
    (k_Slope_rises : PySem.W.keepIn K (.ref a_Slope_rises) = true)
    (pa_Slope_steps : PySem.W.findIn K (.ref C_Slope) "steps" = some (some (.ref p_Slope_steps)))
    (pg_Slope_steps : PySem.W.specialIn K (.ref p_Slope_steps) "__get__" = some (some (.builtin "property.__get__")))
    (pt_Slope_steps : PySem.W.takesIn K (.ref p_Slope_steps) = some true)
    (pq_Slope_steps : PySem.W.recIn K p_Slope_steps "property" = some (.ref a_Slope_steps :: re_Slope_steps))
    (l_Slope_steps : K.lookup a_Slope_steps = some ⟨oc_Slope_steps, od_Slope_steps, .func (PySem.W.fnOf "steps" "Slope.steps" (defArgs st_Slope_steps) (defBody st_Slope_steps) (defScope st_Slope_steps) .none kV_Slope_steps dc_Slope_steps pm_Slope_steps an_Slope_steps cd_Slope_steps ct_Slope_steps), sl_Slope_steps⟩)
    (c_Slope_steps : PySem.W.codeIn K cd_Slope_steps "Slope.steps" = true)
    (k_Slope_steps : PySem.W.keepIn K (.ref a_Slope_steps) = true)
    (pa_Slope_common : PySem.W.findIn K (.ref C_Slope) "common" = some (some (.ref p_Slope_common)))
    (pg_Slope_common : PySem.W.specialIn K (.ref p_Slope_common) "__get__" = some (some (.builtin "property.__get__")))
    (pt_Slope_common : PySem.W.takesIn K (.ref p_Slope_common) = some true)
    (pq_Slope_common : PySem.W.recIn K p_Slope_common "property" = some (.ref a_Slope_common :: re_Slope_common))
    (l_Slope_common : K.lookup a_Slope_common = some ⟨oc_Slope_common, od_Slope_common, .func (PySem.W.fnOf "common" "Slope.common" (defArgs st_Slope_common) (defBody st_Slope_common) (defScope st_Slope_common) .none kV_Slope_common dc_Slope_common pm_Slope_common an_Slope_common cd_Slope_common ct_Slope_common), sl_Slope_common⟩)
    (c_Slope_common : PySem.W.codeIn K cd_Slope_common "Slope.common" = true)
    (k_Slope_common : PySem.W.keepIn K (.ref a_Slope_common) = true)
    (pa_Slope_is_coprime : PySem.W.findIn K (.ref C_Slope) "is_coprime" = some (some (.ref p_Slope_is_coprime)))
    (pg_Slope_is_coprime : PySem.W.specialIn K (.ref p_Slope_is_coprime) "__get__" = some (some (.builtin "property.__get__")))
    (pt_Slope_is_coprime : PySem.W.takesIn K (.ref p_Slope_is_coprime) = some true)
    (pq_Slope_is_coprime : PySem.W.recIn K p_Slope_is_coprime "property" = some (.ref a_Slope_is_coprime :: re_Slope_is_coprime))
    (l_Slope_is_coprime : K.lookup a_Slope_is_coprime = some ⟨oc_Slope_is_coprime, od_Slope_is_coprime, .func (PySem.W.fnOf "is_coprime" "Slope.is_coprime" (defArgs st_Slope_is_coprime) (defBody st_Slope_is_coprime) (defScope st_Slope_is_coprime) .none kV_Slope_is_coprime dc_Slope_is_coprime pm_Slope_is_coprime an_Slope_is_coprime cd_Slope_is_coprime ct_Slope_is_coprime), sl_Slope_is_coprime⟩)
    (c_Slope_is_coprime : PySem.W.codeIn K cd_Slope_is_coprime "Slope.is_coprime" = true)
    (k_Slope_is_coprime : PySem.W.keepIn K (.ref a_Slope_is_coprime) = true)
    (pa_Slope_half : PySem.W.findIn K (.ref C_Slope) "half" = some (some (.ref p_Slope_half)))
    (pg_Slope_half : PySem.W.specialIn K (.ref p_Slope_half) "__get__" = some (some (.builtin "property.__get__")))
    (pt_Slope_half : PySem.W.takesIn K (.ref p_Slope_half) = some true)
    (pq_Slope_half : PySem.W.recIn K p_Slope_half "property" = some (.ref a_Slope_half :: re_Slope_half))
    (l_Slope_half : K.lookup a_Slope_half = some ⟨oc_Slope_half, od_Slope_half, .func (PySem.W.fnOf "half" "Slope.half" (defArgs st_Slope_half) (defBody st_Slope_half) (defScope st_Slope_half) .none kV_Slope_half dc_Slope_half pm_Slope_half an_Slope_half cd_Slope_half ct_Slope_half), sl_Slope_half⟩)
    (c_Slope_half : PySem.W.codeIn K cd_Slope_half "Slope.half" = true)
    (k_Slope_half : PySem.W.keepIn K (.ref a_Slope_half) = true)
    (m_Slope_exchanged : PySem.W.findIn K (.ref C_Slope) "exchanged" = some (some (.ref a_Slope_exchanged)))
    (f_Slope_exchanged : PySem.W.isFn K (.ref a_Slope_exchanged) = true)
    (l_Slope_exchanged : K.lookup a_Slope_exchanged = some ⟨oc_Slope_exchanged, od_Slope_exchanged, .func (PySem.W.fnOf "exchanged" "Slope.exchanged" (defArgs st_Slope_exchanged) (defBody st_Slope_exchanged) (defScope st_Slope_exchanged) .none kV_Slope_exchanged dc_Slope_exchanged pm_Slope_exchanged an_Slope_exchanged cd_Slope_exchanged ct_Slope_exchanged), sl_Slope_exchanged⟩)
    (c_Slope_exchanged : PySem.W.codeIn K cd_Slope_exchanged "Slope.exchanged" = true)
    (k_Slope_exchanged : PySem.W.keepIn K (.ref a_Slope_exchanged) = true)
    (m_Slope_eq : PySem.W.findIn K (.ref C_Slope) "__eq__" = some (some (.ref a_Slope_eq)))
    (f_Slope_eq : PySem.W.isFn K (.ref a_Slope_eq) = true)
    (l_Slope_eq : K.lookup a_Slope_eq = some ⟨oc_Slope_eq, od_Slope_eq, .func (PySem.W.fnOf "__eq__" "Slope.__eq__" (defArgs st_Slope_eq) (defBody st_Slope_eq) (defScope st_Slope_eq) .none kV_Slope_eq dc_Slope_eq pm_Slope_eq an_Slope_eq cd_Slope_eq ct_Slope_eq), sl_Slope_eq⟩)
    (c_Slope_eq : PySem.W.codeIn K cd_Slope_eq "Slope.__eq__" = true)
    (k_Slope_eq : PySem.W.keepIn K (.ref a_Slope_eq) = true)
    (m_Slope_str : PySem.W.findIn K (.ref C_Slope) "__str__" = some (some (.ref a_Slope_str)))
    (f_Slope_str : PySem.W.isFn K (.ref a_Slope_str) = true)
    (l_Slope_str : K.lookup a_Slope_str = some ⟨oc_Slope_str, od_Slope_str, .func (PySem.W.fnOf "__str__" "Slope.__str__" (defArgs st_Slope_str) (defBody st_Slope_str) (defScope st_Slope_str) .none kV_Slope_str dc_Slope_str pm_Slope_str an_Slope_str cd_Slope_str ct_Slope_str), sl_Slope_str⟩)
    (c_Slope_str : PySem.W.codeIn K cd_Slope_str "Slope.__str__" = true)
    (k_Slope_str : PySem.W.keepIn K (.ref a_Slope_str) = true)
    (g_check_coprime : PySem.W.nsIn K mainGlobals "check_coprime" = some (some (.ref a_check_coprime)))
    (l_check_coprime : K.lookup a_check_coprime = some ⟨oc_check_coprime, od_check_coprime, .func (PySem.W.fnOf "check_coprime" "check_coprime" (defArgs st_check_coprime) (defBody st_check_coprime) (defScope st_check_coprime) .none kV_check_coprime dc_check_coprime pm_check_coprime an_check_coprime cd_check_coprime ct_check_coprime), sl_check_coprime⟩)
    (c_check_coprime : PySem.W.codeIn K cd_check_coprime "check_coprime" = true)
    (k_check_coprime : PySem.W.keepIn K (.ref a_check_coprime) = true)
    (g_law_dice : PySem.W.nsIn K mainGlobals "_law_dice" = some (some (.ref a_law_dice)))
    (l_law_dice : K.lookup a_law_dice = some ⟨oc_law_dice, od_law_dice, .func (PySem.W.fnOf "_law_dice" "_law_dice" (defArgs st_law_dice) (defBody st_law_dice) (defScope st_law_dice) .none kV_law_dice dc_law_dice pm_law_dice an_law_dice cd_law_dice ct_law_dice), sl_law_dice⟩)
    (c_law_dice : PySem.W.codeIn K cd_law_dice "_law_dice" = true)
    (k_law_dice : PySem.W.keepIn K (.ref a_law_dice) = true)
    (g_law_roll : PySem.W.nsIn K mainGlobals "_law_roll" = some (some (.ref a_law_roll)))
    (l_law_roll : K.lookup a_law_roll = some ⟨oc_law_roll, od_law_roll, .func (PySem.W.fnOf "_law_roll" "_law_roll" (defArgs st_law_roll) (defBody st_law_roll) (defScope st_law_roll) .none kV_law_roll dc_law_roll pm_law_roll an_law_roll cd_law_roll ct_law_roll), sl_law_roll⟩)
    (c_law_roll : PySem.W.codeIn K cd_law_roll "_law_roll" = true)
    (k_law_roll : PySem.W.keepIn K (.ref a_law_roll) = true)
    (g_law_pick : PySem.W.nsIn K mainGlobals "_law_pick" = some (some (.ref a_law_pick)))
    (l_law_pick : K.lookup a_law_pick = some ⟨oc_law_pick, od_law_pick, .func (PySem.W.fnOf "_law_pick" "_law_pick" (defArgs st_law_pick) (defBody st_law_pick) (defScope st_law_pick) .none kV_law_pick dc_law_pick pm_law_pick an_law_pick cd_law_pick ct_law_pick), sl_law_pick⟩)
    (c_law_pick : PySem.W.codeIn K cd_law_pick "_law_pick" = true)
    (k_law_pick : PySem.W.keepIn K (.ref a_law_pick) = true)
    (g_law_any_slope : PySem.W.nsIn K mainGlobals "_law_any_slope" = some (some (.ref a_law_any_slope)))
    (l_law_any_slope : K.lookup a_law_any_slope = some ⟨oc_law_any_slope, od_law_any_slope, .func (PySem.W.fnOf "_law_any_slope" "_law_any_slope" (defArgs st_law_any_slope) (defBody st_law_any_slope) (defScope st_law_any_slope) .none kV_law_any_slope dc_law_any_slope pm_law_any_slope an_law_any_slope cd_law_any_slope ct_law_any_slope), sl_law_any_slope⟩)
    (c_law_any_slope : PySem.W.codeIn K cd_law_any_slope "_law_any_slope" = true)
    (k_law_any_slope : PySem.W.keepIn K (.ref a_law_any_slope) = true)
    (g_law_common : PySem.W.nsIn K mainGlobals "_law_common" = some (some (.ref a_law_common)))
    (l_law_common : K.lookup a_law_common = some ⟨oc_law_common, od_law_common, .func (PySem.W.fnOf "_law_common" "_law_common" (defArgs st_law_common) (defBody st_law_common) (defScope st_law_common) .none kV_law_common dc_law_common pm_law_common an_law_common cd_law_common ct_law_common), sl_law_common⟩)
    (c_law_common : PySem.W.codeIn K cd_law_common "_law_common" = true)
    (k_law_common : PySem.W.keepIn K (.ref a_law_common) = true)
    (g_law_first_fault : PySem.W.nsIn K mainGlobals "_law_first_fault" = some (some (.ref a_law_first_fault)))
    (l_law_first_fault : K.lookup a_law_first_fault = some ⟨oc_law_first_fault, od_law_first_fault, .func (PySem.W.fnOf "_law_first_fault" "_law_first_fault" (defArgs st_law_first_fault) (defBody st_law_first_fault) (defScope st_law_first_fault) .none kV_law_first_fault dc_law_first_fault pm_law_first_fault an_law_first_fault cd_law_first_fault ct_law_first_fault), sl_law_first_fault⟩)
    (c_law_first_fault : PySem.W.codeIn K cd_law_first_fault "_law_first_fault" = true)
    (k_law_first_fault : PySem.W.keepIn K (.ref a_law_first_fault) = true)
    (g_law_is_number : PySem.W.nsIn K mainGlobals "_law_is_number" = some (some (.ref a_law_is_number)))
    (l_law_is_number : K.lookup a_law_is_number = some ⟨oc_law_is_number, od_law_is_number, .func (PySem.W.fnOf "_law_is_number" "_law_is_number" (defArgs st_law_is_number) (defBody st_law_is_number) (defScope st_law_is_number) .none kV_law_is_number dc_law_is_number pm_law_is_number an_law_is_number cd_law_is_number ct_law_is_number), sl_law_is_number⟩)
    (c_law_is_number : PySem.W.codeIn K cd_law_is_number "_law_is_number" = true)
    (k_law_is_number : PySem.W.keepIn K (.ref a_law_is_number) = true)
    (g_law_begins_number : PySem.W.nsIn K mainGlobals "_law_begins_number" = some (some (.ref a_law_begins_number)))
    (l_law_begins_number : K.lookup a_law_begins_number = some ⟨oc_law_begins_number, od_law_begins_number, .func (PySem.W.fnOf "_law_begins_number" "_law_begins_number" (defArgs st_law_begins_number) (defBody st_law_begins_number) (defScope st_law_begins_number) .none kV_law_begins_number dc_law_begins_number pm_law_begins_number an_law_begins_number cd_law_begins_number ct_law_begins_number), sl_law_begins_number⟩)
    (c_law_begins_number : PySem.W.codeIn K cd_law_begins_number "_law_begins_number" = true)
    (k_law_begins_number : PySem.W.keepIn K (.ref a_law_begins_number) = true)
    (g_law_begins : PySem.W.nsIn K mainGlobals "_law_begins" = some (some (.ref a_law_begins)))
    (l_law_begins : K.lookup a_law_begins = some ⟨oc_law_begins, od_law_begins, .func (PySem.W.fnOf "_law_begins" "_law_begins" (defArgs st_law_begins) (defBody st_law_begins) (defScope st_law_begins) .none kV_law_begins dc_law_begins pm_law_begins an_law_begins cd_law_begins ct_law_begins), sl_law_begins⟩)
    (c_law_begins : PySem.W.codeIn K cd_law_begins "_law_begins" = true)
    (k_law_begins : PySem.W.keepIn K (.ref a_law_begins) = true)
    (g_law_due : PySem.W.nsIn K mainGlobals "_law_due" = some (some (.ref a_law_due)))
    (l_law_due : K.lookup a_law_due = some ⟨oc_law_due, od_law_due, .func (PySem.W.fnOf "_law_due" "_law_due" (defArgs st_law_due) (defBody st_law_due) (defScope st_law_due) .none kV_law_due dc_law_due pm_law_due an_law_due cd_law_due ct_law_due), sl_law_due⟩)
    (c_law_due : PySem.W.codeIn K cd_law_due "_law_due" = true)
    (k_law_due : PySem.W.keepIn K (.ref a_law_due) = true)
    (g_law_bent_text : PySem.W.nsIn K mainGlobals "_law_bent_text" = some (some (.ref a_law_bent_text)))
    (l_law_bent_text : K.lookup a_law_bent_text = some ⟨oc_law_bent_text, od_law_bent_text, .func (PySem.W.fnOf "_law_bent_text" "_law_bent_text" (defArgs st_law_bent_text) (defBody st_law_bent_text) (defScope st_law_bent_text) .none kV_law_bent_text dc_law_bent_text pm_law_bent_text an_law_bent_text cd_law_bent_text ct_law_bent_text), sl_law_bent_text⟩)
    (c_law_bent_text : PySem.W.codeIn K cd_law_bent_text "_law_bent_text" = true)
    (k_law_bent_text : PySem.W.keepIn K (.ref a_law_bent_text) = true)
    (g_law_texts_right : PySem.W.nsIn K mainGlobals "_law_texts_right" = some (some (.ref a_law_texts_right)))
    (l_law_texts_right : K.lookup a_law_texts_right = some ⟨oc_law_texts_right, od_law_texts_right, .func (PySem.W.fnOf "_law_texts_right" "_law_texts_right" (defArgs st_law_texts_right) (defBody st_law_texts_right) (defScope st_law_texts_right) .none kV_law_texts_right dc_law_texts_right pm_law_texts_right an_law_texts_right cd_law_texts_right ct_law_texts_right), sl_law_texts_right⟩)
    (c_law_texts_right : PySem.W.codeIn K cd_law_texts_right "_law_texts_right" = true)
    (k_law_texts_right : PySem.W.keepIn K (.ref a_law_texts_right) = true)
    (g_law_slope_right : PySem.W.nsIn K mainGlobals "_law_slope_right" = some (some (.ref a_law_slope_right)))
    (l_law_slope_right : K.lookup a_law_slope_right = some ⟨oc_law_slope_right, od_law_slope_right, .func (PySem.W.fnOf "_law_slope_right" "_law_slope_right" (defArgs st_law_slope_right) (defBody st_law_slope_right) (defScope st_law_slope_right) .none kV_law_slope_right dc_law_slope_right pm_law_slope_right an_law_slope_right cd_law_slope_right ct_law_slope_right), sl_law_slope_right⟩)
    (c_law_slope_right : PySem.W.codeIn K cd_law_slope_right "_law_slope_right" = true)
    (k_law_slope_right : PySem.W.keepIn K (.ref a_law_slope_right) = true)
    (g_law_errors_right : PySem.W.nsIn K mainGlobals "_law_errors_right" = some (some (.ref a_law_errors_right)))
    (l_law_errors_right : K.lookup a_law_errors_right = some ⟨oc_law_errors_right, od_law_errors_right, .func (PySem.W.fnOf "_law_errors_right" "_law_errors_right" (defArgs st_law_errors_right) (defBody st_law_errors_right) (defScope st_law_errors_right) .none kV_law_errors_right dc_law_errors_right pm_law_errors_right an_law_errors_right cd_law_errors_right ct_law_errors_right), sl_law_errors_right⟩)
    (c_law_errors_right : PySem.W.codeIn K cd_law_errors_right "_law_errors_right" = true)
    (k_law_errors_right : PySem.W.keepIn K (.ref a_law_errors_right) = true)
    (g_law : PySem.W.nsIn K mainGlobals "law" = some (some (.ref a_law)))
    (l_law : K.lookup a_law = some ⟨oc_law, od_law, .func (PySem.W.fnOf "law" "law" (defArgs st_law) (defBody st_law) (defScope st_law) .none kV_law dc_law pm_law an_law cd_law ct_law), sl_law⟩)
    (c_law : PySem.W.codeIn K cd_law "law" = true)
    (k_law : PySem.W.keepIn K (.ref a_law) = true)
    (c1_Slope : PySem.W.plainGet K C_Slope Str.empty = true)
    (c2_Slope : PySem.W.hasDictIn K C_Slope = true)
    (c3_Slope : PySem.W.plainOver K C_Slope = true)
    (c4_Slope : PySem.W.findIn K (.ref C_Slope) "__setattr__" = some (some (.builtin "object.__setattr__")))
    (c5_Slope : PySem.W.makesIn K C_Slope = true)
    (c6_Slope : PySem.W.keepIn K (.ref C_Slope) = true)
    (rr_Slope : PySem.W.readsIn K C_Slope (.type "type") = true)
    (rg_Slope : PySem.W.specialIn K (.ref C_Slope) "__getattribute__" = some (some (.builtin "type.__getattribute__")))
    (na_Slope_rises : PySem.W.findIn K (.ref C_Slope) "_rises" = some none)
    (na_Slope_steps : PySem.W.findIn K (.ref C_Slope) "_steps" = some none)
    (na_Slope_common : PySem.W.findIn K (.ref C_Slope) "_common" = some none)
    (o1_InvalidNumber : PySem.W.excInitIn K C_InvalidNumber Er.bmIndexError "IndexError.__new__" = true)
    (o2_InvalidNumber : PySem.W.excOver K C_InvalidNumber Er.bmIndexError = true)
    (o4_InvalidNumber : PySem.W.findIn K (.ref C_InvalidNumber) "__setattr__" = some (some (.builtin "object.__setattr__")))
    (o3_InvalidNumber : PySem.W.hasDictIn K C_InvalidNumber = true)
    (o5_InvalidNumber : PySem.W.findIn K (.ref C_InvalidNumber) "__getattribute__" = some (some (.builtin "BaseException.__getattribute__")))
    (o6_InvalidNumber : PySem.W.findIn K (.ref C_InvalidNumber) "__getattr__" = some none)
    (o1_ParseError : PySem.W.excInitIn K C_ParseError Er.bmValueError "ValueError.__new__" = true)
    (o2_ParseError : PySem.W.excOver K C_ParseError Er.bmValueError = true)
    (o4_ParseError : PySem.W.findIn K (.ref C_ParseError) "__setattr__" = some (some (.builtin "object.__setattr__")))
    (o3_ParseError : PySem.W.hasDictIn K C_ParseError = true)
    (o5_ParseError : PySem.W.findIn K (.ref C_ParseError) "__getattribute__" = some (some (.builtin "BaseException.__getattribute__")))
    (o6_ParseError : PySem.W.findIn K (.ref C_ParseError) "__getattr__" = some none)
    (o1_Refused : PySem.W.excInitIn K C_Refused Er.bmArithmeticError "ArithmeticError.__new__" = true)
    (o2_Refused : PySem.W.excOver K C_Refused Er.bmArithmeticError = true)
    (o4_Refused : PySem.W.findIn K (.ref C_Refused) "__setattr__" = some (some (.builtin "object.__setattr__")))
    (o3_Refused : PySem.W.hasDictIn K C_Refused = true)
    (o5_Refused : PySem.W.findIn K (.ref C_Refused) "__getattribute__" = some (some (.builtin "BaseException.__getattribute__")))
    (o6_Refused : PySem.W.findIn K (.ref C_Refused) "__getattr__" = some none)
    (cq_law_texts_right : cd_law_texts_right = .ref ((PySem.W.tabIn K "_law_texts_right").getD (0, 0)).1)
    (ch_law_texts_right : PySem.W.codeHdIn K ((PySem.W.tabIn K "_law_texts_right").getD (0, 0)).1 ((PySem.W.tabIn K "_law_texts_right").getD (0, 0)).2 = true)
    (cn_law_texts_right : K.lookup ((PySem.W.tabIn K "_law_texts_right").getD (0, 0)).2 = none)
    (ce_law_texts_right : h.get? ((PySem.W.tabIn K "_law_texts_right").getD (0, 0)).2 = some (PySem.W.tabObj #[]))
    (cq_law_slope_right : cd_law_slope_right = .ref ((PySem.W.tabIn K "_law_slope_right").getD (0, 0)).1)
    (ch_law_slope_right : PySem.W.codeHdIn K ((PySem.W.tabIn K "_law_slope_right").getD (0, 0)).1 ((PySem.W.tabIn K "_law_slope_right").getD (0, 0)).2 = true)
    (cn_law_slope_right : K.lookup ((PySem.W.tabIn K "_law_slope_right").getD (0, 0)).2 = none)
    (ce_law_slope_right : h.get? ((PySem.W.tabIn K "_law_slope_right").getD (0, 0)).2 = some (PySem.W.tabObj #[]))
    (cq_law_errors_right : cd_law_errors_right = .ref ((PySem.W.tabIn K "_law_errors_right").getD (0, 0)).1)
    (ch_law_errors_right : PySem.W.codeHdIn K ((PySem.W.tabIn K "_law_errors_right").getD (0, 0)).1 ((PySem.W.tabIn K "_law_errors_right").getD (0, 0)).2 = true)
    (cn_law_errors_right : K.lookup ((PySem.W.tabIn K "_law_errors_right").getD (0, 0)).2 = none)
    (ce_law_errors_right : h.get? ((PySem.W.tabIn K "_law_errors_right").getD (0, 0)).2 = some (PySem.W.tabObj #[]))
    (pn_law_texts_right_law_slope_right : ((PySem.W.tabIn K "_law_texts_right").getD (0, 0)).2 ≠ ((PySem.W.tabIn K "_law_slope_right").getD (0, 0)).2)
    (pn_law_texts_right_law_errors_right : ((PySem.W.tabIn K "_law_texts_right").getD (0, 0)).2 ≠ ((PySem.W.tabIn K "_law_errors_right").getD (0, 0)).2)
    (pn_law_slope_right_law_errors_right : ((PySem.W.tabIn K "_law_slope_right").getD (0, 0)).2 ≠ ((PySem.W.tabIn K "_law_errors_right").getD (0, 0)).2)
    (fo_Slope : PySem.W.findIn K (.ref C_Slope) "__format__" = some (some (.builtin "object.__format__")))
    (ic_Slope : PySem.W.findIn K (.ref C_Slope) "__class__" = some (some (.builtin "object.__class__")))
    (mr_Slope : PySem.W.mroIn K C_Slope (.type "object") = some true)
    (nn_Slope : PySem.W.findIn K (.ref C_Slope) "__ne__" = some (some (.builtin "object.__ne__")))
    (of_Slope_str : PySem.W.notFirst K C_Slope (.type "str") = true)
    (o7_Slope_str : PySem.W.subIn K (.type "str") (.ref C_Slope) = some false)
    (o8_Slope : PySem.W.typeIn K (.ref C_Slope) = some (.type "type"))
    (o9_Slope : PySem.W.isClsIn K C_Slope = true)
    (o0_Slope : PySem.W.subIn K (.ref C_Slope) (.ref C_Slope) = some true)
    (of_Slope_tuple : PySem.W.notFirst K C_Slope (.type "tuple") = true)
    (o7_Slope_tuple : PySem.W.subIn K (.type "tuple") (.ref C_Slope) = some false)
    (cg : PySem.W.specialIn K (.builtin "object.__class__") "__get__" = some (some (.builtin "getset_descriptor.__get__")))
    (ct : PySem.W.takesIn K (.builtin "object.__class__") = some true)
    (kp_InvalidNumber : PySem.W.keepIn K (.ref C_InvalidNumber) = true)
    (ex_InvalidNumber : PySem.W.subIn K (.ref C_InvalidNumber) (.type "BaseException") = some true)
    (ty_InvalidNumber : PySem.W.typeIn K (.ref C_InvalidNumber) = some (.type "type"))
    (is_InvalidNumber : PySem.W.isClsIn K C_InvalidNumber = true)
    (nf_InvalidNumber : PySem.W.findIn K (.ref C_InvalidNumber) "value" = some none)
    (kp_InvalidOperation : PySem.W.keepIn K (.ref C_InvalidOperation) = true)
    (ex_InvalidOperation : PySem.W.subIn K (.ref C_InvalidOperation) (.type "BaseException") = some true)
    (ty_InvalidOperation : PySem.W.typeIn K (.ref C_InvalidOperation) = some (.type "type"))
    (is_InvalidOperation : PySem.W.isClsIn K C_InvalidOperation = true)
    (xi_InvalidOperation : PySem.W.excIn K C_InvalidOperation Er.bmValueError "ValueError.__new__" = true)
    (kp_InvalidSlope : PySem.W.keepIn K (.ref C_InvalidSlope) = true)
    (ex_InvalidSlope : PySem.W.subIn K (.ref C_InvalidSlope) (.type "BaseException") = some true)
    (ty_InvalidSlope : PySem.W.typeIn K (.ref C_InvalidSlope) = some (.type "type"))
    (is_InvalidSlope : PySem.W.isClsIn K C_InvalidSlope = true)
    (xi_InvalidSlope : PySem.W.excIn K C_InvalidSlope Er.bmValueError "ValueError.__new__" = true)
    (kp_InvalidText : PySem.W.keepIn K (.ref C_InvalidText) = true)
    (ex_InvalidText : PySem.W.subIn K (.ref C_InvalidText) (.type "BaseException") = some true)
    (ty_InvalidText : PySem.W.typeIn K (.ref C_InvalidText) = some (.type "type"))
    (is_InvalidText : PySem.W.isClsIn K C_InvalidText = true)
    (xi_InvalidText : PySem.W.excIn K C_InvalidText Er.bmValueError "ValueError.__new__" = true)
    (kp_InvalidWay : PySem.W.keepIn K (.ref C_InvalidWay) = true)
    (ex_InvalidWay : PySem.W.subIn K (.ref C_InvalidWay) (.type "BaseException") = some true)
    (ty_InvalidWay : PySem.W.typeIn K (.ref C_InvalidWay) = some (.type "type"))
    (is_InvalidWay : PySem.W.isClsIn K C_InvalidWay = true)
    (xi_InvalidWay : PySem.W.excIn K C_InvalidWay Er.bmValueError "ValueError.__new__" = true)
    (kp_ParseError : PySem.W.keepIn K (.ref C_ParseError) = true)
    (ex_ParseError : PySem.W.subIn K (.ref C_ParseError) (.type "BaseException") = some true)
    (ty_ParseError : PySem.W.typeIn K (.ref C_ParseError) = some (.type "type"))
    (is_ParseError : PySem.W.isClsIn K C_ParseError = true)
    (nf_ParseError : PySem.W.findIn K (.ref C_ParseError) "index" = some none)
    (kp_Refused : PySem.W.keepIn K (.ref C_Refused) = true)
    (ex_Refused : PySem.W.subIn K (.ref C_Refused) (.type "BaseException") = some true)
    (ty_Refused : PySem.W.typeIn K (.ref C_Refused) = some (.type "type"))
    (is_Refused : PySem.W.isClsIn K C_Refused = true)
    (nf_Refused : PySem.W.findIn K (.ref C_Refused) "reason" = some none)
    (ma_Refused : PySem.W.mroIn K C_Refused (.type "AttributeError") = some false)
    (sb_InvalidNumber_InvalidNumber : PySem.W.subIn K (.ref C_InvalidNumber) (.ref C_InvalidNumber) = some true)
    (sb_ParseError_InvalidNumber : PySem.W.subIn K (.ref C_ParseError) (.ref C_InvalidNumber) = some false)
    (sb_ParseError_InvalidOperation : PySem.W.subIn K (.ref C_ParseError) (.ref C_InvalidOperation) = some false)
    (sb_ParseError_InvalidSlope : PySem.W.subIn K (.ref C_ParseError) (.ref C_InvalidSlope) = some false)
    (sb_ParseError_InvalidText : PySem.W.subIn K (.ref C_ParseError) (.ref C_InvalidText) = some false)
    (sb_ParseError_InvalidWay : PySem.W.subIn K (.ref C_ParseError) (.ref C_InvalidWay) = some false)
    (sb_ParseError_ParseError : PySem.W.subIn K (.ref C_ParseError) (.ref C_ParseError) = some true)
    (sb_Refused_InvalidNumber : PySem.W.subIn K (.ref C_Refused) (.ref C_InvalidNumber) = some false)
    (sb_Refused_InvalidOperation : PySem.W.subIn K (.ref C_Refused) (.ref C_InvalidOperation) = some false)
    (sb_Refused_InvalidSlope : PySem.W.subIn K (.ref C_Refused) (.ref C_InvalidSlope) = some false)
    (sb_Refused_InvalidText : PySem.W.subIn K (.ref C_Refused) (.ref C_InvalidText) = some false)
    (sb_Refused_InvalidWay : PySem.W.subIn K (.ref C_Refused) (.ref C_InvalidWay) = some false)
    (sb_Refused_ParseError : PySem.W.subIn K (.ref C_Refused) (.ref C_ParseError) = some false)
    (sb_Refused_Refused : PySem.W.subIn K (.ref C_Refused) (.ref C_Refused) = some true)
    (sb_InvalidText_InvalidNumber : PySem.W.subIn K (.ref C_InvalidText) (.ref C_InvalidNumber) = some false)
    (sb_InvalidText_InvalidOperation : PySem.W.subIn K (.ref C_InvalidText) (.ref C_InvalidOperation) = some false)
    (sb_InvalidText_InvalidSlope : PySem.W.subIn K (.ref C_InvalidText) (.ref C_InvalidSlope) = some false)
    (sb_InvalidText_InvalidText : PySem.W.subIn K (.ref C_InvalidText) (.ref C_InvalidText) = some true)
    (n_abs : PySem.W.nsIn K mainGlobals "abs" = some none)
    (n_bool : PySem.W.nsIn K mainGlobals "bool" = some none)
    (n_int : PySem.W.nsIn K mainGlobals "int" = some none)
    (n_isinstance : PySem.W.nsIn K mainGlobals "isinstance" = some none)
    (n_len : PySem.W.nsIn K mainGlobals "len" = some none)
    (n_max : PySem.W.nsIn K mainGlobals "max" = some none)
    (n_min : PySem.W.nsIn K mainGlobals "min" = some none)
    (n_range : PySem.W.nsIn K mainGlobals "range" = some none)
    (n_repr : PySem.W.nsIn K mainGlobals "repr" = some none)
    (n_str : PySem.W.nsIn K mainGlobals "str" = some none)
    (i_gcd : PySem.W.nsIn K mainGlobals "gcd" = some (some (.builtin "math.gcd")))
    (qc_MAX_SIDE : PySem.W.nsIn K mainGlobals "MAX_SIDE" = some (some (.int 60 t_MAX_SIDE)))
    (qc_DIGITS : PySem.W.nsIn K mainGlobals "DIGITS" = some (some (.str "0123456789" t_DIGITS)))
    : En.Law l w K 11 63 "_law_script" mg fa h := by
  have e : fa = a_law := Value.ref.inj (Option.some.inj (hfa.symm.trans (PySem.W.mg_of X G g_law)))
  rw [e]
  let T : Tx K mg := {
    C_Slope := C_Slope,
    C_InvalidNumber := C_InvalidNumber,
    C_InvalidOperation := C_InvalidOperation,
    C_InvalidSlope := C_InvalidSlope,
    C_InvalidText := C_InvalidText,
    C_InvalidWay := C_InvalidWay,
    C_ParseError := C_ParseError,
    C_Refused := C_Refused,
    a_ParseError_init := a_ParseError_init,
    d_ParseError_init := _,
    F_ParseError_init := fun_mk (st := st_ParseError_init) l_ParseError_init c_ParseError_init k_ParseError_init,
    b_ParseError_init := (fun_mk (st := st_ParseError_init) l_ParseError_init c_ParseError_init k_ParseError_init).binds (ps := ["self", "index"]) fun _ _ _ _ _ _ us hl => match us, hl with | [_, _], _ => rfl,
    a_InvalidNumber_init := a_InvalidNumber_init,
    d_InvalidNumber_init := _,
    F_InvalidNumber_init := fun_mk (st := st_InvalidNumber_init) l_InvalidNumber_init c_InvalidNumber_init k_InvalidNumber_init,
    b_InvalidNumber_init := (fun_mk (st := st_InvalidNumber_init) l_InvalidNumber_init c_InvalidNumber_init k_InvalidNumber_init).binds (ps := ["self", "value"]) fun _ _ _ _ _ _ us hl => match us, hl with | [_, _], _ => rfl,
    a_Refused_init := a_Refused_init,
    d_Refused_init := _,
    F_Refused_init := fun_mk (st := st_Refused_init) l_Refused_init c_Refused_init k_Refused_init,
    b_Refused_init := (fun_mk (st := st_Refused_init) l_Refused_init c_Refused_init k_Refused_init).binds (ps := ["self", "reason"]) fun _ _ _ _ _ _ us hl => match us, hl with | [_, _], _ => rfl,
    a_is_number := a_is_number,
    d_is_number := _,
    F_is_number := fun_mk (st := st_is_number) l_is_number c_is_number k_is_number,
    b_is_number := (fun_mk (st := st_is_number) l_is_number c_is_number k_is_number).binds (ps := ["value"]) fun _ _ _ _ _ _ us hl => match us, hl with | [_], _ => rfl,
    g_is_number := PySem.W.mg_of X G g_is_number,
    a_is_whole_between := a_is_whole_between,
    d_is_whole_between := _,
    F_is_whole_between := fun_mk (st := st_is_whole_between) l_is_whole_between c_is_whole_between k_is_whole_between,
    b_is_whole_between := (fun_mk (st := st_is_whole_between) l_is_whole_between c_is_whole_between k_is_whole_between).binds (ps := ["value", "least", "most"]) fun _ _ _ _ _ _ us hl => match us, hl with | [_, _, _], _ => rfl,
    g_is_whole_between := PySem.W.mg_of X G g_is_whole_between,
    a_read_side := a_read_side,
    d_read_side := _,
    F_read_side := fun_mk (st := st_read_side) l_read_side c_read_side k_read_side,
    b_read_side := (fun_mk (st := st_read_side) l_read_side c_read_side k_read_side).binds (ps := ["text", "start"]) fun _ _ _ _ _ _ us hl => match us, hl with | [_, _], _ => rfl,
    g_read_side := PySem.W.mg_of X G g_read_side,
    a_Slope_init := a_Slope_init,
    d_Slope_init := _,
    F_Slope_init := fun_mk (st := st_Slope_init) l_Slope_init c_Slope_init k_Slope_init,
    b_Slope_init := (fun_mk (st := st_Slope_init) l_Slope_init c_Slope_init k_Slope_init).binds (ps := ["self", "rises", "steps"]) fun _ _ _ _ _ _ us hl => match us, hl with | [_, _, _], _ => rfl,
    a_Slope_of_text := a_Slope_of_text,
    d_Slope_of_text := _,
    F_Slope_of_text := fun_mk (st := st_Slope_of_text) l_Slope_of_text c_Slope_of_text k_Slope_of_text,
    b_Slope_of_text := (fun_mk (st := st_Slope_of_text) l_Slope_of_text c_Slope_of_text k_Slope_of_text).binds (ps := ["cls", "text"]) fun _ _ _ _ _ _ us hl => match us, hl with | [_, _], _ => rfl,
    a_Slope_rises := a_Slope_rises,
    d_Slope_rises := _,
    F_Slope_rises := fun_mk (st := st_Slope_rises) l_Slope_rises c_Slope_rises k_Slope_rises,
    b_Slope_rises := (fun_mk (st := st_Slope_rises) l_Slope_rises c_Slope_rises k_Slope_rises).binds (ps := ["self"]) fun _ _ _ _ _ _ us hl => match us, hl with | [_], _ => rfl,
    a_Slope_steps := a_Slope_steps,
    d_Slope_steps := _,
    F_Slope_steps := fun_mk (st := st_Slope_steps) l_Slope_steps c_Slope_steps k_Slope_steps,
    b_Slope_steps := (fun_mk (st := st_Slope_steps) l_Slope_steps c_Slope_steps k_Slope_steps).binds (ps := ["self"]) fun _ _ _ _ _ _ us hl => match us, hl with | [_], _ => rfl,
    a_Slope_common := a_Slope_common,
    d_Slope_common := _,
    F_Slope_common := fun_mk (st := st_Slope_common) l_Slope_common c_Slope_common k_Slope_common,
    b_Slope_common := (fun_mk (st := st_Slope_common) l_Slope_common c_Slope_common k_Slope_common).binds (ps := ["self"]) fun _ _ _ _ _ _ us hl => match us, hl with | [_], _ => rfl,
    a_Slope_is_coprime := a_Slope_is_coprime,
    d_Slope_is_coprime := _,
    F_Slope_is_coprime := fun_mk (st := st_Slope_is_coprime) l_Slope_is_coprime c_Slope_is_coprime k_Slope_is_coprime,
    b_Slope_is_coprime := (fun_mk (st := st_Slope_is_coprime) l_Slope_is_coprime c_Slope_is_coprime k_Slope_is_coprime).binds (ps := ["self"]) fun _ _ _ _ _ _ us hl => match us, hl with | [_], _ => rfl,
    a_Slope_half := a_Slope_half,
    d_Slope_half := _,
    F_Slope_half := fun_mk (st := st_Slope_half) l_Slope_half c_Slope_half k_Slope_half,
    b_Slope_half := (fun_mk (st := st_Slope_half) l_Slope_half c_Slope_half k_Slope_half).binds (ps := ["self"]) fun _ _ _ _ _ _ us hl => match us, hl with | [_], _ => rfl,
    a_Slope_exchanged := a_Slope_exchanged,
    d_Slope_exchanged := _,
    F_Slope_exchanged := fun_mk (st := st_Slope_exchanged) l_Slope_exchanged c_Slope_exchanged k_Slope_exchanged,
    b_Slope_exchanged := (fun_mk (st := st_Slope_exchanged) l_Slope_exchanged c_Slope_exchanged k_Slope_exchanged).binds (ps := ["self"]) fun _ _ _ _ _ _ us hl => match us, hl with | [_], _ => rfl,
    a_Slope_eq := a_Slope_eq,
    d_Slope_eq := _,
    F_Slope_eq := fun_mk (st := st_Slope_eq) l_Slope_eq c_Slope_eq k_Slope_eq,
    b_Slope_eq := (fun_mk (st := st_Slope_eq) l_Slope_eq c_Slope_eq k_Slope_eq).binds (ps := ["self", "other"]) fun _ _ _ _ _ _ us hl => match us, hl with | [_, _], _ => rfl,
    a_Slope_str := a_Slope_str,
    d_Slope_str := _,
    F_Slope_str := fun_mk (st := st_Slope_str) l_Slope_str c_Slope_str k_Slope_str,
    b_Slope_str := (fun_mk (st := st_Slope_str) l_Slope_str c_Slope_str k_Slope_str).binds (ps := ["self"]) fun _ _ _ _ _ _ us hl => match us, hl with | [_], _ => rfl,
    a_check_coprime := a_check_coprime,
    d_check_coprime := _,
    F_check_coprime := fun_mk (st := st_check_coprime) l_check_coprime c_check_coprime k_check_coprime,
    b_check_coprime := (fun_mk (st := st_check_coprime) l_check_coprime c_check_coprime k_check_coprime).binds (ps := ["slope"]) fun _ _ _ _ _ _ us hl => match us, hl with | [_], _ => rfl,
    g_check_coprime := PySem.W.mg_of X G g_check_coprime,
    a_law_dice := a_law_dice,
    d_law_dice := _,
    F_law_dice := fun_mk (st := st_law_dice) l_law_dice c_law_dice k_law_dice,
    b_law_dice := (fun_mk (st := st_law_dice) l_law_dice c_law_dice k_law_dice).binds (ps := ["_law_script", "_law_spot"]) fun _ _ _ _ _ _ us hl => match us, hl with | [_, _], _ => rfl,
    g_law_dice := PySem.W.mg_of X G g_law_dice,
    a_law_roll := a_law_roll,
    d_law_roll := _,
    F_law_roll := fun_mk (st := st_law_roll) l_law_roll c_law_roll k_law_roll,
    b_law_roll := (fun_mk (st := st_law_roll) l_law_roll c_law_roll k_law_roll).binds (ps := ["_law_dice_here", "_law_total"]) fun _ _ _ _ _ _ us hl => match us, hl with | [_, _], _ => rfl,
    g_law_roll := PySem.W.mg_of X G g_law_roll,
    a_law_pick := a_law_pick,
    d_law_pick := _,
    F_law_pick := fun_mk (st := st_law_pick) l_law_pick c_law_pick k_law_pick,
    b_law_pick := (fun_mk (st := st_law_pick) l_law_pick c_law_pick k_law_pick).binds (ps := ["_law_dice_here", "_law_items"]) fun _ _ _ _ _ _ us hl => match us, hl with | [_, _], _ => rfl,
    g_law_pick := PySem.W.mg_of X G g_law_pick,
    a_law_any_slope := a_law_any_slope,
    d_law_any_slope := _,
    F_law_any_slope := fun_mk (st := st_law_any_slope) l_law_any_slope c_law_any_slope k_law_any_slope,
    b_law_any_slope := (fun_mk (st := st_law_any_slope) l_law_any_slope c_law_any_slope k_law_any_slope).binds (ps := ["_law_dice_here", "_law_most"]) fun _ _ _ _ _ _ us hl => match us, hl with | [_, _], _ => rfl,
    g_law_any_slope := PySem.W.mg_of X G g_law_any_slope,
    a_law_common := a_law_common,
    d_law_common := _,
    F_law_common := fun_mk (st := st_law_common) l_law_common c_law_common k_law_common,
    b_law_common := (fun_mk (st := st_law_common) l_law_common c_law_common k_law_common).binds (ps := ["_law_one", "_law_other"]) fun _ _ _ _ _ _ us hl => match us, hl with | [_, _], _ => rfl,
    g_law_common := PySem.W.mg_of X G g_law_common,
    a_law_first_fault := a_law_first_fault,
    d_law_first_fault := _,
    F_law_first_fault := fun_mk (st := st_law_first_fault) l_law_first_fault c_law_first_fault k_law_first_fault,
    b_law_first_fault := (fun_mk (st := st_law_first_fault) l_law_first_fault c_law_first_fault k_law_first_fault).binds (ps := ["_law_call"]) fun _ _ _ _ _ _ us hl => match us, hl with | [_], _ => rfl,
    g_law_first_fault := PySem.W.mg_of X G g_law_first_fault,
    a_law_is_number := a_law_is_number,
    d_law_is_number := _,
    F_law_is_number := fun_mk (st := st_law_is_number) l_law_is_number c_law_is_number k_law_is_number,
    b_law_is_number := (fun_mk (st := st_law_is_number) l_law_is_number c_law_is_number k_law_is_number).binds (ps := ["_law_text"]) fun _ _ _ _ _ _ us hl => match us, hl with | [_], _ => rfl,
    g_law_is_number := PySem.W.mg_of X G g_law_is_number,
    a_law_begins_number := a_law_begins_number,
    d_law_begins_number := _,
    F_law_begins_number := fun_mk (st := st_law_begins_number) l_law_begins_number c_law_begins_number k_law_begins_number,
    b_law_begins_number := (fun_mk (st := st_law_begins_number) l_law_begins_number c_law_begins_number k_law_begins_number).binds (ps := ["_law_text"]) fun _ _ _ _ _ _ us hl => match us, hl with | [_], _ => rfl,
    g_law_begins_number := PySem.W.mg_of X G g_law_begins_number,
    a_law_begins := a_law_begins,
    d_law_begins := _,
    F_law_begins := fun_mk (st := st_law_begins) l_law_begins c_law_begins k_law_begins,
    b_law_begins := (fun_mk (st := st_law_begins) l_law_begins c_law_begins k_law_begins).binds (ps := ["_law_text"]) fun _ _ _ _ _ _ us hl => match us, hl with | [_], _ => rfl,
    g_law_begins := PySem.W.mg_of X G g_law_begins,
    a_law_due := a_law_due,
    d_law_due := _,
    F_law_due := fun_mk (st := st_law_due) l_law_due c_law_due k_law_due,
    b_law_due := (fun_mk (st := st_law_due) l_law_due c_law_due k_law_due).binds (ps := ["_law_text"]) fun _ _ _ _ _ _ us hl => match us, hl with | [_], _ => rfl,
    g_law_due := PySem.W.mg_of X G g_law_due,
    a_law_bent_text := a_law_bent_text,
    d_law_bent_text := _,
    F_law_bent_text := fun_mk (st := st_law_bent_text) l_law_bent_text c_law_bent_text k_law_bent_text,
    b_law_bent_text := (fun_mk (st := st_law_bent_text) l_law_bent_text c_law_bent_text k_law_bent_text).binds (ps := ["_law_dice_here", "_law_text"]) fun _ _ _ _ _ _ us hl => match us, hl with | [_, _], _ => rfl,
    g_law_bent_text := PySem.W.mg_of X G g_law_bent_text,
    a_law_texts_right := a_law_texts_right,
    d_law_texts_right := _,
    F_law_texts_right := fun_mk (st := st_law_texts_right) l_law_texts_right c_law_texts_right k_law_texts_right,
    b_law_texts_right := (fun_mk (st := st_law_texts_right) l_law_texts_right c_law_texts_right k_law_texts_right).binds (ps := ["_law_dice_here", "_law_text"]) fun _ _ _ _ _ _ us hl => match us, hl with | [_, _], _ => rfl,
    g_law_texts_right := PySem.W.mg_of X G g_law_texts_right,
    a_law_slope_right := a_law_slope_right,
    d_law_slope_right := _,
    F_law_slope_right := fun_mk (st := st_law_slope_right) l_law_slope_right c_law_slope_right k_law_slope_right,
    b_law_slope_right := (fun_mk (st := st_law_slope_right) l_law_slope_right c_law_slope_right k_law_slope_right).binds (ps := ["_law_dice_here", "_law_rises", "_law_steps"]) fun _ _ _ _ _ _ us hl => match us, hl with | [_, _, _], _ => rfl,
    g_law_slope_right := PySem.W.mg_of X G g_law_slope_right,
    a_law_errors_right := a_law_errors_right,
    d_law_errors_right := _,
    F_law_errors_right := fun_mk (st := st_law_errors_right) l_law_errors_right c_law_errors_right k_law_errors_right,
    b_law_errors_right := (fun_mk (st := st_law_errors_right) l_law_errors_right c_law_errors_right k_law_errors_right).binds (ps := ["_law_dice_here"]) fun _ _ _ _ _ _ us hl => match us, hl with | [_], _ => rfl,
    g_law_errors_right := PySem.W.mg_of X G g_law_errors_right,
    a_law := a_law,
    d_law := _,
    F_law := fun_mk (st := st_law) l_law c_law k_law,
    b_law := (fun_mk (st := st_law) l_law c_law k_law).binds (ps := ["_law_script"]) fun _ _ _ _ _ _ us hl => match us, hl with | [_], _ => rfl,
    g_law := PySem.W.mg_of X G g_law,
    g_Slope := PySem.W.mg_of X G g_Slope,
    cl_Slope := ⟨c1_Slope, c2_Slope, c3_Slope, c4_Slope⟩,
    na_Slope_rises := na_Slope_rises,
    na_Slope_steps := na_Slope_steps,
    na_Slope_common := na_Slope_common,
    mk_Slope := ⟨c5_Slope, m_Slope_init, f_Slope_init, c6_Slope⟩,
    me_Slope_exchanged := ⟨m_Slope_exchanged, f_Slope_exchanged, k_Slope_exchanged⟩,
    me_Slope_eq := ⟨m_Slope_eq, f_Slope_eq, k_Slope_eq⟩,
    me_Slope_str := ⟨m_Slope_str, f_Slope_str, k_Slope_str⟩,
    mc_Slope := .type "type",
    cr_Slope := ⟨rr_Slope, rg_Slope⟩,
    p_Slope_of_text := p_Slope_of_text,
    cm_Slope_of_text := ⟨pa_Slope_of_text, ⟨_, pq_Slope_of_text⟩, pf_Slope_of_text⟩,
    fo_Slope := fo_Slope,
    p_Slope_rises := p_Slope_rises,
    pr_Slope_rises := ⟨pa_Slope_rises, pg_Slope_rises, pt_Slope_rises, ⟨_, pq_Slope_rises⟩⟩,
    p_Slope_steps := p_Slope_steps,
    pr_Slope_steps := ⟨pa_Slope_steps, pg_Slope_steps, pt_Slope_steps, ⟨_, pq_Slope_steps⟩⟩,
    p_Slope_common := p_Slope_common,
    pr_Slope_common := ⟨pa_Slope_common, pg_Slope_common, pt_Slope_common, ⟨_, pq_Slope_common⟩⟩,
    p_Slope_is_coprime := p_Slope_is_coprime,
    pr_Slope_is_coprime := ⟨pa_Slope_is_coprime, pg_Slope_is_coprime, pt_Slope_is_coprime, ⟨_, pq_Slope_is_coprime⟩⟩,
    p_Slope_half := p_Slope_half,
    pr_Slope_half := ⟨pa_Slope_half, pg_Slope_half, pt_Slope_half, ⟨_, pq_Slope_half⟩⟩,
    ic_Slope := ic_Slope,
    mr_Slope := mr_Slope,
    ks_Slope := Sx.kit_self,
    nn_Slope := nn_Slope,
    of_Slope_str := of_Slope_str,
    ot_Slope_str := Mj.kit_no o9_Slope o8_Slope o7_Slope_str o0_Slope,
    of_Slope_tuple := of_Slope_tuple,
    ot_Slope_tuple := Mj.kit_no o9_Slope o8_Slope o7_Slope_tuple o0_Slope,
    cg := cg,
    ct := ct,
    g_InvalidNumber := PySem.W.mg_of X G g_InvalidNumber,
    kp_InvalidNumber := kp_InvalidNumber,
    ex_InvalidNumber := ex_InvalidNumber,
    ty_InvalidNumber := ty_InvalidNumber,
    is_InvalidNumber := is_InvalidNumber,
    xf_InvalidNumber := ⟨o5_InvalidNumber, o6_InvalidNumber, ex_InvalidNumber, o3_InvalidNumber⟩,
    nf_InvalidNumber := nf_InvalidNumber,
    ow_InvalidNumber := ⟨o1_InvalidNumber, o2_InvalidNumber, o3_InvalidNumber, o4_InvalidNumber, m_InvalidNumber_init, f_InvalidNumber_init, kp_InvalidNumber, ex_InvalidNumber, ty_InvalidNumber, o5_InvalidNumber, o6_InvalidNumber⟩,
    g_InvalidOperation := PySem.W.mg_of X G g_InvalidOperation,
    kp_InvalidOperation := kp_InvalidOperation,
    ex_InvalidOperation := ex_InvalidOperation,
    ty_InvalidOperation := ty_InvalidOperation,
    is_InvalidOperation := is_InvalidOperation,
    xi_InvalidOperation := xi_InvalidOperation,
    g_InvalidSlope := PySem.W.mg_of X G g_InvalidSlope,
    kp_InvalidSlope := kp_InvalidSlope,
    ex_InvalidSlope := ex_InvalidSlope,
    ty_InvalidSlope := ty_InvalidSlope,
    is_InvalidSlope := is_InvalidSlope,
    xi_InvalidSlope := xi_InvalidSlope,
    g_InvalidText := PySem.W.mg_of X G g_InvalidText,
    kp_InvalidText := kp_InvalidText,
    ex_InvalidText := ex_InvalidText,
    ty_InvalidText := ty_InvalidText,
    is_InvalidText := is_InvalidText,
    xi_InvalidText := xi_InvalidText,
    g_InvalidWay := PySem.W.mg_of X G g_InvalidWay,
    kp_InvalidWay := kp_InvalidWay,
    ex_InvalidWay := ex_InvalidWay,
    ty_InvalidWay := ty_InvalidWay,
    is_InvalidWay := is_InvalidWay,
    xi_InvalidWay := xi_InvalidWay,
    g_ParseError := PySem.W.mg_of X G g_ParseError,
    kp_ParseError := kp_ParseError,
    ex_ParseError := ex_ParseError,
    ty_ParseError := ty_ParseError,
    is_ParseError := is_ParseError,
    xf_ParseError := ⟨o5_ParseError, o6_ParseError, ex_ParseError, o3_ParseError⟩,
    nf_ParseError := nf_ParseError,
    ow_ParseError := ⟨o1_ParseError, o2_ParseError, o3_ParseError, o4_ParseError, m_ParseError_init, f_ParseError_init, kp_ParseError, ex_ParseError, ty_ParseError, o5_ParseError, o6_ParseError⟩,
    g_Refused := PySem.W.mg_of X G g_Refused,
    kp_Refused := kp_Refused,
    ex_Refused := ex_Refused,
    ty_Refused := ty_Refused,
    is_Refused := is_Refused,
    xf_Refused := ⟨o5_Refused, o6_Refused, ex_Refused, o3_Refused⟩,
    nf_Refused := nf_Refused,
    ma_Refused := ma_Refused,
    ow_Refused := ⟨o1_Refused, o2_Refused, o3_Refused, o4_Refused, m_Refused_init, f_Refused_init, kp_Refused, ex_Refused, ty_Refused, o5_Refused, o6_Refused⟩,
    sb_InvalidNumber_InvalidNumber := sb_InvalidNumber_InvalidNumber,
    sb_ParseError_InvalidNumber := sb_ParseError_InvalidNumber,
    sb_ParseError_InvalidOperation := sb_ParseError_InvalidOperation,
    sb_ParseError_InvalidSlope := sb_ParseError_InvalidSlope,
    sb_ParseError_InvalidText := sb_ParseError_InvalidText,
    sb_ParseError_InvalidWay := sb_ParseError_InvalidWay,
    sb_ParseError_ParseError := sb_ParseError_ParseError,
    sb_Refused_InvalidNumber := sb_Refused_InvalidNumber,
    sb_Refused_InvalidOperation := sb_Refused_InvalidOperation,
    sb_Refused_InvalidSlope := sb_Refused_InvalidSlope,
    sb_Refused_InvalidText := sb_Refused_InvalidText,
    sb_Refused_InvalidWay := sb_Refused_InvalidWay,
    sb_Refused_ParseError := sb_Refused_ParseError,
    sb_Refused_Refused := sb_Refused_Refused,
    sb_InvalidText_InvalidNumber := sb_InvalidText_InvalidNumber,
    sb_InvalidText_InvalidOperation := sb_InvalidText_InvalidOperation,
    sb_InvalidText_InvalidSlope := sb_InvalidText_InvalidSlope,
    sb_InvalidText_InvalidText := sb_InvalidText_InvalidText,
    cc_law_texts_right := ((PySem.W.tabIn K "_law_texts_right").getD (0, 0)).1,
    pp_law_texts_right := ((PySem.W.tabIn K "_law_texts_right").getD (0, 0)).2,
    cq_law_texts_right := cq_law_texts_right,
    cc_law_slope_right := ((PySem.W.tabIn K "_law_slope_right").getD (0, 0)).1,
    pp_law_slope_right := ((PySem.W.tabIn K "_law_slope_right").getD (0, 0)).2,
    cq_law_slope_right := cq_law_slope_right,
    cc_law_errors_right := ((PySem.W.tabIn K "_law_errors_right").getD (0, 0)).1,
    pp_law_errors_right := ((PySem.W.tabIn K "_law_errors_right").getD (0, 0)).2,
    cq_law_errors_right := cq_law_errors_right,
    pn_law_texts_right_law_slope_right := pn_law_texts_right_law_slope_right,
    pn_law_texts_right_law_errors_right := pn_law_texts_right_law_errors_right,
    pn_law_slope_right_law_errors_right := pn_law_slope_right_law_errors_right,
    n_abs := PySem.W.mg_none_of X G n_abs,
    n_bool := PySem.W.mg_none_of X G n_bool,
    n_int := PySem.W.mg_none_of X G n_int,
    n_isinstance := PySem.W.mg_none_of X G n_isinstance,
    n_len := PySem.W.mg_none_of X G n_len,
    n_max := PySem.W.mg_none_of X G n_max,
    n_min := PySem.W.mg_none_of X G n_min,
    n_range := PySem.W.mg_none_of X G n_range,
    n_repr := PySem.W.mg_none_of X G n_repr,
    n_str := PySem.W.mg_none_of X G n_str,
    i_gcd := PySem.W.mg_of X G i_gcd,
    c_MAX_SIDE := ⟨_, PySem.W.mg_of X G qc_MAX_SIDE, ⟨_, rfl⟩⟩,
    c_DIGITS := ⟨_, PySem.W.mg_of X G qc_DIGITS, ⟨_, rfl⟩⟩
  }
  refine ⟨_, [(T.cc_law_texts_right, T.pp_law_texts_right), (T.cc_law_slope_right, T.pp_law_slope_right), (T.cc_law_errors_right, T.pp_law_errors_right)], spLaw K T, ?_, fun s v => .of_eq rfl, ?_, fun base _ _ TB => ok_law T ⟨TB (T.cc_law_texts_right, T.pp_law_texts_right) (List.mem_cons_self), TB (T.cc_law_slope_right, T.pp_law_slope_right) (List.mem_cons_of_mem _ (List.mem_cons_self)), TB (T.cc_law_errors_right, T.pp_law_errors_right) (List.mem_cons_of_mem _ (List.mem_cons_of_mem _ (List.mem_cons_self)))⟩⟩
  · intro p hp
    simp only [List.mem_cons, List.not_mem_nil, or_false] at hp
    rcases hp with rfl | rfl | rfl
    · exact ⟨ce_law_texts_right, cn_law_texts_right, PySem.W.codeHd_of_K X ch_law_texts_right⟩
    · exact ⟨ce_law_slope_right, cn_law_slope_right, PySem.W.codeHd_of_K X ch_law_slope_right⟩
    · exact ⟨ce_law_errors_right, cn_law_errors_right, PySem.W.codeHd_of_K X ch_law_errors_right⟩
  · intro H a ns hl hT hS
    refine ⟨a, ns, rfl, hS, hl, fun p hp => ?_, fun _ => rfl⟩
    simp only [tabs, List.mem_cons, List.not_mem_nil, or_false] at hp
    rcases hp with rfl | rfl | rfl
    · exact LamX.TabS.nil (hT (T.cc_law_texts_right, T.pp_law_texts_right) (List.mem_cons_self))
    · exact LamX.TabS.nil (hT (T.cc_law_slope_right, T.pp_law_slope_right) (List.mem_cons_of_mem _ (List.mem_cons_self)))
    · exact LamX.TabS.nil (hT (T.cc_law_errors_right, T.pp_law_errors_right) (List.mem_cons_of_mem _ (List.mem_cons_of_mem _ (List.mem_cons_self))))
end Lw
open PySem PySem.W PyProof.Rows
set_option maxRecDepth 100000 in
set_option maxHeartbeats 0 in
theorem PySem.Challenge.cw_slantways_k00_slopes_and_their_texts_holds : PySem.Challenge.rw_slantways_k00_slopes_and_their_texts.Holds := by
  w_on; o_law; k_head; (case hw => w_witness2)
  k_fill
  refine En.walkG (l := PySem.Challenge.rw_slantways_k00_slopes_and_their_texts) (n := 63) (k := 11) (x := "_law_script") rfl (by decide) rfl ⟨rfl, by decide, by decide⟩ (fun w h Y => PySem.W.km_in_of Y) ?F
  case F =>
    intro w mg fa h Y KX G hmg
    refine' Lw.all_mk KX G hmg ?g_Slope ?g_InvalidNumber ?g_InvalidOperation ?g_InvalidSlope ?g_InvalidText ?g_InvalidWay ?g_ParseError ?g_Refused ?m_ParseError_init ?f_ParseError_init ?l_ParseError_init ?c_ParseError_init ?k_ParseError_init ?m_InvalidNumber_init ?f_InvalidNumber_init ?l_InvalidNumber_init ?c_InvalidNumber_init ?k_InvalidNumber_init ?m_Refused_init ?f_Refused_init ?l_Refused_init ?c_Refused_init ?k_Refused_init ?g_is_number ?l_is_number ?c_is_number ?k_is_number ?g_is_whole_between ?l_is_whole_between ?c_is_whole_between ?k_is_whole_between ?g_read_side ?l_read_side ?c_read_side ?k_read_side ?m_Slope_init ?f_Slope_init ?l_Slope_init ?c_Slope_init ?k_Slope_init ?pa_Slope_of_text ?pq_Slope_of_text ?pf_Slope_of_text ?l_Slope_of_text ?c_Slope_of_text ?k_Slope_of_text ?pa_Slope_rises ?pg_Slope_rises ?pt_Slope_rises ?pq_Slope_rises ?l_Slope_rises ?c_Slope_rises ?k_Slope_rises ?pa_Slope_steps ?pg_Slope_steps ?pt_Slope_steps ?pq_Slope_steps ?l_Slope_steps ?c_Slope_steps ?k_Slope_steps ?pa_Slope_common ?pg_Slope_common ?pt_Slope_common ?pq_Slope_common ?l_Slope_common ?c_Slope_common ?k_Slope_common ?pa_Slope_is_coprime ?pg_Slope_is_coprime ?pt_Slope_is_coprime ?pq_Slope_is_coprime ?l_Slope_is_coprime ?c_Slope_is_coprime ?k_Slope_is_coprime ?pa_Slope_half ?pg_Slope_half ?pt_Slope_half ?pq_Slope_half ?l_Slope_half ?c_Slope_half ?k_Slope_half ?m_Slope_exchanged ?f_Slope_exchanged ?l_Slope_exchanged ?c_Slope_exchanged ?k_Slope_exchanged ?m_Slope_eq ?f_Slope_eq ?l_Slope_eq ?c_Slope_eq ?k_Slope_eq ?m_Slope_str ?f_Slope_str ?l_Slope_str ?c_Slope_str ?k_Slope_str ?g_check_coprime ?l_check_coprime ?c_check_coprime ?k_check_coprime ?g_law_dice ?l_law_dice ?c_law_dice ?k_law_dice ?g_law_roll ?l_law_roll ?c_law_roll ?k_law_roll ?g_law_pick ?l_law_pick ?c_law_pick ?k_law_pick ?g_law_any_slope ?l_law_any_slope ?c_law_any_slope ?k_law_any_slope ?g_law_common ?l_law_common ?c_law_common ?k_law_common ?g_law_first_fault ?l_law_first_fault ?c_law_first_fault ?k_law_first_fault ?g_law_is_number ?l_law_is_number ?c_law_is_number ?k_law_is_number ?g_law_begins_number ?l_law_begins_number ?c_law_begins_number ?k_law_begins_number ?g_law_begins ?l_law_begins ?c_law_begins ?k_law_begins ?g_law_due ?l_law_due ?c_law_due ?k_law_due ?g_law_bent_text ?l_law_bent_text ?c_law_bent_text ?k_law_bent_text ?g_law_texts_right ?l_law_texts_right ?c_law_texts_right ?k_law_texts_right ?g_law_slope_right ?l_law_slope_right ?c_law_slope_right ?k_law_slope_right ?g_law_errors_right ?l_law_errors_right ?c_law_errors_right ?k_law_errors_right ?g_law ?l_law ?c_law ?k_law ?c1_Slope ?c2_Slope ?c3_Slope ?c4_Slope ?c5_Slope ?c6_Slope ?rr_Slope ?rg_Slope ?na_Slope_rises ?na_Slope_steps ?na_Slope_common ?o1_InvalidNumber ?o2_InvalidNumber ?o4_InvalidNumber ?o3_InvalidNumber ?o5_InvalidNumber ?o6_InvalidNumber ?o1_ParseError ?o2_ParseError ?o4_ParseError ?o3_ParseError ?o5_ParseError ?o6_ParseError ?o1_Refused ?o2_Refused ?o4_Refused ?o3_Refused ?o5_Refused ?o6_Refused ?cq_law_texts_right ?ch_law_texts_right ?cn_law_texts_right ?ce_law_texts_right ?cq_law_slope_right ?ch_law_slope_right ?cn_law_slope_right ?ce_law_slope_right ?cq_law_errors_right ?ch_law_errors_right ?cn_law_errors_right ?ce_law_errors_right ?pn_law_texts_right_law_slope_right ?pn_law_texts_right_law_errors_right ?pn_law_slope_right_law_errors_right ?fo_Slope ?ic_Slope ?mr_Slope ?nn_Slope ?of_Slope_str ?o7_Slope_str ?o8_Slope ?o9_Slope ?o0_Slope ?of_Slope_tuple ?o7_Slope_tuple ?cg ?ct ?kp_InvalidNumber ?ex_InvalidNumber ?ty_InvalidNumber ?is_InvalidNumber ?nf_InvalidNumber ?kp_InvalidOperation ?ex_InvalidOperation ?ty_InvalidOperation ?is_InvalidOperation ?xi_InvalidOperation ?kp_InvalidSlope ?ex_InvalidSlope ?ty_InvalidSlope ?is_InvalidSlope ?xi_InvalidSlope ?kp_InvalidText ?ex_InvalidText ?ty_InvalidText ?is_InvalidText ?xi_InvalidText ?kp_InvalidWay ?ex_InvalidWay ?ty_InvalidWay ?is_InvalidWay ?xi_InvalidWay ?kp_ParseError ?ex_ParseError ?ty_ParseError ?is_ParseError ?nf_ParseError ?kp_Refused ?ex_Refused ?ty_Refused ?is_Refused ?nf_Refused ?ma_Refused ?sb_InvalidNumber_InvalidNumber ?sb_ParseError_InvalidNumber ?sb_ParseError_InvalidOperation ?sb_ParseError_InvalidSlope ?sb_ParseError_InvalidText ?sb_ParseError_InvalidWay ?sb_ParseError_ParseError ?sb_Refused_InvalidNumber ?sb_Refused_InvalidOperation ?sb_Refused_InvalidSlope ?sb_Refused_InvalidText ?sb_Refused_InvalidWay ?sb_Refused_ParseError ?sb_Refused_Refused ?sb_InvalidText_InvalidNumber ?sb_InvalidText_InvalidOperation ?sb_InvalidText_InvalidSlope ?sb_InvalidText_InvalidText ?n_abs ?n_bool ?n_int ?n_isinstance ?n_len ?n_max ?n_min ?n_range ?n_repr ?n_str ?i_gcd ?qc_MAX_SIDE ?qc_DIGITS
    (case g_Slope => k_is)
    (case g_InvalidNumber => k_is)
    (case g_InvalidOperation => k_is)
    (case g_InvalidSlope => k_is)
    (case g_InvalidText => k_is)
    (case g_InvalidWay => k_is)
    (case g_ParseError => k_is)
    (case g_Refused => k_is)
    (case m_ParseError_init => k_is)
    (case f_ParseError_init => k_is)
    (case l_ParseError_init => k_is)
    (case c_ParseError_init => k_is)
    (case k_ParseError_init => k_is)
    (case m_InvalidNumber_init => k_is)
    (case f_InvalidNumber_init => k_is)
    (case l_InvalidNumber_init => k_is)
    (case c_InvalidNumber_init => k_is)
    (case k_InvalidNumber_init => k_is)
    (case m_Refused_init => k_is)
    (case f_Refused_init => k_is)
    (case l_Refused_init => k_is)
    (case c_Refused_init => k_is)
    (case k_Refused_init => k_is)
    (case g_is_number => k_is)
    (case l_is_number => k_is)
    (case c_is_number => k_is)
    (case k_is_number => k_is)
    (case g_is_whole_between => k_is)
    (case l_is_whole_between => k_is)
    (case c_is_whole_between => k_is)
    (case k_is_whole_between => k_is)
    (case g_read_side => k_is)
    (case l_read_side => k_is)
    (case c_read_side => k_is)
    (case k_read_side => k_is)
    (case m_Slope_init => k_is)
    (case f_Slope_init => k_is)
    (case l_Slope_init => k_is)
    (case c_Slope_init => k_is)
    (case k_Slope_init => k_is)
    (case pa_Slope_of_text => k_is)
    (case pq_Slope_of_text => k_is)
    (case pf_Slope_of_text => k_is)
    (case l_Slope_of_text => k_is)
    (case c_Slope_of_text => k_is)
    (case k_Slope_of_text => k_is)
    (case pa_Slope_rises => k_is)
    (case pg_Slope_rises => k_is)
    (case pt_Slope_rises => k_is)
    (case pq_Slope_rises => k_is)
    (case l_Slope_rises => k_is)
    (case c_Slope_rises => k_is)
    (case k_Slope_rises => k_is)
    (case pa_Slope_steps => k_is)
    (case pg_Slope_steps => k_is)
    (case pt_Slope_steps => k_is)
    (case pq_Slope_steps => k_is)
    (case l_Slope_steps => k_is)
    (case c_Slope_steps => k_is)
    (case k_Slope_steps => k_is)
    (case pa_Slope_common => k_is)
    (case pg_Slope_common => k_is)
    (case pt_Slope_common => k_is)
    (case pq_Slope_common => k_is)
    (case l_Slope_common => k_is)
    (case c_Slope_common => k_is)
    (case k_Slope_common => k_is)
    (case pa_Slope_is_coprime => k_is)
    (case pg_Slope_is_coprime => k_is)
    (case pt_Slope_is_coprime => k_is)
    (case pq_Slope_is_coprime => k_is)
    (case l_Slope_is_coprime => k_is)
    (case c_Slope_is_coprime => k_is)
    (case k_Slope_is_coprime => k_is)
    (case pa_Slope_half => k_is)
    (case pg_Slope_half => k_is)
    (case pt_Slope_half => k_is)
    (case pq_Slope_half => k_is)
    (case l_Slope_half => k_is)
    (case c_Slope_half => k_is)
    (case k_Slope_half => k_is)
    (case m_Slope_exchanged => k_is)
    (case f_Slope_exchanged => k_is)
    (case l_Slope_exchanged => k_is)
    (case c_Slope_exchanged => k_is)
    (case k_Slope_exchanged => k_is)
    (case m_Slope_eq => k_is)
    (case f_Slope_eq => k_is)
    (case l_Slope_eq => k_is)
    (case c_Slope_eq => k_is)
    (case k_Slope_eq => k_is)
    (case m_Slope_str => k_is)
    (case f_Slope_str => k_is)
    (case l_Slope_str => k_is)
    (case c_Slope_str => k_is)
    (case k_Slope_str => k_is)
    (case g_check_coprime => k_is)
    (case l_check_coprime => k_is)
    (case c_check_coprime => k_is)
    (case k_check_coprime => k_is)
    (case g_law_dice => k_is)
    (case l_law_dice => k_is)
    (case c_law_dice => k_is)
    (case k_law_dice => k_is)
    (case g_law_roll => k_is)
    (case l_law_roll => k_is)
    (case c_law_roll => k_is)
    (case k_law_roll => k_is)
    (case g_law_pick => k_is)
    (case l_law_pick => k_is)
    (case c_law_pick => k_is)
    (case k_law_pick => k_is)
    (case g_law_any_slope => k_is)
    (case l_law_any_slope => k_is)
    (case c_law_any_slope => k_is)
    (case k_law_any_slope => k_is)
    (case g_law_common => k_is)
    (case l_law_common => k_is)
    (case c_law_common => k_is)
    (case k_law_common => k_is)
    (case g_law_first_fault => k_is)
    (case l_law_first_fault => k_is)
    (case c_law_first_fault => k_is)
    (case k_law_first_fault => k_is)
    (case g_law_is_number => k_is)
    (case l_law_is_number => k_is)
    (case c_law_is_number => k_is)
    (case k_law_is_number => k_is)
    (case g_law_begins_number => k_is)
    (case l_law_begins_number => k_is)
    (case c_law_begins_number => k_is)
    (case k_law_begins_number => k_is)
    (case g_law_begins => k_is)
    (case l_law_begins => k_is)
    (case c_law_begins => k_is)
    (case k_law_begins => k_is)
    (case g_law_due => k_is)
    (case l_law_due => k_is)
    (case c_law_due => k_is)
    (case k_law_due => k_is)
    (case g_law_bent_text => k_is)
    (case l_law_bent_text => k_is)
    (case c_law_bent_text => k_is)
    (case k_law_bent_text => k_is)
    (case g_law_texts_right => k_is)
    (case l_law_texts_right => k_is)
    (case c_law_texts_right => k_is)
    (case k_law_texts_right => k_is)
    (case g_law_slope_right => k_is)
    (case l_law_slope_right => k_is)
    (case c_law_slope_right => k_is)
    (case k_law_slope_right => k_is)
    (case g_law_errors_right => k_is)
    (case l_law_errors_right => k_is)
    (case c_law_errors_right => k_is)
    (case k_law_errors_right => k_is)
    (case g_law => k_is)
    (case l_law => k_is)
    (case c_law => k_is)
    (case k_law => k_is)
    (case c1_Slope => k_is)
    (case c2_Slope => k_is)
    (case c3_Slope => k_is)
    (case c4_Slope => k_is)
    (case c5_Slope => k_is)
    (case c6_Slope => k_is)
    (case rr_Slope => k_is)
    (case rg_Slope => k_is)
    (case na_Slope_rises => k_is)
    (case na_Slope_steps => k_is)
    (case na_Slope_common => k_is)
    (case o1_InvalidNumber => first | k_is | kernel_rfl | rfl)
    (case o2_InvalidNumber => first | k_is | kernel_rfl | rfl)
    (case o4_InvalidNumber => k_is)
    (case o3_InvalidNumber => k_is)
    (case o5_InvalidNumber => k_is)
    (case o6_InvalidNumber => k_is)
    (case o1_ParseError => first | k_is | kernel_rfl | rfl)
    (case o2_ParseError => first | k_is | kernel_rfl | rfl)
    (case o4_ParseError => k_is)
    (case o3_ParseError => k_is)
    (case o5_ParseError => k_is)
    (case o6_ParseError => k_is)
    (case o1_Refused => first | k_is | kernel_rfl | rfl)
    (case o2_Refused => first | k_is | kernel_rfl | rfl)
    (case o4_Refused => k_is)
    (case o3_Refused => k_is)
    (case o5_Refused => k_is)
    (case o6_Refused => k_is)
    (case cq_law_texts_right => kernel_rfl)
    (case ch_law_texts_right => kernel_rfl)
    (case cn_law_texts_right => kernel_rfl)
    (case ce_law_texts_right => exact PySem.W.km_tabs_of Y _ (of_decide_eq_true (by kernel_rfl)))
    (case cq_law_slope_right => kernel_rfl)
    (case ch_law_slope_right => kernel_rfl)
    (case cn_law_slope_right => kernel_rfl)
    (case ce_law_slope_right => exact PySem.W.km_tabs_of Y _ (of_decide_eq_true (by kernel_rfl)))
    (case cq_law_errors_right => kernel_rfl)
    (case ch_law_errors_right => kernel_rfl)
    (case cn_law_errors_right => kernel_rfl)
    (case ce_law_errors_right => exact PySem.W.km_tabs_of Y _ (of_decide_eq_true (by kernel_rfl)))
    (case pn_law_texts_right_law_slope_right => exact of_decide_eq_true (by kernel_rfl))
    (case pn_law_texts_right_law_errors_right => exact of_decide_eq_true (by kernel_rfl))
    (case pn_law_slope_right_law_errors_right => exact of_decide_eq_true (by kernel_rfl))
    (case fo_Slope => k_is)
    (case ic_Slope => k_is)
    (case mr_Slope => k_is)
    (case nn_Slope => k_is)
    (case of_Slope_str => k_is)
    (case o7_Slope_str => first | rfl | k_is)
    (case o8_Slope => k_is)
    (case o9_Slope => first | k_is | kernel_rfl | rfl)
    (case o0_Slope => k_is)
    (case of_Slope_tuple => k_is)
    (case o7_Slope_tuple => first | rfl | k_is)
    (case cg => k_is)
    (case ct => k_is)
    (case kp_InvalidNumber => k_is)
    (case ex_InvalidNumber => k_is)
    (case ty_InvalidNumber => k_is)
    (case is_InvalidNumber => first | k_is | kernel_rfl | rfl)
    (case nf_InvalidNumber => k_is)
    (case kp_InvalidOperation => k_is)
    (case ex_InvalidOperation => k_is)
    (case ty_InvalidOperation => k_is)
    (case is_InvalidOperation => first | k_is | kernel_rfl | rfl)
    (case xi_InvalidOperation => first | k_is | kernel_rfl | rfl)
    (case kp_InvalidSlope => k_is)
    (case ex_InvalidSlope => k_is)
    (case ty_InvalidSlope => k_is)
    (case is_InvalidSlope => first | k_is | kernel_rfl | rfl)
    (case xi_InvalidSlope => first | k_is | kernel_rfl | rfl)
    (case kp_InvalidText => k_is)
    (case ex_InvalidText => k_is)
    (case ty_InvalidText => k_is)
    (case is_InvalidText => first | k_is | kernel_rfl | rfl)
    (case xi_InvalidText => first | k_is | kernel_rfl | rfl)
    (case kp_InvalidWay => k_is)
    (case ex_InvalidWay => k_is)
    (case ty_InvalidWay => k_is)
    (case is_InvalidWay => first | k_is | kernel_rfl | rfl)
    (case xi_InvalidWay => first | k_is | kernel_rfl | rfl)
    (case kp_ParseError => k_is)
    (case ex_ParseError => k_is)
    (case ty_ParseError => k_is)
    (case is_ParseError => first | k_is | kernel_rfl | rfl)
    (case nf_ParseError => k_is)
    (case kp_Refused => k_is)
    (case ex_Refused => k_is)
    (case ty_Refused => k_is)
    (case is_Refused => first | k_is | kernel_rfl | rfl)
    (case nf_Refused => k_is)
    (case ma_Refused => k_is)
    (case sb_InvalidNumber_InvalidNumber => k_is)
    (case sb_ParseError_InvalidNumber => k_is)
    (case sb_ParseError_InvalidOperation => k_is)
    (case sb_ParseError_InvalidSlope => k_is)
    (case sb_ParseError_InvalidText => k_is)
    (case sb_ParseError_InvalidWay => k_is)
    (case sb_ParseError_ParseError => k_is)
    (case sb_Refused_InvalidNumber => k_is)
    (case sb_Refused_InvalidOperation => k_is)
    (case sb_Refused_InvalidSlope => k_is)
    (case sb_Refused_InvalidText => k_is)
    (case sb_Refused_InvalidWay => k_is)
    (case sb_Refused_ParseError => k_is)
    (case sb_Refused_Refused => k_is)
    (case sb_InvalidText_InvalidNumber => k_is)
    (case sb_InvalidText_InvalidOperation => k_is)
    (case sb_InvalidText_InvalidSlope => k_is)
    (case sb_InvalidText_InvalidText => k_is)
    (case n_abs => k_is)
    (case n_bool => k_is)
    (case n_int => k_is)
    (case n_isinstance => k_is)
    (case n_len => k_is)
    (case n_max => k_is)
    (case n_min => k_is)
    (case n_range => k_is)
    (case n_repr => k_is)
    (case n_str => k_is)
    (case i_gcd => k_is)
    (case qc_MAX_SIDE => k_is)
    (case qc_DIGITS => k_is)
