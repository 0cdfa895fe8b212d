import PyProof.Rows.All
import Wide.All
import OpenK.AllK
import Wide.FinOn
import HandS.ForMost
import HandS.Wide
import HandS.Gcd
import HandS.Property
import HandS.IsInst
import HandS.Codes
import HandS.TupAny
import HandS.Style
import HandS.RaiseMore
import HandS.SortInts
import HandS.StrMore
import HandS.Conv
import HandS.Zip
import HandS.Rev
import HandS.FStr
import KE.GoesEnum
import PyProof.ListStr
import PyProof.StrOps2
import HandS.Iter
import HandS.Walk
import HandS.SlotsOwn
import KE.LtData
import PyProof.Rows.StrRev
import OpenK.KMeth
import OpenK.KOps
import KE.KOpsOwn
import KE.KCallOwn
import KE.KFmtOwn
import HandS.DictComp
import HandS.Defaults
import HandS.ClsMeth
import KE.KExcInit
import HandS.ExcInit
import HandS.ExcField
import HandS.ExcOwn
import HandS.Lambda
import HandS.EndTab
import KE.KNestM
import HandS.TryMany
import PyProof.ReprRoads
import HandS.WordsExc
import HandS.Exc
import KE.DataMinMax
import PySem.Challenge.RW_slantways_k47_whole_quotients
set_option Elab.async false
set_option linter.all false
set_option maxRecDepth 100000
set_option maxHeartbeats 4000000
/-! Sx: small steps over readings, heaps that only grow, dice. -/
namespace Sx
open PySem PySem.Spec PyProof.Rows L2

/-! ### the built-ins by name -/
theorem bt_len : bootBuiltins "len" = some (.builtin "len") := by decide +kernel
theorem bt_abs : bootBuiltins "abs" = some (.builtin "abs") := by decide +kernel
theorem bt_max : bootBuiltins "max" = some (.builtin "max") := by decide +kernel
theorem bt_min : bootBuiltins "min" = some (.builtin "min") := by decide +kernel
theorem bt_sum : bootBuiltins "sum" = some (.builtin "sum") := by decide +kernel
theorem bt_any : bootBuiltins "any" = some (.builtin "any") := by decide +kernel
theorem bt_all : bootBuiltins "all" = some (.builtin "all") := by decide +kernel
theorem bt_sorted : bootBuiltins "sorted" = some (.builtin "sorted") := by decide +kernel
theorem bt_isinstance : bootBuiltins "isinstance" = some (.builtin "isinstance") := by decide +kernel
theorem bt_ord : bootBuiltins "ord" = some (.builtin "ord") := by decide +kernel
theorem bt_chr : bootBuiltins "chr" = some (.builtin "chr") := by decide +kernel
theorem bt_repr : bootBuiltins "repr" = some (.builtin "repr") := by decide +kernel
theorem bt_int : bootBuiltins "int" = some (.type "int") := by decide +kernel
theorem bt_str : bootBuiltins "str" = some (.type "str") := by decide +kernel
theorem bt_bool : bootBuiltins "bool" = some (.type "bool") := by decide +kernel
theorem bt_list : bootBuiltins "list" = some (.type "list") := by decide +kernel
theorem bt_tuple : bootBuiltins "tuple" = some (.type "tuple") := by decide +kernel
theorem bt_range : bootBuiltins "range" = some (.type "range") := by decide +kernel

/-! ### steps: one lemma for each head of a reading -/
section
variable {σ : L2.St} {H : Hp} {nx bk ct : L2.St → Hp → Prop} {rt Q : VK} {ta tb tc te : TE} {tt uu : TT} {t u : TS} {tl : TA} {x y v : V} {r : R2}
theorem r_st {t : TS} {D : Ends} {σ σ' : L2.St} {H : Hp} (e : σ = σ') (h : t D σ' H) : t D σ H := by rw [e]; exact h
theorem r_seq (h : t ⟨u ⟨nx, rt, bk, ct⟩, rt, bk, ct⟩ σ H) : tSeq t u ⟨nx, rt, bk, ct⟩ σ H := h
theorem r_next (h : nx σ H) : tNext ⟨nx, rt, bk, ct⟩ σ H := h
theorem r_break (h : bk σ H) : tBreak ⟨nx, rt, bk, ct⟩ σ H := h
theorem r_cont (h : ct σ H) : tCont ⟨nx, rt, bk, ct⟩ σ H := h
theorem r_asg {g : TG} (h : te σ H fun x H1 => g x σ H1 nx) : tAsg te g ⟨nx, rt, bk, ct⟩ σ H := h
theorem r_name {i : Nat} {k : L2.St → Hp → Prop} (h : k (σ.set i (some v)) H) : gName i v σ H k := h
theorem r_ret (h : te σ H rt) : tRet te ⟨nx, rt, bk, ct⟩ σ H := h
theorem r_retN (h : rt .non H) : tRetN ⟨nx, rt, bk, ct⟩ σ H := h
theorem r_drop (h : te σ H fun _ H1 => nx σ H1) : tDrop te ⟨nx, rt, bk, ct⟩ σ H := h
theorem r_ifs (h : tt σ H fun b H1 => if b = true then t ⟨nx, rt, bk, ct⟩ σ H1 else u ⟨nx, rt, bk, ct⟩ σ H1) : tIfS tt t u ⟨nx, rt, bk, ct⟩ σ H := h
theorem r_par {i j : Nat} (h : tl σ H fun vs H1 => ∃ v w, vs = [v, w] ∧ nx ((σ.set i (some v)).set j (some w)) H1) : tPar i j tl ⟨nx, rt, bk, ct⟩ σ H := h
theorem r_par3 {i j l : Nat} (h : tl σ H fun vs H1 => ∃ u v w, vs = [u, v, w] ∧ nx (((σ.set i (some u)).set j (some v)).set l (some w)) H1) : tPar3 i j l tl ⟨nx, rt, bk, ct⟩ σ H := h
theorem r_two {P : V → V → Prop} {a b : V} (h : P a b) : ∃ v w, [a, b] = [v, w] ∧ P v w := ⟨a, b, rfl, h⟩
theorem r_three {P : V → V → V → Prop} {a b c : V} (h : P a b c) : ∃ u v w, [a, b, c] = [u, v, w] ∧ P u v w := ⟨a, b, c, rfl, h⟩
theorem r_var {i : Nat} (e : σ[i]? = some (some v)) (h : Q v H) : tVar i σ H Q := ⟨v, e, h⟩
theorem r_c (h : Q v H) : tC v σ H Q := h
theorem r_op (h : ta σ H fun x H1 => tb σ H1 fun y H2 => r x y H2 Q) : tOp r ta tb σ H Q := h
theorem r_un {f : V → Hp → VK → Prop} (h : ta σ H fun x H1 => f x H1 Q) : tUn f ta σ H Q := h
theorem r_I0 {g : Int → Int → V} {i j : Int} (h : Q (g i j) H) : rI0 g (.int i) (.int j) H Q := ⟨i, j, rfl, rfl, h⟩
theorem r_I {C : Int → Int → Prop} {g : Int → Int → V} {i j : Int} (hc : C i j) (h : Q (g i j) H) : rI C g (.int i) (.int j) H Q := ⟨i, j, rfl, rfl, hc, h⟩
theorem r_U {g : Int → V} {i : Int} (h : Q (g i) H) : rU g (.int i) H Q := ⟨i, rfl, h⟩
theorem dI {i j : Int} : decide (V.int i = V.int j) = decide (i = j) := by simp
theorem dS {i j : Str} : decide (V.str i = V.str j) = decide (i = j) := by simp
theorem dB {i j : Bool} : decide (V.bl i = V.bl j) = decide (i = j) := by simp
theorem r_eqI {i j : Int} (h : Q (.bl (decide (i = j))) H) : rEq (.int i) (.int j) H Q := ⟨rfl, by rw [dI]; exact h⟩
theorem r_neI {i j : Int} (h : Q (.bl (!decide (i = j))) H) : rNe (.int i) (.int j) H Q := ⟨rfl, by rw [dI]; exact h⟩
theorem r_eqS {i j : Str} (h : Q (.bl (decide (i = j))) H) : rEq (.str i) (.str j) H Q := ⟨rfl, by rw [dS]; exact h⟩
theorem r_neS {i j : Str} (h : Q (.bl (!decide (i = j))) H) : rNe (.str i) (.str j) H Q := ⟨rfl, by rw [dS]; exact h⟩
theorem r_eqB {i j : Bool} (h : Q (.bl (decide (i = j))) H) : rEq (.bl i) (.bl j) H Q := ⟨rfl, by rw [dB]; exact h⟩
theorem r_neB {i j : Bool} (h : Q (.bl (!decide (i = j))) H) : rNe (.bl i) (.bl j) H Q := ⟨rfl, by rw [dB]; exact h⟩
theorem r_test {Q : Bool → Hp → Prop} (h : ta σ H fun x H1 => ∃ k, x = .bl k ∧ Q k H1) : tTest ta σ H Q := h
theorem r_B {Q : Bool → Hp → Prop} (h : ta σ H fun x H1 => ∃ k, x = .bl k ∧ Q k H1) : tB ta σ H Q := h
theorem r_bl {P : Bool → Prop} {b : Bool} (h : P b) : ∃ k, V.bl b = .bl k ∧ P k := ⟨b, rfl, h⟩
theorem r_and {Q : Bool → Hp → Prop} (h : tt σ H fun c H1 => if c = true then uu σ H1 Q else Q false H1) : tAnd tt uu σ H Q := h
theorem r_or {Q : Bool → Hp → Prop} (h : tt σ H fun c H1 => if c = true then Q true H1 else uu σ H1 Q) : tOr tt uu σ H Q := h
theorem r_not {Q : Bool → Hp → Prop} (h : tt σ H fun c H1 => Q (!c) H1) : tNot tt σ H Q := h
theorem r_andV (h : ta σ H fun x H1 => ∃ c, x = .bl c ∧ if c = true then tb σ H1 Q else Q (.bl false) H1) : tAndV ta tb σ H Q := h
theorem r_orV (h : ta σ H fun x H1 => ∃ c, x = .bl c ∧ if c = true then Q (.bl true) H1 else tb σ H1 Q) : tOrV ta tb σ H Q := h
theorem r_notV (h : ta σ H fun x H1 => ∃ c, x = .bl c ∧ Q (.bl (!c)) H1) : tNotV ta σ H Q := h
theorem r_ifE (h : tt σ H fun c H1 => if c = true then ta σ H1 Q else tb σ H1 Q) : tIf tt ta tb σ H Q := h
theorem r_chain {r r' : R2} (h : ta σ H fun x H1 => tb σ H1 fun y H2 => r x y H2 fun z H3 => ∃ k, z = .bl k ∧ (if k = true then tc σ H3 fun w' H4 => r' y w' H4 Q else Q (.bl false) H3)) : tChain r r' ta tb tc σ H Q := h
theorem r_nil {Q : List V → Hp → Prop} (h : Q [] H) : tNil σ H Q := h
theorem r_cons {Q : List V → Hp → Prop} (h : ta σ H fun x H1 => tl σ H1 fun xs H2 => Q (x :: xs) H2) : tCons ta tl σ H Q := h
theorem r_call {sp : Sp} {E : XK} (h : tl σ H fun vs H1 => sp (vs ++ []) H1 Q E) : tCall sp [] E tl σ H Q := h
theorem r_cb {f : List V → Hp → VK → Prop} (h : tl σ H fun vs H1 => f vs H1 Q) : tCB f tl σ H Q := h
def MakeP (C : Addr) (sp : Sp) (E : XK) (vs : List V) (H1 : Hp) (Q : VK) : Prop := ∀ x dx, H1 x = none → H1 dx = none → dx ≠ x → sp (.ref x :: (vs ++ [])) (upd (upd H1 dx (.own x)) x (.ins C dx [])) (fun v H2 => v = .non ∧ Q (.ref x) H2) E
theorem r_make {C : Addr} {sp : Sp} {E : XK} (h : tl σ H fun vs H1 => MakeP C sp E vs H1 Q) : tMake C sp [] E tl σ H Q := h
theorem r_tup (h : tl σ H fun xs H1 => xs.length ≤ sizeLine ∧ ∀ p, H1 p = none → Q (.ref p) (upd H1 p (.tup xs))) : tTup tl σ H Q := h
theorem r_lst (h : tl σ H fun xs H1 => xs.length ≤ sizeLine ∧ ∀ p, H1 p = none → Q (.ref p) (upd H1 p (.lst xs))) : tLst tl σ H Q := h
theorem r_prop {C : Addr} {sp : Sp} {E : XK} {dx a : Addr} {fs : List (Str × V)} (e : H a = some (.ins C dx fs)) (h : sp [.ref a] H Q E) : ∃ a' dx fs, V.ref a = .ref a' ∧ H a' = some (.ins C dx fs) ∧ sp (.ref a' :: []) H Q E := ⟨a, dx, fs, rfl, e, h⟩
theorem r_tprop {C : Addr} {sp : Sp} {E : XK} (h : ta σ H fun x H1 => ∃ a dx fs, x = .ref a ∧ H1 a = some (.ins C dx fs) ∧ sp (.ref a :: []) H1 Q E) : tProp C sp [] E ta σ H Q := h
theorem r_meth {C : Addr} {m : Str} {sp : Sp} {E : XK} (h : ta σ H fun x H1 => ∃ a dx fs, x = .ref a ∧ H1 a = some (.ins C dx fs) ∧ fs.lookup m = none ∧ tl σ H1 fun vs H2 => sp (x :: (vs ++ [])) H2 Q E) : tMeth C m sp [] E ta tl σ H Q := h
theorem r_getSp {C : Addr} {f : Str} {E : XK} {a dx : Addr} {fs : List (Str × V)} (e : H a = some (.ins C dx fs)) (l : fs.lookup f = some v) (h : Q v H) : getSp C f [.ref a] H Q E := ⟨a, dx, fs, v, rfl, e, l, h⟩
theorem r_fld {K : PySem.W.Frag} {f : Str} (h : ta σ H fun x H1 => ∃ a C dx fs v, x = .ref a ∧ H1 a = some (.ins C dx fs) ∧ Cls K C ∧ NoAttr K C f ∧ fs.lookup f = some v ∧ Q v H1) : tFld K ta f σ H Q := h
theorem r_BM {K : PySem.W.Frag} {T : String} {f : V → List V → Hp → VK → Prop} (h : ta σ H fun x H1 => tyV K T x H1 ∧ tl σ H1 fun xs H2 => f x xs H2 Q) : tBM K T f ta tl σ H Q := h
theorem r_BM0 {K : PySem.W.Frag} {T : String} {f : V → List V → Hp → VK → Prop} (h : ta σ H fun x H1 => tyV K T x H1 ∧ f x [] H1 Q) : tBM0 K T f ta σ H Q := h
theorem r_sub {ti : TE} {s : TSet} {k : L2.St → Hp → Prop} (h : ta σ H fun o H1 => ti σ H1 fun i H2 => s o i v H2 fun H3 => k σ H3) : gSub ta ti s v σ H k := h
theorem r_sl {f : V → Option Int → Option Int → Hp → VK → Prop} {t1 t2 : TO} (h : te σ H fun x H1 => t1 σ H1 fun l H2 => t2 σ H2 fun u H3 => f x l u H3 Q) : tSl f te t1 t2 σ H Q := h
theorem r_noPart {Q : Option Int → Hp → Prop} (h : Q none H) : tNoPart σ H Q := h
theorem r_part {Q : Option Int → Hp → Prop} (h : te σ H fun x H1 => ∃ i, x = .int i ∧ Q (some i) H1) : tPart te σ H Q := h
theorem r_int {P : Int → Prop} {i : Int} (h : P i) : ∃ j, V.int i = .int j ∧ P j := ⟨i, rfl, h⟩
theorem iteNT {A B : Prop} {i : Decidable ((!true) = true)} (h : B) : @ite Prop ((!true) = true) i A B := by
  rw [if_neg (fun z => nomatch z)]; exact h
theorem iteNF {A B : Prop} {i : Decidable ((!false) = true)} (h : A) : @ite Prop ((!false) = true) i A B := by
  rw [if_pos (show (!false) = true from rfl)]; exact h
theorem iteT' {A B : Prop} {i : Decidable (true = true)} (h : A) : @ite Prop (true = true) i A B := by
  rw [if_pos rfl]; exact h
theorem iteF' {A B : Prop} {i : Decidable (false = true)} (h : B) : @ite Prop (false = true) i A B := by
  rw [if_neg Bool.false_ne_true]; exact h
theorem r_cutQ {t : TE} (S : V → Hp → Prop) (h : ∀ Q' : VK, (∀ v H1, S v H1 → Q' v H1) → t σ H Q') (k : ∀ v H1, S v H1 → Q v H1) : t σ H Q := h Q k
theorem r_cutS {t : TS} (S : L2.St → Hp → Prop) (h : ∀ nx', (∀ σ H, S σ H → nx' σ H) → t ⟨nx', rt, bk, ct⟩ σ H) (k : ∀ σ H, S σ H → nx σ H) : t ⟨nx, rt, bk, ct⟩ σ H := h nx k
theorem ite_d {p A B : Prop} {j : Decidable p} {i : Decidable (@decide p j = true)} (h1 : p → A) (h2 : ¬ p → B) : @ite Prop (@decide p j = true) i A B := by
  by_cases h : p
  · rw [if_pos (decide_eq_true h)]; exact h1 h
  · rw [if_neg (by rw [decide_eq_false h]; exact Bool.false_ne_true)]; exact h2 h
theorem ite_nd {p A B : Prop} {j : Decidable p} {i : Decidable ((!@decide p j) = true)} (h1 : ¬ p → A) (h2 : p → B) : @ite Prop ((!@decide p j) = true) i A B := by
  by_cases h : p
  · rw [if_neg (by rw [decide_eq_true h]; exact Bool.false_ne_true)]; exact h2 h
  · rw [if_pos (by rw [decide_eq_false h]; rfl)]; exact h1 h
theorem ite_b {b : Bool} {A B : Prop} {i : Decidable (b = true)} (h1 : b = true → A) (h2 : b = false → B) : @ite Prop (b = true) i A B := by
  cases b with
  | true => rw [if_pos rfl]; exact h1 rfl
  | false => rw [if_neg Bool.false_ne_true]; exact h2 rfl
end

/-! ### more steps -/
section
variable {σ : L2.St} {H : Hp} {Q : VK} {v x y : V} {K : PySem.W.Frag}
theorem r_isi_int_bool {i : Int} (h : Q (.bl false) H) : rIsi K [.int i, .ty "bool"] H Q := ⟨_, _, _, _, false, rfl, .ty _, .base (.int i), kit_ty (by decide +kernel), h⟩
theorem r_isi_int_int {i : Int} (h : Q (.bl true) H) : rIsi K [.int i, .ty "int"] H Q := ⟨_, _, _, _, true, rfl, .ty _, .base (.int i), kit_ty (by decide +kernel), h⟩
theorem r_isi_str_str {i : Str} (h : Q (.bl true) H) : rIsi K [.str i, .ty "str"] H Q := ⟨_, _, _, _, true, rfl, .ty _, .base (.str i), kit_ty (by decide +kernel), h⟩
theorem r_isi_own {a C dx : Addr} {fs : List (Str × V)} {b : Bool} {D : Addr} (e : H a = some (.ins C dx fs)) (cl : Cls K C) (ha : PySem.W.findIn K (.ref C) "__class__" = some (some (.builtin "object.__class__")))
    (hn : PySem.W.specialIn K (.builtin "object.__class__") "__get__" = some (some (.builtin "getset_descriptor.__get__"))) (htk : PySem.W.takesIn K (.builtin "object.__class__") = some true) (hm : PySem.W.mroIn K C (.type "object") = some true)
    (ks : PySem.W.kitOne K (.ref C) (.ref D) = some b) (h : Q (.bl b) H) : rIsi K [.ref a, .ref D] H Q := ⟨_, _, _, _, b, rfl, .own D, .base (.ins e cl ha hn htk hm), ks, h⟩
theorem r_Ih {C : Int → Int → Prop} {g : Int → Int → V} {i j : Int} (h : Q (g i j) H) (hc : C i j) : rI C g (.int i) (.int j) H Q := ⟨i, j, rfl, rfl, hc, h⟩
theorem r_ixL {p : Addr} {xs : List V} {i : Int} (hp : H p = some (.lst xs)) (a : atI xs i = some v) (h : Q v H) : rIxL K (.ref p) (.int i) H Q := ⟨p, xs, i, v, rfl, rfl, SqL.of hp, a, h⟩
theorem r_ixT {p : Addr} {xs : List V} {i : Int} (hp : H p = some (.tup xs)) (a : atI xs i = some v) (h : Q v H) : rIxT K (.ref p) (.int i) H Q := ⟨p, xs, i, v, rfl, rfl, SqT.of hp, a, h⟩
theorem r_sFld {K : PySem.W.Frag} {f : Str} {ta tv : TE} {σ : L2.St} {nx bk ct : L2.St → Hp → Prop} {rt : VK} (h : tv σ H fun y H1 => ta σ H1 fun x H2 => ∃ a C dx fs, x = .ref a ∧ H2 a = some (.ins C dx fs) ∧ Cls K C ∧ NoAttr K C f ∧ fs.length < 1000 ∧ nx σ (upd H2 a (.ins C dx (putF f y fs)))) : sFld K ta tv f ⟨nx, rt, bk, ct⟩ σ H := h
theorem len1 {f : Str} {v : V} : (putF f v []).length < 1000 := Nat.lt_of_le_of_lt (length_putF f v []) (by decide)
theorem len2 {f g : Str} {v w : V} : (putF f v (putF g w [])).length < 1000 := Nat.lt_of_le_of_lt (Nat.le_trans (length_putF f v _) (Nat.succ_le_succ (length_putF g w []))) (by decide)
theorem len3 {f g k : Str} {v w u : V} : (putF f v (putF g w (putF k u []))).length < 1000 := Nat.lt_of_le_of_lt (Nat.le_trans (length_putF f v _) (Nat.succ_le_succ (Nat.le_trans (length_putF g w _) (Nat.succ_le_succ (length_putF k u []))))) (by decide)
theorem len4 {f g k j : Str} {v w u t : V} : (putF f v (putF g w (putF k u (putF j t [])))).length < 1000 := Nat.lt_of_le_of_lt (Nat.le_trans (length_putF f v _) (Nat.succ_le_succ (Nat.le_trans (length_putF g w _) (Nat.succ_le_succ (Nat.le_trans (length_putF k u _) (Nat.succ_le_succ (length_putF j t []))))))) (by decide)
theorem r_insput {K : PySem.W.Frag} {f : Str} {y : V} {nx : L2.St → Hp → Prop} {σ : L2.St} {a C dx : Addr} {fs : List (Str × V)} (e : H a = some (.ins C dx fs)) (cl : Cls K C) (na : NoAttr K C f) (hl : fs.length < 1000) (h : nx σ (upd H a (.ins C dx (putF f y fs)))) :
    ∃ a' C dx fs, V.ref a = .ref a' ∧ H a' = some (.ins C dx fs) ∧ Cls K C ∧ NoAttr K C f ∧ fs.length < 1000 ∧ nx σ (upd H a' (.ins C dx (putF f y fs))) := ⟨a, C, dx, fs, rfl, e, cl, na, hl, h⟩
theorem r_setL {p : Addr} {xs : List V} {i : Int} {j : Nat} {Q : Hp → Prop} (hp : H p = some (.lst xs)) (a : ixN xs.length i = some j) (h : Q (upd H p (.lst (xs.set j v)))) : rSetL (.ref p) (.int i) v H Q := ⟨p, xs, i, j, rfl, rfl, hp, a, h⟩
theorem tyL {l : Addr} {xs : List V} (h : H l = some (.lst xs)) : tyV K "list" (.ref l) H := .inl ⟨rfl, xs, SqL.of h⟩
theorem r_app {l : Addr} {xs : List V} (hp : H l = some (.lst xs)) (h : Q .non (upd H l (.lst (xs ++ [v])))) (hl : xs.length < sizeLine) : rAppend (.ref l) [v] H Q := ⟨l, xs, v, rfl, rfl, hp, hl, h⟩
theorem r_gcd {a b : Int} (h : Q (.int ((Nat.gcd a.natAbs b.natAbs : Nat) : Int)) H) : rGcd [.int a, .int b] H Q := ⟨a, b, rfl, h⟩
theorem sz (n : Nat) (h : n ≤ 100000) : n ≤ sizeLine := Nat.le_trans h (by decide)
theorem sz' (n : Nat) (h : n < 100000) : n < sizeLine := Nat.lt_of_lt_of_le h (by decide)
theorem cmulw {i j : Int} {a b : Nat} (ha : i.natAbs < 2 ^ a) (hb : j.natAbs < 2 ^ b) (h : a + b ≤ 100000) (h0 : 0 < a := by decide) (h1 : 0 < b := by decide) : CMulW i j := wide_mul ha hb h0 h1 (by omega)
theorem cdivw {i j : Int} {b : Nat} (h : 0 < j) (hb : j.natAbs < 2 ^ b) (h9 : b ≤ 9000) (h0 : 0 < b := by decide) : CDivW i j := wide_div h hb h0 h9
/-- * of two ints, one of them small, or both not too great -/
def CMulA (i j : Int) : Prop := CMul i j ∨ CMulW i j
theorem op_mulA {X : Cx} : OpR X (binaryOp .Mult) (rI CMulA fun i j => .int (i * j)) := opI fun _ _ _ _ _ _ _ hc q => mul_int q (by
  rcases hc with h | h
  · exact h.ok
  · exact h.ok)
theorem cmA_l {i j : Int} (h : -(2 ^ 64) < i ∧ i < 2 ^ 64) : CMulA i j := .inl (.inl h)
theorem cmA_r {i j : Int} (h : -(2 ^ 64) < j ∧ j < 2 ^ 64) : CMulA i j := .inl (.inr h)
theorem cmA_w {i j : Int} (h : CMulW i j) : CMulA i j := .inr h
/-- comb, perm -/
theorem r_gtup {p : Addr} {xs : List V} {n : Nat} {t : TGs} {k : L2.St → Hp → Prop} (hp : H p = some (.tup xs)) (hl : xs.length = n) (h : t xs σ H k) : gTup K n t (.ref p) σ H k := ⟨p, xs, rfl, SqT.of hp, hl, h⟩
theorem r_gcons {t : TG} {u : TGs} {r : List V} {k : L2.St → Hp → Prop} (h : t v σ H fun σ' H' => u r σ' H' k) : gCons t u (v :: r) σ H k := ⟨v, r, rfl, h⟩
theorem r_gnil {k : L2.St → Hp → Prop} (h : k σ H) : gNil [] σ H k := ⟨rfl, h⟩
def rComb : List V → Hp → VK → Prop := fun vs H Q => ∃ a b : Int, vs = [.int a, .int b] ∧ 0 ≤ a ∧ 0 ≤ b ∧ a ≤ 18000 ∧ Q (.int (PySem.W.mcComb a b)) H
theorem cr_comb {X : Cx} : CallR X (.builtin "math.comb") rComb := by
  intro pins s σ H vs us Q I r h
  obtain ⟨a, b, rfl, ha, hb, h8, q⟩ := h
  obtain ⟨t, u, rfl⟩ := Vals.int2 r
  exact PySem.W.mc_comb ha hb (by omega) (.inr h8) fun _ => ⟨.int _, H, I.tok _, ⟨_, rfl⟩, q⟩
theorem r_comb {a b : Int} (h : Q (.int (PySem.W.mcComb a b)) H) (ha : 0 ≤ a) (hb : 0 ≤ b) (h8 : a ≤ 18000) : rComb [.int a, .int b] H Q := ⟨a, b, rfl, ha, hb, h8, h⟩
end

/-! ### readings by names -/
section
variable {X : Cx} {σ : L2.St} {H : Hp} {Q : VK} {K : PySem.W.Frag}
def qInt : List V → Hp → VK → Prop := fun xs H Q => (∃ i, xs = [.int i] ∧ Q (.int i) H) ∨ ∃ k, xs = [.bl k] ∧ Q (.int (if k then 1 else 0)) H
theorem c_int : CallR X (.type "int") qInt := call_int1
theorem r_int1 {i : Int} (h : Q (.int i) H) : qInt [.int i] H Q := .inl ⟨i, rfl, h⟩
theorem r_intB {k : Bool} (h : Q (.int (if k then 1 else 0)) H) : qInt [.bl k] H Q := .inr ⟨k, rfl, h⟩
def qAbs : List V → Hp → VK → Prop := fun xs H Q => ∃ i, xs = [.int i] ∧ Q (.int (if i < 0 then -i else i)) H
theorem c_abs : CallR X (.builtin "abs") qAbs := call_abs
theorem r_abs {i : Int} (h : Q (.int (if i < 0 then -i else i)) H) : qAbs [.int i] H Q := ⟨i, rfl, h⟩
def qMax : List V → Hp → VK → Prop := fun xs H Q => ∃ i j, xs = [.int i, .int j] ∧ Q (.int (if j > i then j else i)) H
theorem c_max (hc : X.calm = true) : CallR X (.builtin "max") qMax := call_max2 hc
theorem r_max {i j : Int} (h : Q (.int (if j > i then j else i)) H) : qMax [.int i, .int j] H Q := ⟨i, j, rfl, h⟩
def qMin : List V → Hp → VK → Prop := fun xs H Q => ∃ i j, xs = [.int i, .int j] ∧ Q (.int (if j < i then j else i)) H
theorem c_min (hc : X.calm = true) : CallR X (.builtin "min") qMin := call_min2 hc
theorem r_min {i j : Int} (h : Q (.int (if j < i then j else i)) H) : qMin [.int i, .int j] H Q := ⟨i, j, rfl, h⟩
def qLen (K : PySem.W.Frag) : List V → Hp → VK → Prop := fun xs H Q => ∃ p ys, xs = [.ref p] ∧ (SqL K H p ys ∨ SqT K H p ys) ∧ Q (.int ys.length) H
theorem c_len : CallR X (.builtin "len") (qLen X.K) := call_len_seq
theorem r_lenL {p : Addr} {ys : List V} (q : SqL K H p ys) (h : Q (.int ys.length) H) : qLen K [.ref p] H Q := ⟨p, ys, rfl, .inl q, h⟩
theorem r_lenT {p : Addr} {ys : List V} (q : SqT K H p ys) (h : Q (.int ys.length) H) : qLen K [.ref p] H Q := ⟨p, ys, rfl, .inr q, h⟩
def qLenS : List V → Hp → VK → Prop := fun xs H Q => ∃ z, xs = [.str z] ∧ z.length ≤ sizeLine ∧ Q (.int z.length) H
theorem c_lenS : CallR X (.builtin "len") qLenS := call_len_str
theorem r_lenS {z : Str} (h : Q (.int z.length) H) (hz : z.length ≤ sizeLine) : qLenS [.str z] H Q := ⟨z, rfl, hz, h⟩
def qLstOf (K : PySem.W.Frag) : List V → Hp → VK → Prop := fun xs H Q => ∃ p ys, xs = [.ref p] ∧ (SqL K H p ys ∨ SqT K H p ys) ∧ ∀ l, H l = none → Q (.ref l) (upd H l (.lst ys))
theorem c_lstOf : CallR X (.type "list") (qLstOf X.K) := call_list_of
theorem r_lstOfL {p : Addr} {ys : List V} (q : SqL K H p ys) (h : ∀ l, H l = none → Q (.ref l) (upd H l (.lst ys))) : qLstOf K [.ref p] H Q := ⟨p, ys, rfl, .inl q, h⟩
theorem r_lstOfT {p : Addr} {ys : List V} (q : SqT K H p ys) (h : ∀ l, H l = none → Q (.ref l) (upd H l (.lst ys))) : qLstOf K [.ref p] H Q := ⟨p, ys, rfl, .inr q, h⟩
def qTupOf (K : PySem.W.Frag) : List V → Hp → VK → Prop := fun xs H Q => ∃ p ys, xs = [.ref p] ∧ ((SqL K H p ys ∧ ∀ l, H l = none → Q (.ref l) (upd H l (.tup ys))) ∨ (SqT K H p ys ∧ Q (.ref p) H))
theorem c_tupOf : CallR X (.type "tuple") (qTupOf X.K) := call_tuple_of
theorem r_tupOfL {p : Addr} {ys : List V} (q : SqL K H p ys) (h : ∀ l, H l = none → Q (.ref l) (upd H l (.tup ys))) : qTupOf K [.ref p] H Q := ⟨p, ys, rfl, .inl ⟨q, h⟩⟩
theorem r_tupOfT {p : Addr} {ys : List V} (q : SqT K H p ys) (h : Q (.ref p) H) : qTupOf K [.ref p] H Q := ⟨p, ys, rfl, .inr ⟨q, h⟩⟩
def qStrI : List V → Hp → VK → Prop := fun xs H Q => ∃ i, xs = [.int i] ∧ i.natAbs.log2 < 1920 ∧ Q (.str (toString i)) H
theorem c_strI : CallR X (.type "str") qStrI := call_str_int
theorem r_strI {i : Int} (h : Q (.str (toString i)) H) (hi : i.natAbs.log2 < 1920) : qStrI [.int i] H Q := ⟨i, rfl, hi, h⟩
def qStrS : List V → Hp → VK → Prop := fun xs H Q => ∃ a, xs = [.str a] ∧ Q (.str a) H
theorem c_strS : CallR X (.type "str") qStrS := SkE.call_str_str
theorem r_strS {a : Str} (h : Q (.str a) H) : qStrS [.str a] H Q := ⟨a, rfl, h⟩
def qAddS : R2 := fun x y H Q => ∃ i j, x = .str i ∧ y = .str j ∧ i.length + j.length ≤ sizeLine ∧ Q (.str (i ++ j)) H
theorem o_addS : OpR X (binaryOp .Add) qAddS := op_add_str
theorem r_addS {i j : Str} (h : Q (.str (i ++ j)) H) (hz : i.length + j.length ≤ sizeLine) : qAddS (.str i) (.str j) H Q := ⟨i, j, rfl, rfl, hz, h⟩
def qLtS : R2 := fun x y H Q => ∃ i j, x = .str i ∧ y = .str j ∧ Q (.bl (decide (i.cps.toList < j.cps.toList))) H
theorem o_ltS : OpR X (compareOp .Lt) qLtS := op_lt_str
theorem r_ltS {i j : Str} (h : Q (.bl (decide (i.cps.toList < j.cps.toList))) H) : qLtS (.str i) (.str j) H Q := ⟨i, j, rfl, rfl, h⟩
def qAddIB : R2 := fun x y H Q => ∃ i k, x = .int i ∧ y = .bl k ∧ Q (.int (i + b2i k)) H
theorem o_addIB : OpR X (binaryOp .Add) qAddIB := op_add_ib
def qIsN : R2 := fun x y H Q => y = .non ∧ Q (.bl (decide (x = .non))) H
theorem o_isN : OpR X (compareOp .Is) qIsN := op_isN
def qNotN : R2 := fun x y H Q => y = .non ∧ Q (.bl (!decide (x = .non))) H
theorem o_notN : OpR X (compareOp .IsNot) qNotN := op_notN
def qCntS : V → List V → Hp → VK → Prop := fun x xs H Q => ∃ a b, x = .str a ∧ xs = [.str b] ∧ Q (.int (Txt.count a b)) H
theorem m_cntS : MtR X "str.count" qCntS := mt_count
theorem r_cntS {a b : Str} (h : Q (.int (Txt.count a b)) H) : qCntS (.str a) [.str b] H Q := ⟨a, b, rfl, rfl, h⟩
def qFindS : V → List V → Hp → VK → Prop := fun x xs H Q => ∃ a b, x = .str a ∧ xs = [.str b] ∧ Q (.int (Txt.find a b)) H
theorem m_findS : MtR X "str.find" qFindS := mt_find
theorem r_findS {a b : Str} (h : Q (.int (Txt.find a b)) H) : qFindS (.str a) [.str b] H Q := ⟨a, b, rfl, rfl, h⟩
def qFind3 : V → List V → Hp → VK → Prop := fun x xs H Q => ∃ (a b : Str) (i : Int), x = .str a ∧ xs = [.str b, .int i] ∧ Q (.int (Txt.find3 a b i)) H
theorem m_find3 : MtR X "str.find" qFind3 := mt_find3
theorem r_find3 {a b : Str} {i : Int} (h : Q (.int (Txt.find3 a b i)) H) : qFind3 (.str a) [.str b, .int i] H Q := ⟨a, b, i, rfl, rfl, h⟩
def qSplit : V → List V → Hp → VK → Prop := fun x xs H Q => ∃ a b, x = .str a ∧ xs = [.str b] ∧ (b.length == 0) = false ∧ a.length + 2 ≤ sizeLine ∧ rNewStrs (Txt.split a b) H Q
theorem m_split : MtR X "str.split" qSplit := mt_split
def qJoin (K : PySem.W.Frag) : V → List V → Hp → VK → Prop := fun x xs H Q => ∃ a p, ∃ ys : List Str, x = .str a ∧ xs = [.ref p] ∧ (SqL K H p (ys.map V.str) ∨ SqT K H p (ys.map V.str)) ∧ (ys.map (·.length)).sum + ys.length * a.length ≤ 16777216 ∧ Q (.str (Txt.join a ys)) H
theorem m_join : MtR X "str.join" (qJoin X.K) := mt_join
theorem r_joinL {a : Str} {p : Addr} {ys : List Str} (q : SqL K H p (ys.map V.str)) (h : Q (.str (Txt.join a ys)) H) (hz : (ys.map (·.length)).sum + ys.length * a.length ≤ 16777216) : qJoin K (.str a) [.ref p] H Q := ⟨a, p, ys, rfl, rfl, .inl q, hz, h⟩
theorem tyS {a : Str} : tyV K "str" (.str a) H := rfl
end
/-! ### loops -/
section
variable {σ : L2.St} {H : Hp} {nx bk ct : L2.St → Hp → Prop} {rt Q : VK} {ta te : TE} {tt : TT} {tb : TS} {tl : TA} {g : TG} {K : PySem.W.Frag}
def FR (J : It) (g : TG) (tb : TS) (D : Ends) (σ : L2.St) (H1 : Hp) : Prop := ∃ W : Nat → Nat → L2.St → Hp → Prop, (∃ m, W 0 m σ H1) ∧ ∀ i m σ H, W i m σ H →
  (J.stop i H ∧ D.nx σ H) ∨ (J.go i H ∧ ∃ N : L2.St → Hp → Prop, (∀ σ' H', N σ' H' → ∃ m', m' < m ∧ W (i + 1) m' σ' H') ∧ ∀ x H', J.yld i H x H' → g x σ H' fun σ2 H2 => tb { D with nx := N, ct := N, bk := D.nx } σ2 H2)
theorem r_for1 {D : Ends} (h : tl σ H fun vs H1 => ∃ j : Int, vs = [.int j] ∧ -(2 ^ 62) ≤ j ∧ j < 2 ^ 62 ∧ FR (Itr 0 j.toNat) g tb D σ H1) : tFor (iRng1 tl) g tb D σ H := h
theorem r_for2 {D : Ends} (h : tl σ H fun vs H1 => ∃ i j : Int, vs = [.int i, .int j] ∧ (-(2 ^ 62) ≤ i ∧ i < 2 ^ 62 ∧ -(2 ^ 62) ≤ j ∧ j < 2 ^ 62) ∧ FR (Itr i (j - i).toNat) g tb D σ H1) : tFor (iRng2 tl) g tb D σ H := h
theorem r_forL {D : Ends} (h : te σ H fun x H1 => ∃ a, x = .ref a ∧ (∃ xs, SqL K H1 a xs) ∧ FR (Itl K a) g tb D σ H1) : tFor (iList K te) g tb D σ H := h
theorem r_forT {D : Ends} (h : te σ H fun x H1 => ∃ a, x = .ref a ∧ (∃ xs, SqT K H1 a xs) ∧ FR (Itt K a) g tb D σ H1) : tFor (iTup K te) g tb D σ H := h
theorem r_forS {D : Ends} (h : te σ H fun v H1 => ∃ x, v = .str x ∧ FR (Its x) g tb D σ H1) : tFor (iStr te) g tb D σ H := h
theorem r_rng1 {P : Int → Prop} {x : Int} (h : P x) (h1 : -(2 ^ 62) ≤ x) (h2 : x < 2 ^ 62) : ∃ j : Int, [V.int x] = [.int j] ∧ -(2 ^ 62) ≤ j ∧ j < 2 ^ 62 ∧ P j := ⟨x, rfl, h1, h2, h⟩
theorem r_rng2 {P : Int → Int → Prop} {x y : Int} (h : P x y) (h1 : -(2 ^ 62) ≤ x ∧ x < 2 ^ 62 ∧ -(2 ^ 62) ≤ y ∧ y < 2 ^ 62) : ∃ i j : Int, [V.int x, V.int y] = [.int i, .int j] ∧ (-(2 ^ 62) ≤ i ∧ i < 2 ^ 62 ∧ -(2 ^ 62) ≤ j ∧ j < 2 ^ 62) ∧ P i j := ⟨x, y, rfl, h1, h⟩
theorem r_seqL {P : Addr → Prop} {a : Addr} {xs : List V} (q : SqL K H a xs) (h : P a) : ∃ b, V.ref a = .ref b ∧ (∃ xs, SqL K H b xs) ∧ P b := ⟨a, rfl, ⟨xs, q⟩, h⟩
theorem r_seqT {P : Addr → Prop} {a : Addr} {xs : List V} (q : SqT K H a xs) (h : P a) : ∃ b, V.ref a = .ref b ∧ (∃ xs, SqT K H b xs) ∧ P b := ⟨a, rfl, ⟨xs, q⟩, h⟩
theorem r_seqS {P : Str → Prop} {x : Str} (h : P x) : ∃ y, V.str x = .str y ∧ P y := ⟨x, rfl, h⟩
theorem fr_range {lo : Int} {n : Nat} (Pv : Nat → L2.St → Hp → Prop) (h0 : Pv 0 σ H) (hs : ∀ i σ H, i < n → Pv i σ H → g (.int (lo + i)) σ H fun σ2 H2 => tb ⟨Pv (i + 1), rt, nx, Pv (i + 1)⟩ σ2 H2)
    (hd : ∀ σ H, Pv n σ H → nx σ H) : FR (Itr lo n) g tb ⟨nx, rt, bk, ct⟩ σ H := for_range Pv h0 hs hd
theorem fr_list {a : Addr} {xs : List V} (Pv : Nat → L2.St → Hp → Prop) (h0 : Pv 0 σ H) (hl : ∀ i σ H, i ≤ xs.length → Pv i σ H → SqL K H a xs) (hs : ∀ i x σ H, xs[i]? = some x → Pv i σ H → g x σ H fun σ2 H2 => tb ⟨Pv (i + 1), rt, nx, Pv (i + 1)⟩ σ2 H2)
    (hd : ∀ σ H, Pv xs.length σ H → nx σ H) : FR (Itl K a) g tb ⟨nx, rt, bk, ct⟩ σ H := for_list Pv h0 hl hs hd
theorem fr_tup {a : Addr} {xs : List V} (Pv : Nat → L2.St → Hp → Prop) (h0 : Pv 0 σ H) (hl : ∀ i σ H, i ≤ xs.length → Pv i σ H → SqT K H a xs) (hs : ∀ i x σ H, xs[i]? = some x → Pv i σ H → g x σ H fun σ2 H2 => tb ⟨Pv (i + 1), rt, nx, Pv (i + 1)⟩ σ2 H2)
    (hd : ∀ σ H, Pv xs.length σ H → nx σ H) : FR (Itt K a) g tb ⟨nx, rt, bk, ct⟩ σ H := for_tup Pv h0 hl hs hd
theorem fr_str {x : Str} (Pv : Nat → L2.St → Hp → Prop) (h0 : Pv 0 σ H) (hs : ∀ i c σ H, x.cps[i]? = some c → Pv i σ H → g (.str ⟨#[c]⟩) σ H fun σ2 H2 => tb ⟨Pv (i + 1), rt, nx, Pv (i + 1)⟩ σ2 H2)
    (hd : ∀ σ H, Pv x.cps.size σ H → nx σ H) : FR (Its x) g tb ⟨nx, rt, bk, ct⟩ σ H := by
  refine ⟨fun i m σ H => m = x.cps.size - i ∧ i ≤ x.cps.size ∧ Pv i σ H, ⟨x.cps.size, by simp, Nat.zero_le _, h0⟩, ?_⟩
  rintro i m σ H ⟨rfl, hi, p⟩
  by_cases hlt : i < x.cps.size
  · refine .inr ⟨hlt, Pv (i + 1), fun σ' H' p' => ⟨x.cps.size - (i + 1), by omega, rfl, hlt, p'⟩, fun y H' z => ?_⟩
    obtain ⟨e, c, hc, e2⟩ := z
    subst e e2
    exact hs i c σ _ hc p
  · have e : i = x.cps.size := by omega
    subst e
    exact .inl ⟨Nat.le_refl _, hd σ H p⟩
def LCW (J : It) (g : TG) (tt : TT) (te : TE) (vs : List Nat) (σ : L2.St) (H1 : Hp) (Q : VK) : Prop := ∀ D, H1 D = none → ∃ W : Nat → Nat → Hp → Prop, (∃ m, W 0 m (upd H1 D (.lst []))) ∧ ∀ i m H, W i m H →
  (J.stop i H ∧ Q (.ref D) H) ∨ (J.go i H ∧ ∃ Nx : Hp → Prop, (∀ H', Nx H' → ∃ m', m' < m ∧ W (i + 1) m' H') ∧ ∀ x H', J.yld i H x H' → g x (wipe σ vs) H' fun σ2 H2 => wipe σ2 vs = wipe σ vs ∧ tt σ2 H2 fun b H3 =>
    if b = true then te σ2 H3 fun y H4 => ∃ acc, H4 D = some (.lst acc) ∧ acc.length < sizeLine ∧ Nx (upd H4 D (.lst (acc ++ [y]))) else Nx H3)
variable {vs : List Nat}
theorem r_lc1 (h : tl σ H fun us H1 => ∃ j : Int, us = [.int j] ∧ -(2 ^ 62) ≤ j ∧ j < 2 ^ 62 ∧ LCW (Itr 0 j.toNat) g tt te vs σ H1 Q) : tLc (iRng1 tl) g tt te vs σ H Q := h
theorem r_lc2 (h : tl σ H fun us H1 => ∃ i j : Int, us = [.int i, .int j] ∧ (-(2 ^ 62) ≤ i ∧ i < 2 ^ 62 ∧ -(2 ^ 62) ≤ j ∧ j < 2 ^ 62) ∧ LCW (Itr i (j - i).toNat) g tt te vs σ H1 Q) : tLc (iRng2 tl) g tt te vs σ H Q := h
theorem r_lcL (h : ta σ H fun x H1 => ∃ a, x = .ref a ∧ (∃ xs, SqL K H1 a xs) ∧ LCW (Itl K a) g tt te vs σ H1 Q) : tLc (iList K ta) g tt te vs σ H Q := h
theorem r_lcT (h : ta σ H fun x H1 => ∃ a, x = .ref a ∧ (∃ xs, SqT K H1 a xs) ∧ LCW (Itt K a) g tt te vs σ H1 Q) : tLc (iTup K ta) g tt te vs σ H Q := h
theorem r_lcS (h : ta σ H fun v H1 => ∃ x, v = .str x ∧ LCW (Its x) g tt te vs σ H1 Q) : tLc (iStr ta) g tt te vs σ H Q := h
theorem lw_range {lo : Int} {n : Nat} (Pv : Addr → Nat → Hp → Prop) (h0 : ∀ D, H D = none → Pv D 0 (upd H D (.lst [])))
    (hs : ∀ D, H D = none → ∀ i H, i < n → Pv D i H → g (.int (lo + i)) (wipe σ vs) H fun σ2 H2 => wipe σ2 vs = wipe σ vs ∧ tt σ2 H2 fun b H3 =>
      if b = true then te σ2 H3 fun y H4 => ∃ acc, H4 D = some (.lst acc) ∧ acc.length < sizeLine ∧ Pv D (i + 1) (upd H4 D (.lst (acc ++ [y]))) else Pv D (i + 1) H3) (hd : ∀ D, H D = none → ∀ H, Pv D n H → Q (.ref D) H) : LCW (Itr lo n) g tt te vs σ H Q :=
  fun D hD => lc_range (Pv D) (h0 D hD) (hs D hD) (hd D hD)
theorem lw_list {a : Addr} {xs : List V} (Pv : Addr → Nat → Hp → Prop) (h0 : ∀ D, H D = none → Pv D 0 (upd H D (.lst []))) (hl : ∀ D, H D = none → ∀ i H, i ≤ xs.length → Pv D i H → SqL K H a xs)
    (hs : ∀ D, H D = none → ∀ i x H, xs[i]? = some x → Pv D i H → g x (wipe σ vs) H fun σ2 H2 => wipe σ2 vs = wipe σ vs ∧ tt σ2 H2 fun b H3 =>
      if b = true then te σ2 H3 fun y H4 => ∃ acc, H4 D = some (.lst acc) ∧ acc.length < sizeLine ∧ Pv D (i + 1) (upd H4 D (.lst (acc ++ [y]))) else Pv D (i + 1) H3) (hd : ∀ D, H D = none → ∀ H, Pv D xs.length H → Q (.ref D) H) : LCW (Itl K a) g tt te vs σ H Q :=
  fun D hD => lc_list (Pv D) (h0 D hD) (hl D hD) (hs D hD) (hd D hD)
theorem lw_tup {a : Addr} {xs : List V} (Pv : Addr → Nat → Hp → Prop) (h0 : ∀ D, H D = none → Pv D 0 (upd H D (.lst []))) (hl : ∀ D, H D = none → ∀ i H, i ≤ xs.length → Pv D i H → SqT K H a xs)
    (hs : ∀ D, H D = none → ∀ i x H, xs[i]? = some x → Pv D i H → g x (wipe σ vs) H fun σ2 H2 => wipe σ2 vs = wipe σ vs ∧ tt σ2 H2 fun b H3 =>
      if b = true then te σ2 H3 fun y H4 => ∃ acc, H4 D = some (.lst acc) ∧ acc.length < sizeLine ∧ Pv D (i + 1) (upd H4 D (.lst (acc ++ [y]))) else Pv D (i + 1) H3) (hd : ∀ D, H D = none → ∀ H, Pv D xs.length H → Q (.ref D) H) : LCW (Itt K a) g tt te vs σ H Q :=
  fun D hD => lc_tup (Pv D) (h0 D hD) (hl D hD) (hs D hD) (hd D hD)
theorem r_while {c : TT} (W : Nat → L2.St → Hp → Prop) (m : Nat) (w0 : W m σ H) (hs : ∀ m σ H, W m σ H → c σ H fun b H1 => if b = true then ∃ N : L2.St → Hp → Prop, (∀ σ' H', N σ' H' → ∃ m', m' < m ∧ W m' σ' H') ∧ tb ⟨N, rt, nx, N⟩ σ H1 else nx σ H1) : tWhile c tb ⟨nx, rt, bk, ct⟩ σ H := ⟨W, ⟨m, w0⟩, hs⟩
theorem r_yes {Q : Bool → Hp → Prop} (h : Q true H) : tYes σ H Q := h
theorem r_wh {c : TT} {D : Ends} (h : tWhile c tb D σ H) : tWhile c tb D σ H := h
end
/-! ### heaps -/
theorem same_new {H : Hp} {p : Addr} {o : HO} (h : H p = none) : Same H (upd H p o) := fun b x e => by
  rw [upd_ne (ne_of_none e h)]; exact e
theorem same_mut {H H' : Hp} {p : Addr} {o : HO} (s : Same H H') (h : H p = none) : Same H (upd H' p o) := fun b x e => by
  rw [upd_ne (ne_of_none e h)]; exact s b x e
theorem same_tup {H H' : Hp} {p : Addr} {o : HO} (s : Same H H') (e : H p = some o) : H' p = some o := s p o e

/-- lists of ints, as data -/
theorem dpI {K : PySem.W.Frag} {H : Hp} : ∀ ns : List Int, DpAll K H (ns.map V.int) (ns.map PyData.int)
  | [] => .nil
  | n :: ns => .cons (.int n) (dpI ns)
theorem dpS {K : PySem.W.Frag} {H : Hp} : ∀ ns : List Str, DpAll K H (ns.map V.str) (ns.map PyData.str)
  | [] => .nil
  | n :: ns => .cons (.str n) (dpS ns)
theorem r_eqD {K : PySem.W.Frag} {H : Hp} {Q : VK} {x y : V} {d e : PyData} (hx : Dp K H x d) (hy : Dp K H y e) (h1 : SeqAt.shaped d = true) (h2 : SeqAt.shaped e = true) (h : Q (.bl (PyData.eqv d e)) H) : rEqD K x y H Q := ⟨d, e, hx, hy, h1, h2, h⟩
theorem r_neD {K : PySem.W.Frag} {H : Hp} {Q : VK} {x y : V} {d e : PyData} (hx : Dp K H x d) (hy : Dp K H y e) (h1 : SeqAt.shaped d = true) (h2 : SeqAt.shaped e = true) (h : Q (.bl (!PyData.eqv d e)) H) : rNeD K x y H Q := ⟨d, e, hx, hy, h1, h2, h⟩
theorem kit_self {K : PySem.W.Frag} {t : Value} : PySem.W.kitOne K t t = some true := if_pos (beq_self_eq_true t)
/-- a list of three ints -/
def Dice (H : Hp) (d : Addr) : Prop := ∃ x y z : Int, H d = some (.lst [.int x, .int y, .int z])
/-- all but the dice at d stands as it stood -/
structure Kp (d : Addr) (H H' : Hp) : Prop where
  k : ∀ b o, b ≠ d → H b = some o → H' b = some o
  d0 : Dice H d
  d1 : Dice H' d
theorem Kp.refl {d : Addr} {H : Hp} (h : Dice H d) : Kp d H H := ⟨fun _ _ _ e => e, h, h⟩
theorem Kp.trans {d : Addr} {H H1 H2 : Hp} (a : Kp d H H1) (b : Kp d H1 H2) : Kp d H H2 := ⟨fun c o n e => b.k c o n (a.k c o n e), a.d0, b.d1⟩
theorem Kp.same {d : Addr} {H H1 H2 : Hp} (a : Kp d H H1) (b : Same H1 H2) : Kp d H H2 := ⟨fun c o n e => b c o (a.k c o n e), a.d0, let ⟨x, y, z, h⟩ := a.d1; ⟨x, y, z, b _ _ h⟩⟩
theorem Kp.of {d : Addr} {H H1 : Hp} (h : Dice H d) (b : Same H H1) : Kp d H H1 := (Kp.refl h).same b
theorem Kp.put {d : Addr} {H : Hp} {x y z : Int} (h : Dice H d) : Kp d H (upd H d (.lst [.int x, .int y, .int z])) := ⟨fun b o n e => by rw [upd_ne n]; exact e, h, ⟨x, y, z, upd_same⟩⟩
theorem Kp.put' {d : Addr} {H H1 : Hp} {x y z : Int} (a : Kp d H H1) : Kp d H (upd H1 d (.lst [.int x, .int y, .int z])) := a.trans (Kp.put a.d1)
theorem Kp.tup {d : Addr} {H H1 : Hp} (a : Kp d H H1) {p : Addr} {xs : List V} (e : H p = some (.tup xs)) : H1 p = some (.tup xs) := a.k p _ (by
  obtain ⟨x, y, z, h⟩ := a.d0
  exact ne_of e h (fun q => nomatch q)) e
theorem Kp.ins {d : Addr} {H H1 : Hp} (a : Kp d H H1) {p C dx : Addr} {fs : List (Str × V)} (e : H p = some (.ins C dx fs)) : H1 p = some (.ins C dx fs) := a.k p _ (by
  obtain ⟨x, y, z, h⟩ := a.d0
  exact ne_of e h (fun q => nomatch q)) e
theorem Kp.free {d : Addr} {H H1 : Hp} (a : Kp d H H1) {p : Addr} (e : H1 p = none) : H p = none := by
  cases q : H p with
  | none => rfl
  | some o =>
    by_cases h : p = d
    · obtain ⟨x, y, z, h'⟩ := a.d1
      rw [h, h'] at e; cases e
    · rw [a.k p o h q] at e; cases e
theorem Kp.new {d : Addr} {H H1 : Hp} (a : Kp d H H1) {p : Addr} {o : HO} (e : H1 p = none) : Kp d H (upd H1 p o) := a.same (same_new e)
theorem Kp.mut {d : Addr} {H H1 : Hp} (a : Kp d H H1) {p : Addr} {o : HO} (e : H p = none) : Kp d H (upd H1 p o) := ⟨fun b x n q => by
    rw [upd_ne (ne_of_none q e)]; exact a.k b x n q, a.d0, by
    obtain ⟨x, y, z, h⟩ := a.d0
    obtain ⟨x', y', z', h'⟩ := a.d1
    exact ⟨x', y', z', by rw [upd_ne (ne_of_none h e)]; exact h'⟩⟩
end Sx

/-! Sy: more steps: texts times numbers, a text's letters as a list, tuples gone through by number. -/
namespace Sy
open PySem PySem.Spec PyProof.Rows L2 Sx
open Sem (wp)
theorem bt_enumerate : bootBuiltins "enumerate" = some (.type "enumerate") := by decide +kernel
/-! ### text * number -/
def times (a : Str) (n : Nat) : Str := ⟨(List.replicate n a.cps).foldl (· ++ ·) #[]⟩
theorem times_one (a : Str) : times a 1 = a := by
  unfold times; simp [List.replicate]
def qMulS : R2 := fun x y H Q => ∃ (a : Str) (n : Int), x = .str a ∧ y = .int n ∧ 0 < a.length ∧ a.length ≤ 1000 ∧ 1 ≤ n ∧ n ≤ 1000 ∧ Q (.str (times a n.toNat)) H
theorem times_len (a : Str) (n : Nat) : (times a n).length = n * a.length := by
  have h : ∀ (l : List (Array Nat)) (z : Array Nat), (l.foldl (· ++ ·) z).size = z.size + (l.map Array.size).sum := by
    intro l
    induction l with
    | nil => intro z; simp
    | cons x l ih => intro z; rw [List.foldl_cons, ih, Array.size_append, List.map_cons, List.sum_cons]; omega
  show ((List.replicate n a.cps).foldl (· ++ ·) #[]).size = n * a.cps.size
  rw [h]; simp
section
variable {X : Cx}
theorem op_strmul : OpR X (binaryOp .Mult) qMulS := by
  intro pins s σ H x y v u Q I rx ry h
  obtain ⟨a, n, rfl, rfl, a0, a1, n0, n1, q⟩ := h
  obtain ⟨t, rfl⟩ := rx
  obtain ⟨t', rfl⟩ := ry
  have m1 : ((a.length : Int)) ≤ 1000 := by omega
  have big : (1000 : Int) ≤ (2 ^ 63 - 1) / n := by
    rw [Int.le_ediv_iff_mul_le (by omega)]
    exact Int.le_trans (Int.mul_le_mul_of_nonneg_left n1 (by decide)) (by decide)
  refine P.mul_str ?_ (fun _ _ => by omega) (fun _ _ => ?_) ?_
  · rw [decide_eq_false (by omega), decide_eq_false (by omega)]; rfl
  · show decide (_ > _) = false
    have m2 : a.length * n.toNat ≤ 1000 * 1000 := Nat.mul_le_mul a1 (by omega)
    exact decide_eq_false (Nat.not_lt.mpr (Nat.le_trans m2 (by rw [sizeLine_eq]; decide)))
  · rw [if_neg (by omega)]
    by_cases e : (n == 1 || a.length == 0) = true
    · rw [if_pos e]
      have e1 : n = 1 := by
        rw [Bool.or_eq_true, beq_iff_eq, beq_iff_eq] at e
        omega
      subst e1
      rw [show ((1 : Int).toNat) = 1 from rfl, times_one] at q
      exact ⟨.str a, H, I, ⟨t, rfl⟩, q⟩
    · rw [if_neg e]
      refine ⟨?_, .str (times a n.toNat), H, I.tok _, ⟨_, rfl⟩, q⟩
      have m2 : n.toNat * a.length ≤ 1000 * 1000 := Nat.mul_le_mul (by omega) a1
      have l := times_len a n.toNat
      unfold times at l
      rw [l, sizeLine_eq]; omega
theorem r_mulS {a : Str} {n : Int} {H : Hp} {Q : VK} (h : Q (.str (times a n.toNat)) H) (a0 : 0 < a.length ∧ a.length ≤ 1000) (n0 : 1 ≤ n ∧ n ≤ 1000) : qMulS (.str a) (.int n) H Q := ⟨a, n, rfl, rfl, a0.1, a0.2, n0.1, n0.2, h⟩
/-! ### list(text) -/
def letters (a : Str) : List V := a.cps.toList.map fun c => V.str ⟨#[c]⟩
def qListS : List V → Hp → VK → Prop := fun xs H Q => ∃ a : Str, xs = [.str a] ∧ a.length ≤ 100000 ∧ ∀ l, H l = none → Q (.ref l) (upd H l (.lst (letters a)))
theorem letters_vals {a : Str} {its : Array Value} (h : ItemsOf (SignAt a) its a.cps.size) : Vals (letters a) its.toList := by
  obtain ⟨hs, hi⟩ := h
  have main : ∀ (cs : List Nat) (vs : List Value), cs.length = vs.length → (∀ (j : Nat) (v : Value), vs[j]? = some v → ∃ (c : Nat) (u : Tok), cs[j]? = some c ∧ v = Value.str ⟨#[c]⟩ u) → Vals (cs.map fun c => V.str ⟨#[c]⟩) vs := by
    intro cs
    induction cs with
    | nil => intro vs hl _; cases vs with
      | nil => exact .nil
      | cons _ _ => cases hl
    | cons c cs ih => intro vs hl hv; cases vs with
      | nil => cases hl
      | cons v vs =>
        refine .cons ?_ (ih vs (Nat.succ.inj hl) fun j w hw => hv (j + 1) w hw)
        obtain ⟨c', u, e, rfl⟩ := hv 0 v rfl
        cases e
        exact ⟨u, rfl⟩
  refine main _ _ (by rw [Array.length_toList, Array.length_toList, hs]) fun j v hj => ?_
  rw [Array.getElem?_toList] at hj
  obtain ⟨c, u, e, rfl⟩ := hi j v hj
  exact ⟨c, u, by rw [Array.getElem?_toList]; exact e, rfl⟩
theorem letters_len (a : Str) : (letters a).length = a.length := by
  unfold letters; rw [List.length_map, Array.length_toList]; rfl
theorem call_list_str (hc : X.calm = true) : CallR X (.type "list") qListS := by
  intro pins s σ H xs us Q I r h
  obtain ⟨a, rfl, hl, q⟩ := h
  obtain ⟨u, rfl, rx⟩ := vals1 r
  obtain ⟨t, rfl⟩ := rx
  have big : a.length ≤ sizeLine := by rw [sizeLine_eq]; omega
  refine PySem.call_list_str (I.ok.hd hc) a t (hn := big) ?_
  intro h2 tk acc room keep got its
  refine ⟨.ref s.heap.objs.size, upd H s.heap.objs.size (.lst (letters a)), ?_, rfl, q _ (I.hok.fresh (Nat.le_refl _))⟩
  refine I.laid keep (Nat.le_refl _) ?_
  exact ⟨by rw [letters_len]; exact big, acc.toList, room, letters_vals its, got⟩
theorem r_listS {a : Str} {H : Hp} {Q : VK} (h : ∀ l, H l = none → Q (.ref l) (upd H l (.lst (letters a)))) (hl : a.length ≤ 100000) : qListS [.str a] H Q := ⟨a, rfl, hl, h⟩
end

/-! ### enumerate(tuple) -/
section
variable {P : Program} {w : World} {K : PySem.W.Frag}
/-- the tuple at a, each item behind its number in a new pair -/
def Itn (K : PySem.W.Frag) (a : Addr) : It :=
  ⟨fun i H => ∃ ys z, SqT K H a ys ∧ ys[i]? = some z,
   fun i H v H2 => ∃ p z, v = V.ref p ∧ H p = none ∧ H2 = upd H p (.tup [.int (i : Nat), z]) ∧ (∀ ys, SqT K H a ys → ys[i]? = some z),
   fun i H => ∃ ys : List V, SqT K H a ys ∧ ys.length = i⟩
theorem turn_number {tgs : List Expr} {q : Nat} {at' : Pos} (a en it : Addr) :
    Turn P w K (.Tuple tgs q at') (Itn K a) [en, it] en (fun i g => (∃ last, IsEnum g en it ((i : Nat) : Int) last) ∧ g.IsTupleIter it a i ∧ en ≠ it) where
  mem := List.mem_cons_self ..
  obj := fun i g ⟨⟨last, x1⟩, x2, _⟩ b m => by
    rcases List.mem_cons.mp m with rfl | m
    · exact ⟨_, x1, nofun⟩
    · cases List.mem_singleton.mp m
      obtain ⟨ob, y1, y2, y3⟩ := x2
      exact ⟨ob, y1, fun v z => by rw [y3] at z; exact nomatch z⟩
  keep := fun i g g' ⟨⟨last, x1⟩, x2, x3⟩ same => ⟨⟨last, same en (List.mem_cons_self ..) _ x1⟩, x2.at fun ob z => same it (by simp) ob z, x3⟩
  item := by
    rintro X rfl rfl rfl calm i pins s σ H E I free ⟨⟨last, x1⟩, x2, apart⟩ ⟨ys, z, at1, at2⟩
    obtain ⟨vs, rel, tp, _⟩ := I.tuple at1
    have tp' : s.heap.IsTuple a vs.toArray := tp
    obtain ⟨u, hu, ru⟩ := rel.get at2
    have lt : i < vs.toArray.size := by
      obtain ⟨q1, _⟩ := List.getElem?_eq_some_iff.mp hu
      rw [List.size_toArray]; exact q1
    have hdif : ∀ c : Addr, (∃ ob, s.heap.get? c = some ob ∧ ob.cls ≠ .type "tuple") → a ≠ c := by
      rintro c ⟨ob, y1, y2⟩ rfl
      obtain ⟨ob2, y4, y5, _⟩ := tp'
      rw [y1] at y4; cases y4
      exact y2 y5
    have below : ∀ b ∈ [en, it], b < s.heap.objs.size := fun b m => by
      rcases List.mem_cons.mp m with rfl | m
      · exact Heap.lt_size x1
      · cases List.mem_singleton.mp m
        obtain ⟨ob, y1, _⟩ := x2
        exact Heap.lt_size y1
    have dif : a ≠ it := by
      obtain ⟨ob, y1, y2, _⟩ := x2
      exact hdif it ⟨ob, y1, by rw [y2]; decide⟩
    have dif2 : en ∉ [it, a] := by
      intro z
      rcases List.mem_cons.mp z with z | z
      · exact apart z
      · exact hdif en ⟨_, x1, fun z => absurd (show Value.type "enumerate" = Value.type "tuple" from z) (by decide)⟩ (List.mem_singleton.mp z).symm
    have drawn := Draws.tuple (prog := X.prog) (w := X.w) (A := X.A.in1) (I.ok.hd calm) it a dif vs.toArray
    refine wpAny_pyNext_enum_itemD drawn x1 ⟨x2, tp'⟩ lt apart dif2 ?_
    rintro w1 g1 k1 pw out ⟨it1, tp1⟩ new1 size1 others
    have ew : w1 = u := by
      have e1 : vs.toArray[i]? = some w1 := pw
      rw [List.getElem?_toArray, hu] at e1
      exact (Option.some.inj e1).symm
    subst ew
    refine ⟨_, rfl, wpAny_letOwnedTupleGo_enum (s := { s with heap := g1, toks := k1 + 1 }) out fun g2 en2 but => ?_⟩
    have far : s.heap.objs.size ≠ en := Nat.ne_of_gt (below en (List.mem_cons_self ..))
    have new2 := (but.2 _ far).trans new1
    have I2 : Inv X pins σ (upd H s.heap.objs.size (.tup [.int (i : Nat), z])) { s with heap := g2, toks := k1 + 1 } := by
      refine I.turnedNew (ch := [en, it]) ?_ free (Nat.le_refl _) ?_
      · intro b ob m y
        exact (but.2 b fun e => m (e ▸ List.mem_cons_self ..)).trans (others b ob (fun e => m (e ▸ List.mem_cons_self ..)) (fun e => m (by rw [e]; simp)) y)
      · exact ⟨by rw [sizeLine_eq]; exact (by decide : 2 ≤ 16777216), _, .cons ⟨k1, rfl⟩ (.cons ru .nil), _, new2, rfl, _, rfl⟩
    refine ⟨.ref s.heap.objs.size, _, I2, rfl, ⟨_, z, rfl, I.hok.fresh (Nat.le_refl _), rfl, fun zs hz => ?_⟩, ⟨⟨w1, ?_⟩, it1.at fun ob y => (but.2 it (Ne.symm apart)).trans y, apart⟩, fun b m => ?_⟩
    · rw [I.tuple_inj hz at1]; exact at2
    · rw [Int.natCast_add]; exact en2
    · rw [upd_ne (Nat.ne_of_lt (below b m))]
      exact (free b m).1
  done := by
    rintro X rfl rfl rfl calm i pins s σ H E I free ⟨⟨last, x1⟩, x2, apart⟩ ⟨ys, at1, rfl⟩
    obtain ⟨vs, rel, tp, _⟩ := I.tuple at1
    have tp' : s.heap.IsTuple a vs.toArray := tp
    have dif : a ≠ it := by
      rintro rfl
      obtain ⟨ob, y1, y2, _⟩ := x2
      obtain ⟨ob2, y4, y5, _⟩ := tp'
      rw [y1] at y4; cases y4
      rw [y2] at y5; exact absurd y5 (by decide)
    have drawn := Draws.tuple (prog := X.prog) (w := X.w) (A := X.A.in1) (I.ok.hd calm) it a dif vs.toArray
    have size1 : ys.length = vs.toArray.size := by rw [List.size_toArray]; exact rel.length
    obtain ⟨f0, f1, f2, f3, f4, f5⟩ := free it (by simp)
    refine wpAny_pyNext_enum_endD drawn x1 ⟨size1 ▸ x2, tp'⟩ fun g ext => ⟨rfl, ?_⟩
    exact I.turned (t' := s.toks) (fun b ob m y => ext b ob m y) f0 f1 f3 f4 f5
  self := fun A i s Q E ⟨⟨_, x1⟩, _⟩ h => wpAny_pyIter_enum x1 h
def iNum (K : PySem.W.Frag) (ta : TA) : TI := fun σ H R => ta σ H fun vs H1 => ∃ a ys, vs = [V.ref a] ∧ SqT K H1 a ys ∧ R (Itn K a) H1
theorem walk_num {a : Addr} {ys : List V} : Walk (Itn K a) ys.length (fun H => SqT K H a ys) (YPair (fun i => some (.int (i : Nat))) (fun i => ys[i]?)) := by
  constructor
  · intro i H hi q; exact ⟨ys, ys[i], q, List.getElem?_eq_getElem hi⟩
  · intro H q; exact ⟨ys, q, rfl⟩
  · rintro i H v H2 _ q ⟨p, z, rfl, h1, h2, h3⟩
    exact ⟨p, .int (i : Nat), z, rfl, h1, h2, rfl, h3 ys q⟩
end
set_option maxHeartbeats 1000000 in
theorem meets_number {v : Value} {ob : Obj} {G : Heap → Prop} (B : Begins v ob G) :
    Meets (Builtin.«enumerate.__new__» ⟨[.type "enumerate", v], []⟩) (fun _ R s => G s.heap ∧
      R (.ok (.ret (.ref (s.heap.push ob).objs.size))) { s with heap := (s.heap.push ob).push { cls := .type "enumerate", data := .fields #[.none, .bool false, .ref s.heap.objs.size, rawInt 0, .none, .none] } }) := by
  refine Meets.of_wp fun prog w A R st hh => ?_
  obtain ⟨hp, gl, dp, tk, ext⟩ := st
  obtain ⟨hG, hR⟩ := hh
  have kin := sub_enumerate
  have begin' : ∀ {A2 : Around} {E2 : Value → Shared → Prop} {Q2 : Value → Shared → Prop}, Q2 (.ref hp.objs.size) ⟨hp.push ob, gl, dp, tk, ext⟩ → wpAny (model prog w) A2 (pyIter v) Q2 E2 ⟨hp, gl, dp, tk, ext⟩ := by
    intro A2 E2 Q2 q2
    exact B.iter prog w A2 E2 ⟨hp, gl, dp, tk, ext⟩ Q2 hG q2
  wp_walk using begin'
  apply wpAny_stack_any
  intro stk
  apply wpAny_pure
  split
  · rename_i c _ _ _ _ _
    cases (c == Value.type "enumerate") <;> (wp_walk using begin'; exact ⟨_, rfl, hR⟩)
  · wp_walk using begin'
    exact ⟨_, rfl, hR⟩
section
variable {X : Cx}
theorem pi_enumT {e : Expr} {ta : TA} {p pos tpos : Pos} {tgs : List Expr} {q : Nat} (hg : Gl X "enumerate") (hm : X.mg "enumerate" = none) (ha : PA X [e] ta) (na : starEach [e] X.env = [(false, eval e X.env)] := by rfl) :
    PI X (.Tuple tgs q tpos) (.Call (.Name "enumerate" p) [e] [] pos) (iNum X.K ta) := by
  constructor
  intro pins s σ H R I h
  refine Call_ (ld_blt I hg hm bt_enumerate (PyProof.Rows.callWith_type1 (thn (ha.run pos pins s σ H _ I h) ?_) na rfl))
  rintro us s1 ⟨vs, H1, I1, r1, a, ys, rfl, hq, next⟩
  obtain ⟨u, rfl, rx⟩ := vals1 r1
  obtain rfl : u = .ref a := rx
  obtain ⟨its, rel, tp, _⟩ := I1.tuple hq
  have tp' : s1.heap.IsTuple a its.toArray := tp
  have B := begins_tuple a its.toArray
  refine callType_new F.called_enumerate (by decide) (F.typeCall_enumerate_1 _) (F.newCall_enumerate_1 _) (fun ob => F.args_object_init_2 ob _) F.entry_enumerate_new (meets_number B) ⟨tp', ?_⟩
  let t1 := s1.heap.push { cls := .type "tuple_iterator", data := .fields #[.ref a, .int 0 0] }
  have n1 : t1.objs.size = s1.heap.objs.size + 1 := Heap.size_push ..
  show _ ∧ _
  rw [n1]
  have x1 : IsEnum (t1.push { cls := .type "enumerate", data := .fields #[.none, .bool false, .ref s1.heap.objs.size, rawInt 0, .none, .none] }) (s1.heap.objs.size + 1) s1.heap.objs.size 0 .none := by
    have z := Heap.get?_push_size t1 (o := { cls := .type "enumerate", data := .fields #[.none, .bool false, .ref s1.heap.objs.size, rawInt 0, .none, .none] }) rfl
    rw [n1] at z; exact z
  have same : ∀ b ob, s1.heap.get? b = some ob → (t1.push { cls := .type "enumerate", data := .fields #[.none, .bool false, .ref s1.heap.objs.size, rawInt 0, .none, .none] }).get? b = some ob :=
    fun b ob z => Heap.get?_push_of_some _ (Heap.get?_push_of_some _ z)
  refine ⟨⟨_, x1, rfl⟩, wpAny_pyIter_enum x1 ?_⟩
  have it1 : (t1.push { cls := .type "enumerate", data := .fields #[.none, .bool false, .ref s1.heap.objs.size, rawInt 0, .none, .none] }).IsTupleIter s1.heap.objs.size a 0 :=
    ⟨_, Heap.get?_push_of_some _ (Heap.get?_push_size _ rfl), rfl, rfl⟩
  refine ⟨s1.heap.objs.size + 1, [s1.heap.objs.size + 1, s1.heap.objs.size], _, Itn X.K a, H1, rfl, I1.kept (t' := s1.toks) same, turn_number a (s1.heap.objs.size + 1) s1.heap.objs.size, ⟨⟨.none, x1⟩, it1, Nat.succ_ne_self _⟩, ?_, next⟩
  intro b m
  have le : s1.heap.objs.size ≤ b := by
    rcases List.mem_cons.mp m with rfl | m
    · exact Nat.le_succ _
    · exact Nat.le_of_eq (List.mem_singleton.mp m).symm
  exact I1.fpOk le (I1.hok.fresh le)
end
/-! ### any walk, for loops and comprehensions -/
section
variable {σ : L2.St} {H : Hp} {nx bk ct : L2.St → Hp → Prop} {rt Q : VK} {te : TE} {tt : TT} {tb : TS} {tl : TA} {g : TG} {K : PySem.W.Frag} {J : It} {n : Nat} {G : Hp → Prop} {Y : Nat → Hp → V → Hp → Prop} {vs : List Nat}
theorem fr_it (w : Walk J n G Y) (Pv : Nat → L2.St → Hp → Prop) (h0 : Pv 0 σ H) (hG : ∀ i σ H, i ≤ n → Pv i σ H → G H)
    (hs : ∀ i x σ H H', i < n → Pv i σ H → Y i H x H' → g x σ H' fun σ2 H2 => tb ⟨Pv (i + 1), rt, nx, Pv (i + 1)⟩ σ2 H2) (hd : ∀ σ H, Pv n σ H → nx σ H) : FR J g tb ⟨nx, rt, bk, ct⟩ σ H := for_it w Pv h0 hG hs hd
theorem lw_it (w : Walk J n G Y) (Pv : Addr → Nat → Hp → Prop) (h0 : ∀ D, H D = none → Pv D 0 (upd H D (.lst []))) (hG : ∀ D, H D = none → ∀ i H, i ≤ n → Pv D i H → G H)
    (hs : ∀ D, H D = none → ∀ i x H H', i < n → Pv D i H → Y i H x H' → g x (wipe σ vs) H' fun σ2 H2 => wipe σ2 vs = wipe σ vs ∧ tt σ2 H2 fun b H3 =>
      if b = true then te σ2 H3 fun y H4 => ∃ acc, H4 D = some (.lst acc) ∧ acc.length < sizeLine ∧ Pv D (i + 1) (upd H4 D (.lst (acc ++ [y]))) else Pv D (i + 1) H3) (hd : ∀ D, H D = none → ∀ H, Pv D n H → Q (.ref D) H) : LCW J g tt te vs σ H Q :=
  fun D hD => lc_it w (Pv D) (h0 D hD) (hG D hD) (hs D hD) (hd D hD)
theorem r_lcN (h : tl σ H fun us H1 => ∃ a ys, us = [V.ref a] ∧ SqT K H1 a ys ∧ LCW (Itn K a) g tt te vs σ H1 Q) : tLc (iNum K tl) g tt te vs σ H Q := h
theorem r_forN {D : Ends} (h : tl σ H fun us H1 => ∃ a ys, us = [V.ref a] ∧ SqT K H1 a ys ∧ FR (Itn K a) g tb D σ H1) : tFor (iNum K tl) g tb D σ H := h
theorem r_lcE (h : tl σ H fun us H1 => ∃ a ys, us = [V.ref a] ∧ SqL K H1 a ys ∧ LCW (Ite K a) g tt te vs σ H1 Q) : tLc (iEnum K tl) g tt te vs σ H Q := h
theorem r_forE {D : Ends} (h : tl σ H fun us H1 => ∃ a ys, us = [V.ref a] ∧ SqL K H1 a ys ∧ FR (Ite K a) g tb D σ H1) : tFor (iEnum K tl) g tb D σ H := h
theorem r_seqN {a : Addr} {ys : List V} {Pr : Addr → Prop} (q : SqT K H a ys) (h : Pr a) : ∃ b zs, [V.ref a] = [V.ref b] ∧ SqT K H b zs ∧ Pr b := ⟨a, ys, rfl, q, h⟩
theorem r_seqE {a : Addr} {ys : List V} {Pr : Addr → Prop} (q : SqL K H a ys) (h : Pr a) : ∃ b zs, [V.ref a] = [V.ref b] ∧ SqL K H b zs ∧ Pr b := ⟨a, ys, rfl, q, h⟩
end
end Sy

/-! Mw: words of two letters: levels, turns, periods, the lowest places. -/
namespace Mw
open PySem PySem.Builtin PySem.Builtin.Str
open SX (S)
/-! ### texts -/
theorem cnt_count (c : Nat) : ∀ l : List Nat, PyProof.Rows.cnt c l = (l.count c : Nat)
  | [] => rfl
  | n :: l => by
    rw [PyProof.Rows.cnt_cons, cnt_count c l, List.count_cons]
    by_cases h : n = c
    · subst h; simp [Int.add_comm]
    · simp [h]
theorem count_S (a : List Nat) (c : Nat) : Txt.count (S a) ⟨#[c]⟩ = (a.count c : Nat) := by
  rw [PyProof.Rows.count_is]; exact cnt_count c a
theorem sub_iff (a b : List Nat) (i : Nat) : subAt (S a) (S b) i = true ↔ (a.drop i).take b.length = b := by
  unfold subAt
  rw [beq_iff_eq, SX.S_len]
  constructor
  · intro h
    have h2 := congrArg Array.toList h
    rw [Array.toList_extract] at h2
    simpa [List.extract_eq_take_drop] using h2
  · intro h
    apply Array.toList_inj.mp
    rw [Array.toList_extract]
    simpa [List.extract_eq_take_drop] using h
theorem full_run (s sub : Str) (hi limit : Nat) : ∀ (l : List Nat) (st : Array Nat × Nat), limit ≤ st.fst.size → (forIn l st (StrLaws.occBody s sub hi limit)).run.fst = st.fst
  | [], st, h => rfl
  | a :: l, st, h => by
    rw [List.forIn_cons]
    unfold StrLaws.occBody
    rw [if_neg (by omega)]
    exact full_run s sub hi limit l (st.fst, st.snd) h
theorem first_run (s sub : Str) (hi k : Nat) (hk : k + sub.length ≤ hi) (hs : subAt s sub k = true) : ∀ (m cur free : Nat), free ≤ cur → cur ≤ k → k < cur + m → (∀ j, cur ≤ j → j < k → subAt s sub j = false) →
    (forIn (List.range' cur m) ((#[] : Array Nat), free) (StrLaws.occBody s sub hi 1)).run.fst = #[k]
  | 0, cur, free, _, _, h, _ => by omega
  | m + 1, cur, free, hf, hc, h, hn => by
    rw [List.range'_succ, List.forIn_cons]
    unfold StrLaws.occBody
    by_cases e : cur = k
    · subst e
      rw [if_pos ⟨⟨⟨by simp, hf⟩, hk⟩, hs⟩]
      exact full_run s sub hi 1 _ (#[cur], _) (Nat.le_refl 1)
    · rw [if_neg (fun z => by rw [hn cur (Nat.le_refl _) (by omega)] at z; exact absurd z.2 Bool.false_ne_true)]
      exact first_run s sub hi k hk hs m (cur + 1) free (by omega) (by omega) (by omega) fun j h1 h2 => hn j (by omega) h2
theorem find3_S {a b : List Nat} {lo k : Nat} (h1 : lo ≤ k) (h2 : k + b.length ≤ a.length) (h3 : (a.drop k).take b.length = b) (h4 : ∀ j, lo ≤ j → j < k → (a.drop j).take b.length ≠ b) : Txt.find3 (S a) (S b) (lo : Int) = k := by
  have hl : (S a).length = a.length := SX.S_len a
  have hb : (S b).length = b.length := SX.S_len b
  unfold Txt.find3
  have hlo : fromIndex (S a).length (lo : Int) = lo := by
    unfold fromIndex; omega
  rw [hlo, StrLaws.occ_eq]
  rw [first_run (S a) (S b) _ k (by rw [hb, hl]; exact h2) ((sub_iff a b k).mpr h3) _ lo lo (Nat.le_refl _) h1 (by rw [hl]; omega) fun j h5 h6 => by
    cases e : subAt (S a) (S b) j with
    | false => rfl
    | true => exact absurd ((sub_iff a b j).mp e) (h4 j h5 h6)]
/-! ### turns -/
def rot (k : Nat) (l : List Nat) : List Nat := l.drop k ++ l.take k
theorem rot_len {k : Nat} {l : List Nat} : (rot k l).length = l.length := by
  unfold rot; rw [List.length_append, List.length_drop, List.length_take]; omega
theorem rot_count {k c : Nat} {l : List Nat} : (rot k l).count c = l.count c := by
  unfold rot
  rw [List.count_append, Nat.add_comm, ← List.count_append, List.take_append_drop]
theorem rot_full {l : List Nat} : rot l.length l = l := by unfold rot; simp
theorem rot_zero {l : List Nat} : rot 0 l = l := by unfold rot; simp
theorem twice {l : List Nat} {k : Nat} (h : k ≤ l.length) : ((l ++ l).drop k).take l.length = rot k l := by
  unfold rot
  rw [List.drop_append_of_le_length h, List.take_append, List.take_of_length_le (by rw [List.length_drop]; omega), List.length_drop]
  congr 2; omega
/-- the letter at i, all around -/
def ring (l : List Nat) (i : Nat) : Option Nat := l[i % l.length]?
theorem rot_get {l : List Nat} {k i : Nat} (hk : k ≤ l.length) (hi : i < l.length) : (rot k l)[i]? = ring l (i + k) := by
  unfold rot ring
  by_cases h : i < l.length - k
  · rw [List.getElem?_append_left (by rw [List.length_drop]; exact h), List.getElem?_drop, Nat.mod_eq_of_lt (by omega), Nat.add_comm]
  · rw [List.getElem?_append_right (by rw [List.length_drop]; omega), List.length_drop, List.getElem?_take, if_pos (by omega)]
    congr 1
    rw [Nat.mod_eq_sub_mod (by omega), Nat.mod_eq_of_lt (by omega)]; omega
theorem ring_mod {l : List Nat} {i : Nat} : ring l (i % l.length) = ring l i := by unfold ring; rw [Nat.mod_mod]
theorem ring_add {l : List Nat} {i : Nat} : ring l (i + l.length) = ring l i := by unfold ring; rw [Nat.add_mod_right]
/-- turned by j it is itself: all letters all around come again after j -/
theorem rot_iff {l : List Nat} {j : Nat} (hj : j ≤ l.length) : rot j l = l ↔ ∀ i, ring l (i + j) = ring l i := by
  constructor
  · intro h i
    rcases Nat.eq_zero_or_pos l.length with e | e
    · have : l = [] := List.length_eq_zero_iff.mp e
      subst this; rfl
    · have hm := Nat.mod_lt i e
      rw [← ring_mod (i := i)]
      have e1 : ring l (i + j) = ring l (i % l.length + j) := by unfold ring; rw [Nat.mod_add_mod]
      rw [e1, ← rot_get hj hm, h]
      unfold ring; rw [Nat.mod_mod]
  · intro h
    apply List.ext_getElem?
    intro i
    by_cases hi : i < l.length
    · rw [rot_get hj hi, h]; unfold ring; rw [Nat.mod_eq_of_lt hi]
    · rw [List.getElem?_eq_none (by rw [rot_len]; omega), List.getElem?_eq_none (by omega)]
theorem ring_rot {l : List Nat} {p : Nat} (hp : p ≤ l.length) (i : Nat) : ring (rot p l) i = ring l (i + p) := by
  rcases Nat.eq_zero_or_pos l.length with e | e
  · have : l = [] := List.length_eq_zero_iff.mp e
    subst this; simp [rot, ring]
  · have hm := Nat.mod_lt i e
    show (rot p l)[i % (rot p l).length]? = _
    rw [rot_len, rot_get hp hm]
    unfold ring; rw [Nat.mod_add_mod]
theorem rot_rot_iff {l : List Nat} {p j : Nat} (hp : p ≤ l.length) (hj : j ≤ l.length) : rot j (rot p l) = rot p l ↔ rot j l = l := by
  rw [rot_iff (by rw [rot_len]; exact hj), rot_iff hj]
  constructor
  · intro h i
    rcases Nat.eq_zero_or_pos l.length with e | e
    · have : l = [] := List.length_eq_zero_iff.mp e
      subst this; rfl
    · have h2 := h (i + (l.length - p))
      rw [ring_rot hp, ring_rot hp, show i + (l.length - p) + j + p = (i + j) + l.length by omega, show i + (l.length - p) + p = i + l.length by omega, ring_add, ring_add] at h2
      exact h2
  · intro h i
    rw [ring_rot hp, ring_rot hp, show i + j + p = (i + p) + j by omega]
    exact h _
/-- k is the least number of letters, at least 1, by which l is turned into itself -/
def IsPer (l : List Nat) (k : Nat) : Prop := 1 ≤ k ∧ k ≤ l.length ∧ rot k l = l ∧ ∀ j, 1 ≤ j → j < k → rot j l ≠ l
theorem IsPer.unique {l : List Nat} {j k : Nat} (h : IsPer l j) (h' : IsPer l k) : j = k := by
  rcases Nat.lt_trichotomy j k with z | z | z
  · exact absurd h.2.2.1 (h'.2.2.2 j h.1 z)
  · exact z
  · exact absurd h'.2.2.1 (h.2.2.2 k h'.1 z)
theorem least {p : Nat → Prop} : ∀ n, p n → ∃ k, k ≤ n ∧ p k ∧ ∀ j, j < k → ¬ p j := by
  intro n
  induction n using Nat.strongRecOn with
  | _ n ih =>
    intro h
    by_cases e : ∃ j, j < n ∧ p j
    · obtain ⟨j, h1, h2⟩ := e
      obtain ⟨k, h3, h4, h5⟩ := ih j h1 h2
      exact ⟨k, by omega, h4, h5⟩
    · exact ⟨n, Nat.le_refl _, h, fun j h1 h2 => e ⟨j, h1, h2⟩⟩
theorem per_exists {l : List Nat} (h : 0 < l.length) : ∃ k, IsPer l k := by
  obtain ⟨k, h1, ⟨h2, h3⟩, h4⟩ := least (p := fun k => 1 ≤ k ∧ rot k l = l) l.length ⟨h, rot_full⟩
  exact ⟨k, h2, h1, h3, fun j h5 h6 h7 => h4 j h6 ⟨h5, h7⟩⟩
theorem per_find {l : List Nat} {k : Nat} (h : IsPer l k) : Txt.find3 (S (l ++ l)) (S l) 1 = k := by
  refine find3_S (lo := 1) h.1 (by rw [List.length_append]; have := h.2.1; omega) ?_ ?_
  · rw [twice h.2.1]; exact h.2.2.1
  · intro j h1 h2
    rw [twice (by have := h.2.1; omega)]
    exact h.2.2.2 j h1 h2
theorem per_rot {l : List Nat} {p k : Nat} (hp : p ≤ l.length) (h : IsPer l k) : IsPer (rot p l) k := by
  refine ⟨h.1, by rw [rot_len]; exact h.2.1, (rot_rot_iff hp h.2.1).mpr h.2.2.1, fun j h1 h2 h3 => ?_⟩
  exact h.2.2.2 j h1 h2 ((rot_rot_iff hp (by have := h.2.1; omega)).mp h3)
theorem ring_mul {l : List Nat} {k : Nat} (h : ∀ i, ring l (i + k) = ring l i) : ∀ q i, ring l (i + k * q) = ring l i
  | 0, i => by rw [Nat.mul_zero, Nat.add_zero]
  | q + 1, i => by rw [Nat.mul_succ, ← Nat.add_assoc, h, ring_mul h q]
theorem per_dvd {l : List Nat} {k : Nat} (h : IsPer l k) : k ∣ l.length := by
  have hk := (rot_iff h.2.1).mp h.2.2.1
  apply Nat.dvd_of_mod_eq_zero
  rcases Nat.eq_zero_or_pos (l.length % k) with e | e
  · exact e
  · exfalso
    have hlt := Nat.mod_lt l.length h.1
    refine h.2.2.2 _ e hlt ((rot_iff (Nat.mod_le _ _)).mpr fun i => ?_)
    rw [← ring_mul hk (l.length / k), Nat.add_assoc, Nat.mod_add_div, ring_add]
/-- how many of the first m letters all around are c -/
def upto (l : List Nat) (c : Nat) : Nat → Nat
  | 0 => 0
  | m + 1 => upto l c m + if ring l m = some c then 1 else 0
theorem upto_take (l : List Nat) (c : Nat) : ∀ m, m ≤ l.length → upto l c m = (l.take m).count c
  | 0, _ => by simp [upto]
  | m + 1, h => by
    have hm : m < l.length := h
    rw [upto, upto_take l c m (by omega), List.take_add_one, List.count_append]
    unfold ring
    rw [Nat.mod_eq_of_lt hm, List.getElem?_eq_getElem hm]
    congr 1
    by_cases e : l[m] = c
    · simp [e]
    · simp [e]
theorem upto_add {l : List Nat} {c k : Nat} (h : ∀ i, ring l (i + k) = ring l i) : ∀ m, upto l c (m + k) = upto l c k + upto l c m
  | 0 => by rw [Nat.zero_add]; rfl
  | m + 1 => by
    rw [show m + 1 + k = (m + k) + 1 by omega, upto, upto_add h m, h, upto]; omega
theorem upto_mul {l : List Nat} {c k : Nat} (h : ∀ i, ring l (i + k) = ring l i) : ∀ q, upto l c (q * k) = q * upto l c k
  | 0 => by rw [Nat.zero_mul, Nat.zero_mul]; rfl
  | q + 1 => by rw [Nat.add_mul, Nat.one_mul, upto_add h, upto_mul h q, Nat.add_mul]; omega
theorem per_count {l : List Nat} {c k : Nat} (h : IsPer l k) : (l.length / k) ∣ l.count c := by
  have hk := (rot_iff h.2.1).mp h.2.2.1
  have e : upto l c l.length = l.count c := by rw [upto_take l c _ (Nat.le_refl _), List.take_length]
  obtain ⟨q, hq⟩ := per_dvd h
  rw [← e, hq, Nat.mul_div_cancel_left _ h.1, Nat.mul_comm k q, upto_mul hk]
  exact Nat.dvd_mul_right _ _
/-! ### levels -/
/-- the level behind all letters -/
def lev (a b : Nat) (l : List Nat) : Int := (b : Int) * (l.count 114 : Nat) - (a : Int) * (l.length - l.count 114 : Nat)
theorem lev_nil {a b : Nat} : lev a b [] = 0 := by simp [lev]
theorem cnt_le (l : List Nat) : l.count 114 ≤ l.length := List.count_le_length
theorem lev_append {a b : Nat} (u v : List Nat) : lev a b (u ++ v) = lev a b u + lev a b v := by
  have h1 := cnt_le u
  have h2 := cnt_le v
  unfold lev
  rw [List.count_append, List.length_append, Int.ofNat_sub (by omega), Int.ofNat_sub h1, Int.ofNat_sub h2]
  push_cast
  rw [Int.mul_add, Int.mul_sub, Int.mul_sub, Int.mul_sub, Int.mul_add, Int.mul_add]; omega
theorem lev_one {a b c : Nat} : lev a b [c] = if c = 114 then (b : Int) else -(a : Int) := by
  unfold lev
  by_cases h : c = 114
  · subst h; simp
  · simp [h]
theorem lev_snoc {a b c : Nat} {u : List Nat} : lev a b (u ++ [c]) = lev a b u + if c = 114 then (b : Int) else -(a : Int) := by rw [lev_append, lev_one]
theorem lev_take {a b c i : Nat} {l : List Nat} (h : l[i]? = some c) : lev a b (l.take (i + 1)) = lev a b (l.take i) + if c = 114 then (b : Int) else -(a : Int) := by
  rw [List.take_add_one, h]; exact lev_snoc
theorem lev_abs {a b : Nat} {l : List Nat} (ha : a ≤ 60) (hb : b ≤ 60) (hl : l.length ≤ 1000) : (lev a b l).natAbs ≤ 60000 := by
  have h1 := cnt_le l
  have h2 : b * l.count 114 ≤ 60 * 1000 := Nat.mul_le_mul hb (by omega)
  have h3 : a * (l.length - l.count 114) ≤ 60 * 1000 := Nat.mul_le_mul ha (by omega)
  unfold lev
  rw [← Int.natCast_mul, ← Int.natCast_mul]; omega
/-- the levels ahead of all letters -/
def lvs (a b : Nat) (l : List Nat) : List Int := (List.range l.length).map fun i => lev a b (l.take i)
theorem lvs_len {a b : Nat} {l : List Nat} : (lvs a b l).length = l.length := by unfold lvs; simp
theorem lvs_get {a b i : Nat} {l : List Nat} (h : i < l.length) : (lvs a b l)[i]? = some (lev a b (l.take i)) := by
  unfold lvs; rw [List.getElem?_map, List.getElem?_range h]; rfl
/-- a word of a rises and b steps -/
def Wd (a b : Nat) (l : List Nat) : Prop := l.count 114 = a ∧ l.count 115 = b ∧ l.length = a + b
theorem Wd.rot {a b k : Nat} {l : List Nat} (h : Wd a b l) : Wd a b (rot k l) := ⟨by rw [rot_count]; exact h.1, by rw [rot_count]; exact h.2.1, by rw [rot_len]; exact h.2.2⟩
theorem lev_word {a b : Nat} {l : List Nat} (h : Wd a b l) : lev a b l = 0 := by
  unfold lev
  rw [h.1, h.2.2, show a + b - a = b by omega, Int.mul_comm]; omega
/-- levels of the turned word -/
theorem lvs_rot {a b p : Nat} {l : List Nat} (h : Wd a b l) (hp : p < l.length) :
    lvs a b (rot p l) = ((lvs a b l).drop p ++ (lvs a b l).take p).map fun x => x - lev a b (l.take p) := by
  apply List.ext_getElem?
  intro i
  have split : lev a b l = lev a b (l.take p) + lev a b (l.drop p) := by rw [← lev_append, List.take_append_drop]
  rw [lev_word h] at split
  by_cases hi : i < l.length
  · rw [lvs_get (by rw [rot_len]; exact hi), List.getElem?_map]
    unfold rot
    by_cases h1 : i < l.length - p
    · rw [List.getElem?_append_left (by rw [List.length_drop, lvs_len]; exact h1), List.getElem?_drop, lvs_get (by omega), List.take_append_of_le_length (by rw [List.length_drop]; omega)]
      show some _ = some _
      congr 1
      rw [List.take_add, lev_append]
      show lev a b ((l.drop p).take i) = lev a b (l.take p) + lev a b ((l.drop p).take i) - lev a b (l.take p)
      omega
    · rw [List.getElem?_append_right (by rw [List.length_drop, lvs_len]; omega), List.length_drop, lvs_len, List.getElem?_take, if_pos (by omega), lvs_get (by omega), List.take_append, List.take_of_length_le (by rw [List.length_drop]; omega), List.length_drop, List.take_take, lev_append]
      show some _ = some _
      congr 1
      rw [Nat.min_eq_left (by omega)]
      show lev a b (l.drop p) + lev a b (l.take (i - (l.length - p))) = lev a b (l.take (i - (l.length - p))) - lev a b (l.take p)
      omega
  · rw [List.getElem?_eq_none (by rw [lvs_len, rot_len]; omega), List.getElem?_eq_none (by rw [List.length_map, List.length_append, List.length_drop, List.length_take, lvs_len]; omega)]
/-- the places with the level m -/
def places (m : Int) : List Int → List Nat := fun ns => (List.range ns.length).filter fun i => decide (ns.getD i 0 = m)
theorem places_step {m : Int} {ns : List Int} {i : Nat} : (List.range (i + 1)).filter (fun i => decide (ns.getD i 0 = m)) = (List.range i).filter (fun i => decide (ns.getD i 0 = m)) ++ if ns.getD i 0 = m then [i] else [] := by
  rw [List.range_succ, List.filter_append]
  congr 1
  rw [List.filter_cons]
  by_cases h : ns.getD i 0 = m
  · rw [if_pos (decide_eq_true h), if_pos h]; rfl
  · rw [if_neg (by rw [decide_eq_false h]; exact Bool.false_ne_true), if_neg h]; rfl
theorem min_unique {ns : List Int} {m k : Int} (h1 : m ∈ ns) (h2 : ∀ y, y ∈ ns → m ≤ y) (h3 : k ∈ ns) (h4 : ∀ y, y ∈ ns → k ≤ y) : m = k := by
  have := h2 k h3; have := h4 m h1; omega
end Mw
namespace Mw
open PySem PySem.Builtin PySem.Builtin.Str L2
open SX (S)
theorem lit_r : ("r" : Str) = ⟨#[114]⟩ := by decide +kernel
theorem lit_s : ("s" : Str) = ⟨#[115]⟩ := by decide +kernel
theorem is_r {c : Nat} : ((⟨#[c]⟩ : Str) = ("r" : Str)) ↔ c = 114 := by
  rw [lit_r]
  constructor
  · intro h
    have := congrArg (fun x : Str => x.cps.toList) h
    simpa using this
  · rintro rfl; rfl
theorem is_s {c : Nat} : ((⟨#[c]⟩ : Str) = ("s" : Str)) ↔ c = 115 := by
  rw [lit_s]
  constructor
  · intro h
    have := congrArg (fun x : Str => x.cps.toList) h
    simpa using this
  · rintro rfl; rfl
theorem cut_from {a : List Nat} {i : Int} (h : 0 ≤ i) : cutS (S a) (some i) none = S (a.drop i.toNat) := by rw [C8.cutS_slice, SX.slice_from h]
theorem cut_to {a : List Nat} {i : Int} (h : 0 ≤ i) : cutS (S a) none (some i) = S (a.take i.toNat) := by rw [C8.cutS_slice, SX.slice_to h]
theorem S_get {l : List Nat} {i : Nat} : (S l).cps[i]? = l[i]? := by simp [S]
theorem S_size {l : List Nat} : (S l).cps.size = l.length := by simp [S]
theorem S_eq {a b : List Nat} : (S a = S b) ↔ a = b := ⟨SX.S_inj, fun h => by rw [h]⟩
theorem ints_snoc {ns : List Int} {i : Nat} {x : Int} (h : ns[i]? = some x) : (ns.take (i + 1)).map V.int = (ns.take i).map V.int ++ [V.int x] := by
  rw [List.take_add_one, h, List.map_append]; rfl
theorem lvs_snoc {a b i : Nat} {l : List Nat} (h : i < l.length) : ((lvs a b l).take (i + 1)).map V.int = ((lvs a b l).take i).map V.int ++ [V.int (lev a b (l.take i))] := ints_snoc (lvs_get h)
theorem r_slS {z : Str} {lo hi : Option Int} {H : Hp} {Q : VK} (h : Q (.str (cutS z lo hi)) H) (hz : z.length ≤ sizeLine) : rSlS (.str z) lo hi H Q := ⟨z, rfl, hz, h⟩
theorem small_S {l : List Nat} (h : l.length ≤ 1000) : (S l).length ≤ sizeLine := by rw [SX.S_len, sizeLine_eq]; omega
theorem small2 {a b : List Nat} (h : a.length + b.length ≤ 2000) : (S a).length + (S b).length ≤ sizeLine := by rw [SX.S_len, SX.S_len, sizeLine_eq]; omega
end Mw
namespace Mw
open PySem PySem.Builtin PySem.Builtin.Str L2 Sx Sy
open SX (S)
theorem times_S (c n : Nat) : times (S [c]) n = S (List.replicate n c) := by
  have h : ∀ (n : Nat) (z : List Nat), (List.replicate n (#[c] : Array Nat)).foldl (· ++ ·) z.toArray = (z ++ List.replicate n c).toArray := by
    intro n
    induction n with
    | zero => intro z; simp
    | succ n ih =>
      intro z
      rw [List.replicate_succ, List.foldl_cons, show z.toArray ++ #[c] = (z ++ [c]).toArray by simp, ih, List.append_assoc, List.replicate_succ]; rfl
  have := h n []
  unfold times
  exact congrArg Str.mk this
theorem join_ones : ∀ l : List Nat, TL.joinL [] (l.map fun c => [c]) = l
  | [] => rfl
  | [c] => rfl
  | c :: d :: l => by
    show [c] ++ ([] ++ TL.joinL [] ((d :: l).map fun c => [c])) = _
    rw [join_ones (d :: l)]; rfl
theorem join_letters (l : List Nat) : Txt.join ("" : Str) (l.map fun c => (⟨#[c]⟩ : Str)) = S l := by
  have h := SX.join_S [] (l.map fun c => [c])
  rw [join_ones, List.map_map] at h
  exact h
theorem lens_ones (l : List Nat) : ((l.map fun c => (⟨#[c]⟩ : Str)).map (·.length)).sum = l.length := by
  rw [List.map_map]
  induction l with
  | nil => rfl
  | cons c l ih => rw [List.map_cons, List.sum_cons, ih, List.length_cons]; show 1 + _ = _; omega
theorem len_r : ("r" : Str).length = 1 := by decide +kernel
theorem len_s : ("s" : Str).length = 1 := by decide +kernel
theorem len_0 : ("" : Str).length = 0 := by decide +kernel
theorem wd_perm {a b : Nat} {l : List Nat} (h : l.Perm (List.replicate a 114 ++ List.replicate b 115)) : Wd a b l := by
  refine ⟨?_, ?_, ?_⟩
  · rw [h.count_eq]; simp [List.count_replicate]
  · rw [h.count_eq]; simp [List.count_replicate]
  · rw [h.length_eq]; simp
theorem r_pop {l : Addr} {xs : List V} {i : Int} {y : V} {H : Hp} {Q : VK} (hH : H l = some (.lst xs)) (h0 : 0 ≤ i) (h1 : i < xs.length) (h2 : xs.length ≤ 1000000) (hy : xs[i.toNat]? = some y) (h : Q y (upd H l (.lst (xs.eraseIdx i.toNat)))) : rPopAt (.ref l) [.int i] H Q := by
  refine ⟨l, xs, i, i.toNat, y, rfl, rfl, hH, by omega, by omega, ?_, hy, h⟩
  have e : (if i < 0 then i + (xs.length : Int) else i) = i := if_neg (by omega)
  unfold seqIndex?
  simp only [e]
  rw [if_pos (by rw [Bool.and_eq_true, decide_eq_true_iff, decide_eq_true_iff]; exact ⟨h0, h1⟩)]
theorem erase_map {α β : Type} (f : α → β) : ∀ (u : List α) (k : Nat), (u.map f).eraseIdx k = (u.eraseIdx k).map f
  | [], _ => rfl
  | x :: u, 0 => rfl
  | x :: u, k + 1 => by
    show f x :: (u.map f).eraseIdx k = f x :: (u.eraseIdx k).map f
    rw [erase_map f u k]
theorem pick_perm {α : Type} : ∀ (u : List α) (k : Nat) (hk : k < u.length), ([u[k]] ++ u.eraseIdx k).Perm u
  | x :: u, 0, _ => List.Perm.refl _
  | x :: u, k + 1, h => by
    have hk : k < u.length := Nat.lt_of_succ_lt_succ h
    have ih := pick_perm u k hk
    show (u[k] :: x :: u.eraseIdx k).Perm (x :: u)
    exact (List.Perm.swap x u[k] (u.eraseIdx k)).trans (List.Perm.cons x ih)
theorem perm_pick {α : Type} {v u cs : List α} {k : Nat} (hk : k < u.length) (h : (v ++ u).Perm cs) : ((v ++ [u[k]]) ++ u.eraseIdx k).Perm cs := by
  refine List.Perm.trans ?_ h
  rw [List.append_assoc]
  exact List.Perm.append_left v (pick_perm u k hk)
/-- the numbers up to i by which l is turned into itself -/
def cand (l : List Nat) (i : Nat) : List Int := ((List.range i).filter fun j => decide (rot (j + 1) l = l)).map fun j : Nat => (1 : Int) + j
theorem cand_yes {l : List Nat} {i : Nat} (h : rot (i + 1) l = l) : (cand l (i + 1)).map V.int = (cand l i).map V.int ++ [V.int ((1 : Int) + i)] := by
  unfold cand
  rw [List.range_succ, List.filter_append, List.filter_cons, if_pos (decide_eq_true h), List.map_append, List.map_append]; rfl
theorem cand_no {l : List Nat} {i : Nat} (h : ¬ rot (i + 1) l = l) : (cand l (i + 1)).map V.int = (cand l i).map V.int := by
  unfold cand
  rw [List.range_succ, List.filter_append, List.filter_cons, if_neg (by rw [decide_eq_false h]; exact Bool.false_ne_true), List.filter_nil, List.append_nil]
theorem cand_len {l : List Nat} {i : Nat} : (cand l i).length ≤ i := by
  unfold cand
  rw [List.length_map]
  exact Nat.le_trans (List.length_filter_le _ _) (by rw [List.length_range]; exact Nat.le_refl _)
theorem cand_mem {l : List Nat} {k : Int} : k ∈ cand l l.length ↔ ∃ j : Nat, k = j ∧ 1 ≤ j ∧ j ≤ l.length ∧ rot j l = l := by
  unfold cand
  rw [List.mem_map]
  constructor
  · rintro ⟨j, h, rfl⟩
    rw [List.mem_filter, List.mem_range, decide_eq_true_iff] at h
    exact ⟨j + 1, by omega, by omega, h.1, h.2⟩
  · rintro ⟨j, rfl, h1, h2, h3⟩
    refine ⟨j - 1, ?_, by omega⟩
    rw [List.mem_filter, List.mem_range, decide_eq_true_iff, show j - 1 + 1 = j by omega]
    exact ⟨by omega, h3⟩
theorem cand_pos {l : List Nat} (h : 0 < l.length) : 0 < (cand l l.length).length := by
  have : (l.length : Int) ∈ cand l l.length := cand_mem.mpr ⟨l.length, rfl, h, Nat.le_refl _, rot_full⟩
  exact List.length_pos_of_mem this
theorem cand_per {l : List Nat} {m : Int} (h1 : m ∈ cand l l.length) (h2 : ∀ y, y ∈ cand l l.length → m ≤ y) : ∃ k : Nat, m = k ∧ IsPer l k := by
  obtain ⟨k, rfl, h3, h4, h5⟩ := cand_mem.mp h1
  refine ⟨k, rfl, h3, h4, h5, fun j j1 j2 j3 => ?_⟩
  have := h2 j (cand_mem.mpr ⟨j, rfl, j1, by omega, j3⟩)
  omega
end Mw

/-! Mp: texts of two numbers with a colon: how they are read, and with which letter no text goes on. -/
namespace Mp
open PySem PySem.Builtin PySem.Builtin.Str
open SX (S)
/-- the digits of a number from 1 to 60 -/
def dig (n : Nat) : List Nat := if n < 10 then [48 + n] else [48 + n / 10, 48 + n % 10]
def numL : List (List Nat) := (List.range 60).map fun i => dig (i + 1)
def isN (p : List Nat) : Bool := decide (p ∈ numL)
def bn (p : List Nat) : Bool := decide (p = []) || isN p
theorem nums_are : ∀ i : Nat, i < 60 → Str.ofString (toString ((i : Int) + 1)) = S (dig (i + 1)) := by decide +kernel
theorem num_no58 : ∀ p ∈ numL, ¬ 58 ∈ p := by decide +kernel
theorem dig_isN {n : Nat} (h0 : 0 < n) (h : n ≤ 60) : isN (dig n) = true :=
  decide_eq_true (List.mem_map.mpr ⟨n - 1, List.mem_range.mpr (by omega), by rw [Nat.sub_add_cancel h0]⟩)
/-- what has been read, and the number that it is -/
def St (n : Nat) (q : List Nat) : Prop := (n = 0 ∧ q = []) ∨ (0 < n ∧ n ≤ 60 ∧ q = dig n)
theorem St.bn {n : Nat} {q : List Nat} (h : St n q) : bn q = true := by
  rcases h with ⟨_, rfl⟩ | ⟨h0, h1, rfl⟩
  · rfl
  · unfold Mp.bn; rw [dig_isN h0 h1, Bool.or_true]
theorem St.isN {n : Nat} {q : List Nat} (h : St n q) (h0 : n ≠ 0) : isN q = true := by
  rcases h with ⟨e, _⟩ | ⟨h0, h1, rfl⟩
  · exact absurd e h0
  · exact dig_isN h0 h1
/-- a letter goes on with a number -/
def goes (n c : Nat) : Bool := decide (48 ≤ c ∧ c ≤ 57) && decide (1 ≤ n * 10 + (c - 48) ∧ n * 10 + (c - 48) ≤ 60)
theorem goes_0 : ∀ c, c < 128 → goes 0 c = isN [c] := by decide +kernel
theorem mem_num {p : List Nat} : p ∈ numL ↔ ∃ m, 1 ≤ m ∧ m ≤ 60 ∧ dig m = p := by
  unfold numL
  rw [List.mem_map]
  constructor
  · rintro ⟨i, hi, e⟩
    exact ⟨i + 1, by omega, by have := List.mem_range.mp hi; omega, e⟩
  · rintro ⟨m, h1, h2, e⟩
    exact ⟨m - 1, List.mem_range.mpr (by omega), by rw [Nat.sub_add_cancel h1]; exact e⟩
theorem goes_iff {n c : Nat} : goes n c = true ↔ (48 ≤ c ∧ c ≤ 57) ∧ 1 ≤ n * 10 + (c - 48) ∧ n * 10 + (c - 48) ≤ 60 := by
  unfold goes; rw [Bool.and_eq_true, decide_eq_true_iff, decide_eq_true_iff]
theorem goes_n (n : Nat) (hn : n < 61) (h0 : n ≠ 0) (c : Nat) : goes n c = isN (dig n ++ [c]) := by
  rw [Bool.eq_iff_iff, goes_iff]
  unfold isN
  rw [decide_eq_true_iff, mem_num]
  constructor
  · rintro ⟨⟨h1, h2⟩, h3, h4⟩
    refine ⟨n * 10 + (c - 48), h3, h4, ?_⟩
    unfold dig
    rw [if_neg (by omega), if_pos (by omega)]
    show [_, _] = [48 + n, c]
    rw [show 48 + (n * 10 + (c - 48)) / 10 = 48 + n by omega, show 48 + (n * 10 + (c - 48)) % 10 = c by omega]
  · rintro ⟨m, h1, h2, e⟩
    unfold dig at e
    split at e <;> split at e
    · simp at e
    · simp at e
    · simp at e; omega
    · simp at e
theorem next_0 : ∀ c, c < 128 → goes 0 c = true → 0 < 0 * 10 + (c - 48) ∧ 0 * 10 + (c - 48) ≤ 60 ∧ [c] = dig (0 * 10 + (c - 48)) := by decide +kernel
theorem next_n (n : Nat) (hn : n < 61) (h0 : n ≠ 0) (c : Nat) (g : goes n c = true) : 0 < n * 10 + (c - 48) ∧ n * 10 + (c - 48) ≤ 60 ∧ dig n ++ [c] = dig (n * 10 + (c - 48)) := by
  obtain ⟨⟨h1, h2⟩, h3, h4⟩ := goes_iff.mp g
  refine ⟨h3, h4, ?_⟩
  unfold dig
  rw [if_pos (by omega), if_neg (by omega)]
  show [48 + n, c] = [_, _]
  rw [show 48 + (n * 10 + (c - 48)) / 10 = 48 + n by omega, show 48 + (n * 10 + (c - 48)) % 10 = c by omega]
theorem St.goes {n c : Nat} {q : List Nat} (h : St n q) (hc : c < 128) : goes n c = Mp.isN (q ++ [c]) := by
  rcases h with ⟨rfl, rfl⟩ | ⟨h0, h1, rfl⟩
  · exact goes_0 c hc
  · exact goes_n n (by omega) (by omega) c
theorem St.next {n c : Nat} {q : List Nat} (h : St n q) (hc : c < 128) (g : Mp.goes n c = true) : St (n * 10 + (c - 48)) (q ++ [c]) := by
  rcases h with ⟨rfl, rfl⟩ | ⟨h0, h1, rfl⟩
  · exact .inr (next_0 c hc g)
  · exact .inr (next_n n (by omega) (by omega) c g)
/-- the number that is read behind n, and how many letters are read -/
def rd : Nat → List Nat → Nat × Nat
  | n, [] => (n, 0)
  | n, c :: r => if goes n c = true then ((rd (n * 10 + (c - 48)) r).1, (rd (n * 10 + (c - 48)) r).2 + 1) else (n, 0)
theorem rd_is : ∀ (r : List Nat) (n : Nat) (q : List Nat), St n q → (∀ c ∈ r, c < 128) →
    St (rd n r).1 (q ++ r.take (rd n r).2) ∧ (rd n r).2 ≤ r.length ∧ (∀ c, r[(rd n r).2]? = some c → isN (q ++ r.take (rd n r).2 ++ [c]) = false) ∧ ∀ i, i ≤ (rd n r).2 → bn (q ++ r.take i) = true
  | [], n, q, h, _ => ⟨by simpa [rd] using h, by simp [rd], fun c e => by simp at e, fun i hi => by simpa [rd] using h.bn⟩
  | c :: r, n, q, h, hr => by
    have hc := hr c List.mem_cons_self
    unfold rd
    by_cases g : goes n c = true
    · rw [if_pos g]
      obtain ⟨a1, a2, a3, a4⟩ := rd_is r _ (q ++ [c]) (h.next hc g) fun d hd => hr d (List.mem_cons_of_mem _ hd)
      refine ⟨?_, by simpa using a2, fun d hd => ?_, fun i hi => ?_⟩
      · simpa [List.append_assoc] using a1
      · have := a3 d (by simpa using hd)
        simpa [List.append_assoc] using this
      · cases i with
        | zero => simpa using h.bn
        | succ i => simpa [List.append_assoc] using a4 i (Nat.le_of_succ_le_succ hi)
    · rw [if_neg g]
      refine ⟨by simpa using h, Nat.zero_le _, fun d hd => ?_, fun i hi => ?_⟩
      · have e : c = d := by simpa using hd
        subst e
        rw [List.take_zero, List.append_nil, ← h.goes hc]
        simpa using g
      · obtain rfl : i = 0 := Nat.le_zero.mp hi
        simpa using h.bn
/-- cut at the first colon -/
def cutc : List Nat → Option (List Nat × List Nat)
  | [] => none
  | c :: r => if c = 58 then some ([], r) else (cutc r).map fun p => (c :: p.1, p.2)
theorem cutc_none : ∀ {p : List Nat}, ¬ 58 ∈ p → cutc p = none
  | [], _ => rfl
  | c :: r, h => by
    unfold cutc
    rw [if_neg (fun e => h (by rw [e]; exact List.mem_cons_self)), cutc_none fun z => h (List.mem_cons_of_mem _ z)]; rfl
theorem cutc_app : ∀ {q r : List Nat}, ¬ 58 ∈ q → cutc (q ++ 58 :: r) = some (q, r)
  | [], r, _ => by simp [cutc]
  | c :: q, r, h => by
    rw [List.cons_append]
    unfold cutc
    rw [if_neg (fun e => h (by rw [e]; exact List.mem_cons_self)), cutc_app fun z => h (List.mem_cons_of_mem _ z)]; rfl
theorem cut_cases : ∀ p : List Nat, ¬ 58 ∈ p ∨ ∃ q r, p = q ++ 58 :: r ∧ ¬ 58 ∈ q
  | [] => .inl (by simp)
  | c :: p => by
    by_cases e : c = 58
    · exact .inr ⟨[], p, by rw [e]; rfl, by simp⟩
    · rcases cut_cases p with h | ⟨q, r, rfl, h⟩
      · exact .inl fun z => by
          rcases List.mem_cons.mp z with z | z
          · exact e z.symm
          · exact h z
      · exact .inr ⟨c :: q, r, rfl, fun z => by
          rcases List.mem_cons.mp z with z | z
          · exact e z.symm
          · exact h z⟩
/-- a text of a slope may begin so -/
def beg (p : List Nat) : Bool := match cutc p with
  | none => bn p
  | some (q, r) => isN q && bn r
def full (p : List Nat) : Bool := match cutc p with
  | none => false
  | some (q, r) => isN q && isN r
theorem isN_no58 {p : List Nat} (h : isN p = true) : ¬ 58 ∈ p := num_no58 p (of_decide_eq_true h)
theorem bn_no58 {p : List Nat} (h : bn p = true) : ¬ 58 ∈ p := by
  unfold bn at h
  rcases Bool.or_eq_true_iff.mp h with h | h
  · rw [of_decide_eq_true h]; simp
  · exact isN_no58 h
theorem beg_bn {p : List Nat} (h : bn p = true) : beg p = true := by
  unfold beg; rw [cutc_none (bn_no58 h)]; exact h
theorem beg_app {q r : List Nat} (h : isN q = true) : beg (q ++ 58 :: r) = bn r := by
  unfold beg; rw [cutc_app (isN_no58 h)]; show (isN q && bn r) = bn r; rw [h, Bool.true_and]
/-- the place at which reading fails; the two numbers, if it doesn't -/
def fault (l : List Nat) : Option Nat :=
  let a := rd 0 l
  if a.1 = 0 then some 0
  else if l[a.2]? ≠ some 58 then some a.2
  else
    let b := rd 0 (l.drop (a.2 + 1))
    if b.1 = 0 then some (a.2 + 1) else if a.2 + 1 + b.2 < l.length then some (a.2 + 1 + b.2) else none
/-- what the law tells of a text -/
def DueAt (l : List Nat) (v : Int) : Prop :=
  (∃ i, i < l.length ∧ v = i ∧ beg (l.take (i + 1)) = false ∧ ∀ j, j < i → beg (l.take (j + 1)) = true) ∨
  ((∀ j, j < l.length → beg (l.take (j + 1)) = true) ∧ v = if full l = true then -1 else (l.length : Int))
/-- f is the first place that fails, or the end -/
def Upto (l : List Nat) (f : Nat) : Prop := f ≤ l.length ∧ (∀ j, j < f → beg (l.take (j + 1)) = true) ∧ (f < l.length → beg (l.take (f + 1)) = false)
theorem due_of {l : List Nat} {f : Nat} {v : Int} (u : Upto l f) (h : DueAt l v) : (f < l.length → v = f) ∧ (f = l.length → v = if full l = true then -1 else (l.length : Int)) := by
  obtain ⟨u1, u2, u3⟩ := u
  rcases h with ⟨i, hi, rfl, h1, h2⟩ | ⟨h1, rfl⟩
  · refine ⟨fun hf => ?_, fun hf => ?_⟩
    · rcases Nat.lt_trichotomy i f with e | e | e
      · rw [u2 i e] at h1; cases h1
      · rw [e]
      · have := u3 hf; rw [h2 f e] at this; cases this
    · rw [u2 i (by omega)] at h1; cases h1
  · refine ⟨fun hf => ?_, fun _ => rfl⟩
    have := u3 hf; rw [h1 f hf] at this; cases this
theorem get_split {l : List Nat} {k c : Nat} (h : l[k]? = some c) : l = l.take k ++ c :: l.drop (k + 1) := by
  have hk := (List.getElem?_eq_some_iff.mp h).1
  have e := (List.getElem?_eq_some_iff.mp h).2
  rw [← e, List.getElem_cons_drop hk, List.take_append_drop]
theorem take_snoc {l : List Nat} {k c : Nat} (h : l[k]? = some c) : l.take (k + 1) = l.take k ++ [c] := by rw [List.take_add_one, h]; rfl
theorem no_bn {q : List Nat} {c : Nat} (h : isN (q ++ [c]) = false) : bn (q ++ [c]) = false := by
  unfold bn; rw [h, decide_eq_false (by simp)]; rfl
theorem due_is {l : List Nat} {v : Int} (hl : ∀ c ∈ l, c < 128) (h : DueAt l v) : v = match fault l with | some f => (f : Int) | none => -1 := by
  obtain ⟨a1, a2, a3, a4⟩ := rd_is l 0 [] (.inl ⟨rfl, rfl⟩) hl
  rw [List.nil_append] at a1
  have a3 : ∀ c, l[(rd 0 l).2]? = some c → isN (l.take (rd 0 l).2 ++ [c]) = false := fun c hc => by simpa using a3 c hc
  have a4 : ∀ i, i ≤ (rd 0 l).2 → bn (l.take i) = true := fun i hi => by simpa using a4 i hi
  unfold fault
  generalize rd 0 l = a at a1 a2 a3 a4 ⊢
  obtain ⟨n, k⟩ := a
  simp only at a1 a2 a3 a4 ⊢
  by_cases hn : n = 0
  · rw [if_pos hn]
    have hk : l.take k = [] := by
      rcases a1 with ⟨_, e⟩ | ⟨e, _⟩
      · exact e
      · omega
    have u : Upto l 0 := by
      refine ⟨Nat.zero_le _, fun j hj => by omega, fun h0 => ?_⟩
      have hk0 : k = 0 := by
        rcases Nat.eq_zero_or_pos k with e | e
        · exact e
        · have := congrArg List.length hk; rw [List.length_take, Nat.min_eq_left a2] at this; exact this
      subst hk0
      have e0 : l[0]? = some l[0] := List.getElem?_eq_getElem h0
      have h3 := a3 _ e0
      rw [take_snoc e0, List.take_zero, List.nil_append] at *
      by_cases c58 : l[0] = 58
      · rw [c58]; decide
      · unfold beg; rw [cutc_none (by simpa using fun e => c58 e.symm)]; exact no_bn (q := []) h3
    obtain ⟨d1, d2⟩ := due_of u h
    rcases Nat.eq_zero_or_pos l.length with e | e
    · rw [d2 e.symm, List.length_eq_zero_iff.mp e]; rfl
    · exact d1 e
  · rw [if_neg hn]
    have hq := a1.isN hn
    by_cases h58 : l[k]? = some 58
    · rw [if_neg (fun z => z h58)]
      have el := get_split h58
      obtain ⟨b1, b2, b3, b4⟩ := rd_is (l.drop (k + 1)) 0 [] (.inl ⟨rfl, rfl⟩) fun c hc => hl c (List.mem_of_mem_drop hc)
      rw [List.nil_append] at b1
      have b3 : ∀ c, (l.drop (k + 1))[(rd 0 (l.drop (k + 1))).2]? = some c → isN ((l.drop (k + 1)).take (rd 0 (l.drop (k + 1))).2 ++ [c]) = false := fun c hc => by simpa using b3 c hc
      have b4 : ∀ i, i ≤ (rd 0 (l.drop (k + 1))).2 → bn ((l.drop (k + 1)).take i) = true := fun i hi => by simpa using b4 i hi
      have hk : k < l.length := (List.getElem?_eq_some_iff.mp h58).1
      have tk : ∀ i, l.take (k + 1 + i) = l.take k ++ 58 :: (l.drop (k + 1)).take i := fun i => by
        conv => lhs; rw [el]
        rw [List.take_append, List.length_take, Nat.min_eq_left (Nat.le_of_lt hk), List.take_of_length_le (by rw [List.length_take]; omega), show k + 1 + i - k = i + 1 by omega, List.take_succ_cons]
      generalize rd 0 (l.drop (k + 1)) = b at b1 b2 b3 b4 ⊢
      obtain ⟨m, j⟩ := b
      simp only at b1 b2 b3 b4 ⊢
      rw [List.length_drop] at b2
      have u : Upto l (k + 1 + j) := by
        refine ⟨by omega, fun i hi => ?_, fun hlt => ?_⟩
        · by_cases e : i < k
          · exact beg_bn (a4 (i + 1) e)
          · obtain ⟨x, rfl⟩ : ∃ x, i = k + x := ⟨i - k, by omega⟩
            rw [show k + x + 1 = k + 1 + x by omega, tk, beg_app hq]
            exact b4 x (by omega)
        · rw [show k + 1 + j + 1 = k + 1 + (j + 1) by omega, tk, beg_app hq]
          have hj : j < (l.drop (k + 1)).length := by rw [List.length_drop]; omega
          have ej : (l.drop (k + 1))[j]? = some (l.drop (k + 1))[j] := List.getElem?_eq_getElem hj
          rw [take_snoc ej]
          exact no_bn (b3 _ ej)
      obtain ⟨d1, d2⟩ := due_of u h
      have ef : full l = isN (l.drop (k + 1)) := by
        unfold full
        rw [el, cutc_app (isN_no58 hq), ← el]
        show (isN (l.take k) && isN (l.drop (k + 1))) = isN (l.drop (k + 1))
        rw [hq, Bool.true_and]
      by_cases hm : m = 0
      · rw [if_pos hm]
        have hj : j = 0 := by
          rcases b1 with ⟨_, e⟩ | ⟨e, _⟩
          · rcases Nat.eq_zero_or_pos j with z | z
            · exact z
            · have := congrArg List.length e; rw [List.length_take, List.length_drop, Nat.min_eq_left b2] at this; exact this
          · omega
        subst hj
        by_cases e : k + 1 + 0 < l.length
        · exact d1 e
        · have e2 : k + 1 + 0 = l.length := by omega
          have e3 : l.drop (k + 1) = [] := List.drop_eq_nil_iff.mpr (by omega)
          rw [d2 e2, ef, e3, if_neg (by decide)]
          show (l.length : Int) = ((k + 1 : Nat) : Int)
          omega
      · rw [if_neg hm]
        by_cases e : k + 1 + j < l.length
        · rw [if_pos e]; exact d1 e
        · have e2 : k + 1 + j = l.length := by omega
          rw [if_neg e, d2 e2, ef]
          have e3 : (l.drop (k + 1)).take j = l.drop (k + 1) := List.take_of_length_le (by rw [List.length_drop]; omega)
          rw [e3] at b1
          rw [if_pos (b1.isN hm)]
    · rw [if_pos h58]
      have u : Upto l k := by
        refine ⟨a2, fun j hj => beg_bn (a4 (j + 1) hj), fun hlt => ?_⟩
        have ek : l[k]? = some l[k] := List.getElem?_eq_getElem hlt
        rw [take_snoc ek]
        have n58 : ¬ 58 ∈ l.take k ++ [l[k]] := by
          rw [List.mem_append, List.mem_singleton]
          rintro (z | z)
          · exact isN_no58 hq z
          · exact h58 (by rw [ek, ← z])
        unfold beg; rw [cutc_none n58]; exact no_bn (a3 _ ek)
      obtain ⟨d1, d2⟩ := due_of u h
      by_cases e : k < l.length
      · exact d1 e
      · have e2 : k = l.length := by omega
        rw [d2 e2, if_neg]
        · rw [e2]
        · unfold full
          rw [e2, List.take_length] at hq
          rw [cutc_none (isN_no58 hq)]; simp
end Mp
namespace Mp
theorem rd_go {n c : Nat} {r : List Nat} (g : goes n c = true) : rd n (c :: r) = ((rd (n * 10 + (c - 48)) r).1, (rd (n * 10 + (c - 48)) r).2 + 1) := by
  show (if goes n c = true then _ else _) = _; rw [if_pos g]
theorem rd_no {n c : Nat} {r : List Nat} (g : ¬ goes n c = true) : rd n (c :: r) = (n, 0) := by
  show (if goes n c = true then _ else _) = _; rw [if_neg g]
end Mp
namespace Mp
open PySem
open SX (S)
theorem rd_dig {n : Nat} (h0 : 1 ≤ n) (h : n ≤ 60) {r : List Nat} (hr : r = [] ∨ ∃ s, r = 58 :: s) : rd 0 (dig n ++ r) = (n, (dig n).length) := by
  have st : ∀ m, rd m r = (m, 0) := fun m => by
    rcases hr with rfl | ⟨s, rfl⟩
    · rfl
    · exact rd_no (fun g => by have := (goes_iff.mp g).1; omega)
  unfold dig
  split
  · show rd 0 ((48 + n) :: r) = (n, 1)
    rw [rd_go (goes_iff.mpr ⟨by omega, by omega, by omega⟩), show 0 * 10 + (48 + n - 48) = n by omega, st]
  · show rd 0 ((48 + n / 10) :: (48 + n % 10) :: r) = (n, 2)
    rw [rd_go (goes_iff.mpr ⟨by omega, by omega, by omega⟩), show 0 * 10 + (48 + n / 10 - 48) = n / 10 by omega, rd_go (goes_iff.mpr ⟨by omega, by omega, by omega⟩), show n / 10 * 10 + (48 + n % 10 - 48) = n by omega, st]
theorem dig_len {n : Nat} : 1 ≤ (dig n).length ∧ (dig n).length ≤ 2 := by unfold dig; split <;> exact ⟨by simp, by simp⟩
theorem dig_lt {n : Nat} (h : n ≤ 60) : ∀ c ∈ dig n, c < 128 := by
  intro c hc
  unfold dig at hc
  split at hc
  · have := List.mem_singleton.mp hc; omega
  · rcases List.mem_cons.mp hc with z | z
    · omega
    · have := List.mem_singleton.mp z; omega
/-- the text of a slope -/
def sT (a b : Nat) : List Nat := dig a ++ 58 :: dig b
theorem fault_sT {a b : Nat} (a1 : 1 ≤ a) (a2 : a ≤ 60) (b1 : 1 ≤ b) (b2 : b ≤ 60) : rd 0 (sT a b) = (a, (dig a).length) ∧ (sT a b)[(dig a).length]? = some 58 ∧ (sT a b).drop ((dig a).length + 1) = dig b ∧ rd 0 (dig b) = (b, (dig b).length) ∧ fault (sT a b) = none := by
  have h1 : rd 0 (sT a b) = (a, (dig a).length) := rd_dig a1 a2 (.inr ⟨_, rfl⟩)
  have h2 : (sT a b)[(dig a).length]? = some 58 := by unfold sT; rw [List.getElem?_append_right (Nat.le_refl _), Nat.sub_self]; rfl
  have h3 : (sT a b).drop ((dig a).length + 1) = dig b := by
    unfold sT
    rw [List.drop_append, List.drop_eq_nil_iff.mpr (by omega), show (dig a).length + 1 - (dig a).length = 1 by omega]; rfl
  have h4 : rd 0 (dig b) = (b, (dig b).length) := by
    have := rd_dig b1 b2 (r := []) (.inl rfl)
    rwa [List.append_nil] at this
  refine ⟨h1, h2, h3, h4, ?_⟩
  unfold fault
  simp only [h1, h3, h4]
  rw [if_neg (by omega), if_neg (fun z => z h2), if_neg (by omega), if_neg]
  unfold sT
  rw [List.length_append, List.length_cons]; omega
theorem fault_none {l : List Nat} (hl : ∀ c ∈ l, c < 128) (h : fault l = none) : ∃ a b, (1 ≤ a ∧ a ≤ 60) ∧ (1 ≤ b ∧ b ≤ 60) ∧ l = sT a b := by
  obtain ⟨a1, a2, a3, a4⟩ := rd_is l 0 [] (.inl ⟨rfl, rfl⟩) hl
  obtain ⟨b1, b2, b3, b4⟩ := rd_is (l.drop ((rd 0 l).2 + 1)) 0 [] (.inl ⟨rfl, rfl⟩) fun c hc => hl c (List.mem_of_mem_drop hc)
  rw [List.nil_append] at a1 b1
  unfold fault at h
  simp only at h
  split at h
  · cases h
  · rename_i n0
    split at h
    · cases h
    · rename_i h58
      have h58 : l[(rd 0 l).2]? = some 58 := Decidable.of_not_not h58
      split at h
      · cases h
      · rename_i m0
        split at h
        · cases h
        · rename_i hlt
          have el := get_split h58
          have hk : (rd 0 l).2 < l.length := (List.getElem?_eq_some_iff.mp h58).1
          have e3 : (l.drop ((rd 0 l).2 + 1)).take (rd 0 (l.drop ((rd 0 l).2 + 1))).2 = l.drop ((rd 0 l).2 + 1) := List.take_of_length_le (by rw [List.length_drop]; omega)
          rw [e3] at b1
          rcases a1 with ⟨z, _⟩ | ⟨p1, p2, p3⟩
          · exact absurd z n0
          · rcases b1 with ⟨z, _⟩ | ⟨q1, q2, q3⟩
            · exact absurd z m0
            · exact ⟨_, _, ⟨p1, p2⟩, ⟨q1, q2⟩, by unfold sT; rw [← p3, ← q3]; exact el⟩
theorem sT_text {a b : Nat} (a1 : 1 ≤ a) (a2 : a ≤ 60) (b1 : 1 ≤ b) (b2 : b ≤ 60) : S (sT a b) = Str.ofString (toString (a : Int)) ++ ":" ++ Str.ofString (toString (b : Int)) := by
  have e1 := nums_are (a - 1) (by omega)
  have e2 := nums_are (b - 1) (by omega)
  rw [Nat.sub_add_cancel a1, show ((a - 1 : Nat) : Int) + 1 = (a : Int) by omega] at e1
  rw [Nat.sub_add_cancel b1, show ((b - 1 : Nat) : Int) + 1 = (b : Int) by omega] at e2
  rw [e1, e2]
  have e3 : (":" : Str) = S [58] := by decide +kernel
  rw [e3, SX.S_cat, SX.S_cat]
  unfold sT
  congr 1
  simp
theorem sT_len {a b : Nat} : (sT a b).length ≤ 5 := by
  unfold sT
  rw [List.length_append, List.length_cons]
  have h1 := dig_len (n := a); have h2 := dig_len (n := b); omega
theorem sT_lt {a b : Nat} (ha : a ≤ 60) (hb : b ≤ 60) : ∀ c ∈ sT a b, c < 128 := by
  intro c hc
  unfold sT at hc
  rcases List.mem_append.mp hc with z | z
  · exact dig_lt ha c z
  · rcases List.mem_cons.mp z with z | z
    · omega
    · exact dig_lt hb c z
end Mp
namespace Mp
theorem fault_le {l : List Nat} {f : Nat} (h : fault l = some f) : f ≤ l.length + 1 := by
  have rl : ∀ (r : List Nat) (n : Nat), (rd n r).2 ≤ r.length := by
    intro r
    induction r with
    | nil => intro n; exact Nat.le_refl 0
    | cons c r ih =>
      intro n
      by_cases g : goes n c = true
      · rw [rd_go g]; have := ih (n * 10 + (c - 48)); show _ + 1 ≤ _; rw [List.length_cons]; omega
      · rw [rd_no g]; exact Nat.zero_le _
  unfold fault at h
  simp only at h
  have h1 := rl l 0
  split at h
  · cases h; omega
  · split at h
    · cases h; omega
    · split at h
      · cases h; omega
      · split at h
        · cases h
          omega
        · cases h
end Mp

/-! Ms: a text split at one letter. -/
namespace Ms
open PySem PySem.Builtin PySem.Builtin.Str
open SX (S)
/-- the places of a letter -/
def pos (c : Nat) : Nat → List Nat → List Nat
  | _, [] => []
  | i, x :: r => if x = c then i :: pos c (i + 1) r else pos c (i + 1) r
theorem pos_no {c : Nat} : ∀ {i : Nat} {l : List Nat}, ¬ c ∈ l → pos c i l = []
  | _, [], _ => rfl
  | i, x :: r, h => by
    unfold pos
    rw [if_neg (fun e => h (by rw [e]; exact List.mem_cons_self)), pos_no fun z => h (List.mem_cons_of_mem _ z)]
theorem pos_app {c : Nat} {r : List Nat} : ∀ {i : Nat} {q : List Nat}, ¬ c ∈ q → pos c i (q ++ c :: r) = (i + q.length) :: pos c (i + q.length + 1) r
  | i, [], _ => by
    rw [List.nil_append]
    show (if c = c then i :: pos c (i + 1) r else pos c (i + 1) r) = _
    rw [if_pos rfl]; rfl
  | i, x :: q, h => by
    rw [List.cons_append]
    show (if x = c then i :: pos c (i + 1) (q ++ c :: r) else pos c (i + 1) (q ++ c :: r)) = _
    rw [if_neg (fun e => h (by rw [e]; exact List.mem_cons_self)), pos_app fun z => h (List.mem_cons_of_mem _ z), List.length_cons, show i + 1 + q.length = i + (q.length + 1) by omega]
theorem pos_some {c : Nat} : ∀ {i : Nat} {l : List Nat}, c ∈ l → 1 ≤ (pos c i l).length
  | i, [], h => by simp at h
  | i, x :: r, h => by
    unfold pos
    by_cases e : x = c
    · rw [if_pos e]; simp
    · rw [if_neg e]
      exact pos_some ((List.mem_cons.mp h).resolve_left fun z => e z.symm)
theorem occ_run (l : List Nat) (c : Nat) : ∀ (m cur free : Nat) (found : Array Nat), free ≤ cur → cur + m = l.length + 1 → found.size ≤ cur →
    (forIn (List.range' cur m) (found, free) (StrLaws.occBody (S l) ⟨#[c]⟩ l.length (l.length + 1))).run.fst = found ++ (pos c cur (l.drop cur)).toArray
  | 0, cur, free, found, _, h, _ => by
    rw [List.drop_eq_nil_iff.mpr (by omega)]
    show found = _
    simp [pos]
  | m + 1, cur, free, found, hf, h, hs => by
    rw [List.range'_succ, List.forIn_cons]
    unfold StrLaws.occBody
    have l1 : (⟨#[c]⟩ : Str).length = 1 := rfl
    by_cases hc : cur < l.length
    · have ed : l.drop cur = l[cur] :: l.drop (cur + 1) := List.drop_eq_getElem_cons hc
      have su : subAt (S l) ⟨#[c]⟩ cur = true ↔ l[cur] = c := by
        have h1 := Mw.sub_iff l [c] cur
        rw [ed] at h1
        exact h1.trans (by show [l[cur]] = [c] ↔ _; rw [List.cons.injEq]; exact ⟨fun z => z.1, fun z => ⟨z, rfl⟩⟩)
      by_cases e : l[cur] = c
      · rw [if_pos ⟨⟨⟨by show found.size < _; omega, hf⟩, by rw [l1]; omega⟩, su.mpr e⟩]
        have ih := occ_run l c m (cur + 1) (cur + (⟨#[c]⟩ : Str).length) (found.push cur) (by rw [l1]; exact Nat.le_refl _) (by omega) (by rw [Array.size_push]; omega)
        refine ih.trans ?_
        rw [ed]
        show _ = found ++ (if l[cur] = c then cur :: pos c (cur + 1) (l.drop (cur + 1)) else pos c (cur + 1) (l.drop (cur + 1))).toArray
        rw [if_pos e]
        apply Array.toList_inj.mp
        simp
      · rw [if_neg (fun z => e (su.mp z.2))]
        have ih := occ_run l c m (cur + 1) free found (by omega) (by omega) (by omega)
        refine ih.trans ?_
        rw [ed]
        show _ = found ++ (if l[cur] = c then cur :: pos c (cur + 1) (l.drop (cur + 1)) else pos c (cur + 1) (l.drop (cur + 1))).toArray
        rw [if_neg e]
    · rw [if_neg (fun z => by have := z.1.2; rw [l1] at this; omega)]
      have ih := occ_run l c m (cur + 1) free found (by omega) (by omega) (by omega)
      refine ih.trans ?_
      rw [List.drop_eq_nil_iff.mpr (show l.length ≤ cur + 1 by omega), List.drop_eq_nil_iff.mpr (show l.length ≤ cur by omega)]
      rfl
theorem occ_is (l : List Nat) (c : Nat) : occurrences (S l) ⟨#[c]⟩ 0 (S l).length ((S l).length + 1) = pos c 0 l := by
  have hl : (S l).length = l.length := SX.S_len l
  rw [StrLaws.occ_eq, hl]
  have := occ_run l c (l.length + 1) 0 0 #[] (Nat.le_refl 0) (by omega) (Nat.le_refl 0)
  rw [show l.length + 1 - 0 = l.length + 1 by omega]
  rw [this]
  simp
theorem kind_pos (x : Str) : 1 ≤ PySem.Builtin.Str.strKind x := by unfold PySem.Builtin.Str.strKind; split <;> (try split) <;> decide
theorem split_def (l : List Nat) (c : Nat) (hc : c < 256) : Txt.split (S l) ⟨#[c]⟩ = if (pos c 0 l).isEmpty = true then [S l] else partsBetween (S l) (pos c 0 l) 1 := by
  unfold Txt.split
  have k1 : PySem.Builtin.Str.strKind (⟨#[c]⟩ : Str) = 1 := by
    unfold PySem.Builtin.Str.strKind
    rw [if_pos]
    simpa using hc
  have hl : (S l).length = l.length := SX.S_len l
  rw [occ_is]
  cases l with
  | nil =>
    rw [if_pos]
    · rfl
    · rfl
  | cons x r =>
    rw [if_neg]
    · rfl
    · rw [k1]
      have h1 := kind_pos (S (x :: r))
      rw [hl]
      show ¬ (decide ((x :: r).length < 1) || decide (PySem.Builtin.Str.strKind (S (x :: r)) < 1)) = true
      rw [List.length_cons, decide_eq_false (by omega), decide_eq_false (by omega)]
      decide
theorem split_none {l : List Nat} {c : Nat} (hc : c < 256) (h : ¬ c ∈ l) : Txt.split (S l) ⟨#[c]⟩ = [S l] := by
  rw [split_def l c hc, pos_no h]; rfl
theorem split_one {q r : List Nat} {c : Nat} (hc : c < 256) (hq : ¬ c ∈ q) (hr : ¬ c ∈ r) : Txt.split (S (q ++ c :: r)) ⟨#[c]⟩ = [S q, S r] := by
  rw [split_def _ c hc, pos_app hq, pos_no hr]
  have hl : (S (q ++ c :: r)).length = q.length + (r.length + 1) := by rw [SX.S_len, List.length_append, List.length_cons]
  show [strSub (S (q ++ c :: r)) 0 (0 + q.length), strSub (S (q ++ c :: r)) (0 + q.length + 1) (S (q ++ c :: r)).length] = _
  rw [hl]
  have e1 : strSub (S (q ++ c :: r)) 0 (0 + q.length) = S q := by
    unfold strSub SX.S
    congr 1
    apply Array.toList_inj.mp
    rw [Array.toList_extract]
    simp [List.extract_eq_take_drop]
  have e2 : strSub (S (q ++ c :: r)) (0 + q.length + 1) (q.length + (r.length + 1)) = S r := by
    unfold strSub SX.S
    congr 1
    apply Array.toList_inj.mp
    rw [Array.toList_extract]
    simp [List.extract_eq_take_drop]
    rw [List.take_of_length_le (by omega)]
  rw [e1, e2]
theorem split_more {q r : List Nat} {c : Nat} (hc : c < 256) (hq : ¬ c ∈ q) (hr : c ∈ r) : 3 ≤ (Txt.split (S (q ++ c :: r)) ⟨#[c]⟩).length := by
  rw [split_def _ c hc, pos_app hq]
  have := pos_some (i := 0 + q.length + 1) hr
  show 3 ≤ (partsBetween _ _ 1).length
  unfold partsBetween
  simp only [List.length_map, List.length_zip, List.length_cons, List.length_append, List.length_nil]
  omega
end Ms

/-! Me: equal tuples and lists of plain data. -/
namespace Me
open PySem PySem.Spec PyProof.Rows L2 Sx
theorem lay_ints : ∀ ns : List Int, PyData.canLayAll0 (ns.map PyData.int) = true
  | [] => rfl
  | n :: ns => by
    have h := lay_ints ns
    simp only [List.map_cons, PyData.canLayAll0, PyData.canLay0, h, Bool.and_self]
theorem deep_ints : ∀ ns : List Int, PyData.depthAll (ns.map PyData.int) ≤ 1
  | [] => by simp [PyData.depthAll]
  | n :: ns => by
    have h := deep_ints ns
    simp only [List.map_cons, PyData.depthAll, PyData.depth]
    omega
theorem lay_strs : ∀ ns : List Str, ns.all PyData.strOk = true → PyData.canLayAll0 (ns.map PyData.str) = true
  | [], _ => rfl
  | n :: ns, k => by
    rw [List.all_cons, Bool.and_eq_true] at k
    have h := lay_strs ns k.2
    simp only [List.map_cons, PyData.canLayAll0, PyData.canLay0, h, k.1, Bool.and_self]
theorem deep_strs : ∀ ns : List Str, PyData.depthAll (ns.map PyData.str) ≤ 1
  | [] => by simp [PyData.depthAll]
  | n :: ns => by
    have h := deep_strs ns
    simp only [List.map_cons, PyData.depthAll, PyData.depth]
    omega
theorem tup_ok {ds : List PyData} (h1 : PyData.canLayAll0 ds = true) (h2 : PyData.depthAll ds ≤ 40) : SeqAt.shaped (.tuple ds) = true := by
  unfold SeqAt.shaped
  rw [Bool.and_eq_true, decide_eq_true_iff]
  refine ⟨by simpa [PyData.canLay0] using h1, ?_⟩
  simp only [PyData.depth]; omega
theorem lst_ok {ds : List PyData} (h1 : PyData.canLayAll0 ds = true) (h2 : PyData.depthAll ds ≤ 40) : SeqAt.shaped (.list ds) = true := by
  unfold SeqAt.shaped
  rw [Bool.and_eq_true, decide_eq_true_iff]
  refine ⟨by simpa [PyData.canLay0] using h1, ?_⟩
  simp only [PyData.depth]; omega
section
variable {K : PySem.W.Frag} {H : Hp} {Q : VK} {a b : Addr} {ns : List Int} {ts : List Str}
theorem sh_tupI : SeqAt.shaped (.tuple (ns.map PyData.int)) = true := tup_ok (lay_ints ns) (Nat.le_trans (deep_ints ns) (by decide))
theorem sh_lstI : SeqAt.shaped (.list (ns.map PyData.int)) = true := lst_ok (lay_ints ns) (Nat.le_trans (deep_ints ns) (by decide))
theorem sh_tupS (hs : ts.all PyData.strOk = true) : SeqAt.shaped (.tuple (ts.map PyData.str)) = true := tup_ok (lay_strs ts hs) (Nat.le_trans (deep_strs ts) (by decide))
theorem sh_lstS (hs : ts.all PyData.strOk = true) : SeqAt.shaped (.list (ts.map PyData.str)) = true := lst_ok (lay_strs ts hs) (Nat.le_trans (deep_strs ts) (by decide))
theorem eqv_same {d : PyData} (h : SeqAt.shaped d = true) : PyData.eqv d d = true := SeqAt.eqv_refl d (SeqAt.canLay_of_shaped h)
/-- two tuples of the same ints are equal -/
theorem eq_tupI (h1 : H a = some (.tup (ns.map V.int))) (h2 : H b = some (.tup (ns.map V.int))) (h : Q (.bl true) H) : rEqD K (.ref a) (.ref b) H Q :=
  r_eqD (.tup (SqT.of h1) (dpI ns)) (.tup (SqT.of h2) (dpI ns)) sh_tupI sh_tupI (by rw [eqv_same sh_tupI]; exact h)
theorem ne_tupI (h1 : H a = some (.tup (ns.map V.int))) (h2 : H b = some (.tup (ns.map V.int))) (h : Q (.bl false) H) : rNeD K (.ref a) (.ref b) H Q :=
  r_neD (.tup (SqT.of h1) (dpI ns)) (.tup (SqT.of h2) (dpI ns)) sh_tupI sh_tupI (by rw [eqv_same sh_tupI]; exact h)
theorem eq_lstI (h1 : H a = some (.lst (ns.map V.int))) (h2 : H b = some (.lst (ns.map V.int))) (h : Q (.bl true) H) : rEqD K (.ref a) (.ref b) H Q :=
  r_eqD (.lst (SqL.of h1) (dpI ns)) (.lst (SqL.of h2) (dpI ns)) sh_lstI sh_lstI (by rw [eqv_same sh_lstI]; exact h)
theorem ne_lstI (h1 : H a = some (.lst (ns.map V.int))) (h2 : H b = some (.lst (ns.map V.int))) (h : Q (.bl false) H) : rNeD K (.ref a) (.ref b) H Q :=
  r_neD (.lst (SqL.of h1) (dpI ns)) (.lst (SqL.of h2) (dpI ns)) sh_lstI sh_lstI (by rw [eqv_same sh_lstI]; exact h)
/-- any two values that read the same -/
theorem ne_same {x y : V} {d : PyData} (hx : Dp K H x d) (hy : Dp K H y d) (hs : SeqAt.shaped d = true) (h : Q (.bl false) H) : rNeD K x y H Q :=
  r_neD hx hy hs hs (by rw [eqv_same hs]; exact h)
theorem eq_same {x y : V} {d : PyData} (hx : Dp K H x d) (hy : Dp K H y d) (hs : SeqAt.shaped d = true) (h : Q (.bl true) H) : rEqD K x y H Q :=
  r_eqD hx hy hs hs (by rw [eqv_same hs]; exact h)
end
end Me

/-! Sw: comparisons by own defs, data that are less, texts turned round. -/
namespace Sw
open PySem PySem.Spec PyProof.Rows L2 Sx Sy
open Sem (wp)
section
variable {X : Cx}
/-! ### less, for data -/
def qLtD (K : PySem.W.Frag) : R2 := fun x y H Q => ∃ d e, Dp K H x d ∧ Dp K H y e ∧ PySem.W.alike d e = true ∧ d ≠ .none ∧ d.depth ≤ 60 ∧ Q (.bl (PySem.W.dataLt d e)) H
theorem op_ltD (hu : X.A.units + 64 < cLine) : OpR X (compareOp .Lt) (qLtD X.K) := by
  intro pins s σ H x y v u Q I rx ry h
  obtain ⟨d, e, hd, he, al, nn, dp, q⟩ := h
  obtain ⟨as, h1⟩ := Dp.reads I d x v hd rx
  obtain ⟨bs, h2⟩ := Dp.reads I e y u he ry
  have room : X.A.units + min d.depth e.depth < cLine := by
    have := Nat.min_le_left d.depth e.depth
    omega
  exact PySem.W.rcLt_alike d e X.A s v u as bs h1 h2 al nn room X.prog X.w X.xe _ ⟨.bl _, H, I, rfl, q⟩
theorem r_ltD {K : PySem.W.Frag} {x y : V} {d e : PyData} {H : Hp} {Q : VK} (hx : Dp K H x d) (hy : Dp K H y e) (al : PySem.W.alike d e = true) (nn : d ≠ .none) (dp : d.depth ≤ 60) (h : Q (.bl (PySem.W.dataLt d e)) H) : qLtD K x y H Q := ⟨d, e, hx, hy, al, nn, dp, h⟩
/-! ### text[::-1] -/
def tBack (te : TE) : TE := fun σ H Q => te σ H fun x H1 => ∃ l : List Nat, x = .str ⟨l.toArray⟩ ∧ l.length ≤ 100000 ∧ Q (.str ⟨l.reverse.toArray⟩) H1
theorem picked_back (l : List Nat) : (Builtin.Str.strSliceIndices none none (-1) (⟨l.toArray⟩ : Str).length).filterMap ((⟨l.toArray⟩ : Str).cps[·]?) = l.reverse := by
  have e : (⟨l.toArray⟩ : Str).length = l.length := by simp [Str.length]
  rw [e, picked_rev]
  apply List.ext_getElem?
  intro i
  rw [filterMap_get _ _ (by
    intro j hj
    obtain ⟨k, hk, rfl⟩ := List.mem_map.mp hj
    have := List.mem_range.mp hk
    simp; omega), List.map_map, List.getElem?_map]
  by_cases h : i < l.length
  · rw [List.getElem?_range h, List.getElem?_reverse h]
    have h2 : l.length - 1 - i < l.length := by omega
    simp [Array.getD, h2]
  · rw [List.getElem?_eq_none (by simpa using h), List.getElem?_eq_none (by simpa using h)]; rfl
theorem pe_revS {e : Expr} {te : TE} {k : Nat} {p1 p2 p3 pos : Pos} (he : PE X e te) : PE X (.Subscript e (.Slice none none (some (.UnaryOp .USub (.Constant (.int 1) k p1) p2)) p3) pos) (tBack te) := by
  constructor
  intro pins s σ H Q I h
  refine Subscript_ (thn (he.run pins s σ H _ I h) ?_)
  rintro v s1 ⟨x, H1, I1, r1, l, rfl, hl, q⟩
  obtain ⟨t, rfl⟩ := r1
  have step : PO X (some (.UnaryOp .USub (.Constant (.int 1) k p1) p2)) (tPart (tUn (rU fun i => .int (-i)) (tC (.int 1)))) := po_some (pe_un un_neg pe_int)
  refine wpAny_Slice (thn (po_none.run pins s1 σ H1 (fun o H2 => o = none ∧ H2 = H1) I1 ⟨rfl, rfl⟩) ?_)
  rintro v1 s2 ⟨o1, H2, I2, w1, rfl, rfl⟩
  refine thn (po_none.run pins s2 σ H2 (fun o H3 => o = none ∧ H3 = H2) I2 ⟨rfl, rfl⟩) ?_
  rintro v2 s3 ⟨o2, H3, I3, w2, rfl, rfl⟩
  refine thn (step.run pins s3 σ H3 (fun o H4 => o = some (-1) ∧ H4 = H3) I3 ⟨1, rfl, -1, rfl, rfl, rfl⟩) ?_
  rintro v3 s4 ⟨o3, H4, I4, w3, rfl, rfl⟩
  obtain ⟨b1, rfl, e1⟩ := IsPart.raw w1
  obtain ⟨b2, rfl, e2⟩ := IsPart.raw w2
  obtain ⟨b3, rfl, e3⟩ := IsPart.raw w3
  have n1 : b1 = none := Option.map_eq_none_iff.mp e1
  have n2 : b2 = none := Option.map_eq_none_iff.mp e2
  obtain ⟨⟨i3, t3⟩, rfl, e4⟩ := Option.map_eq_some_iff.mp e3
  subst n1 n2
  obtain rfl : i3 = -1 := e4
  have I5 : Inv X pins σ H4 { s4 with heap := s4.heap.push { cls := .type "slice", data := .fields #[partValue none, partValue none, partValue (some (-1, t3))] } } := I4.kept (t' := s4.toks) fun b ob z => Heap.get?_push_of_some _ z
  refine tail_any (ops := [.str ⟨l.toArray⟩ t, .ref s4.heap.objs.size]) (typeIs_str _ _ _) F.slot_str_getitem.lookup ?_ (by with_unfolding_all rfl)
  refine wpAny_getItem_str_slice (l := none) (u := none) (st := some (-1, t3)) ⟨_, Heap.get?_push_size _ rfl, rfl, rfl⟩ rfl ?_
  have made : sliceMade ⟨l.toArray⟩ t none none (some (-1, t3)) = .str ⟨l.reverse.toArray⟩ := by
    unfold sliceMade slicePicked
    rw [if_neg (by intro z; rw [Bool.and_eq_true] at z; exact absurd (show ((-1 : Int) == 1) = true from z.1) (by decide))]
    show Made.str ⟨((Builtin.Str.strSliceIndices none none (-1) (⟨l.toArray⟩ : Str).length).filterMap ((⟨l.toArray⟩ : Str).cps[·]?)).toArray⟩ = _
    rw [picked_back]
  rw [made]
  refine ⟨?_, .str _, H4, I5.tok _, ⟨_, rfl⟩, q⟩
  show l.reverse.toArray.size ≤ _
  rw [List.size_toArray, List.length_reverse, sizeLine_eq]; omega
theorem r_back {te : TE} {σ : L2.St} {H : Hp} {Q : VK} (h : te σ H fun x H1 => ∃ l : List Nat, x = .str ⟨l.toArray⟩ ∧ l.length ≤ 100000 ∧ Q (.str ⟨l.reverse.toArray⟩) H1) : tBack te σ H Q := h
/-! ### x == y, x < y by an own def -/
def qOwn (C : Addr) (sp : Sp) : R2 := fun x y H Q => ∃ a dx fs b dy gs, x = .ref a ∧ y = .ref b ∧ H a = some (.ins C dx fs) ∧ H b = some (.ins C dy gs) ∧ sp [x, y] H Q C8.E0
/-- what a class's own comparisons stand on -/
structure OwnOp (K : PySem.W.Frag) (C : Addr) (m : Str) (g : Addr) : Prop where
  at' : PySem.W.findIn K (.ref C) m = some (some (.ref g))
  fn : PySem.W.isFn K (.ref g) = true
variable {P : Program} {n : Nat} {sp : Sp} {C g : Addr} {fd : FuncData} {ps : List Str}
theorem op_own {op : CmpOp} (hop : ∀ a b, compareOp op a b = richCompare op a b) (o : OwnOp X.K C (cmpInfo op).2.1 g) (F : FnOk X.prog X.w X.K X.mg X.base C8.CX0 n g fd ps sp) (hr : Room n X.A) (bd : Binds X.K fd ps []) : OpR X (compareOp op) (qOwn C sp) := by
  intro pins s σ H x y v u Q I rx ry h
  obtain ⟨a, dx, fs, b, dy, gs, rfl, rfl, ha, hb, q⟩ := h
  obtain rfl : v = .ref a := rx
  obtain rfl : u = .ref b := ry
  obtain ⟨mA, J, _⟩ := ins_get I.hok ha
  obtain ⟨mB, J2, _⟩ := ins_get I.hok hb
  obtain ⟨od, J, _⟩ := J.look
  obtain ⟨od2, J2, _⟩ := J2.look
  obtain ⟨m, fr⟩ := I.fr
  rw [hop]
  refine PySem.W.cmp_K (op := op) (tb := .ref C) hr.units0 fr I.ok.mod.kin J J2.type (by simp [PySem.W.notFirst]) o.at' o.fn ?_
  have len := F.len _ _ _ _ q
  have both : Vals [V.ref a, V.ref b] [Value.ref a, Value.ref b] := .cons rfl (.cons rfl .nil)
  have bind := bd s [.ref a, .ref b] I.kIn (by simpa using len)
  refine wpAny_call (codeAny_mono (F.run X.A X.stack s H ⟨[.ref a, .ref b], []⟩ [.ref a, .ref b] [.ref a, .ref b] Q C8.E0 hr I.env0 (by simpa using bind) both q) ?_)
  intro r s2 hq
  cases r with
  | error e => exact False.elim hq
  | ok fl =>
    cases fl with
    | ret z =>
      obtain ⟨v, H2, I2, rz, qz⟩ := I.after hq
      exact SlX.cmpback rz ⟨v, H2, I2, rz, qz⟩
    | next => exact hq.elim
    | brk => exact hq.elim
    | cont => exact hq.elim
end
end Sw
namespace Sw
open PySem PySem.Spec PyProof.Rows L2 Sx Sy
/-! ### x != y by an own == -/
section
variable {M : Model} {prog : Program} {w : World} {A : Around} {E : Value → Shared → Prop} {s : Shared} {K : PySem.W.Frag} {x C : Addr} {ox : Obj} {od : Option Obj}
theorem bound_ne {args : List Value} {Q : Option Value → Shared → Prop} (X : K.In s.heap) (I : PySem.W.InstAt s.heap x ox C od) (hs : PySem.W.findIn K (.ref C) "__ne__" = some (some (.builtin "object.__ne__")))
    (h : wpAny M A (call (.builtin "object.__ne__") (.ref x :: args)) (fun v => Q (some v)) E s) : wpAny M A (callSpecialIfBound? (.ref x) "__ne__" args) Q E s := by
  have last : wpAny M A (call (.builtin "object.__ne__") ([.ref x] ++ args) >>= fun v => pure (some v)) Q E s := wpAny_bind (wpAny_mono h (fun v s2 h2 => wpAny_pure h2) fun _ _ e => e)
  simp only [callSpecialIfBound?, bindSpecialIfBound?]
  apply wpAny_holding
  refine wpAny_bind (wpAny_bind (wpAny_bind (I.type.here ((PySem.W.looks_findIn X hs).here ?_))))
  apply wpAny_bind
  refine wpAny_askSetting (wpAny_ite ?_)
  split
  · exact wpAny_bind (wpAny_of_eq (F.cmp_object.ne.bind _) (wpAny_pure (by exact last)))
  · exact wpAny_tryCatch (wpAny_bind (wpAny_of_eq (F.cmp_object.ne.bind _) (wpAny_pure (by exact last))))
theorem call_ne {f : Addr} {b : Value} {Q : Value → Shared → Prop} (X : K.In s.heap) (I : PySem.W.InstAt s.heap x ox C od) (hm : PySem.W.mroIn K C (.type "object") = some true) (hu : A.in1.units < cLine)
    (hs : PySem.W.findIn K (.ref C) "__eq__" = some (some (.ref f))) (hf : PySem.W.isFn K (.ref f) = true)
    (h : wpAny (model prog w) A.in1 (call (.ref f) [.ref x, b]) (fun v s' => ∃ k, v = .bool k ∧ Q (.bool (!k)) s') E s) : wpAny (model prog w) A (call (.builtin "object.__ne__") [.ref x, b]) Q E s := by
  refine wpAny_call (codeAny_call_builtin F.cmp_object.ne.plain F.cmpEntry_ne (PySem.W.check_slot F.cmpKind_ne F.cmpSplit_ne (I.type.andThen (PySem.W.looks_mroIn X hm)) (F.cmpArgs_ne _ _) ?_))
  unfold Builtin.«object.__ne__»
  refine wpAny_bind (m := slotArgs "__ne__" 1 ⟨[.ref x, b], []⟩) (wpAny_of_eq (a := (Value.ref x, [b])) rfl ?_)
  show wpAny _ _ (cRoomFor "comparison" [.ref x, b] >>= _) _ _ _
  refine wpAny_bind (wpAny_cRoomFor hu ?_)
  show wpAny _ _ (callSpecialIfBound? (.ref x) "__eq__" [b] >>= _) _ _ _
  refine wpAny_bind (PySem.W.ifBound_K X I hs hf (wpAny_mono h ?_ fun _ _ e => e))
  rintro v s2 ⟨k, rfl, hq⟩
  refine wpAny_bind (wpAny_truthy_bool ?_)
  exact wpAny_pure hq
end
end Sw
namespace Sw
open PySem PySem.Spec PyProof.Rows L2 Sx Sy
section
variable {prog : Program} {w : World} {A : Around} {E : Value → Shared → Prop} {s : Shared} {K : PySem.W.Frag} {x y C : Addr} {ox oy : Obj} {od oe : Option Obj} {b : Value}
theorem differ {f : Addr} {Q : Value → Shared → Prop} (hu : A.in1.units < cLine) (hu0 : A.units < cLine) (X : K.In s.heap) (I : PySem.W.InstAt s.heap x ox C od) (J : PySem.W.InstAt s.heap y oy C oe) (hm : PySem.W.mroIn K C (.type "object") = some true)
    (hn : PySem.W.findIn K (.ref C) "__ne__" = some (some (.builtin "object.__ne__"))) (hs : PySem.W.findIn K (.ref C) "__eq__" = some (some (.ref f))) (hf : PySem.W.isFn K (.ref f) = true)
    (h : wpAny (model prog w) A.in1 (call (.ref f) [.ref x, .ref y]) (fun v s' => ∃ k, v = .bool k ∧ Q (.bool (!k)) s') E s) : wpAny (model prog w) A (richCompare .NotEq (.ref x) (.ref y)) Q E s := by
  have try1 : wpAny (model prog w) A (tryCompare (.ref x) "__ne__" (.ref y)) (fun r s' => ∃ k : Bool, r = some (.bool k) ∧ Q (.bool k) s') E s := by
    have t : wpAny (model prog w) A (call (.builtin "object.__ne__") [.ref x, .ref y]) (fun v s' => ∃ k : Bool, v = .bool k ∧ Q (.bool k) s') E s := by
      refine call_ne X I hm hu hs hf (wpAny_mono h ?_ fun _ _ e => e)
      rintro v s2 ⟨k, rfl, q⟩
      exact ⟨k, rfl, !k, rfl, q⟩
    unfold tryCompare
    refine wpAny_bind (bound_ne X I hn (wpAny_mono t ?_ fun _ _ e => e))
    rintro v s2 ⟨k, rfl, q⟩
    exact wpAny_pure ⟨k, rfl, q⟩
  unfold richCompare
  simp only [oneThing_ref]
  apply wpAny_holding
  refine wpAny_bind (wpAny_cRoomFor hu0 ?_)
  refine wpAny_bind (I.type.here (wpAny_bind (J.type.here ?_)))
  split
  · rename_i q
    exact absurd q (by simp)
  · apply wpAny_bind
    apply wpAny_pure
    simp only [Bool.false_eq_true, if_false]
    refine wpAny_bind (wpAny_mono try1 ?_ fun _ _ e => e)
    rintro r s2 ⟨k, rfl, q⟩
    exact wpAny_pure q
end
section
variable {X : Cx} {n : Nat} {sp : Sp} {C g : Addr} {fd : FuncData} {ps : List Str}
def qOwnNe (C : Addr) (sp : Sp) : R2 := fun x y H Q => ∃ a dx fs b dy gs, x = .ref a ∧ y = .ref b ∧ H a = some (.ins C dx fs) ∧ H b = some (.ins C dy gs) ∧ sp [x, y] H (fun z H' => ∃ k, z = .bl k ∧ Q (.bl (!k)) H') C8.E0
theorem op_ownNe (o : OwnOp X.K C "__eq__" g) (hm : PySem.W.mroIn X.K C (.type "object") = some true) (hn : PySem.W.findIn X.K (.ref C) "__ne__" = some (some (.builtin "object.__ne__")))
    (F : FnOk X.prog X.w X.K X.mg X.base C8.CX0 n g fd ps sp) (hr : Room (n + 1) X.A) (bd : Binds X.K fd ps []) : OpR X (compareOp .NotEq) (qOwnNe C sp) := by
  intro pins s σ H x y v u Q I rx ry h
  obtain ⟨a, dx, fs, b, dy, gs, rfl, rfl, ha, hb, q⟩ := h
  obtain rfl : v = .ref a := rx
  obtain rfl : u = .ref b := ry
  obtain ⟨mA, J, _⟩ := ins_get I.hok ha
  obtain ⟨mB, J2, _⟩ := ins_get I.hok hb
  obtain ⟨od, J, _⟩ := J.look
  obtain ⟨od2, J2, _⟩ := J2.look
  refine differ hr.in1.units0 hr.units0 I.kIn J J2 hm hn o.at' o.fn ?_
  have len := F.len _ _ _ _ q
  have both : Vals [V.ref a, V.ref b] [Value.ref a, Value.ref b] := .cons rfl (.cons rfl .nil)
  have bind := bd s [.ref a, .ref b] I.kIn (by simpa using len)
  refine wpAny_call (codeAny_mono (F.run X.A.in1 X.stack s H ⟨[.ref a, .ref b], []⟩ [.ref a, .ref b] [.ref a, .ref b] _ C8.E0 hr.in1 I.env0.in1 (by simpa using bind) both q) ?_)
  intro r s2 hq
  cases r with
  | error e => exact False.elim hq
  | ok fl =>
    cases fl with
    | ret z =>
      obtain ⟨v, H2, I2, rz, k, rfl, qz⟩ := I.after hq
      obtain rfl : z = .bool k := rz
      exact ⟨k, rfl, .bl (!k), H2, I2, rfl, qz⟩
    | next => exact hq.elim
    | brk => exact hq.elim
    | cont => exact hq.elim
end
end Sw

/-! Ob: in, [], len, str, ~ and f-strings by a class's own defs. -/
namespace Ob
open PySem PySem.Spec PyProof.Rows L2 Sx Sw
section
variable {X : Cx} {n : Nat} {sp : Sp} {C g : Addr} {fd : FuncData} {ps : List Str}
/-- the def at g, called from around A -/
theorem own_call {A : Around} {pins : List (Addr × Obj)} {σ : L2.St} {H : Hp} {s : Shared} {vs : List V} {us : List Value} {Q : VK} {E : Value → Shared → Prop} (I : Inv X pins σ H s) (e0 : Env0 X.prog X.w X.K X.mg X.base A X.stack s H) (room : Room n A)
    (F : FnOk X.prog X.w X.K X.mg X.base C8.CX0 n g fd ps sp) (bd : Binds X.K fd ps []) (r : Vals vs us) (q : sp vs H Q C8.E0) : wpAny (model X.prog X.w) A (call (.ref g) us) (EP X pins σ Q) E s := by
  have len : us.length = ps.length := by rw [← r.length]; exact F.len _ _ _ _ q
  have bind := bd s us I.kIn (by rw [List.append_nil]; exact len)
  rw [List.append_nil] at bind
  refine wpAny_call (codeAny_mono (F.run A X.stack s H ⟨us, []⟩ us vs Q C8.E0 room e0 bind r q) ?_)
  intro res s2 got
  cases res with
  | error e => exact False.elim got
  | ok fl =>
    cases fl with
    | ret z => exact I.after got
    | next => exact got.elim
    | brk => exact got.elim
    | cont => exact got.elim
theorem v1 (b : Addr) : Vals [V.ref b] [Value.ref b] := .cons rfl .nil
theorem v2 {b : Addr} {x : V} {v : Value} (r : RelV x v) : Vals [V.ref b, x] [Value.ref b, v] := .cons rfl (.cons r .nil)
/-! ### x in obj -/
def qIn (C : Addr) (sp : Sp) : R2 := fun x y H Q => ∃ b dy gs, y = .ref b ∧ H b = some (.ins C dy gs) ∧ sp [y, x] H (fun z H' => ∃ k, z = .bl k ∧ Q (.bl k) H') C8.E0
def qNotIn (C : Addr) (sp : Sp) : R2 := fun x y H Q => ∃ b dy gs, y = .ref b ∧ H b = some (.ins C dy gs) ∧ sp [y, x] H (fun z H' => ∃ k, z = .bl k ∧ Q (.bl (!k)) H') C8.E0
theorem op_ownIn (o : OwnOp X.K C "__contains__" g) (F : FnOk X.prog X.w X.K X.mg X.base C8.CX0 n g fd ps sp) (hr : Room n X.A) (bd : Binds X.K fd ps []) : OpR X (compareOp .In) (qIn C sp) := by
  intro pins s σ H x y v u Q I rx ry now
  obtain ⟨b, dy, gs, rfl, hb, q⟩ := now
  obtain rfl : u = .ref b := ry
  obtain ⟨mB, J, _⟩ := ins_get I.hok hb
  obtain ⟨od, J, _⟩ := J.look
  obtain ⟨m, fr⟩ := I.fr
  refine PySem.W.in_K fr I.ok.mod.kin J o.at' o.fn (wpAny_mono (own_call I I.env0 hr F bd (v2 rx) q) ?_ fun _ _ e => e)
  rintro z s' ⟨v', H', I', rz, k, rfl, q'⟩
  obtain rfl : z = .bool k := rz
  exact wpAny_truthy_bool ⟨.bl k, H', I', rfl, q'⟩
theorem op_ownNotIn (o : OwnOp X.K C "__contains__" g) (F : FnOk X.prog X.w X.K X.mg X.base C8.CX0 n g fd ps sp) (hr : Room n X.A) (bd : Binds X.K fd ps []) : OpR X (compareOp .NotIn) (qNotIn C sp) := by
  intro pins s σ H x y v u Q I rx ry now
  obtain ⟨b, dy, gs, rfl, hb, q⟩ := now
  obtain rfl : u = .ref b := ry
  obtain ⟨mB, J, _⟩ := ins_get I.hok hb
  obtain ⟨od, J, _⟩ := J.look
  obtain ⟨m, fr⟩ := I.fr
  refine PySem.W.notIn_K fr I.ok.mod.kin J o.at' o.fn (wpAny_mono (own_call I I.env0 hr F bd (v2 rx) q) ?_ fun _ _ e => e)
  rintro z s' ⟨v', H', I', rz, k, rfl, q'⟩
  obtain rfl : z = .bool k := rz
  exact wpAny_truthy_bool ⟨.bl (!k), H', I', rfl, q'⟩
/-! ### len(obj), str(obj) -/
def qLenO (C : Addr) (sp : Sp) : List V → Hp → VK → Prop := fun xs H Q => ∃ b dy gs, xs = [.ref b] ∧ H b = some (.ins C dy gs) ∧ sp xs H (fun z H' => ∃ k : Nat, z = .int k ∧ k < 2 ^ 62 ∧ Q (.int k) H') C8.E0
theorem c_lenO (o : OwnOp X.K C "__len__" g) (F : FnOk X.prog X.w X.K X.mg X.base C8.CX0 n g fd ps sp) (hr : Room (n + 1) X.A) (bd : Binds X.K fd ps []) : CallR X (.builtin "len") (qLenO C sp) := by
  intro pins s σ H xs us Q I r now
  obtain ⟨b, dy, gs, rfl, hb, q⟩ := now
  obtain ⟨u, rfl, ru⟩ := vals1 r
  obtain rfl : u = .ref b := ru
  obtain ⟨mB, J, _⟩ := ins_get I.hok hb
  obtain ⟨od, J, _⟩ := J.look
  obtain ⟨m, fr⟩ := I.fr
  refine PySem.W.len_K fr I.ok.mod.kin J o.at' o.fn (wpAny_mono (own_call I I.env0.in1 hr.in1 F bd (v1 b) q) ?_ fun _ _ e => e)
  rintro z s' ⟨v', H', I', rz, k, rfl, hk, q'⟩
  obtain ⟨t, rfl⟩ := (show ∃ t, z = Value.int k t from rz)
  exact ⟨⟨by omega, by omega⟩, .int k, H', I'.tok _, ⟨_, rfl⟩, q'⟩
def qStrO (C : Addr) (sp : Sp) : List V → Hp → VK → Prop := fun xs H Q => ∃ b dy gs, xs = [.ref b] ∧ H b = some (.ins C dy gs) ∧ sp xs H (fun z H' => ∃ t : Str, z = .str t ∧ Q (.str t) H') C8.E0
theorem c_strO (o : OwnOp X.K C "__str__" g) (F : FnOk X.prog X.w X.K X.mg X.base C8.CX0 n g fd ps sp) (hr : Room (n + 2) X.A) (bd : Binds X.K fd ps []) : CallR X (.type "str") (qStrO C sp) := by
  intro pins s σ H xs us Q I r now
  obtain ⟨b, dy, gs, rfl, hb, q⟩ := now
  obtain ⟨u, rfl, ru⟩ := vals1 r
  obtain rfl : u = .ref b := ru
  obtain ⟨mB, J, _⟩ := ins_get I.hok hb
  obtain ⟨od, J, _⟩ := J.look
  refine PySem.W.kso_call hr.in1.in1.units0 I.kIn J o.at' o.fn (wpAny_mono (own_call I I.env0.in1.in1 hr.in1.in1 F bd (v1 b) q) ?_ fun _ _ e => e)
  rintro z s' ⟨v', H', I', rz, t, rfl, q'⟩
  obtain ⟨tk, rfl⟩ := (show ∃ tk, z = Value.str t tk from rz)
  exact ⟨.str t, H', I', ⟨tk, rfl⟩, q'⟩
/-- {x}, x of a class with its own __str__ -/
def tFmtO (C : Addr) (sp : Sp) (te : TE) : TE := fun σ H Q => te σ H fun x H1 => ∃ b dy gs, x = .ref b ∧ H1 b = some (.ins C dy gs) ∧ sp [x] H1 (fun z H' => ∃ t : Str, z = .str t ∧ Q (.str t) H') C8.E0
theorem pe_fmtO {e : Expr} {te : TE} {pos : Pos} (o : OwnOp X.K C "__str__" g) (fm : PySem.W.findIn X.K (.ref C) "__format__" = some (some (.builtin "object.__format__"))) (mr : PySem.W.mroIn X.K C (.type "object") = some true)
    (F : FnOk X.prog X.w X.K X.mg X.base C8.CX0 n g fd ps sp) (hr : Room (n + 2) X.A) (bd : Binds X.K fd ps []) (he : PE X e te) : PE X (.FormattedValue e (-1) none pos) (tFmtO C sp te) := by
  constructor
  intro pins s σ H Q I now
  refine wpAny_FormattedValue_plain (thn (he.run pins s σ H _ I now) ?_)
  rintro v s1 ⟨x, H1, I1, r1, b, dy, gs, rfl, hb, q⟩
  obtain rfl : v = .ref b := r1
  have I2 : Inv X pins σ H1 { s1 with toks := s1.toks + 1 } := I1.tok _
  obtain ⟨mB, J, _⟩ := ins_get I1.hok hb
  obtain ⟨od, J, _⟩ := J.look
  refine PySem.W.kfo_fieldS hr.in1.units0 I1.kIn J fm mr o.at' o.fn (wpAny_mono (own_call I2 I2.env0.in1 (hr.in1.mono (Nat.le_succ _)) F bd (v1 b) q) ?_ fun _ _ e => e)
  rintro z s' ⟨v', H', I', rz, t, rfl, q'⟩
  obtain ⟨tk, rfl⟩ := (show ∃ tk, z = Value.str t tk from rz)
  exact ⟨.str t, H', I', ⟨tk, rfl⟩, q'⟩
/-! ### ~obj, obj[x] -/
def qInv (C : Addr) (sp : Sp) : V → Hp → VK → Prop := fun x H Q => ∃ b dy gs, x = .ref b ∧ H b = some (.ins C dy gs) ∧ sp [x] H Q C8.E0
theorem un_ownInv (o : OwnOp X.K C "__invert__" g) (F : FnOk X.prog X.w X.K X.mg X.base C8.CX0 n g fd ps sp) (hr : Room n X.A) (bd : Binds X.K fd ps []) : UnR X (unaryOp .Invert) (qInv C sp) := by
  intro pins s σ H x v Q I rx now
  obtain ⟨b, dy, gs, rfl, hb, q⟩ := now
  obtain rfl : v = .ref b := rx
  obtain ⟨mB, J, _⟩ := ins_get I.hok hb
  obtain ⟨od, J, _⟩ := J.look
  obtain ⟨m, fr⟩ := I.fr
  exact PySem.W.ksp_inv fr I.ok.mod.kin J o.at' o.fn (own_call I I.env0 hr F bd (v1 b) q)
def qItem (C : Addr) (sp : Sp) : R2 := fun x y H Q => ∃ b dy gs, x = .ref b ∧ H b = some (.ins C dy gs) ∧ sp [x, y] H Q C8.E0
end
end Ob

/-! Sz: zip over three tuples. -/
namespace Sw
open PySem PySem.Spec PyProof.Rows L2 Sx Sy
open Sem (wp)
/-- the tuples at a, b, c side by side, their items in new triples -/
def It3 (K : PySem.W.Frag) (a b c : Addr) : It :=
  ⟨fun i H => ∃ (xs ys zs : List V) (x y z : V), SqT K H a xs ∧ SqT K H b ys ∧ SqT K H c zs ∧ xs[i]? = some x ∧ ys[i]? = some y ∧ zs[i]? = some z,
   fun i H v H2 => ∃ p x y z, v = V.ref p ∧ H p = none ∧ H2 = upd H p (.tup [x, y, z]) ∧ (∀ xs, SqT K H a xs → xs[i]? = some x) ∧ (∀ ys, SqT K H b ys → ys[i]? = some y) ∧ (∀ zs, SqT K H c zs → zs[i]? = some z),
   fun i H => ∃ xs ys zs : List V, SqT K H a xs ∧ SqT K H b ys ∧ SqT K H c zs ∧ i = min (min xs.length ys.length) zs.length⟩
def At3 (N a b c : Nat) (i : Nat) (h : Heap) : Prop :=
  IsZip h (N + 5 : Nat) (N + 3 : Nat) (N + 4 : Nat) .none ∧ IsTupOf3 h (N + 3 : Nat) (.ref N) (.ref (N + 1 : Nat)) (.ref (N + 2 : Nat)) ∧ (∃ a1 a2 a3, IsTupOf3 h (N + 4 : Nat) a1 a2 a3) ∧ h.IsTupleIter N a i ∧ h.IsTupleIter (N + 1 : Nat) b i ∧ h.IsTupleIter (N + 2 : Nat) c i
def six (N : Nat) : List Addr := [(N + 5 : Nat), (N + 3 : Nat), (N + 4 : Nat), N, (N + 1 : Nat), (N + 2 : Nat)]
theorem six_mem {N : Nat} {b : Addr} : b ∈ six N ↔ b = N + 5 ∨ b = N + 3 ∨ b = N + 4 ∨ b = N ∨ b = N + 1 ∨ b = N + 2 := by unfold six; simp
section
variable {P : Program} {w : World} {K : PySem.W.Frag}
theorem walks3 {A : Around} (hh : A.handled = none) (N a b c : Nat) (ha : a < N) (hb : b < N) (hc : c < N) (xs ys zs : Array Value) :
    WalksT P w A (N + 5 : Nat) ((N + 5 : Nat) :: (N + 3 : Nat) :: (N + 4 : Nat) :: ([N, a] ++ [(N + 1 : Nat), b] ++ [(N + 2 : Nat), c])) [(N + 5 : Nat), (N + 4 : Nat), N, (N + 1 : Nat), (N + 2 : Nat)] (min (min xs.size ys.size) zs.size)
      (fun i vals => ∃ x1 x2 x3, xs[i]? = some x1 ∧ ys[i]? = some x2 ∧ zs[i]? = some x3 ∧ vals = #[x1, x2, x3])
      (fun i h => IsZip h (N + 5 : Nat) (N + 3 : Nat) (N + 4 : Nat) .none ∧ IsTupOf3 h (N + 3 : Nat) (.ref N) (.ref (N + 1 : Nat)) (.ref (N + 2 : Nat)) ∧ (∃ a1 a2 a3, IsTupOf3 h (N + 4 : Nat) a1 a2 a3) ∧ (h.IsTupleIter N a i ∧ h.IsTuple a xs) ∧ (h.IsTupleIter (N + 1 : Nat) b i ∧ h.IsTuple b ys) ∧ (h.IsTupleIter (N + 2 : Nat) c i ∧ h.IsTuple c zs))
      (fun i T h => IsZip h (N + 5 : Nat) (N + 3 : Nat) (N + 4 : Nat) (rawInt T) ∧ IsTupOf3 h (N + 3 : Nat) (.ref N) (.ref (N + 1 : Nat)) (.ref (N + 2 : Nat)) ∧ (∃ a1 a2 a3, IsTupOf3 h (N + 4 : Nat) a1 a2 a3) ∧ (h.IsTupleIter N a (i + 1) ∧ h.IsTuple a xs) ∧ (h.IsTupleIter (N + 1 : Nat) b (i + 1) ∧ h.IsTuple b ys) ∧ (h.IsTupleIter (N + 2 : Nat) c (i + 1) ∧ h.IsTuple c zs) ∧ T ≠ (N + 5 : Nat) ∧ T ≠ (N + 4 : Nat) ∧ T ≠ N ∧ T ≠ (N + 1 : Nat) ∧ T ≠ (N + 2 : Nat)) := by
  have D1 := Draws.tuple (prog := P) (w := w) (A := A.in1) hh N a (Nat.ne_of_lt ha) xs
  have D2 := Draws.tuple (prog := P) (w := w) (A := A.in1) hh (N + 1 : Nat) b (show (b : Nat) ≠ N + 1 by omega) ys
  have D3 := Draws.tuple (prog := P) (w := w) (A := A.in1) hh (N + 2 : Nat) c (show (c : Nat) ≠ N + 2 by omega) zs
  have sep := zip_sep3 (N := N) (fp1 := [a]) (fp2 := [b]) (fp3 := [c]) (by intro q m; cases List.mem_singleton.mp m; exact ha) (by intro q m; cases List.mem_singleton.mp m; exact hb) (by intro q m; cases List.mem_singleton.mp m; exact hc)
  exact WalksT.zipD3 sep D1 D2 D3
theorem turn_zip3 {tgs : List Expr} {q : Nat} {at' : Pos} {N a b c : Nat} (ha : a < N) (hb : b < N) (hc : c < N) :
    Turn P w K (.Tuple tgs q at') (It3 K a b c) (six N) (N + 5 : Nat) (fun i g => At3 N a b c i g) where
  mem := List.mem_cons_self ..
  obj := fun i g ⟨x1, x2, ⟨a1, a2, a3, x3⟩, x4, x5, x6⟩ e m => by
    have it : ∀ e t : Addr, g.IsTupleIter e t i → ∃ o, g.get? e = some o ∧ ∀ v, o.data ≠ .cell v := fun e t z => by
      obtain ⟨ob, y1, y2, y3⟩ := z
      exact ⟨ob, y1, fun v z => by rw [y3] at z; exact nomatch z⟩
    rcases six_mem.mp m with rfl | rfl | rfl | rfl | rfl | rfl
    · exact ⟨_, x1, nofun⟩
    · exact ⟨_, x2, nofun⟩
    · exact ⟨_, x3, nofun⟩
    · exact it _ _ x4
    · exact it _ _ x5
    · exact it _ _ x6
  keep := fun i g g' ⟨x1, x2, ⟨a1, a2, a3, x3⟩, x4, x5, x6⟩ same =>
    ⟨same _ (six_mem.mpr (by simp)) _ x1, same _ (six_mem.mpr (by simp)) _ x2, ⟨a1, a2, a3, same _ (six_mem.mpr (by simp)) _ x3⟩, x4.at fun ob z => same _ (six_mem.mpr (by simp)) ob z, x5.at fun ob z => same _ (six_mem.mpr (by simp)) ob z, x6.at fun ob z => same _ (six_mem.mpr (by simp)) ob z⟩
  item := by
    rintro X rfl rfl rfl calm i pins s σ H E I free st ⟨xs, ys, zs, x, y, z, h1, h2, h3, g1, g2, g3⟩
    obtain ⟨x1, x2, x3, x4, x5, x6⟩ := st
    obtain ⟨us, r1, t1, _⟩ := I.tuple h1
    obtain ⟨vs, r2, t2, _⟩ := I.tuple h2
    obtain ⟨ws, r3, t3, _⟩ := I.tuple h3
    obtain ⟨u, hu, ru⟩ := r1.get g1
    obtain ⟨v, hv, rv⟩ := r2.get g2
    obtain ⟨o, ho, ro⟩ := r3.get g3
    have W := walks3 (P := X.prog) (w := X.w) (A := X.A) (I.ok.hd calm) N a b c ha hb hc us.toArray vs.toArray ws.toArray
    have lt : i < min (min us.toArray.size vs.toArray.size) ws.toArray.size := by
      obtain ⟨l1, _⟩ := List.getElem?_eq_some_iff.mp hu
      obtain ⟨l2, _⟩ := List.getElem?_eq_some_iff.mp hv
      obtain ⟨l3, _⟩ := List.getElem?_eq_some_iff.mp ho
      simp only [List.size_toArray]; omega
    refine W.item i s _ _ lt ⟨x1, x2, x3, ⟨x4, t1⟩, ⟨x5, t2⟩, x6, t3⟩ ?_
    rintro T vals g tk ⟨b1, b2, b3, c1, c2, c3, rfl⟩ big tup mid others
    have e1 : b1 = u := by rw [List.getElem?_toArray, hu] at c1; exact (Option.some.inj c1).symm
    have e2 : b2 = v := by rw [List.getElem?_toArray, hv] at c2; exact (Option.some.inj c2).symm
    have e3 : b3 = o := by rw [List.getElem?_toArray, ho] at c3; exact (Option.some.inj c3).symm
    subst e1 e2 e3
    refine ⟨_, rfl, W.go tgs q at' i T { s with heap := g, toks := tk } _ _ mid ?_⟩
    rintro gg ⟨k1, k2, k3, ⟨k4, _⟩, ⟨k5, _⟩, k6, _⟩ others2
    have sub : ∀ e, e ∈ [((N + 5 : Nat) : Addr), (N + 4 : Nat), N, (N + 1 : Nat), (N + 2 : Nat)] → e ∈ six N := by
      intro e m
      rw [six_mem]
      simp only [List.mem_cons, List.not_mem_nil, or_false] at m
      rcases m with rfl | rfl | rfl | rfl | rfl <;> simp
    have apart := W.apart i T g mid
    obtain ⟨ot, d1, d2, d3⟩ := tup
    obtain ⟨slots, d3⟩ := d3
    have new : ObjOk X.prog X.w (upd H T (.tup [x, y, z])) gg T (.tup [x, y, z]) :=
      ⟨by rw [sizeLine_eq]; exact (by decide : 3 ≤ 16777216), [b1, b2, b3], .cons ru (.cons rv (.cons ro .nil)), ⟨ot, others2 T ot apart d1, d2, slots, d3⟩⟩
    have I2 : Inv X pins σ (upd H T (.tup [x, y, z])) { s with heap := gg, toks := tk } := by
      refine I.turnedNew (ch := [((N + 5 : Nat) : Addr), (N + 4 : Nat), N, (N + 1 : Nat), (N + 2 : Nat)]) (fun e ob m w1 => others2 e ob m (others e ob m w1)) (fun e m => free e (sub e m)) big new
    refine ⟨.ref T, _, I2, rfl, ⟨T, x, y, z, rfl, I.hok.fresh big, rfl, ?_, ?_, ?_⟩, ⟨k1, k2, k3, k4, k5, k6⟩, ?_⟩
    · intro q1 q2; rw [I.tuple_inj q2 h1]; exact g1
    · intro q1 q2; rw [I.tuple_inj q2 h2]; exact g2
    · intro q1 q2; rw [I.tuple_inj q2 h3]; exact g3
    · intro e m
      have ne : e ≠ T := by
        rintro rfl
        have old : s.heap.get? e ≠ none := by
          rcases six_mem.mp m with rfl | rfl | rfl | rfl | rfl | rfl
          · rw [show s.heap.get? (N + 5 : Nat) = some _ from x1]; simp
          · rw [show s.heap.get? (N + 3 : Nat) = some _ from x2]; simp
          · obtain ⟨_, _, _, x3⟩ := x3
            rw [show s.heap.get? (N + 4 : Nat) = some _ from x3]; simp
          · obtain ⟨ob, y1, _⟩ := x4; rw [y1]; simp
          · obtain ⟨ob, y1, _⟩ := x5; rw [y1]; simp
          · obtain ⟨ob, y1, _⟩ := x6; rw [y1]; simp
        cases old' : s.heap.get? e with
        | none => exact old old'
        | some ob => exact absurd (Heap.lt_size old') (Nat.not_lt.mpr big)
      rw [upd_ne ne]
      exact (free e m).1
  done := by
    rintro X rfl rfl rfl calm i pins s σ H E I free ⟨x1, x2, x3, x4, x5, x6⟩ ⟨xs, ys, zs, h1, h2, h3, rfl⟩
    obtain ⟨us, r1, t1, _⟩ := I.tuple h1
    obtain ⟨vs, r2, t2, _⟩ := I.tuple h2
    obtain ⟨ws, r3, t3, _⟩ := I.tuple h3
    have W := walks3 (P := X.prog) (w := X.w) (A := X.A) (I.ok.hd calm) N a b c ha hb hc us.toArray vs.toArray ws.toArray
    have e1 : xs.length = us.toArray.size := by rw [List.size_toArray]; exact r1.length
    have e2 : ys.length = vs.toArray.size := by rw [List.size_toArray]; exact r2.length
    have e3 : zs.length = ws.toArray.size := by rw [List.size_toArray]; exact r3.length
    rw [e1, e2, e3] at x4 x5 x6
    refine W.done s _ _ ⟨x1, x2, x3, ⟨x4, t1⟩, ⟨x5, t2⟩, x6, t3⟩ ?_
    intro g tk others
    refine ⟨rfl, I.turnedL (ch := [((N + 5 : Nat) : Addr), (N + 4 : Nat), N, (N + 1 : Nat), (N + 2 : Nat)]) others fun e m => free e ?_⟩
    rw [six_mem]
    simp only [List.mem_cons, List.not_mem_nil, or_false] at m
    rcases m with rfl | rfl | rfl | rfl | rfl <;> simp
  self := fun A i s Q E ⟨x1, _⟩ h => wpAny_pyIter_zip x1 h
end
def iZip3 (K : PySem.W.Frag) (ta : TA) : TI := fun σ H R => ta σ H fun vs H1 => ∃ a b c xs ys zs, vs = [V.ref a, V.ref b, V.ref c] ∧ SqT K H1 a xs ∧ SqT K H1 b ys ∧ SqT K H1 c zs ∧ R (It3 K a b c) H1
theorem pi_zip3 {X : Cx} {e1 e2 e3 : Expr} {ta : TA} {p pos tpos : Pos} {tgs : List Expr} {q : Nat} (hg : Gl X "zip") (hm : X.mg "zip" = none) (ha : PA X [e1, e2, e3] ta)
    (na : starEach [e1, e2, e3] X.env = (false, eval e1 X.env) :: starEach [e2, e3] X.env := by rfl) (nb : (backTo pos (starEach [e2, e3] X.env)).any (·.1) = false := by rfl) :
    PI X (.Tuple tgs q tpos) (.Call (.Name "zip" p) [e1, e2, e3] [] pos) (iZip3 X.K ta) := by
  constructor
  intro pins s σ H R I h
  refine Call_ (ld_blt I hg hm PyProof.Rows.boot_zip (PyProof.Rows.callWith_type1 (thn (ha.run pos pins s σ H _ I h) ?_) na nb))
  rintro us s1 ⟨vs, H1, I1, rr, a, b, c, xs, ys, zs, rfl, h1, h2, h3, next⟩
  obtain ⟨u1, us, rfl⟩ : ∃ u t, us = u :: t := by cases rr; exact ⟨_, _, rfl⟩
  cases rr with | cons ra rr =>
  cases rr with | cons rb rr =>
  cases rr with | cons rc rr =>
  cases rr
  cases ra
  cases rb
  cases rc
  obtain ⟨l1, r1, t1, _⟩ := I1.tuple h1
  obtain ⟨l2, r2, t2, _⟩ := I1.tuple h2
  obtain ⟨l3, r3, t3, _⟩ := I1.tuple h3
  have below : ∀ {t : Addr} {vs : Array Value}, s1.heap.IsTuple t vs → t < s1.heap.objs.size := by
    rintro t vs ⟨ob, y1, _⟩
    exact Heap.lt_size y1
  refine zip_begins3 (begins_tuple a l1.toArray) (begins_tuple b l2.toArray) (begins_tuple c l3.toArray) t1 t2 t3 ?_
  intro g x1 x2 x3 y1 y2 y3 size same
  refine wpAny_pyIter_zip x1 ?_
  refine ⟨_, six s1.heap.objs.size, _, It3 X.K a b c, H1, rfl, I1.kept (t' := s1.toks) same, turn_zip3 (below t1) (below t2) (below t3), ⟨x1, x2, ⟨_, _, _, x3⟩, ⟨_, y1, rfl, rfl⟩, ⟨_, y2, rfl, rfl⟩, ⟨_, y3, rfl, rfl⟩⟩, ?_, next⟩
  intro e m
  have le : s1.heap.objs.size ≤ e := by
    rcases six_mem.mp m with rfl | rfl | rfl | rfl | rfl | rfl
    · exact Nat.le_add_right _ _
    · exact Nat.le_add_right _ _
    · exact Nat.le_add_right _ _
    · exact Nat.le_refl _
    · exact Nat.le_add_right _ _
    · exact Nat.le_add_right _ _
  exact I1.fpOk le (I1.hok.fresh le)
/-- a new triple -/
def YTri (xs ys zs : Nat → Option V) : Nat → Hp → V → Hp → Prop := fun i H v H2 => ∃ p x y z, v = V.ref p ∧ H p = none ∧ H2 = upd H p (.tup [x, y, z]) ∧ xs i = some x ∧ ys i = some y ∧ zs i = some z
theorem walk_zip3 {K : PySem.W.Frag} {a b c : Addr} {xs ys zs : List V} {n : Nat} (h1 : xs.length = n) (h2 : ys.length = n) (h3 : zs.length = n) : Walk (It3 K a b c) n (fun H => SqT K H a xs ∧ SqT K H b ys ∧ SqT K H c zs) (YTri (fun i => xs[i]?) (fun i => ys[i]?) (fun i => zs[i]?)) := by
  constructor
  · intro i H hi q
    exact ⟨xs, ys, zs, xs[i], ys[i], zs[i], q.1, q.2.1, q.2.2, List.getElem?_eq_getElem _, List.getElem?_eq_getElem _, List.getElem?_eq_getElem _⟩
  · intro H q
    exact ⟨xs, ys, zs, q.1, q.2.1, q.2.2, by omega⟩
  · rintro i H v H2 _ q ⟨p, x, y, z, rfl, k1, k2, k3, k4, k5⟩
    exact ⟨p, x, y, z, rfl, k1, k2, k3 xs q.1, k4 ys q.2.1, k5 zs q.2.2⟩
section
variable {σ : L2.St} {H : Hp} {Q : VK} {te : TE} {tt : TT} {tl : TA} {g : TG} {K : PySem.W.Frag} {vs : List Nat}
theorem r_lc3 (h : tl σ H fun us H1 => ∃ a b c xs ys zs, us = [V.ref a, V.ref b, V.ref c] ∧ SqT K H1 a xs ∧ SqT K H1 b ys ∧ SqT K H1 c zs ∧ LCW (It3 K a b c) g tt te vs σ H1 Q) : tLc (iZip3 K tl) g tt te vs σ H Q := h
end
end Sw

/-! Zp: zip over two, each a list, a tuple or a text. -/
namespace Zp
open PySem PySem.Spec PyProof.Rows L2 Sx Sy
inductive SD where
  | l (a : Addr) | t (a : Addr) | s (x : Str)
def SD.v : SD → V
  | .l a => .ref a
  | .t a => .ref a
  | .s x => .str x
def chars (x : Str) : List V := x.cps.toList.map fun c => V.str ⟨#[c]⟩
/-- its items -/
def SD.has (K : PySem.W.Frag) (H : Hp) : SD → List V → Prop
  | .l a, xs => SqL K H a xs
  | .t a, xs => SqT K H a xs
  | .s x, xs => xs = chars x
/-- the iterator at n, i items gone -/
def SD.at' (n : Addr) (i : Nat) (h : Heap) : SD → Prop
  | .l a => h.IsListIter n a i
  | .t a => h.IsTupleIter n a i
  | .s x => ∃ tk, h.IsStrIter n (strIterType x) x tk i
def SD.low (N : Nat) : SD → Prop
  | .l a => a < N
  | .t a => a < N
  | .s _ => True
theorem has_inj {X : Cx} {pins : List (Addr × Obj)} {σ : L2.St} {H : Hp} {s : Shared} (I : Inv X pins σ H s) {S : SD} {xs ys : List V} (h : S.has X.K H xs) (g : S.has X.K H ys) : xs = ys := by
  cases S with
  | l a => exact I.list_inj h g
  | t a => exact I.tuple_inj h g
  | s x => exact h.trans g.symm
theorem at_keep {S : SD} {n : Addr} {i : Nat} {h h' : Heap} (z : S.at' n i h) (k : ∀ o, h.get? n = some o → h'.get? n = some o) : S.at' n i h' := by
  cases S with
  | l a => exact z.at k
  | t a => exact z.at k
  | s x => obtain ⟨tk, o, y1, y2⟩ := z; exact ⟨tk, o, k _ y1, y2⟩
theorem at_obj {S : SD} {n : Addr} {i : Nat} {h : Heap} (z : S.at' n i h) : ∃ o, h.get? n = some o ∧ ∀ v, o.data ≠ .cell v := by
  cases S with
  | l a => obtain ⟨o, y1, y2, y3⟩ := z; exact ⟨o, y1, fun v q => by rw [y3] at q; cases q⟩
  | t a => obtain ⟨o, y1, y2, y3⟩ := z; exact ⟨o, y1, fun v q => by rw [y3] at q; cases q⟩
  | s x => obtain ⟨tk, o, y1, y2, y3⟩ := z; exact ⟨o, y1, fun v q => by rw [y3] at q; cases q⟩
theorem vals_back {xs : List V} {us : List Value} (r : Vals xs us) {j : Nat} {u : Value} (h : us[j]? = some u) : ∃ x, xs[j]? = some x ∧ RelV x u := by
  have lt : j < xs.length := by rw [r.length]; exact (List.getElem?_eq_some_iff.mp h).1
  obtain ⟨u', h', r'⟩ := r.get (List.getElem?_eq_getElem lt)
  rw [h] at h'; cases h'
  exact ⟨_, List.getElem?_eq_getElem lt, r'⟩
/-- what drawing from it needs -/
theorem pack {X : Cx} {pins : List (Addr × Obj)} {σ : L2.St} {H : Hp} {s : Shared} (I : Inv X pins σ H s) (hh : X.A.handled = none) {S : SD} {xs : List V} {n i N : Nat} (h : S.has X.K H xs) (low : S.low N) (hn : N ≤ n) (z : S.at' n i s.heap) :
    ∃ (fp : List Addr) (m : Nat) (Pr : Nat → Value → Prop) (St : Nat → Heap → Prop), Draws X.prog X.w X.A.in1 n (n :: fp) m Pr St ∧ (∀ b, b ∈ fp → b < N) ∧ m = xs.length ∧ (∀ j v, Pr j v → ∃ x, xs[j]? = some x ∧ RelV x v) ∧ St i s.heap ∧ ∀ j h', St j h' → S.at' n j h' := by
  cases S with
  | l a =>
    obtain ⟨its, r, ⟨o, n0, e1, e2, e3, e4⟩, _⟩ := I.list h
    have il : s.heap.IsList a its.toArray := ⟨o, e1, e2, n0, e4⟩
    refine ⟨[a], _, _, _, Draws.list (A := X.A.in1) hh n a (Nat.ne_of_lt (Nat.lt_of_lt_of_le low hn)) its.toArray, fun b hb => by cases List.mem_singleton.mp hb; exact low, ?_, fun j v q => ?_, ⟨z, il⟩, fun j h' q => q.1⟩
    · rw [List.size_toArray]; exact r.length.symm
    · have q : its.toArray[j]? = some v := q
      rw [List.getElem?_toArray] at q
      exact vals_back r q
  | t a =>
    obtain ⟨its, r, il, _⟩ := I.tuple h
    refine ⟨[a], _, _, _, Draws.tuple (A := X.A.in1) hh n a (Nat.ne_of_lt (Nat.lt_of_lt_of_le low hn)) its.toArray, fun b hb => by cases List.mem_singleton.mp hb; exact low, ?_, fun j v q => ?_, ⟨z, il⟩, fun j h' q => q.1⟩
    · rw [List.size_toArray]; exact r.length.symm
    · have q : its.toArray[j]? = some v := q
      rw [List.getElem?_toArray] at q
      exact vals_back r q
  | s x =>
    obtain ⟨tk, z⟩ := z
    have h : xs = chars x := h
    subst h
    refine ⟨[], _, _, _, Draws.text (A := X.A.in1) hh n x tk, (by intro b hb; cases hb), ?_, fun j v q => ?_, z, fun j h' q => ⟨tk, q⟩⟩
    · unfold chars; rw [List.length_map, Array.length_toList]
    · obtain ⟨c, u, q1, rfl⟩ := q
      refine ⟨.str ⟨#[c]⟩, ?_, ⟨u, rfl⟩⟩
      unfold chars
      rw [List.getElem?_map, Array.getElem?_toList, q1]; rfl
/-! ### side by side -/
def It2 (K : PySem.W.Frag) (S R : SD) : It :=
  ⟨fun i H => ∃ (xs ys : List V) (x y : V), S.has K H xs ∧ R.has K H ys ∧ xs[i]? = some x ∧ ys[i]? = some y,
   fun i H v H2 => ∃ p x y, v = V.ref p ∧ H p = none ∧ H2 = upd H p (.tup [x, y]) ∧ (∀ xs, S.has K H xs → xs[i]? = some x) ∧ (∀ ys, R.has K H ys → ys[i]? = some y),
   fun i H => ∃ xs ys : List V, S.has K H xs ∧ R.has K H ys ∧ i = min xs.length ys.length⟩
def At2 (N : Nat) (S R : SD) (i : Nat) (h : Heap) : Prop :=
  IsZip h (N + 4 : Nat) (N + 2 : Nat) (N + 3 : Nat) .none ∧ IsTupOf2 h (N + 2 : Nat) (.ref N) (.ref (N + 1 : Nat)) ∧ (∃ a1 a2, IsTupOf2 h (N + 3 : Nat) a1 a2) ∧ S.at' N i h ∧ R.at' (N + 1 : Nat) i h
def five (N : Nat) : List Addr := [(N + 4 : Nat), (N + 2 : Nat), (N + 3 : Nat), N, (N + 1 : Nat)]
theorem five_mem {N : Nat} {b : Addr} : b ∈ five N ↔ b = N + 4 ∨ b = N + 2 ∨ b = N + 3 ∨ b = N ∨ b = N + 1 := by unfold five; simp
section
variable {P : Program} {w : World} {K : PySem.W.Frag}
theorem turn_zip2 {tgs : List Expr} {q : Nat} {at' : Pos} {N : Nat} {S R : SD} (lS : S.low N) (lR : R.low N) : Turn P w K (.Tuple tgs q at') (It2 K S R) (five N) (N + 4 : Nat) (fun i g => At2 N S R i g) where
  mem := List.mem_cons_self ..
  obj := fun i g ⟨x1, x2, ⟨a1, a2, x3⟩, x4, x5⟩ e m => by
    rcases five_mem.mp m with rfl | rfl | rfl | rfl | rfl
    · exact ⟨_, x1, nofun⟩
    · exact ⟨_, x2, nofun⟩
    · exact ⟨_, x3, nofun⟩
    · exact at_obj x4
    · exact at_obj x5
  keep := fun i g g' ⟨x1, x2, ⟨a1, a2, x3⟩, x4, x5⟩ same =>
    ⟨same _ (five_mem.mpr (by simp)) _ x1, same _ (five_mem.mpr (by simp)) _ x2, ⟨a1, a2, same _ (five_mem.mpr (by simp)) _ x3⟩, at_keep x4 fun ob z => same _ (five_mem.mpr (by simp)) ob z, at_keep x5 fun ob z => same _ (five_mem.mpr (by simp)) ob z⟩
  item := by
    rintro X rfl rfl rfl calm i pins s σ H E I free st ⟨xs, ys, x, y, h1, h2, g1, g2⟩
    obtain ⟨x1, x2, x3, x4, x5⟩ := st
    obtain ⟨fp1, m1, P1, St1, D1, b1, e1, k1, s1, t1⟩ := pack I (I.ok.hd calm) h1 lS (Nat.le_refl N) x4
    obtain ⟨fp2, m2, P2, St2, D2, b2, e2, k2, s2, t2⟩ := pack I (I.ok.hd calm) h2 lR (Nat.le_succ N) x5
    have W := WalksT.zipD2 (zip_sep2 (N := N) b1 b2) D1 D2
    have lt : i < min m1 m2 := by
      obtain ⟨l1, _⟩ := List.getElem?_eq_some_iff.mp g1
      obtain ⟨l2, _⟩ := List.getElem?_eq_some_iff.mp g2
      omega
    refine W.item i s _ _ lt ⟨x1, x2, x3, s1, s2⟩ ?_
    rintro T vals g tk ⟨c1, c2, d1, d2, rfl⟩ big tup mid others
    obtain ⟨x', q1, r1⟩ := k1 i c1 d1
    obtain ⟨y', q2, r2⟩ := k2 i c2 d2
    have ex : x' = x := by rw [g1] at q1; exact (Option.some.inj q1).symm
    have ey : y' = y := by rw [g2] at q2; exact (Option.some.inj q2).symm
    subst ex ey
    refine ⟨_, rfl, W.go tgs q at' i T { s with heap := g, toks := tk } _ _ mid ?_⟩
    rintro gg ⟨y1, y2, y3, y4, y5⟩ others2
    have sub : ∀ e, e ∈ [((N + 4 : Nat) : Addr), (N + 3 : Nat), N, (N + 1 : Nat)] → e ∈ five N := by
      intro e m
      rw [five_mem]
      simp only [List.mem_cons, List.not_mem_nil, or_false] at m
      rcases m with rfl | rfl | rfl | rfl <;> simp
    have apart := W.apart i T g mid
    obtain ⟨ot, f1, f2, f3⟩ := tup
    obtain ⟨slots, f3⟩ := f3
    have new : ObjOk X.prog X.w (upd H T (.tup [x', y'])) gg T (.tup [x', y']) :=
      ⟨by rw [sizeLine_eq]; exact (by decide : 2 ≤ 16777216), [c1, c2], .cons r1 (.cons r2 .nil), ⟨ot, others2 T ot apart f1, f2, slots, f3⟩⟩
    have I2 : Inv X pins σ (upd H T (.tup [x', y'])) { s with heap := gg, toks := tk } := by
      refine I.turnedNew (ch := [((N + 4 : Nat) : Addr), (N + 3 : Nat), N, (N + 1 : Nat)]) (fun e ob m w1 => others2 e ob m (others e ob m w1)) (fun e m => free e (sub e m)) big new
    refine ⟨.ref T, _, I2, rfl, ⟨T, x', y', rfl, I.hok.fresh big, rfl, ?_, ?_⟩, ⟨y1, y2, y3, t1 _ _ y4, t2 _ _ y5⟩, ?_⟩
    · intro q1 q2; rw [has_inj I q2 h1]; exact g1
    · intro q1 q2; rw [has_inj I q2 h2]; exact g2
    · intro e m
      have ne : e ≠ T := by
        rintro rfl
        have old : s.heap.get? e ≠ none := by
          rcases five_mem.mp m with rfl | rfl | rfl | rfl | rfl
          · rw [show s.heap.get? (N + 4 : Nat) = some _ from x1]; simp
          · rw [show s.heap.get? (N + 2 : Nat) = some _ from x2]; simp
          · obtain ⟨_, _, x3⟩ := x3
            rw [show s.heap.get? (N + 3 : Nat) = some _ from x3]; simp
          · obtain ⟨ob, z1, _⟩ := at_obj x4; rw [z1]; simp
          · obtain ⟨ob, z1, _⟩ := at_obj x5; rw [z1]; simp
        cases old' : s.heap.get? e with
        | none => exact old old'
        | some ob => exact absurd (Heap.lt_size old') (Nat.not_lt.mpr big)
      rw [upd_ne ne]
      exact (free e m).1
  done := by
    rintro X rfl rfl rfl calm i pins s σ H E I free ⟨x1, x2, x3, x4, x5⟩ ⟨xs, ys, h1, h2, rfl⟩
    obtain ⟨fp1, m1, P1, St1, D1, b1, e1, k1, s1, t1⟩ := pack I (I.ok.hd calm) h1 lS (Nat.le_refl N) x4
    obtain ⟨fp2, m2, P2, St2, D2, b2, e2, k2, s2, t2⟩ := pack I (I.ok.hd calm) h2 lR (Nat.le_succ N) x5
    have W := WalksT.zipD2 (zip_sep2 (N := N) b1 b2) D1 D2
    rw [← e1, ← e2] at s1 s2
    refine W.done s _ _ ⟨x1, x2, x3, s1, s2⟩ ?_
    intro g tk others
    refine ⟨rfl, I.turnedL (ch := [((N + 4 : Nat) : Addr), (N + 3 : Nat), N, (N + 1 : Nat)]) others fun e m => free e ?_⟩
    rw [five_mem]
    simp only [List.mem_cons, List.not_mem_nil, or_false] at m
    rcases m with rfl | rfl | rfl | rfl <;> simp
  self := fun A i s Q E ⟨x1, _⟩ h => wpAny_pyIter_zip x1 h
end
def iZip2 (K : PySem.W.Frag) (ta : TA) : TI := fun σ H R => ta σ H fun vs H1 => ∃ S T : SD, ∃ xs ys, vs = [S.v, T.v] ∧ S.has K H1 xs ∧ T.has K H1 ys ∧ R (It2 K S T) H1
/-- the iterator that iter makes -/
def SD.ob : SD → (Value → Obj → Prop)
  | .l a, v, o => v = .ref a ∧ o = { cls := .type "list_iterator", data := .fields #[.ref a, .int 0 0] }
  | .t a, v, o => v = .ref a ∧ o = { cls := .type "tuple_iterator", data := .fields #[.ref a, .int 0 0] }
  | .s x, v, o => ∃ tk, v = .str x tk ∧ o = { cls := .type (strIterType x), data := .fields #[.str x tk, .int 0 0] }
theorem begin_at {X : Cx} {pins : List (Addr × Obj)} {σ : L2.St} {H : Hp} {s : Shared} (I : Inv X pins σ H s) {S : SD} {xs : List V} {u : Value} (r : RelV S.v u) (h : S.has X.K H xs) :
    ∃ (o : Obj) (Pr : Heap → Prop), Begins u o Pr ∧ Pr s.heap ∧ S.low s.heap.objs.size ∧ ∀ (n : Addr) (h' : Heap), h'.get? n = some o → S.at' n 0 h' := by
  cases S with
  | l a =>
    obtain rfl : u = .ref a := r
    obtain ⟨its, _, ⟨o, n0, e1, e2, e3, e4⟩, _⟩ := I.list h
    exact ⟨_, _, begins_list a its.toArray, ⟨o, e1, e2, n0, e4⟩, Heap.lt_size e1, fun n h' q => ⟨_, q, rfl, rfl⟩⟩
  | t a =>
    obtain rfl : u = .ref a := r
    obtain ⟨its, _, il, _⟩ := I.tuple h
    have lt : a < s.heap.objs.size := by obtain ⟨o, e1, _⟩ := il; exact Heap.lt_size e1
    exact ⟨_, _, begins_tuple a its.toArray, il, lt, fun n h' q => ⟨_, q, rfl, rfl⟩⟩
  | s x =>
    obtain ⟨tk, rfl⟩ := (show ∃ tk, u = Value.str x tk from r)
    exact ⟨_, _, begins_text x tk, trivial, trivial, fun n h' q => ⟨tk, _, q, rfl, rfl⟩⟩
theorem pi_zip2 {X : Cx} {e1 e2 : Expr} {ta : TA} {p pos tpos : Pos} {tgs : List Expr} {q : Nat} (hg : Gl X "zip") (hm : X.mg "zip" = none) (ha : PA X [e1, e2] ta)
    (na : starEach [e1, e2] X.env = (false, eval e1 X.env) :: starEach [e2] X.env := by rfl) (nb : (backTo pos (starEach [e2] X.env)).any (·.1) = false := by rfl) :
    PI X (.Tuple tgs q tpos) (.Call (.Name "zip" p) [e1, e2] [] pos) (iZip2 X.K ta) := by
  constructor
  intro pins s σ H R I h
  refine Call_ (ld_blt I hg hm PyProof.Rows.boot_zip (PyProof.Rows.callWith_type1 (thn (ha.run pos pins s σ H _ I h) ?_) na nb))
  rintro us s1 ⟨vs, H1, I1, rr, S, T, xs, ys, rfl, h1, h2, next⟩
  obtain ⟨u1, u2, rfl, ra, rb⟩ := vals2 rr
  obtain ⟨o1, Pr1, B1, p1, l1, w1⟩ := begin_at I1 ra h1
  obtain ⟨o2, Pr2, B2, p2, l2, w2⟩ := begin_at I1 rb h2
  refine zip_begins2 B1 B2 p1 p2 ?_
  intro g x1 x2 x3 y1 y2 size same
  refine wpAny_pyIter_zip x1 ?_
  refine ⟨_, five s1.heap.objs.size, _, It2 X.K S T, H1, rfl, I1.kept (t' := s1.toks) same, turn_zip2 l1 l2, ⟨x1, x2, ⟨_, _, x3⟩, w1 _ _ y1, w2 _ _ y2⟩, ?_, next⟩
  intro e m
  have le : s1.heap.objs.size ≤ e := by
    rcases five_mem.mp m with rfl | rfl | rfl | rfl | rfl
    · exact Nat.le_add_right _ _
    · exact Nat.le_add_right _ _
    · exact Nat.le_add_right _ _
    · exact Nat.le_refl _
    · exact Nat.le_add_right _ _
  exact I1.fpOk le (I1.hok.fresh le)
/-- a new pair -/
def YTwo (xs ys : List V) : Nat → Hp → V → Hp → Prop := fun i H v H2 => ∃ p x y, v = V.ref p ∧ H p = none ∧ H2 = upd H p (.tup [x, y]) ∧ xs[i]? = some x ∧ ys[i]? = some y
theorem walk_zip2 {K : PySem.W.Frag} {S R : SD} {xs ys : List V} {n : Nat} (h1 : xs.length = n) (h2 : ys.length = n) : Walk (It2 K S R) n (fun H => S.has K H xs ∧ R.has K H ys) (YTwo xs ys) := by
  constructor
  · intro i H hi q
    exact ⟨xs, ys, xs[i], ys[i], q.1, q.2, List.getElem?_eq_getElem _, List.getElem?_eq_getElem _⟩
  · intro H q
    exact ⟨xs, ys, q.1, q.2, by omega⟩
  · rintro i H v H2 _ q ⟨p, x, y, rfl, k1, k2, k3, k4⟩
    exact ⟨p, x, y, rfl, k1, k2, k3 xs q.1, k4 ys q.2⟩
section
variable {σ : L2.St} {H : Hp} {Q : VK} {te : TE} {tt : TT} {tl : TA} {g : TG} {K : PySem.W.Frag} {vs : List Nat} {tb : TS} {D : Ends}
theorem r_lcP (h : tl σ H fun us H1 => ∃ S T : SD, ∃ xs ys, us = [S.v, T.v] ∧ S.has K H1 xs ∧ T.has K H1 ys ∧ LCW (It2 K S T) g tt te vs σ H1 Q) : tLc (iZip2 K tl) g tt te vs σ H Q := h
theorem r_forP (h : tl σ H fun us H1 => ∃ S T : SD, ∃ xs ys, us = [S.v, T.v] ∧ S.has K H1 xs ∧ T.has K H1 ys ∧ FR (It2 K S T) g tb D σ H1) : tFor (iZip2 K tl) g tb D σ H := h
end
end Zp

/-! Mj: a call of a class in a variable; a range with any step; list of it. -/
namespace Mj
open PySem PySem.Spec PyProof.Rows L2 Sx Sy
section
variable {X : Cx} {CX : CXT} {k i : Nat} {f C : Addr} {fd : FuncData} {ps : List Str} {sp : Sp} {dvs : List V} {ds : List Value} {E : XK} {x : Str} {p pos : Pos} {e : Expr} {es : List Expr} {t : TA}
def tMakeL (i : Nat) (C : Addr) (sp : Sp) (dvs : List V) (E : XK) (t : TA) : TE := fun σ H Q => σ[i]? = some (some (.ref C)) ∧ t σ H fun vs H1 => ∀ x dx, H1 x = none → H1 dx = none → dx ≠ x → sp (.ref x :: (vs ++ dvs)) (upd (upd H1 dx (.own x)) x (.ins C dx [])) (fun v H2 => v = .non ∧ Q (.ref x) H2) E
theorem pe_makeL (M : Mk X.K C f) (F : FnOk X.prog X.w X.K X.mg X.base CX k f fd ps sp) (hr : Room (k + 1) X.A) (hN : X.N[i]? = some x) (hv : Vis X.env.scope x) (hb : Binds X.K fd ps ds) (hd : Vals dvs ds) (hx : Passes CX X E) (ha : PA X (e :: es) t)
    (nd : (x == ("__debug__" : Str)) = false := by decide) (ncd : (x == ("__classdict__" : Str)) = false := by decide) (he : starEach (e :: es) X.env = (false, eval e X.env) :: starEach es X.env := by rfl) (hpl : (backTo pos (starEach es X.env)).any (·.1) = false := by rfl) :
    PE X (.Call (.Name x p) (e :: es) [] pos) (tMakeL i C sp dvs E t) := by
  constructor
  intro pins s σ H Q I now
  obtain ⟨hσ, now⟩ := now
  refine wpAny_Call_Name_kw (thn ((pe_var hN hv nd ncd).run pins s σ H (fun v H1 => v = .ref C ∧ H1 = H) I ⟨_, hσ, rfl, rfl⟩) ?_)
  rintro u s0 ⟨v, H0, I0, ru, rfl, rfl⟩
  obtain rfl : u = .ref C := ru
  refine PySem.W.callWith_K (h₀ := X.base) I.ok.mod.kin M.kp (thn (ha.run pos pins s0 σ H0 _ I0 now) ?_) he hpl
  rintro us s1 ⟨vs, H1, I1, r, wish⟩
  exact ⟨I1.kIn, run_make M F hr hb hd hx I1 r wish⟩
end
theorem hu1 {k : Nat} {A : Around} (hr : Room k A) : A.units + 1 < cLine := by have := hr.un; omega
/-! ### range(a, b, c) as a value -/
def RgH (h : Heap) (a : Addr) (i j c : Int) : Prop := ∃ t u v, IsRange h a i j c t u v
def RgO (a : Addr) (i j c : Int) : HO := .ext fun h => RgH h a i j c
theorem rgO_ok {P : Program} {w : World} {H : Hp} {h : Heap} {a : Addr} {i j c : Int} (R : RgH h a i j c) : ObjOk P w H h a (RgO a i j c) := by
  obtain ⟨t, u, v, r⟩ := R
  refine ⟨⟨t, u, v, r⟩, ⟨_, r⟩, fun h1 h2 q k => ?_⟩
  obtain ⟨t', u', v', r'⟩ := q
  exact ⟨t', u', v', k _ r'⟩
def qRng3 : List V → Hp → VK → Prop := fun xs H Q => ∃ i j c : Int, xs = [.int i, .int j, .int c] ∧ c ≠ 0 ∧ c.natAbs < 1073741824 ∧ ∀ p, H p = none → Q (.ref p) (upd H p (RgO p i j c))
def qLstR : List V → Hp → VK → Prop := fun xs H Q => ∃ (p : Addr) (i j c : Int) (n : Nat), xs = [.ref p] ∧ H p = some (RgO p i j c) ∧ RgC i j c n ∧ n ≤ 1000000 ∧ ∀ q, H q = none → Q (.ref q) (upd H q (.lst ((List.range n).map fun t : Nat => V.int (i + (t : Int) * c))))
theorem vals_at {f : Nat → V} : ∀ {ms : List Nat} {vs : List Value}, ms.length = vs.length → (∀ (j : Nat) (v : Value), vs[j]? = some v → ∃ m, ms[j]? = some m ∧ RelV (f m) v) → Vals (ms.map f) vs
  | [], [], _, _ => .nil
  | [], _ :: _, h, _ => nomatch h
  | _ :: _, [], h, _ => nomatch h
  | m :: ms, v :: vs, h, g => by
    refine .cons ?_ (vals_at (Nat.succ.inj h) fun j w hw => g (j + 1) w hw)
    obtain ⟨m', e, r⟩ := g 0 v rfl
    cases e
    exact r
section
variable {X : Cx}
theorem c_rng3 : CallR X (.type "range") qRng3 := by
  intro pins s σ H xs us Q I r h
  obtain ⟨i, j, c, rfl, c0, cs, q⟩ := h
  cases r with
  | cons r1 r =>
    cases r with
    | cons r2 r =>
      cases r with
      | cons r3 r =>
        cases r
        obtain ⟨t1, rfl⟩ := r1
        obtain ⟨t2, rfl⟩ := r2
        obtain ⟨t3, rfl⟩ := r3
        refine call_range_3 c0 ?_ (.inl ?_)
        · refine ⟨.ref s.heap.objs.size, upd H s.heap.objs.size (RgO s.heap.objs.size i j c), ?_, rfl, q _ (I.hok.fresh (Nat.le_refl _))⟩
          refine I.laid (t' := s.toks) (fun b o z => Heap.get?_push_of_some _ z) (Nat.le_refl _) (rgO_ok ⟨t1, t2, t3, Heap.get?_push_size _ rfl⟩)
        · exact PyProof.noPylong_small cs
theorem c_lstR (hc : X.calm = true) : CallR X (.type "list") qLstR := by
  intro pins s σ H xs us Q I r h
  obtain ⟨p, i, j, c, n, rfl, hp, rc, hn, q⟩ := h
  obtain ⟨u, rfl, rx⟩ := vals1 r
  obtain rfl : u = .ref p := rx
  obtain ⟨t1, t2, t3, rg⟩ := (I.hok p (RgO p i j c) hp).1
  refine call_list_range (I.ok.hd hc) rg rc.2.2.1 rc.2.2.2 (by omega) ?_
  intro h2 tk acc room keep got its
  refine ⟨.ref s.heap.objs.size, upd H s.heap.objs.size (.lst ((List.range n).map fun t : Nat => V.int (i + (t : Int) * c))), ?_, rfl, q _ (I.hok.fresh (Nat.le_refl _))⟩
  refine I.laid keep (Nat.le_refl _) ?_
  refine ⟨by rw [List.length_map, List.length_range, sizeLine_eq]; omega, acc.toList, room, ?_, got⟩
  refine vals_at (by rw [List.length_range, Array.length_toList, its.1]) fun m v hv => ?_
  rw [Array.getElem?_toList] at hv
  have hm : m < n := by
    have := (Array.getElem?_eq_some_iff.mp hv).1
    rw [its.1] at this; exact this
  obtain ⟨t, rfl⟩ := its.2 m v hv
  exact ⟨m, by rw [List.getElem?_range hm], t, rfl⟩
end
/-! ### readings -/
section
variable {ty td tv te ta : TE} {σ : L2.St} {H : Hp} {Q : VK}
theorem r_makeL {i : Nat} {C : Addr} {sp : Sp} {E : XK} {t : TA} (h : σ[i]? = some (some (.ref C)) ∧ t σ H fun vs H1 => MakeP C sp E vs H1 Q) : tMakeL i C sp [] E t σ H Q := h
theorem r_din (h : ty σ H fun y H1 => td σ H1 fun x H2 => ∃ a o, x = .ref a ∧ DGet H2 a y o ∧ Q (.bl o.isSome) H2) : tDIn ty td σ H Q := h
theorem r_dnotin (h : ty σ H fun y H1 => td σ H1 fun x H2 => ∃ a o, x = .ref a ∧ DGet H2 a y o ∧ Q (.bl (!o.isSome)) H2) : tDNotIn ty td σ H Q := h
theorem r_dget (h : td σ H fun x H1 => ty σ H1 fun y H2 => ∃ a v, x = .ref a ∧ DGet H2 a y (some v) ∧ Q v H2) : tDGet td ty σ H Q := h
theorem r_dnew (h : ∀ p, H p = none → Q (.ref p) (upd H p (.dK []))) : tDNewK σ H Q := h
theorem r_dput {D : Ends} (h : tv σ H fun v H1 => td σ H1 fun x H2 => ty σ H2 fun y H3 => ∃ a H4, x = .ref a ∧ DPut H3 a y v H4 ∧ D.nx σ H4) : sDPut td ty tv D σ H := h
theorem r_lock (h : ∃ d u, H d = some u ∧ Mut (some u) ∧ ∀ od, te σ (upd H d (.frz od u)) fun v H' => H' d = some (.frz od u) ∧ Q v (upd H' d u)) : tLockE te σ H Q := h
end
/-! ### range(g - a, 0, -a) -/
theorem fits {x : Int} (h : x.natAbs < 1000000000) : Builtin.Range.rangeFitsLong x = true := by
  unfold Builtin.Range.rangeFitsLong
  simp
  omega
theorem rg_dn {g : Int} {a : Nat} (ha : 0 < a) (ha1 : a ≤ 1000) (hg : 0 ≤ g) (hg1 : g ≤ 100000) (nd : g = 0 ∨ ¬ (a : Int) ∣ g) : RgC (g - a) 0 (-(a : Int)) (g / (a : Int)).toNat := by
  have q0 : 0 ≤ g / (a : Int) := Int.ediv_nonneg hg (by omega)
  have q1 : g / (a : Int) ≤ g := Int.ediv_le_self _ hg
  have sz : Builtin.Range.rangeSize (g - a) 0 (-(a : Int)) = g / (a : Int) := by
    unfold Builtin.Range.rangeSize
    rw [if_neg (by omega)]
    have m1 := Int.emod_add_mul_ediv g a
    have m2 := Int.emod_nonneg g (show (a : Int) ≠ 0 by omega)
    have m3 := Int.emod_lt_of_pos g (show (0 : Int) < a by omega)
    by_cases h : g - a > 0
    · rw [if_pos h]
      have nz : g % (a : Int) ≠ 0 := by
        intro z
        rcases nd with rfl | nd
        · omega
        · exact nd (Int.dvd_of_emod_eq_zero z)
      have e : (g - (a : Int) - 0 - 1) / (a : Int) = g / (a : Int) - 1 := by
        refine ((Int.ediv_emod_unique (r := g % (a : Int) - 1) (q := g / (a : Int) - 1) (show (0 : Int) < a by omega)).mpr ⟨?_, by omega, by omega⟩).1
        rw [Int.mul_sub, Int.mul_one]; omega
      rw [show -(-(a : Int)) = a by omega, e]; omega
    · rw [if_neg h]
      have gl : g < a := by
        rcases Int.lt_or_eq_of_le (show g ≤ a by omega) with h1 | h1
        · exact h1
        · rcases nd with nd | nd
          · omega
          · exact absurd ⟨1, by omega⟩ nd
      exact (Int.ediv_eq_zero_of_lt hg gl).symm
  refine ⟨by omega, by omega, ?_, by rw [sz]; omega⟩
  unfold Builtin.Range.small
  rw [sz, fits (by omega), fits (by omega), fits (by omega), fits (by omega), if_neg (by omega), fits (by omega)]
  simp
/-! ### {k: v for .. in t} -/
section
variable {K : PySem.W.Frag} {g : TG} {tt : TT} {tk tv ta : TE} {vs : List Nat} {σ : L2.St} {H1 : Hp} {Q : VK}
def DCW (J : It) (g : TG) (tt : TT) (tk tv : TE) (vs : List Nat) (σ : L2.St) (H1 : Hp) (Q : VK) : Prop := ∀ D, H1 D = none →
  ∃ W : Nat → Nat → Hp → Prop, (∃ m, W 0 m (upd H1 D (.dK []))) ∧ ∀ i m H, W i m H → (J.stop i H ∧ Q (.ref D) H) ∨ (J.go i H ∧ ∃ Nx : Hp → Prop, (∀ H', Nx H' → ∃ m', m' < m ∧ W (i + 1) m' H') ∧ ∀ x H', J.yld i H x H' → g x (wipe σ vs) H' fun σ2 H2 => wipe σ2 vs = wipe σ vs ∧ tt σ2 H2 fun b H3 => if b = true then tk σ2 H3 fun y H4 => tv σ2 H4 fun z H5 => ∃ kvs k, y = kV k ∧ H5 D = some (.dK kvs) ∧ kvs.length < sizeLine ∧ Nx (upd H5 D (.dK (putK kvs k z))) else Nx H3)
theorem r_dcT (h : ta σ H1 fun x H1 => ∃ a, x = .ref a ∧ (∃ xs, SqT K H1 a xs) ∧ DCW (Itt K a) g tt tk tv vs σ H1 Q) : tDc (iTup K ta) g tt tk tv vs σ H1 Q := h
theorem dw_tup {a : Addr} {xs : List V} (Pv : Addr → Nat → Hp → Prop) (h0 : ∀ D, H1 D = none → Pv D 0 (upd H1 D (.dK []))) (hl : ∀ D, H1 D = none → ∀ i H, i ≤ xs.length → Pv D i H → SqT K H a xs)
    (hs : ∀ D, H1 D = none → ∀ i x H, xs[i]? = some x → Pv D i H → g x (wipe σ vs) H fun σ2 H2 => wipe σ2 vs = wipe σ vs ∧ tt σ2 H2 fun b H3 => if b = true then tk σ2 H3 fun y H4 => tv σ2 H4 fun z H5 => ∃ kvs k, y = kV k ∧ H5 D = some (.dK kvs) ∧ kvs.length < sizeLine ∧ Pv D (i + 1) (upd H5 D (.dK (putK kvs k z))) else Pv D (i + 1) H3)
    (hd : ∀ D, H1 D = none → ∀ H, Pv D xs.length H → Q (.ref D) H) : DCW (Itt K a) g tt tk tv vs σ H1 Q :=
  fun D hD => dc_tup (Qd := Q (.ref D)) (Pv D) (h0 D hD) (hl D hD) (hs D hD) (hd D hD)
end
theorem r_fmt {te : TE} {σ : L2.St} {H : Hp} {Q : VK} (h : te σ H fun x H1 => (∃ y : Str, x = .str y ∧ y.length ≤ sizeLine ∧ Q (.str y) H1) ∨ ∃ i : Int, x = .int i ∧ i.natAbs.log2 < 1920 ∧ Q (.str (toString i)) H1) : tFmt te σ H Q := h
theorem r_lcK {g : TG} {tt : TT} {te td : TE} {vs : List Nat} {σ : L2.St} {H : Hp} {Q : VK} (h : td σ H fun x H1 => ∃ d o, x = .ref d ∧ ((∃ kvs, H1 d = some (.frz o (.dK kvs)) ∧ LCW (Itk d o kvs) g tt te vs σ H1 Q) ∨ ∃ kvs, H1 d = some (.frz o (.dT kvs)) ∧ LCW (Itkt d o kvs) g tt te vs σ H1 Q)) : tLc (iKeys td) g tt te vs σ H Q := h
/-! ### dicts of numbers -/
/-- the dict at d has just the keys in G -/
def TabAt (H : Hp) (d : Addr) (G : Int → Prop) : Prop := ∃ kvs : List (Key × V), H d = some (.dK kvs) ∧ ∀ x : Int, (valV kvs (.inl x)).isSome = true ↔ G x
theorem TabAt.mono {H H' : Hp} {d : Addr} {G : Int → Prop} (h : TabAt H d G) (s : ∀ b o, H b = some o → H' b = some o) : TabAt H' d G := by
  obtain ⟨kvs, e, k⟩ := h; exact ⟨kvs, s _ _ e, k⟩
theorem TabAt.get {H : Hp} {d : Addr} {G : Int → Prop} (h : TabAt H d G) (x : Int) : ∃ o, DGet H d (.int x) o ∧ (o.isSome = true ↔ G x) := by
  obtain ⟨kvs, e, k⟩ := h
  exact ⟨_, .inl ⟨kvs, .inl x, .inl e, rfl, rfl⟩, k x⟩
theorem r_isin {H : Hp} {d : Addr} {G : Int → Prop} {x : Int} {Q : VK} (h : TabAt H d G) (q : ∀ b : Bool, (b = true ↔ G x) → Q (.bl b) H) : ∃ a o, V.ref d = .ref a ∧ DGet H a (.int x) o ∧ Q (.bl o.isSome) H := by
  obtain ⟨kvs, e, k⟩ := h
  exact ⟨d, _, rfl, .inl ⟨kvs, .inl x, .inl e, rfl, rfl⟩, q _ (k x)⟩
theorem r_notin {H : Hp} {d : Addr} {G : Int → Prop} {x : Int} {Q : VK} (h : TabAt H d G) (q : ∀ b : Bool, (b = true ↔ ¬ G x) → Q (.bl b) H) : ∃ a o, V.ref d = .ref a ∧ DGet H a (.int x) o ∧ Q (.bl (!o.isSome)) H := by
  obtain ⟨kvs, e, k⟩ := h
  refine ⟨d, _, rfl, .inl ⟨kvs, .inl x, .inl e, rfl, rfl⟩, q _ ?_⟩
  rw [← k x]
  cases (valV kvs (Sum.inl x)).isSome <;> simp
theorem tab_put {kvs : List (Key × V)} {G : Int → Prop} {x : Int} {v : V} (k : ∀ x : Int, (valV kvs (.inl x)).isSome = true ↔ G x) (y : Int) : (valV (putK kvs (.inl x) v) (.inl y)).isSome = true ↔ (G y ∨ y = x) := by
  rw [valV_put]
  by_cases h : y = x
  · subst h; simp
  · rw [if_neg (by intro z; exact h (Sum.inl.inj z)), k y]; simp [h]
/-- {g: True for g in t}, of a tuple of numbers that are all unlike -/
def tabKv (ns : List Int) : List (Key × V) := ns.map fun n => (.inl n, V.bl true)
theorem tabKv_get (ns : List Int) (x : Int) : (valV (tabKv ns) (.inl x)).isSome = true ↔ x ∈ ns := by
  induction ns with
  | nil => simp [tabKv, valV]
  | cons n ns ih =>
    by_cases e : n = x
    · subst e
      rw [show tabKv (n :: ns) = (.inl n, V.bl true) :: tabKv ns from rfl, valV_pos rfl]; simp
    · rw [show tabKv (n :: ns) = (.inl n, V.bl true) :: tabKv ns from rfl, valV_neg (by intro z; exact e (Sum.inl.inj z)), ih]
      simp [Ne.symm e]
theorem tabKv_put {ns : List Int} {x : Int} (h : x ∉ ns) : putK (tabKv ns) (.inl x) (V.bl true) = tabKv (ns ++ [x]) := by
  rw [putK_new]
  · unfold tabKv; rw [List.map_append]; rfl
  · have := mt (tabKv_get ns x).mp h
    simpa using this
end Mj
namespace Mj
open PySem PySem.Spec PyProof.Rows L2 Sx Sy
section
variable {σ : L2.St} {H : Hp} {Q : VK} {tl : TA}
theorem r_makeD {C : Addr} {sp : Sp} {E : XK} {v0 : V} (h : tl σ H fun vs H1 => MakeP C sp E (vs ++ [v0]) H1 Q) : tMake C sp [v0] E tl σ H Q := by
  unfold tMake
  simpa only [MakeP, List.append_nil] using h
end
section
variable {K : PySem.W.Frag} {x qual : Str} {st : Stmt} {f ed e : Addr} {fd : FuncData} {ps : List Str} {pr : Arguments} {bd : List Stmt} {sc : Scope}
theorem fund_mk {oc kV doc pm cdv ct tc : Value} {od an td : Option Addr} {osl ts : Array (Option Value)} {tn : Nat}
    (l : K.lookup f = some ⟨oc, od, .func (PySem.W.fnOf x qual (defArgs st) (defBody st) (defScope st) (.ref ed) kV doc pm an cdv ct), osl⟩)
    (ld : K.lookup ed = some ⟨tc, td, .seq #[.ref e] tn, ts⟩) (c : PySem.W.codeIn K cdv qual = true) (k : PySem.W.keepIn K (.ref f) = true) :
    FunD K x qual (defArgs st) (defBody st) (defScope st) [.ref e] [] f (PySem.W.fnOf x qual (defArgs st) (defBody st) (defScope st) (.ref ed) kV doc pm an cdv ct) :=
  ⟨⟨_, _, _, _, _, _, _, _, _, _, rfl, l, c, .inr ⟨by simp, _, _, [.ref e], _, rfl, ld, rfl, .cons rfl .nil⟩, .inl rfl⟩, k⟩
theorem bind_a (F : FunD K x qual pr bd sc [.ref e] [] f fd) (n : Nat) (hn : n = ps.length)
    (h : ∀ (T : Addr) (kV doc pm : Value) (an : Option Addr) (cdv ct : Value) (us its : List Value), us.length = n → its.length = [V.ref e].length →
      ∃ k, bindArgs (PySem.W.fnOf x qual pr bd sc (.ref T) kV doc pm an cdv ct) { pos := us } = seqItems? (.ref T) >>= k ∧ k (some its.toArray) = pure (ps.zip (us ++ List.drop 1 its))) : Binds K fd ps [] := by
  obtain ⟨ds, hv, hb⟩ := F.binds1 n 1 (by simp) (by simpa using hn) h
  cases hv
  exact hb
theorem bind_d (F : FunD K x qual pr bd sc [.ref e] [] f fd) (n : Nat) (hn : n + 1 = ps.length)
    (h : ∀ (T : Addr) (kV doc pm : Value) (an : Option Addr) (cdv ct : Value) (us its : List Value), us.length = n → its.length = [V.ref e].length →
      ∃ k, bindArgs (PySem.W.fnOf x qual pr bd sc (.ref T) kV doc pm an cdv ct) { pos := us } = seqItems? (.ref T) >>= k ∧ k (some its.toArray) = pure (ps.zip (us ++ List.drop 0 its))) : Binds K fd ps [.ref e] := by
  obtain ⟨ds, hv, hb⟩ := F.binds1 n 0 (by simp) (by simpa using hn) h
  cases hv with
  | cons hr hn =>
    cases hn
    cases hr
    exact hb
end
end Mj

namespace Mj
open PySem
theorem kit_no {K : PySem.W.Frag} {t : Value} {C : Addr} (h1 : PySem.W.isClsIn K C = true) (h2 : PySem.W.typeIn K (.ref C) = some (.type "type")) (h3 : PySem.W.subIn K t (.ref C) = some false) (h4 : PySem.W.subIn K (.ref C) (.ref C) = some true) : PySem.W.kitOne K t (.ref C) = some false := by
  unfold PySem.W.kitOne
  split
  · rename_i e
    have e := eq_of_beq e
    subst e
    rw [h4] at h3; cases h3
  · unfold PySem.W.kitCls
    have : (PySem.W.clsIn K C).isSome = true := h1
    simp [this, h2, h3]

end Mj

namespace Mj
open PySem PySem.Spec PyProof.Rows L2
theorem r_cmeth {C : Addr} {sp : Sp} {E : XK} {ta : TE} {t : TA} {σ : L2.St} {H : Hp} {Q : VK} (h : ta σ H fun x H1 => x = .ref C ∧ t σ H1 fun vs H2 => sp (.ref C :: vs) H2 Q E) : ClX.tCMeth C sp E ta t σ H Q := h
end Mj

/-! Ox: an own comparison with a value of any kind. -/
namespace Ox
open PySem PySem.Spec PyProof.Rows L2 Sx Sw
section
variable {X : Cx} {n : Nat} {sp : Sp} {C g : Addr} {fd : FuncData} {ps : List Str}
def qOwnX (K : PySem.W.Frag) (C : Addr) (sp : Sp) : R2 := fun x y H Q => ∃ a dx fs t, x = .ref a ∧ H a = some (.ins C dx fs) ∧ TyX K H y t ∧ PySem.W.notFirst K C t = true ∧ sp [x, y] H Q C8.E0
theorem op_ownX {op : CmpOp} (hop : ∀ a b, compareOp op a b = richCompare op a b) (o : OwnOp X.K C (cmpInfo op).2.1 g) (F : FnOk X.prog X.w X.K X.mg X.base C8.CX0 n g fd ps sp) (hr : Room n X.A) (bd : Binds X.K fd ps []) : OpR X (compareOp op) (qOwnX X.K C sp) := by
  intro pins s σ H x y v u Q I rx ry h
  obtain ⟨a, dx, fs, t, rfl, ha, ty, nf, q⟩ := h
  obtain rfl : v = .ref a := rx
  obtain ⟨mA, J, _⟩ := ins_get I.hok ha
  obtain ⟨od, J, _⟩ := J.look
  obtain ⟨m, fr⟩ := I.fr
  obtain ⟨P, kx, hp, _⟩ := kit_of I ry ty
  rw [hop]
  refine PySem.W.cmp_K (op := op) (tb := t) hr.units0 fr I.ok.mod.kin J (kx.ty _ _ I.kIn hp) nf o.at' o.fn ?_
  have len := F.len _ _ _ _ q
  have both : Vals [V.ref a, y] [Value.ref a, u] := .cons rfl (.cons ry .nil)
  have bind := bd s [.ref a, u] I.kIn (by simpa using len)
  refine wpAny_call (codeAny_mono (F.run X.A X.stack s H ⟨[.ref a, u], []⟩ [.ref a, u] [.ref a, y] Q C8.E0 hr I.env0 (by simpa using bind) both q) ?_)
  intro r s2 hq
  cases r with
  | error e => exact False.elim hq
  | ok fl =>
    cases fl with
    | ret z =>
      obtain ⟨v, H2, I2, rz, qz⟩ := I.after hq
      exact SlX.cmpback rz ⟨v, H2, I2, rz, qz⟩
    | next => exact hq.elim
    | brk => exact hq.elim
    | cont => exact hq.elim
theorem nf_same {K : PySem.W.Frag} {C : Addr} : PySem.W.notFirst K C (.ref C) = true := by simp [PySem.W.notFirst]
end
end Ox

/-! Er: error classes over any built-in one, whose own __init__ keeps one value. -/
namespace Er
open PySem PySem.Spec PyProof.Rows L2 Sx PySem.Builtin.ObjectAttr
/-- the class at C, its __init__ a def at fI, the mro of its built-in base bmB, made by nw -/
structure Own (K : PySem.W.Frag) (C fI : Addr) (bmB : List Value) (nw : String) : Prop where
  made : PySem.W.excInitIn K C bmB nw = true
  over : PySem.W.excOver K C bmB = true
  dict : PySem.W.hasDictIn K C = true
  sets : PySem.W.findIn K (.ref C) "__setattr__" = some (some (.builtin "object.__setattr__"))
  init : PySem.W.findIn K (.ref C) "__init__" = some (some (.ref fI))
  fn : PySem.W.isFn K (.ref fI) = true
  kept : PySem.W.keepIn K (.ref C) = true
  exc : PySem.W.subIn K (.ref C) (.type "BaseException") = some true
  ty : PySem.W.typeIn K (.ref C) = some (.type "type")
  gets : PySem.W.findIn K (.ref C) "__getattribute__" = some (some (.builtin "BaseException.__getattribute__"))
  none' : PySem.W.findIn K (.ref C) "__getattr__" = some none
theorem Own.raises {X : Cx} {C fI : Addr} {bm : List Value} {nw : String} (T : Own X.K C fI bm nw) : Raises X (.ref C) := raises_own T.exc T.ty
theorem Own.field {K : PySem.W.Frag} {C fI : Addr} {bm : List Value} {nw : String} (T : Own K C fI bm nw) : XfC K C := ⟨T.gets, T.none', T.exc, T.dict⟩
section
variable {X : Cx} {pins : List (Addr × Obj)} {σ : L2.St} {H : Hp} {s : Shared} {C fI : Addr} {bm : List Value} {nw B : String}
/-- the first field of a fresh error -/
theorem first_field {a : Addr} {f : Str} {y : V} {u : Value} {Q : Unit → Shared → Prop} {E : Value → Shared → Prop} {A : Around} (T : Own X.K C fI bm nw) (SF : StoreFacts B bm "object.__setattr__" "object")
    (no : PySem.W.findIn X.K (.ref C) f = some none) (I : Inv X pins σ H s) (ha : H a = some (exo a C none)) (r : RelV y u)
    (go : ∀ dx s', H dx = none → dx ≠ a → Inv X pins σ (upd (upd H dx (exd dx [(f, y)])) a (exo a C (some dx))) s' → Q () s') : wpAny (model X.prog X.w) A (setAttr (.ref a) f u) Q E s := by
  obtain ⟨t1, at0⟩ := exo_at I.hok ha
  obtain ⟨cd, hcd, hdict⟩ : ∃ cd, PySem.W.clsIn X.K C = some cd ∧ cd.hasDict = true := PySem.W.any_some T.dict
  obtain ⟨hp, gs, dr, tk, os⟩ := s
  have inst : PySem.W.InstAt hp a { cls := .ref C, dict := none, data := .fields #[.ref t1, .none, .none, .none, .bool false, .none] } C none := ⟨at0, rfl, rfl, trivial⟩
  refine PySem.W.set_plain I.kIn inst T.sets ?_
  have taker : PySem.W.takerIn X.K C f = some none := by unfold PySem.W.takerIn; rw [no]; rfl
  refine PySem.W.osa_openX SF I.kIn inst T.over taker fun bb => ?_
  have know : PySem.W.Looks (model X.prog X.w) hp (classData C) cd := PySem.W.looks_clsIn I.kIn hcd
  have apart : hp.objs.size ≠ a := fun z => Nat.lt_irrefl _ (by have q := Heap.lt_size at0; rw [← z] at q; exact q)
  show wpAny _ _ (storeInOwnDict (.ref a) (.ref C) (.str f tk) f u bb) _ _ _
  obtain ⟨nm, bs, mro, ns, qn, hd, sn, sb, ab, col, dl⟩ := cd
  dsimp only at hdict
  subst hdict
  unfold storeInOwnDict ownDictForStores
  repeat (first | with_reducible refine HandSPX.store_in_new ?_ ?_ | with_reducible refine wpAny_loadPart_at at0 ?_ | with_reducible refine know.at ?_ | wp_step)
  · refine ⟨_, #[], _, (Heap.get?_update_ne _ _ _ _ apart).trans (Heap.get?_push_at rfl rfl), rfl, ?_, fun _ => rfl⟩
    intro z hz
    exact absurd hz (by simp)
  · intro h3 t3 named same
    have at1 : (hp.push { cls := .type "dict", data := .dict #[] }).get? a = some _ := Heap.get?_push_of_some _ at0
    have old : ∀ b o, b ≠ a → hp.get? b = some o → h3.get? b = some o := fun b o hb e => (same.2 b (Nat.ne_of_lt (Heap.lt_size e))).trans ((Heap.get?_update_ne _ _ _ _ hb).trans (Heap.get?_push_of_some _ e))
    have at3 : h3.get? a = some { cls := .ref C, dict := some hp.objs.size, data := .fields #[.ref t1, .none, .none, .none, .bool false, .none] } := (same.2 a (Ne.symm apart)).trans (Heap.get?_update_self _ at1 rfl)
    have newD : H hp.objs.size = none := I.hok.fresh (Nat.le_refl _)
    -- in two steps: the dict beside the error as it was, then the error
    have back : (h3.update a fun _ => { cls := .ref C, dict := none, data := .fields #[.ref t1, .none, .none, .none, .bool false, .none] }).get? a = some { cls := .ref C, dict := none, data := .fields #[.ref t1, .none, .none, .none, .bool false, .none] } := Heap.get?_update_self _ at3 rfl
    have beside : ∀ b, b ≠ a → (h3.update a fun _ => { cls := .ref C, dict := none, data := .fields #[.ref t1, .none, .none, .none, .bool false, .none] }).get? b = h3.get? b := fun b hb => Heap.get?_update_ne _ _ _ _ hb
    have I1 : Inv X pins σ (upd H hp.objs.size (exd hp.objs.size [(f, y)])) ⟨h3.update a fun _ => { cls := .ref C, dict := none, data := .fields #[.ref t1, .none, .none, .none, .bool false, .none] }, gs, dr, t3, os⟩ := by
      refine I.laid (t' := t3) (fun b o e => ?_) (Nat.le_refl _) (exd_ok (named.at fun o q => (beside _ apart).trans q) (relO_put (fs := []) r fun g => True.intro))
      by_cases hb : b = a
      · subst hb; rw [at0] at e; cases e; exact back
      · rw [beside b hb]; exact old b o hb e
    have ha1 : upd H hp.objs.size (exd hp.objs.size [(f, y)]) a = some (exo a C none) := by rw [upd_ne (Ne.symm apart)]; exact ha
    have I2 := I1.write (t' := t3) (h' := h3) (x := a) (e := a) (o := exo a C (some hp.objs.size)) (by rw [ha1]; exact True.intro) (.inl rfl) (fun b o hb e => by rw [beside b hb] at e; exact e) ⟨_, at3⟩ (exo_ok at3)
    exact go _ _ newD apart I2
/-- self.f = e in such an __init__ -/
def tSelf (C : Addr) (f : Str) (to te : TE) : TS := fun D σ H => te σ H fun y H1 => to σ H1 fun x H2 => ∃ a : Addr, x = .ref a ∧ H2 a = some (exo a C none) ∧
  ∀ dx, H2 dx = none → dx ≠ a → D.nx σ (upd (upd H2 dx (exd dx [(f, y)])) a (exo a C (some dx)))
theorem ps_self {o e : Expr} {f : Str} {p1 pos : Pos} {to te : TE} (T : Own X.K C fI bm nw) (SF : StoreFacts B bm "object.__setattr__" "object") (no : PySem.W.findIn X.K (.ref C) f = some none) (ho : PE X o to) (he : PE X e te)
    (sw : swapsWith e (some (.Attribute o f p1)) pos.line X.env = pure false := by rfl) : PS X (.Assign [.Attribute o f p1] e pos) (tSelf C f to te) := by
  constructor
  intro pn s σ H D I now
  refine plainObj_wpAny_Assign_Attribute (thn (he.run pn s σ H _ I now) ?_) sw
  rintro v s1 ⟨y, H1, I1, r1, now1⟩
  refine thn (ho.run pn s1 σ H1 _ I1 now1) ?_
  rintro z s2 ⟨x, H2, I2, r2, a, rfl, ha, go⟩
  obtain rfl : z = Value.ref a := r2
  exact first_field T SF no I2 ha r1 fun dx s' n ne J => ⟨σ, _, J, go dx n ne⟩
end
/-- what __init__ promises -/
def spInit (C : Addr) (f : Str) : Sp := fun vs H Q _ => ∃ (a : Addr) (v : V), vs = [.ref a, v] ∧ H a = some (exo a C none) ∧ ∀ dx, H dx = none → dx ≠ a → Q .non (upd (upd H dx (exd dx [(f, v)])) a (exo a C (some dx)))
theorem r_self {C a : Addr} {f : Str} {to te : TE} {nx bk ct : L2.St → Hp → Prop} {rt : VK} {σ : L2.St} {H : Hp}
    (h : te σ H fun y H1 => to σ H1 fun x H2 => ∃ a : Addr, x = .ref a ∧ H2 a = some (exo a C none) ∧ ∀ dx, H2 dx = none → dx ≠ a → nx σ (upd (upd H2 dx (exd dx [(f, y)])) a (exo a C (some dx)))) : tSelf C f to te ⟨nx, rt, bk, ct⟩ σ H := h
/-- C(e) -/
def tErr (C : Addr) (f : Str) (ta : TA) : L2.St → Hp → XK → Prop := fun σ H Q => ta σ H fun vs H1 => ∃ v, vs = [v] ∧ ∀ d, H1 d = none → Q (.ref C) (some d) (upd H1 d (.xd [(f, v)]))
theorem pmk_err {X : Cx} {x f : Str} {C fI : Addr} {bm : List Value} {nw B ini : String} {k : Nat} {fd : FuncData} {ps : List Str} {e : Expr} {ta : TA} {p pos : Pos} (T : Own X.K C fI bm nw) (F : ExcBaseFacts B nw ini bm)
    (F1 : FnOk X.prog X.w X.K X.mg X.base C8.CX0 k fI fd ps (spInit C f)) (hr : Room (k + 1) X.A) (hb : Binds X.K fd ps []) (hg : Gl X x) (hm : X.mg x = some (.ref C)) (ha : PA X [e] ta)
    (nd : (x == ("__debug__" : Str)) = false := by decide) (he : starEach (e :: []) X.env = (false, eval e X.env) :: starEach [] X.env := by rfl) (hpl : (backTo pos (starEach [] X.env)).any (·.1) = false := by rfl) :
    PMk X (.Call (.Name x p) [e] [] pos) (tErr C f ta) := by
  intro pins s σ H Q I now
  refine wpAny_Call_Name_kw (ld_glob I hg hm ?_ nd)
  refine PySem.W.callWith_K (h₀ := X.base) I.ok.mod.kin T.kept (thn (ha.run pos pins s σ H _ I now) ?_) he hpl
  rintro us s1 ⟨vs, H1, I1, r1, v, rfl, go⟩
  refine ⟨I1.kIn, ?_⟩
  show wpAny _ _ (call (.ref C) us) _ _ _
  obtain ⟨nm, N', qn, bs, bm', hdct, sn, sub, ab, col, dd, k0, k1, k2, k3, k5, hC, tail⟩ := PySem.W.excInit_of I1.kIn T.made
  obtain ⟨hp, g, dr, tk, os⟩ := s1
  cases r1 with
  | @cons _ v' _ us' rv rest =>
    cases rest
    have grow : hp.objs.size ≤ hp.objs.size + 1 := Nat.le_succ _
    have fresh : H1 (hp.objs.size + 1) = none := I1.hok.fresh grow
    have kept : ∀ b o, hp.get? b = some o → ((hp.push (PySem.W.kdv_tup [v'])).push (PySem.HandSPX.excO C hp.objs.size)).get? b = some o := fun b o z => Heap.get?_push_of_some _ (Heap.get?_push_of_some _ z)
    have there : ((hp.push (PySem.W.kdv_tup [v'])).push (PySem.HandSPX.excO C hp.objs.size)).get? (hp.objs.size + 1) = some (PySem.HandSPX.excO C hp.objs.size) := by heap_get
    have I2 : Inv X pins σ (upd H1 (hp.objs.size + 1) (exo (hp.objs.size + 1) C none)) ⟨(hp.push (PySem.W.kdv_tup [v'])).push (PySem.HandSPX.excO C hp.objs.size), g, dr, tk, os⟩ := I1.laid (t' := tk) kept grow (exo_ok there)
    have wish : spInit C f [.ref (hp.objs.size + 1), v] (upd H1 (hp.objs.size + 1) (exo (hp.objs.size + 1) C none))
        (fun w H2 => w = .non ∧ ∃ d : Addr, H2 (hp.objs.size + 1) = some (exo (hp.objs.size + 1) C (some d)) ∧ H2 d = some (exd d [(f, v)]) ∧ H1 d = none ∧ Q (.ref C) (some d) (upd (del H2 (hp.objs.size + 1)) d (.xd [(f, v)]))) (fun _ _ _ => False) := by
      refine ⟨_, v, rfl, upd_same, fun dx n ne => ⟨rfl, dx, upd_same, by rw [upd_ne ne, upd_same], by rw [upd_ne ne] at n; exact n, ?_⟩⟩
      have n1 : H1 dx = none := by rw [upd_ne ne] at n; exact n
      have same : upd (del (upd (upd (upd H1 (hp.objs.size + 1) (exo (hp.objs.size + 1) C none)) dx (exd dx [(f, v)])) (hp.objs.size + 1) (exo (hp.objs.size + 1) C (some dx))) (hp.objs.size + 1)) dx (.xd [(f, v)]) = upd H1 dx (.xd [(f, v)]) := by
        funext b
        by_cases h1 : b = dx
        · subst h1; rw [upd_same, upd_same]
        · rw [upd_ne h1, upd_ne h1]
          by_cases h2 : b = hp.objs.size + 1
          · subst h2; rw [del_same, fresh]
          · rw [del_ne h2, upd_ne h2, upd_ne h1, upd_ne h2]
      rw [same]
      exact go dx n1
    have args : Vals [V.ref (hp.objs.size + 1), v] [Value.ref (hp.objs.size + 1), v'] := .cons rfl (.cons rv .nil)
    have len : ([Value.ref (hp.objs.size + 1), v'] : List Value).length = ps.length := by have z := F1.len _ _ _ _ wish; exact z ▸ rfl
    have isf : PySem.W.typeIn X.K (.ref fI) = some (.type "function") := by
      have z := T.fn
      unfold PySem.W.isFn at z
      exact beq_iff_eq.mp z
    refine wpAny_call (PySem.HandSPX.call_own F tail hC (PySem.W.looks_findIn I1.kIn T.init) (fun self => PySem.W.bind_fn I1.kIn self isf) (by rw [sizeLine_eq]; exact (by decide : (1 : Nat) ≤ 16777216)) ?_)
    refine codeAny_mono (F1.run _ X.stack _ _ ⟨[Value.ref (hp.objs.size + 1), v'], []⟩ [Value.ref (hp.objs.size + 1), v'] _ _ (fun _ _ _ => False) (hr.make C _ []) (I2.env0.make C _ []) ?_ args wish) ?_
    · have z := hb ⟨(hp.push (PySem.W.kdv_tup [v'])).push (PySem.HandSPX.excO C hp.objs.size), g, dr, tk, os⟩ [Value.ref (hp.objs.size + 1), v'] I2.kIn
      rw [List.append_nil] at z
      exact z len
    · intro res s' got
      cases res with
      | error er => exact (show False from got).elim
      | ok fl =>
        cases fl with
        | next => exact False.elim got
        | brk => exact False.elim got
        | cont => exact False.elim got
        | ret u =>
          obtain ⟨w', H2, os2, bare2, un2, hok2, rw', ew, d, ea, ed, hd1, q2⟩ := got
          subst ew
          obtain ⟨h2, g2, d2, t2, os'⟩ := s'
          exact ⟨rw', mk_end T.raises I1 grow kept un2 hok2 os2 bare2 ea ed hd1 q2⟩
theorem ps_err {X : Cx} {W : WX} {x f : Str} {C fI : Addr} {bm : List Value} {nw B ini : String} {k : Nat} {fd : FuncData} {ps : List Str} {e : Expr} {ta : TA} {p pos pos2 : Pos} (hc : X.calm = true) (tk : Takes X W) (T : Own X.K C fI bm nw) (F : ExcBaseFacts B nw ini bm)
    (F1 : FnOk X.prog X.w X.K X.mg X.base C8.CX0 k fI fd ps (spInit C f)) (hr : Room (k + 1) X.A) (hb : Binds X.K fd ps []) (hg : Gl X x) (hm : X.mg x = some (.ref C)) (ha : PA X [e] ta)
    (nd : (x == ("__debug__" : Str)) = false := by decide) (he : starEach (e :: []) X.env = (false, eval e X.env) :: starEach [] X.env := by rfl) (hpl : (backTo pos (starEach [] X.env)).any (·.1) = false := by rfl) :
    PS X (.Raise (some (.Call (.Name x p) [e] [] pos)) none pos2) (fun _ σ H => tErr C f ta σ H fun cls d H' => W cls d σ H') :=
  ps_raise hc tk (pmk_err T F F1 hr hb hg hm ha nd he hpl)
/-- raise C(e), raise C('m'): what comes out -/
def tRaise (C : Addr) (f : Str) (E : XK) (ta : TA) : TS := fun _ σ H => tErr C f ta σ H fun cls d H' => E cls d H'
def tRaise0 (C : Addr) (E : XK) : TS := fun _ _ H => E (.ref C) none H
theorem ps_raise1 {X : Cx} {E : XK} {x f : Str} {C fI : Addr} {bm : List Value} {nw B ini : String} {k : Nat} {fd : FuncData} {ps : List Str} {e : Expr} {ta : TA} {p pos pos2 : Pos} (hc : X.calm = true) (tk : Takes X (fun cls d _ H => E cls d H)) (T : Own X.K C fI bm nw) (F : ExcBaseFacts B nw ini bm)
    (F1 : FnOk X.prog X.w X.K X.mg X.base C8.CX0 k fI fd ps (spInit C f)) (hr : Room (k + 1) X.A) (hb : Binds X.K fd ps []) (hg : Gl X x) (hm : X.mg x = some (.ref C)) (ha : PA X [e] ta)
    (nd : (x == ("__debug__" : Str)) = false := by decide) (he : starEach (e :: []) X.env = (false, eval e X.env) :: starEach [] X.env := by rfl) (hpl : (backTo pos (starEach [] X.env)).any (·.1) = false := by rfl) :
    PS X (.Raise (some (.Call (.Name x p) [e] [] pos)) none pos2) (tRaise C f E ta) := ps_err hc tk T F F1 hr hb hg hm ha nd he hpl
theorem ps_raise0 {X : Cx} {E : XK} {x m : Str} {C : Addr} {bm : List Value} {nw B ini : String} {j : Nat} {p p2 pos pos2 : Pos} (hc : X.calm = true) (tk : Takes X (fun cls d _ H => E cls d H)) (F : ExcBaseFacts B nw ini bm)
    (q : PySem.W.excIn X.K C bm nw = true) (hm : X.mg x = some (.ref C)) (kp : PySem.W.keepIn X.K (.ref C) = true) (ex : PySem.W.subIn X.K (.ref C) (.type "BaseException") = some true) (ty : PySem.W.typeIn X.K (.ref C) = some (.type "type")) (hg : Gl X x)
    (nd : (x == ("__debug__" : Str)) = false := by decide) : PS X (.Raise (some (.Call (.Name x p) [.Constant (.str m) j p2] [] pos)) none pos2) (tRaise0 C E) := ps_raise hc tk (pmk_own F q hm kp (raises_own ex ty) hg nd)
theorem r_raise {C : Addr} {f : Str} {E : XK} {ta : TA} {D : Ends} {σ : L2.St} {H : Hp} (h : ta σ H fun vs H1 => ∃ v, vs = [v] ∧ ∀ d, H1 d = none → E (.ref C) (some d) (upd H1 d (.xd [(f, v)]))) : tRaise C f E ta D σ H := h
theorem r_raise0 {C : Addr} {E : XK} {D : Ends} {σ : L2.St} {H : Hp} (h : E (.ref C) none H) : tRaise0 C E D σ H := h
/-! ### the built-in classes above -/
abbrev bmValueError : List Value := [.type "ValueError", .type "Exception", .type "BaseException", .type "object"]
abbrev bmIndexError : List Value := [.type "IndexError", .type "LookupError", .type "Exception", .type "BaseException", .type "object"]
abbrev bmArithmeticError : List Value := [.type "ArithmeticError", .type "Exception", .type "BaseException", .type "object"]
abbrev bmOverflowError : List Value := [.type "OverflowError", .type "ArithmeticError", .type "Exception", .type "BaseException", .type "object"]
abbrev bmLookupError : List Value := [.type "LookupError", .type "Exception", .type "BaseException", .type "object"]
/-- which class an error is of, for an except clause -/
theorem exm {K : PySem.W.Frag} {R C : Addr} {b : Bool} (h1 : PySem.W.subIn K (.ref R) (.type "BaseException") = some true) (c1 : PySem.W.subIn K (.ref C) (.type "BaseException") = some true) (h2 : PySem.W.isClsIn K C = true) (h3 : PySem.W.typeIn K (.ref C) = some (.type "type")) (h4 : PySem.W.subIn K (.ref R) (.ref C) = some b) :
    PySem.W.exmOne K (.ref R) (.ref C) = some b := by
  have z1 : (PySem.W.subIn K (.ref C) (.type "BaseException") == some true) = true := by rw [c1] <;> rfl
  have z2 : ((PySem.W.clsIn K C).isSome && PySem.W.typeIn K (.ref C) == some (.type "type")) = true := by
    have h2' : (PySem.W.clsIn K C).isSome = true := h2
    rw [h2', h3] <;> rfl
  show (if (PySem.W.subIn K (.ref C) (.type "BaseException") == some true) = true then (if ((PySem.W.clsIn K C).isSome && PySem.W.typeIn K (.ref C) == some (.type "type")) = true then PySem.W.subIn K (.ref R) (.ref C) else none) else none) = some b
  rw [if_pos z1, if_pos z2]
  exact h4
end Er

/-! En: functions that are run where nothing is being shown (repr of a list asks for it), calls of them, and the end of a law with tables. -/
namespace En
open PySem PySem.Spec PyProof.Rows L2 LamX
/-- as FnOk, but only where the guards are known to be none -/
structure FnG (P : Program) (w : World) (K : PySem.W.Frag) (mg : Str → Option Value) (base : Heap) (CX : CXT) (k : Nat) (f : Addr) (fd : FuncData) (ps : List Str) (sp : Sp) : Prop where
  many : ∀ vs H Q E, sp vs H Q E → vs.length = ps.length
  goes : ∀ (A : Around) (outer : List Env) (s : Shared) (H : Hp) (args : Args) (us : List Value) (vs : List V) (Q : VK) (E : XK), A.guards = some [] → Room k A → Env0 P w K mg base A outer s H → BindsTo s fd args (ps.zip us) → Vals vs us → sp vs H Q E →
    codeAny (model P w) A (.call (.ref f) args) (CR CX outer P w H s Q E) s
section
variable {P : Program} {w : World} {K : PySem.W.Frag} {mg : Str → Option Value} {base : Heap} {k : Nat} {f : Addr} {fd : FuncData} {ps : List Str} {sp : Sp}
theorem fnG {x qual : Str} {st : Stmt} {N : List Str} (F : Fun K x qual st f fd) (S : FnScope N ps (defScope st)) (many : ∀ vs H Q E, sp vs H Q E → vs.length = ps.length)
    (go : ∀ (cdv : Value) (A : Around) (outer : List Env) (s : Shared) (H : Hp) (vs : List V) (Q : VK) (E : XK), fd.code = cdv → (A.deeper (envOfC qual (defScope st) s.heap.objs.size f cdv)).guards = some [] → Room k (A.deeper (envOfC qual (defScope st) s.heap.objs.size f cdv)) → sp vs H Q E →
      ∃ t, PSs (cxOf CX0 P w K mg base N qual (defScope st) f cdv A outer s H E).nox (defBody st) t ∧ t { nx := fun _ H' => Q .non H', rt := Q } (start N vs) H) : FnG P w K mg base CX0 (k + 1) f fd ps sp := by
  obtain ⟨oc, od, kV, doc, pm, an, cdv, ct, osl, rfl, lk, code⟩ := F.ex
  refine ⟨many, ?_⟩
  intro A outer s H args us vs Q E clear room e0 binds args' wish
  exact run_ofS lk code S room e0 binds args' (many _ _ _ _ wish) fun room' => (go cdv A outer s H vs Q E rfl clear room' wish).imp fun t z => ⟨z.1.nox, z.2⟩
end
section
variable {X : Cx} {CX : CXT} {k : Nat} {f : Addr} {fd : FuncData} {ps : List Str} {sp : Sp} {E : XK} {x : Str} {p pos : Pos} {e : Expr} {es : List Expr} {t : TA}
/-- a call of such a function, from one of its kind -/
theorem pe_callG (clear : X.A.guards = some []) (F : FnG X.prog X.w X.K X.mg X.base CX k f fd ps sp) (room : Room k X.A) (hg : Gl X x) (hm : X.mg x = some (.ref f)) (hk : PySem.W.keepIn X.K (.ref f) = true) (hb : Binds X.K fd ps []) (pass : Passes CX X E) (ha : PA X (e :: es) t)
    (nd : (x == ("__debug__" : Str)) = false := by decide) (he : starEach (e :: es) X.env = (false, eval e X.env) :: starEach es X.env := by rfl) (hpl : (backTo pos (starEach es X.env)).any (·.1) = false := by rfl) :
    PE X (.Call (.Name x p) (e :: es) [] pos) (tCall sp [] E t) := by
  constructor
  intro pins s σ H Q I now
  refine wpAny_Call_Name_kw (ld_glob I hg hm ?_ nd)
  refine PySem.W.callWith_K (h₀ := X.base) I.ok.mod.kin hk (thn (ha.run pos pins s σ H _ I now) ?_) he hpl
  rintro us s1 ⟨vs, H1, I1, r, wish⟩
  refine ⟨I1.kIn, ?_⟩
  rw [List.append_nil] at wish
  have len : us.length = ps.length := by rw [← r.length]; exact F.many _ _ _ _ wish
  have b := hb s1 us I1.kIn (by rw [List.append_nil]; exact len)
  rw [List.append_nil] at b
  refine wpAny_call (codeAny_mono (F.goes X.A X.stack s1 H1 ⟨us, []⟩ us vs Q E clear room I1.env0 b r wish) ?_)
  intro res s' got
  cases res with
  | error er => exact pass pins σ H1 s1 er s' I1 got
  | ok fl =>
    cases fl with
    | ret u => exact I1.after got
    | next => exact False.elim got
    | brk => exact False.elim got
    | cont => exact False.elim got
end
/-- nothing comes out where nothing may -/
theorem passN {X : Cx} : Passes (L2.CX X.prog X.w) X (fun _ _ _ => False) := fun _ _ _ _ _ _ _ c => by
  obtain ⟨_, _, _, _, _, _, _, _, _, _, _, _, _, _, z⟩ := c

/-- f(lambda: body), told by f's own facts -/
theorem pe_lam {X : Cx} {T : List (Addr × Str)} {TT : (XK → Hp → VK → Prop) → Hp → VK → Prop} {x a : Str} {st : Stmt} {g c P : Addr} {fd : FuncData} {k : Nat} {Ng : List Str} {params : Arguments} {body : Expr} {scope : Scope} {t : XK → TE} {p lpos pos : Pos}
    (F : Fun X.K x x st g fd) (hm : X.mg x = some (.ref g)) (hb : L2.Binds X.K fd [a] []) (Sg : FnScope Ng [a] (defScope st)) (gives : ∀ cdv, GivesTo X Ng x (defScope st) g cdv (defBody st) a (X.env.qual ++ "<lambda>") TT)
    (TB : TabB X.base X.mg c P) (code : X.env.code = .ref c) (hmT : (P, X.env.qual ++ "<lambda>") ∈ T) (hu : ∀ p ∈ T, p.1 = P → p.2 = X.env.qual ++ "<lambda>") (room : Room (k + 2) X.A) (L : LamS X.env.scope scope)
    (run : ∀ (A : Around) (outer : List Env) (s : Shared) (H : Hp) (E : XK) (f c' : Addr), Room k (A.deeper (lamEnv X scope s.heap.objs.size f c')) → PE (lamCx X A outer s H E scope f c') body (t E))
    (hNg : Ng[0]? = some a := by rfl) (hva : Vis (defScope st) a := by exact .inl rfl) (hg : Gl X x := by rfl) (hdef : defaultsOf params X.env = ([], []) := by rfl) (hbind : ∀ (q : Str) (cl : List (Str × Addr)) (pm cv ctv : Value), bindArgs (PySem.W.kla_fn "<lambda>" q params body scope cl pm cv ctv) ⟨[], []⟩ = pure [] := by intros; rfl)
    (hdb : (x == ("__debug__" : Str)) = false := by decide) (hd : (a == ("__debug__" : Str)) = false := by decide) (hcd : (a == ("__classdict__" : Str)) = false := by decide) :
    PE X (.Call (.Name x p) [.Lambda params body scope lpos] [] pos) (tLam T TT t) := by
  obtain ⟨oc, od, kV, doc, pm, an, cdv, ct, osl, rfl, lk, codeF⟩ := F.ex
  exact pe_lamcall hg hm F.kp lk codeF hb Sg hNg hva (gives cdv) TB code hmT hu room L hdef hbind run hdb hd hcd
/-! ### values that are no integers -/
theorem TyOf_mono {K : PySem.W.Frag} {H H' : Hp} (s : ∀ b o, H b = some o → H' b = some o) {x : V} {t : Value} (h : TyOf K H x t) : TyOf K H' x t := by
  cases h with
  | non => exact .non
  | bl x => exact .bl x
  | int i => exact .int i
  | str x => exact .str x
  | flt x => exact .flt x
  | lst e => exact .lst (s _ _ e)
  | frz e => exact .frz (s _ _ e)
  | tup e => exact .tup (s _ _ e)
  | dK e => exact .dK (s _ _ e)
  | dT e => exact .dT (s _ _ e)
  | ins e cl ha hn hk hm => exact .ins (s _ _ e) cl ha hn hk hm
theorem TyX_mono {K : PySem.W.Frag} {H H' : Hp} (s : ∀ b o, H b = some o → H' b = some o) {x : V} {t : Value} (h : TyX K H x t) : TyX K H' x t := by
  cases h with
  | base h => exact .base (TyOf_mono s h)
  | byt b => exact .byt b
  | set e => exact .set (s _ _ e)
  | kList e c => exact .kList e c
  | kTuple e c => exact .kTuple e c
  | kDict e c => exact .kDict e c
  | fTuple e => exact .fTuple (s _ _ e)
  | fDict e => exact .fDict (s _ _ e)
def NoNum (K : PySem.W.Frag) (H : Hp) (v : V) : Prop := ∃ t b1 b2, TyX K H v t ∧ PySem.W.kitOne K t (.type "int") = some b1 ∧ PySem.W.kitOne K t (.type "bool") = some b2 ∧ (b1 && !b2) = false
theorem NoNum.mono {K : PySem.W.Frag} {H H' : Hp} {v : V} (h : NoNum K H v) (s : ∀ b o, H b = some o → H' b = some o) : NoNum K H' v := by
  obtain ⟨t, b1, b2, h1, h2, h3, h4⟩ := h
  exact ⟨t, b1, b2, TyX_mono s h1, h2, h3, h4⟩
theorem noNum_none {K : PySem.W.Frag} {H : Hp} : NoNum K H .non := ⟨_, false, false, .base .non, by rfl, by rfl, rfl⟩
theorem noNum_bl {K : PySem.W.Frag} {H : Hp} (b : Bool) : NoNum K H (.bl b) := ⟨_, true, true, .base (.bl b), by rfl, by rfl, rfl⟩
theorem noNum_str {K : PySem.W.Frag} {H : Hp} (z : Str) : NoNum K H (.str z) := ⟨_, false, false, .base (.str z), by rfl, by rfl, rfl⟩
theorem noNum_lst {K : PySem.W.Frag} {H : Hp} {a : Addr} {xs : List V} (e : H a = some (.lst xs)) : NoNum K H (.ref a) := ⟨_, false, false, .base (.lst e), by rfl, by rfl, rfl⟩
theorem noNum_tup {K : PySem.W.Frag} {H : Hp} {a : Addr} {xs : List V} (e : H a = some (.tup xs)) : NoNum K H (.ref a) := ⟨_, false, false, .base (.tup e), by rfl, by rfl, rfl⟩
theorem noNum_dK {K : PySem.W.Frag} {H : Hp} {a : Addr} {xs : List (Key × V)} (e : H a = some (.dK xs)) : NoNum K H (.ref a) := ⟨_, false, false, .base (.dK e), by rfl, by rfl, rfl⟩
/-! ### the end -/
/-- a tracked heap with which a law begins: the tables, empty, and the script, frozen unless the written part tells it -/
structure Begin (K : PySem.W.Frag) (T : List Addr) (a : Addr) (ns : List Int) (P : Program) (w : World) (h : Heap) (H : Hp) : Prop where
  tab : ∀ b, b ∈ T → H b = some (.tbl #[])
  only : ∀ b, H b = none ∨ b ∈ T ∨ ∃ o u, H b = some (.frz o (.lst u))
  where' : ∀ b, H b ≠ none → b = a ∨ b ∈ T
  script : SqL K H a (ns.map V.int)
  good : HOk P w H h
  out : H a ≠ none → K.lookup a = none
section
variable {P : Program} {w : World} {K : PySem.W.Frag} {mg mb : Str → Option Value} {k : Nat} {fa a : Addr} {cs : List (Addr × Addr)} {fd : FuncData} {x : Str} {sp : Sp} {s₁ : Shared} {vs : List Value} {ns : List Int} {H : Hp}
theorem law_goes (KX : K.In s₁.heap) (G : s₁.heap.Ns mainGlobals mg) (GB : s₁.heap.Ns builtinsNs mb) (boot : ∀ y : Str, y ≠ "__name__" → mb y = bootBuiltins y) (lim : s₁.heap.NoLimit) (bare : s₁.gens = #[])
    (empty : ∀ p ∈ cs, s₁.heap.get? p.2 = some { cls := .none, data := .fields #[] }) (outside : ∀ p ∈ cs, K.lookup p.2 = none) (codes : ∀ p ∈ cs, PySem.W.CodeHd s₁.heap p.1 p.2)
    (bmod : ∃ (bm : Addr) (ob : Obj), mg "__builtins__" = some (.ref bm) ∧ bm ≠ builtinsNs ∧ s₁.heap.get? bm = some ob ∧ ob.cls = .type "module" ∧ ob.dict = some builtinsNs ∧ ob.data = .plain)
    (there : s₁.heap.get? a = some { cls := .type "list", data := .seq vs.toArray }) (room : Room k callerA)
    (F : ∀ base : Heap, K.In base → base.Ns mainGlobals mg → (∀ p ∈ cs, TabB base mg p.1 p.2) → FnG P w K mg base CX0 k fa fd [x] sp) (binds : ∀ (s : Shared) (u : Value), BindsTo s fd ⟨[u], []⟩ [(x, u)])
    (B : Begin K (cs.map (·.2)) a ns P w s₁.heap H) (wish : sp [.ref a] H (fun v _ => v = .bl true) fun _ _ _ => False) :
    codeAny (model P w) callerA (.call (.ref fa) ⟨[.ref a], []⟩) (fun r s' => r = .ok (.ret (.bool true)) ∧ OldK s₁.heap s'.heap ∧ s'.os = s₁.os ∧ AllBare s'.gens) s₁ := by
  have inT : ∀ p ∈ cs, p.2 ∈ cs.map (·.2) := fun p m => List.mem_map.mpr ⟨p, m, rfl⟩
  have atT : ∀ b, b ∈ cs.map (·.2) → s₁.heap.get? b = some { cls := .none, data := .fields #[] } := by
    intro b m
    obtain ⟨p, mp, rfl⟩ := List.mem_map.mp m
    exact empty p mp
  have untracked : ∀ {b : Addr} {o : Obj}, s₁.heap.get? b = some o → (∀ y n, o.data ≠ .seq y n) → o.data ≠ .fields #[] → H b = none := by
    intro b o e n1 n2
    by_cases q : H b = none
    · exact q
    · rcases B.where' b q with rfl | m
      · rw [there] at e; cases e; exact absurd rfl (n1 _ _)
      · rw [atT b m] at e; cases e; exact absurd rfl n2
  have seen : ∀ {b : Addr} {o : Obj}, s₁.heap.get? b = some o → H b = none → (hidT s₁.heap H).get? b = some o := fun e n => hidT_get e n
  have names : ∀ {b : Addr} {m : Str → Option Value}, s₁.heap.Ns b m → (hidT s₁.heap H).Ns b m := by
    rintro b m ⟨o, es, ep, e, dd, r⟩
    refine ⟨o, es, ep, seen e (untracked e ?_ ?_), dd, r⟩
    · intro y n z; rw [dd] at z; cases z
    · intro z; rw [dd] at z; cases z
  have known : K.In (hidT s₁.heap H) := by
    intro b o e
    refine seen (KX b o e) ?_
    by_cases q : H b = none
    · exact q
    · rcases B.where' b q with rfl | m
      · rw [B.out q] at e; cases e
      · obtain ⟨p, mp, rfl⟩ := List.mem_map.mp m
        rw [outside p mp] at e; cases e
  have notDict : ∀ {b : Addr} {m : Str → Option Value} {q : Addr}, s₁.heap.Ns b m → q ∈ cs.map (·.2) → b ≠ q := by
    rintro b m q ⟨o, es, ep, e, dd, _⟩ mq rfl
    rw [atT b mq] at e; cases e; cases dd
  have tabs : ∀ p ∈ cs, TabB (hidT s₁.heap H) mg p.1 p.2 := by
    intro p mp
    refine ⟨?_, ?_, notDict G (inT p mp)⟩
    · obtain ⟨o, us, file, tf, flags, tg, inF, text, tt, e1, r1, r2, r3, r4, rest⟩ := codes p mp
      refine ⟨o, us, file, tf, flags, tg, inF, text, tt, seen e1 (untracked e1 ?_ ?_), r1, r2, r3, r4, rest⟩
      · intro y n z; rw [r2] at z; cases z
      · intro z; rw [r2] at z; cases z; simp at r3
    · obtain ⟨bm, ob, b1, b2, b3, b4, b5, b6⟩ := bmod
      refine ⟨bm, ob, b1, b2, ?_, ?_, seen b3 (untracked b3 ?_ ?_), b4, b5, b6⟩
      · rintro rfl
        obtain ⟨o, es, ep, e, dd, _⟩ := G
        rw [e] at b3; cases b3; rw [dd] at b6; cases b6
      · rintro rfl
        rw [empty p mp] at b3; cases b3; cases b6
      · intro y n z; rw [b6] at z; cases z
      · intro z; rw [b6] at z; cases z
  have base : L2.Mod K mg (hidT s₁.heap H) := ⟨known, names G, ⟨mb, names GB, boot⟩, lim.elim fun mc ⟨h1, h2⟩ => ⟨mc, names h1, h2⟩⟩
  have e0 : Env0 P w K mg (hidT s₁.heap H) callerA [] s₁ H := ⟨rfl, base, fun b o e => of_hidT e, Nat.le_of_eq (hidT_size _ _), trivial, fun b hb => absurd (show b ∈ ([] : List Addr) from hb) (by simp), B.good, .of_eq bare⟩
  refine codeAny_mono ((F _ known (names G) tabs).goes callerA [] s₁ H ⟨[.ref a], []⟩ [.ref a] [.ref a] _ _ rfl room e0 (binds s₁ (.ref a)) (.cons rfl .nil) wish) ?_
  intro r s' got
  cases r with
  | error er => exact (show False from got).elim
  | ok fl =>
    cases fl with
    | next => exact False.elim got
    | brk => exact False.elim got
    | cont => exact False.elim got
    | ret u =>
      obtain ⟨v, H', os, bare', un, good', rv, rfl⟩ := got
      obtain rfl : u = Value.bool true := rv
      have stays : ∀ b o, b ∉ cs.map (·.2) → s₁.heap.get? b = some o → s'.heap.get? b = some o := by
        intro b o nb e
        by_cases q : H b = none
        · exact un.keep b o e q (by intro z; exact absurd (show b ∈ ([] : List Addr) from z) (by simp)) (by simp)
        · rcases B.only b with z | z | ⟨ob, u', z⟩
          · exact absurd z q
          · exact absurd z nb
          · obtain ⟨e1, _⟩ := B.good b _ z
            obtain ⟨e2, _⟩ := good' b _ (un.frzs b ob _ z)
            rw [e] at e1; cases e1; exact e2
      have grown : ∀ p ∈ cs, ∃ more : Array Value, s'.heap.get? p.2 = some { cls := .none, data := .fields more } := by
        intro p mp
        obtain ⟨more, z⟩ := un.tbls p.2 #[] (B.tab _ (inT p mp))
        exact ⟨_, good' p.2 _ z⟩
      refine ⟨rfl, ⟨?_, ?_⟩, os, bare'⟩
      · intro b o e
        by_cases hb : b ∈ cs.map (·.2)
        · obtain ⟨p, mp, rfl⟩ := List.mem_map.mp hb
          obtain ⟨more, hm⟩ := grown p mp
          rw [empty p mp] at e; cases e
          exact .inr (.inl ⟨((codes p mp).tab (empty p mp)).isCodeTable, rfl, #[], more, rfl, by rw [Array.empty_append]; exact hm⟩)
        · exact .inl (stays b o hb e)
      · intro b o e
        by_cases hb : b ∈ cs.map (·.2)
        · obtain ⟨p, mp, rfl⟩ := List.mem_map.mp hb
          obtain ⟨more, hm⟩ := grown p mp
          exact ⟨_, hm⟩
        · exact ⟨o, stays b o hb e⟩
/-- there is such a heap -/
theorem begin_is (KX : K.In s₁.heap) (T : List Addr) (empty : ∀ b ∈ T, s₁.heap.get? b = some { cls := .none, data := .fields #[] }) (there : s₁.heap.get? a = some { cls := .type "list", data := .seq vs.toArray }) (numb : IntsAre vs ns) (few : ns.length ≤ sizeLine) :
    ∃ H, Begin K T a ns P w s₁.heap H := by
  have rv := vals_ints numb
  have lenV := numb.length
  have apart : a ∉ T := by
    intro m
    have q := empty a m
    rw [there] at q; cases q
  have tabOk : ∀ {H : Hp} {b : Addr}, b ∈ T → ObjOk P w H s₁.heap b (.tbl #[]) := fun m => empty _ m
  cases known : K.lookup a with
  | some o =>
    have e := KX a o known
    rw [there] at e; cases e
    refine ⟨fun b => if b ∈ T then some (.tbl #[]) else none, fun b m => if_pos m, fun b => ?_, fun b z => ?_, ?_, fun b u z => ?_, fun z => absurd (if_neg apart) z⟩
    · by_cases m : b ∈ T
      · exact .inr (.inl m)
      · exact .inl (if_neg m)
    · by_cases m : b ∈ T
      · exact .inr m
      · exact absurd (if_neg m) z
    · exact .inr ⟨_, vs.toArray, _, known, rfl, rfl, rfl, by rw [List.size_toArray, lenV]; exact few, by simpa using rv⟩
    · by_cases m : b ∈ T
      · simp only [if_pos m] at z; cases z; exact tabOk m
      · simp only [if_neg m] at z; cases z
  | none =>
    refine ⟨fun b => if b ∈ T then some (.tbl #[]) else if b = a then some (.frz { cls := .type "list", data := .seq vs.toArray } (.lst (ns.map V.int))) else none, fun b m => if_pos m, fun b => ?_, fun b z => ?_, ?_, fun b u z => ?_, fun _ => known⟩
    · by_cases m : b ∈ T
      · exact .inr (.inl m)
      · by_cases q : b = a
        · exact .inr (.inr ⟨{ cls := .type "list", data := .seq vs.toArray }, ns.map V.int, by simp only [if_neg m, if_pos q]⟩)
        · exact .inl (by simp only [if_neg m, if_neg q])
    · by_cases m : b ∈ T
      · exact .inr m
      · by_cases q : b = a
        · exact .inl q
        · exact absurd (show (if b ∈ T then some (HO.tbl #[]) else if b = a then some (HO.frz { cls := .type "list", data := .seq vs.toArray } (.lst (ns.map V.int))) else none) = none by simp only [if_neg m, if_neg q]) z
    · exact .inl (.inr ⟨{ cls := .type "list", data := .seq vs.toArray }, by simp only [if_neg apart, if_pos]⟩)
    · by_cases m : b ∈ T
      · simp only [if_pos m] at z; cases z; exact tabOk m
      · by_cases q : b = a
        · simp only [if_neg m, if_pos q] at z; cases z
          subst q
          exact ⟨there, by rw [List.length_map]; exact few, vs, _, rv, there⟩
        · simp only [if_neg m, if_neg q] at z; cases z
end
/-- what a law's own text has to give at the head's heap -/
def Law (l : PySem.W.OpenLaw) (w : World) (K : PySem.W.Frag) (k n : Nat) (x : Str) (mg : Str → Option Value) (fa : Addr) (h : Heap) : Prop :=
  ∃ (fd : FuncData) (cs : List (Addr × Addr)) (sp : Sp), (∀ p ∈ cs, h.get? p.2 = some { cls := .none, data := .fields #[] } ∧ K.lookup p.2 = none ∧ PySem.W.CodeHd h p.1 p.2) ∧ (∀ (s : Shared) (u : Value), BindsTo s fd ⟨[u], []⟩ [(x, u)]) ∧
    (∀ (H : Hp) (a : Addr) (ns : List Int), ns.length ≤ n → (∀ p ∈ cs, H p.2 = some (.tbl #[])) → SqL K H a (ns.map V.int) → sp [.ref a] H (fun v _ => v = .bl true) fun _ _ _ => False) ∧
    ∀ base : Heap, K.In base → base.Ns mainGlobals mg → (∀ p ∈ cs, TabB base mg p.1 p.2) → FnG l.prog w K mg base CX0 k fa fd [x] sp
theorem walkG {l : PySem.W.OpenLaw} {n k : Nat} {q : Program} {loose : List Str} {XP : (Str → Option Value) → Heap → Prop} {YP : World → Heap → Prop} {d : DefRec} {K : Params → PySem.W.Frag} {x : Str}
    (hn : l.most = some n) (hn2 : n ≤ sizeLine) (hdf : d.params.defaults = []) (room : Room k callerA) (hY : ∀ (w : World) (h : Heap), YP w h → (K w.params).In h)
    (F : ∀ (w : World) (mg : Str → Option Value) (fa : Addr) (h : Heap), YP w h → (K w.params).In h → h.Ns mainGlobals mg → mg d.name = some (.ref fa) → Law l w (K w.params) k n x mg fa h) :
    PySem.W.WalkO q loose XP YP l.row.toRowW d [] (fun f vs => PySem.call f vs) := by
  refine Att.attach_callB hn hdf ?_
  intro w s₀ s₁ mg mb fa o pm cd doc a vs ns G Y ho hd hcd hmg there numb many bits bare
  have KX := hY w _ Y
  obtain ⟨fd, cs, sp, facts, binds, wish, run⟩ := F w mg fa _ Y KX G.T.g hmg
  obtain ⟨H, B⟩ := begin_is (P := l.prog) (w := w) KX (cs.map (·.2)) (by
    intro b m
    obtain ⟨p, mp, rfl⟩ := List.mem_map.mp m
    exact (facts p mp).1) there numb (Nat.le_trans many hn2)
  exact law_goes KX G.T.g G.T.b G.T.builtins G.T.nolimit bare (fun p m => (facts p m).1) (fun p m => (facts p m).2.1) (fun p m => (facts p m).2.2) G.T.bmain there room run binds B (wish H a ns many (fun p m => B.tab _ (List.mem_map.mpr ⟨p, m, rfl⟩)) B.script)
end En

/-! Rp: repr of data, where nothing is being shown. -/
namespace Rp
open PySem PySem.Spec PyProof.Rows L2
/-- data whose text is short, without dicts -/
structure Short (d : PyData) : Prop where
  show' : d.showable = true
  flat : d.hasDict = false
  low : d.depth ≤ 60
  fits : d.shown.length + 64 ≤ sizeLine
def qRepr (K : PySem.W.Frag) : List V → Hp → VK → Prop := fun xs H Q => ∃ x d, xs = [x] ∧ Dp K H x d ∧ Short d ∧ Q (.str d.shown) H
section
variable {X : Cx}
theorem c_repr (clear : X.A.guards = some []) (un : X.A.units + 64 < cLine) : CallR X (.builtin "repr") (qRepr X.K) := by
  intro pins s σ H xs us Q I r now
  obtain ⟨x, d, rfl, dp, sh, q⟩ := now
  obtain ⟨u, rfl, ru⟩ := vals1 r
  have fin : ∀ (t : Tok) (h' : Heap) (tk : Nat), (∀ b o, s.heap.get? b = some o → h'.get? b = some o) → EP X pins σ Q (.str d.shown t) { s with heap := h', toks := tk } :=
    fun t h' tk kp => ⟨.str d.shown, H, I.kept kp, ⟨t, rfl⟩, q⟩
  cases dp with
  | non =>
    obtain rfl : u = Value.none := ru
    exact PySem.P.repr_of_none (fin _ _ _ fun _ _ e => e)
  | bl b =>
    obtain rfl : u = Value.bool b := ru
    refine PySem.P.repr_of_bool ?_
    have z := fin s.toks s.heap (s.toks + 1) fun _ _ e => e
    cases b with
    | true => exact z
    | false => exact z
  | int i =>
    obtain ⟨t, rfl⟩ := (show ∃ t, u = Value.int i t from ru)
    refine PySem.P.repr_of_int (of_decide_eq_true (show decide (i.natAbs.log2 < 1920) = true from sh.show')) ?_
    exact fin _ _ _ fun _ _ e => e
  | str z =>
    obtain ⟨t, rfl⟩ := (show ∃ t, u = Value.str z t from ru)
    exact PySem.P.repr_of_str (fin _ _ _ fun _ _ e => e) (Nat.le_trans (Nat.le_add_right _ 64) sh.fits)
  | @lst a ys ds hs ha =>
    obtain rfl : u = Value.ref a := ru
    obtain ⟨as, rd⟩ := Dp.reads I _ _ _ (.lst hs ha) rfl
    exact repr_of_reads' rd sh.show' (PyData.noDict_hsm sh.flat) clear (by have := sh.low; omega) (fun _ _ e => e) (fun h' t tk kp => fin t h' tk kp) (Nat.le_trans (Nat.le_add_right _ 64) sh.fits)
  | @tup a ys ds hs ha =>
    obtain rfl : u = Value.ref a := ru
    obtain ⟨as, rd⟩ := Dp.reads I _ _ _ (.tup hs ha) rfl
    exact repr_of_reads' rd sh.show' (PyData.noDict_hsm sh.flat) clear (by have := sh.low; omega) (fun _ _ e => e) (fun h' t tk kp => fin t h' tk kp) (Nat.le_trans (Nat.le_add_right _ 64) sh.fits)
end
end Rp
namespace Rp
open PySem PySem.Spec PyProof.Rows L2
/-- x is shown as t: short data, or a dict with nothing in it -/
def Shw (K : PySem.W.Frag) (H : Hp) (x : V) (t : Str) : Prop := (∃ d, Dp K H x d ∧ Short d ∧ t = d.shown) ∨ ∃ a, x = .ref a ∧ H a = some (.dK []) ∧ t = ("{}" : Str)
def qReprX (K : PySem.W.Frag) : List V → Hp → VK → Prop := fun xs H Q => ∃ x t, xs = [x] ∧ Shw K H x t ∧ Q (.str t) H
theorem c_reprX {X : Cx} (clear : X.A.guards = some []) (un : X.A.units + 64 < cLine) : CallR X (.builtin "repr") (qReprX X.K) := by
  intro pins s σ H xs us Q I r now
  obtain ⟨x, t, rfl, ⟨d, dp, sh, rfl⟩ | ⟨a, rfl, e, rfl⟩, q⟩ := now
  · exact c_repr clear un pins s σ H [x] us Q I r ⟨x, d, rfl, dp, sh, q⟩
  · obtain ⟨u, rfl, ru⟩ := vals1 r
    obtain rfl : u = Value.ref a := ru
    obtain ⟨_, hs, vs, hkv, o, es, ep, ho, hc, hda, _, hp, _⟩ := dk_of I.hok e
    cases hkv
    have he : es.toList = [] := by
      cases h : es.toList with
      | nil => rfl
      | cons z zs => rw [h] at hp; cases hp
    have rd : Reads s.heap (.ref a) (.dict []) (a :: [] ++ []) := .dict ho hc.1 hda (by rw [he]; exact .nil) (by rw [he]; exact .nil)
    refine repr_of_reads' rd (by rfl) (fun _ => ?_) clear (by show X.A.units + (1 + 1) < cLine; omega) (fun _ _ e => e) (fun h' t tk kp => ?_) ?_
    · simp only [List.append_nil, List.mem_singleton]
      rintro rfl
      simp at hs
    · have et : (PyData.dict []).shown = ("{}" : Str) := by decide +kernel
      rw [et]
      exact ⟨.str "{}", H, I.kept kp, ⟨t, rfl⟩, q⟩
    · have et : (PyData.dict []).shown = ("{}" : Str) := by decide +kernel
      rw [et]; decide +kernel
theorem Shw.of {K : PySem.W.Frag} {H : Hp} {x : V} {d : PyData} (h : Dp K H x d) (s : Short d) : Shw K H x d.shown := .inl ⟨d, h, s, rfl⟩
theorem Shw.fits {K : PySem.W.Frag} {H : Hp} {x : V} {t : Str} (h : Shw K H x t) : t.length + 64 ≤ sizeLine := by
  rcases h with ⟨d, _, s, rfl⟩ | ⟨a, _, _, rfl⟩
  · exact s.fits
  · decide +kernel
end Rp

/-! Tr: a try with several clauses, some of them with a name. -/
namespace Tr
open PySem PySem.Spec PyProof.Rows L2 Sx
abbrev Clause := Value × Option Nat × (Addr → Value → Option Addr → TS)
/-- behind a suite with a name: its slot is empty again -/
def out (i : Nat) (D : Ends) : Ends := ⟨fun σ H => D.nx (σ.set i none) H, D.rt, fun σ H => D.bk (σ.set i none) H, fun σ H => D.ct (σ.set i none) H⟩
def wAll (K : PySem.W.Frag) (Wout : WX) (D : Ends) : List Clause → WX
  | [] => Wout
  | (c, none, ts) :: r => fun cls d σ H => ∃ k, PySem.W.exmOne K cls c = some k ∧ (k = true → ∀ a, H a = none → ts a cls d D σ H) ∧ (k = false → wAll K Wout D r cls d σ H)
  | (c, some i, ts) :: r => fun cls d σ H => ∃ k, PySem.W.exmOne K cls c = some k ∧ (k = true → ∀ a, H a = none → i < σ.length → ts a cls d (out i D) (σ.set i (some (.ref a))) H) ∧ (k = false → wAll K Wout D r cls d σ H)
inductive Clauses (X : Cx) : List ExceptHandler → List Clause → Prop
  | nil : Clauses X [] []
  | plain {x : Str} {c : Value} {ts : Addr → Value → Option Addr → TS} {st : Stmt} {sts : List Stmt} {p1 p2 : Pos} {hs : List ExceptHandler} {l : List Clause} (n : Names X x c)
      (run : ∀ (a : Addr) (ob : Obj) (cls : Value) (d : Option Addr) (pn : List (Addr × Obj)), Zc cls d ob → (∃ vs, ob.data = .fields vs) → PSs (X.suite a ((a, ob) :: pn)) (st :: sts) (ts a cls d)) (rest : Clauses X hs l) :
      Clauses X (.ExceptHandler (some (.Name x p1)) none (st :: sts) p2 :: hs) ((c, none, ts) :: l)
  | named {x y : Str} {c : Value} {i : Nat} {ts : Addr → Value → Option Addr → TS} {st : Stmt} {sts : List Stmt} {p1 p2 : Pos} {hs : List ExceptHandler} {l : List Clause} (n : Names X x c) (at' : X.N[i]? = some y) (lo : X.env.kindOf y = some .local)
      (run : ∀ (a : Addr) (ob : Obj) (cls : Value) (d : Option Addr) (pn : List (Addr × Obj)), Zc cls d ob → (∃ vs, ob.data = .fields vs) → PSs (X.suite a ((a, ob) :: pn)) (st :: sts) (ts a cls d)) (rest : Clauses X hs l) :
      Clauses X (.ExceptHandler (some (.Name x p1)) (some y) (st :: sts) p2 :: hs) ((c, some i, ts) :: l)
section
variable {X : Cx} {body : List Stmt} {h1 : ExceptHandler} {hs : List ExceptHandler} {l : List Clause} {pos : Pos} {tb : WX → TS} {Wout : WX}
theorem ps_try_all (stk : X.stack = X.env :: X.outer) (frm : X.env.frame = some X.env.locals) (uniq : X.N.Nodup) (tk : Takes X Wout)
    (hb : ∀ (W : WX) (pn : List (Addr × Obj)) (xe : Value → Shared → Prop), Takes (X.tr pn xe) W → PassesOwn (model X.prog X.w) X.A X.env xe → PSs (X.tr pn xe) body (tb W))
    (cl : Clauses X (h1 :: hs) l) : PS X (.Try body (h1 :: hs) [] [] pos) (fun D σ H => tb (wAll X.K Wout D l) D σ H) := by
  constructor
  intro pins s σ H D I now
  have good := I.ok
  have frames : X.A.frames = some (X.env :: X.outer) := by rw [good.frames, stk]
  apply wpAny_Try_except
  have landing : ∀ u s', XE X (wAll X.K Wout D l) u s' → True := fun _ _ _ => trivial
  refine wpAny_mono ((hb (wAll X.K Wout D l) (X.pn ++ pins) _ ?caught PassesOwn.looking).run [] s σ H D (I.toTry _) now) ?ended (fun _ _ z => z)
  case ended =>
    intro f s1 got
    cases f with
    | next => obtain ⟨σ1, H1, J, q⟩ := got; exact wpAny_execs_nil ⟨σ1, H1, J.ofTry good, q⟩
    | brk => obtain ⟨σ1, H1, J, q⟩ := got; exact ⟨σ1, H1, J.ofTry good, q⟩
    | cont => obtain ⟨σ1, H1, J, q⟩ := got; exact ⟨σ1, H1, J.ofTry good, q⟩
    | ret u => obtain ⟨v, σ1, H1, J, r, q⟩ := got; exact ⟨v, σ1, H1, J.ofTry good, r, q⟩
  case caught =>
    rintro u s1 ⟨a, B, s0, pins1, σ1, H1, cls, d, rfl, J0, keep0, same0, air, na, os, gens, wish⟩
    have J : Inv X pins σ1 H1 s0 := J0.ofTry good
    have air1 : Sky B (X.env :: X.outer) a (Zc cls d) X.env.locals s1.heap := stk ▸ air
    show wpAny (model X.prog X.w) X.A (noteFrame (.ref a) X.env) _ _ _
    refine Sky.land Zc.steady frames frm air1 ?_
    intro g2 down2 same2
    have J2 : Inv X pins σ1 H1 { s1 with heap := g2 } := J.landed keep0 down2.1 (same0.trans same2) os gens
    obtain ⟨ob2, vs2, at2, z2, data2⟩ := down2.there
    have noframe : a ∉ frs (X.env :: X.outer) := by
      intro m
      obtain ⟨_, ob3, at3, nf⟩ := down2.2.2.1.mem m
      rw [at2] at at3; cases at3
      exact nf _ data2
    have nL : a ≠ X.env.locals := by
      intro e
      exact noframe (List.mem_filterMap.mpr ⟨X.env, List.mem_cons_self, by rw [frm, e]⟩)
    have nF : a ∉ X.fs := by
      intro m
      obtain ⟨v, hv, q⟩ := List.mem_filterMap.mp m
      exact noframe (List.mem_filterMap.mpr ⟨v, List.mem_cons_of_mem _ hv, q⟩)
    have S2 := J2.suite at2 data2 na nL nF
    have look2 : PySem.W.Looks (model X.prog X.w) g2 (typeOf (.ref a)) cls := fun A Q E s k q => wpAny_typeOf_ref (k _ _ at2) (by rw [z2.1]; exact q)
    have each : ∀ {hs' : List ExceptHandler} {l' : List Clause}, Clauses X hs' l' → wAll X.K Wout D l' cls d σ1 H1 → wpAny (model X.prog X.w) X.A (handleBy (.ref a) X.env hs') (SP X pins D) X.xe { s1 with heap := g2 } := by
      intro hs' l' ok
      induction ok with
      | nil =>
        intro w
        apply wpAny_handleBy_nil
        obtain ⟨k1, k2, k3, ob, vs, T, oT, ts', e1, e2, e3, e4, e5⟩ := id down2
        unfold PySem.passOn
        refine wpAny_bind (wpAny_field e1 e3 e4 ?_)
        rw [if_neg (show ¬ ((Value.ref T == Value.none) = true) by simp)]
        have last : wpAny (model X.prog X.w) X.A (setFlight (.ref a) X.env.frame) (fun _ s4 => wpAny (model X.prog X.w) X.A (throw (.ref a) : Sem Flow) (SP X pins D) X.xe s4) X.xe { s1 with heap := g2 } := by
          rw [frm]
          refine HandSPX.setFlight_upZ down2 ?_
          intro g4 held4 same4
          refine wpAny_throw (tk _ _ ⟨a, B, s0, pins, σ1, H1, cls, d, rfl, J, keep0, (same0.trans same2).trans same4, .inr (.inr ?_), na, os, gens, w⟩)
          rw [stk]; exact held4
        first
          | exact wpAny_bind (wpAny_pure (wpAny_bind last))
          | exact wpAny_bind last
      | @plain x c ts st sts p1 p2 hs2 l2 n run rest ih =>
        rintro ⟨k, hk, yes, no⟩
        refine wpAny_handleBy_cons (codeAny_handlers_test ?_) nofun
        have asked := PySem.W.exm_one (M := model X.prog X.w) J2.kIn look2 hk
        have name : ∀ {Q E : Value → Shared → Prop}, Q c { s1 with heap := g2 } → wpAny (model X.prog X.w) (X.A.mark (some (.ref a))) (eval (.Name x p1) X.env) Q E { s1 with heap := g2 } := by
          intro Q E q
          obtain ⟨gl, nd, m | ⟨m, b, nn⟩⟩ := n
          · exact ld_glob (X := X.suite a ((a, ob2) :: (X.pn ++ pins))) S2 gl m q nd
          · exact ld_blt (X := X.suite a ((a, ob2) :: (X.pn ++ pins))) S2 gl m b q nn nd
        refine name (asked.here ?_)
        cases k with
        | false =>
          show wpAny _ X.A (handleBy (.ref a) X.env hs2) _ _ _
          exact ih (no rfl)
        | true =>
          apply codeAny_handlers_suite
          refine HandSPX.lands_againZ down2 ?_
          intro g4 down4 same4
          have J4 : Inv X pins σ1 H1 { s1 with heap := g4 } := J.landed keep0 down4.1 ((same0.trans same2).trans same4) os gens
          obtain ⟨ob4, vs4, at4, z4, data4⟩ := down4.there
          have S4 := J4.suite at4 data4 na nL nF
          refine wpAny_mono ((run a ob4 cls d (X.pn ++ pins) z4 ⟨_, data4⟩).run [] _ _ H1 _ S4 (yes rfl a na)) ?_ (fun _ _ z => z.elim)
          intro f s6 got
          cases f with
          | next => obtain ⟨σ6, H6, S6, q6⟩ := got; exact ⟨_, _, S6.unsuite good, q6⟩
          | brk => obtain ⟨σ6, H6, S6, q6⟩ := got; exact ⟨_, _, S6.unsuite good, q6⟩
          | cont => obtain ⟨σ6, H6, S6, q6⟩ := got; exact ⟨_, _, S6.unsuite good, q6⟩
          | ret u => obtain ⟨v6, σ6, H6, S6, r6, q6⟩ := got; exact ⟨_, _, _, S6.unsuite good, r6, q6⟩
      | @named x y c i ts st sts p1 p2 hs2 l2 n at' lo run rest ih =>
        rintro ⟨k, hk, yes, no⟩
        refine wpAny_handleBy_cons (codeAny_handlers_test ?_) nofun
        have asked := PySem.W.exm_one (M := model X.prog X.w) J2.kIn look2 hk
        have name : ∀ {Q E : Value → Shared → Prop}, Q c { s1 with heap := g2 } → wpAny (model X.prog X.w) (X.A.mark (some (.ref a))) (eval (.Name x p1) X.env) Q E { s1 with heap := g2 } := by
          intro Q E q
          obtain ⟨gl, nd, m | ⟨m, b, nn⟩⟩ := n
          · exact ld_glob (X := X.suite a ((a, ob2) :: (X.pn ++ pins))) S2 gl m q nd
          · exact ld_blt (X := X.suite a ((a, ob2) :: (X.pn ++ pins))) S2 gl m b q nn nd
        refine name (asked.here ?_)
        cases k with
        | false =>
          show wpAny _ X.A (handleBy (.ref a) X.env hs2) _ _ _
          exact ih (no rfl)
        | true =>
          apply codeAny_handlers_suite_as
          refine HandSPX.lands_againZ down2 ?_
          intro g4 down4 same4
          have J4 : Inv X pins σ1 H1 { s1 with heap := g4 } := J.landed keep0 down4.1 ((same0.trans same2).trans same4) os gens
          obtain ⟨ob4, vs4, at4, z4, data4⟩ := down4.there
          have S4 := J4.suite at4 data4 na nL nF
          refine store_ok (X := X.suite a ((a, ob4) :: (X.pn ++ pins))) (v := .ref a) S4 uniq at' (.inl lo) rfl ?_ (.inr lo)
          intro s5 S5
          have slot : i < σ1.length := by rw [J.len]; exact (List.getElem?_eq_some_iff.mp at').1
          refine wpAny_mono ((run a ob4 cls d (X.pn ++ pins) z4 ⟨_, data4⟩).run [] s5 _ H1 _ S5 (yes rfl a na slot)) ?_ (fun _ _ z => z.elim)
          intro f s6 got
          have gone : ∀ {σ6 : L2.St} {H6 : Hp} {Q : Shared → Prop}, Inv (X.suite a ((a, ob4) :: (X.pn ++ pins))) [] σ6 H6 s6 → (∀ s7, Inv X pins (σ6.set i none) H6 s7 → Q s7) →
              wpAny (model X.prog X.w) X.A (do bindName X.env y .none; unbindBehindTheSuite X.env y p2) (fun _ s7 => Q s7) X.xe s6 := by
            intro σ6 H6 Q S6 hq
            exact gone_ok (S6.unsuite good) uniq at' lo hq
          cases f with
          | next => obtain ⟨σ6, H6, S6, q6⟩ := got; exact gone S6 fun s7 J7 => ⟨_, _, J7, q6⟩
          | brk => obtain ⟨σ6, H6, S6, q6⟩ := got; exact gone S6 fun s7 J7 => ⟨_, _, J7, q6⟩
          | cont => obtain ⟨σ6, H6, S6, q6⟩ := got; exact gone S6 fun s7 J7 => ⟨_, _, J7, q6⟩
          | ret u => obtain ⟨v6, σ6, H6, S6, r6, q6⟩ := got; exact gone S6 fun s7 J7 => ⟨_, _, _, J7, r6, q6⟩
    exact each cl wish
end
end Tr

/-! Ln: heaps in which dice and tables change. -/
namespace Ln
open PySem PySem.Spec PyProof.Rows L2 Sx LamX
/-- all but the dice at d and the tables stands as it stood -/
structure KpN (d : Addr) (H H' : Hp) : Prop where
  k : ∀ b o, b ≠ d → (∀ ps, o ≠ .tbl ps) → H b = some o → H' b = some o
  d1 : Dice H' d
theorem KpN.of {d : Addr} {H H' : Hp} (a : Kp d H H') : KpN d H H' := ⟨fun b o n _ e => a.k b o n e, a.d1⟩
theorem KpN.kp {d : Addr} {H H1 H2 : Hp} (a : KpN d H H1) (b : Kp d H1 H2) : KpN d H H2 := ⟨fun c o n t e => b.k c o n (a.k c o n t e), b.d1⟩
theorem KpN.trans {d : Addr} {H H1 H2 : Hp} (a : KpN d H H1) (b : KpN d H1 H2) : KpN d H H2 := ⟨fun c o n t e => b.k c o n t (a.k c o n t e), b.d1⟩
theorem dice_ext {d : Addr} {H H1 : Hp} (e : ExtN H H1) (h : Dice H d) : Dice H1 d := by
  obtain ⟨x, y, z, q⟩ := h
  exact ⟨x, y, z, e _ _ q fun ps z => by cases z⟩
theorem KpN.ext {d : Addr} {H H1 H2 : Hp} (a : KpN d H H1) (e : ExtN H1 H2) : KpN d H H2 := ⟨fun c o n t q => e c o (a.k c o n t q) t, dice_ext e a.d1⟩
theorem KpN.same {d : Addr} {H H1 H2 : Hp} (a : KpN d H H1) (s : Same H1 H2) : KpN d H H2 := a.ext (ExtN.of s)
theorem KpN.refl {d : Addr} {H : Hp} (h : Dice H d) : KpN d H H := ⟨fun _ _ _ _ e => e, h⟩
theorem tabs_kp {T : List (Addr × Str)} {d : Addr} {H H' : Hp} (t : Tabs T H) (h : Dice H d) (a : Kp d H H') : Tabs T H' := by
  obtain ⟨x, y, z, hd⟩ := h
  intro p hp
  obtain ⟨ps, h1, h2, h3⟩ := t p hp
  have go : ∀ b o, H b = some o → (∀ xs, o ≠ .lst xs) → H' b = some o := fun b o e n => a.k b o (fun q => by rw [q, hd] at e; exact n _ (Option.some.inj e).symm) e
  refine ⟨ps, go _ _ h1 (fun xs z => by cases z), h2, fun pos cv hc => ?_⟩
  obtain ⟨c, e1, e2⟩ := h3 pos cv hc
  exact ⟨c, e1, go _ _ e2 (fun xs z => by unfold CodeO at z; cases z)⟩
theorem tabs_same {T : List (Addr × Str)} {H H' : Hp} (t : Tabs T H) (s : Same H H') : Tabs T H' := t.ext s
theorem seq_extN {K : PySem.W.Frag} {H H' : Hp} {a : Addr} {xs : List V} (e : ExtN H H') (h : SqL K H a xs) : SqL K H' a xs := by
  rcases h with (h | ⟨o, h⟩) | h
  · exact .inl (.inl (e _ _ h fun ps z => by cases z))
  · exact .inl (.inr ⟨o, e _ _ h fun ps z => by cases z⟩)
  · exact .inr h
/-- behind rounds with fresh dice -/
theorem extN_dice {H H1 H2 H3 : Hp} {d : Addr} (e : ExtN H H1) (n : H1 d = none) (s : Same H1 H2) (k : KpN d H2 H3) : ExtN H H3 := fun b o q t =>
  have q1 := e b o q t
  k.k b o (fun z => by rw [z, n] at q1; cases q1) t (s _ _ q1)
end Ln
namespace Ln
open PySem PySem.Spec PyProof.Rows L2 Sx LamX
theorem kpn_mut {d p : Addr} {H H1 : Hp} {o : HO} (a : KpN d H H1) (e : H p = none) (n : p ≠ d) : KpN d H (upd H1 p o) := by
  refine ⟨fun b x nb t q => ?_, ?_⟩
  · rw [upd_ne (ne_of_none q e)]; exact a.k b x nb t q
  · obtain ⟨x, y, z, h⟩ := a.d1
    exact ⟨x, y, z, by rw [upd_ne (Ne.symm n)]; exact h⟩
theorem tabs_mut {T : List (Addr × Str)} {p : Addr} {H : Hp} {xs : List V} {o' : HO} (t : Tabs T H) (h : H p = some (.lst xs)) : Tabs T (upd H p o') := by
  intro q hq
  obtain ⟨ps, h1, h2, h3⟩ := t q hq
  have go : ∀ b o, H b = some o → (∀ xs, o ≠ .lst xs) → (upd H p o') b = some o := fun b o e n => by
    rw [upd_ne (fun z => by rw [z, h] at e; exact n _ (Option.some.inj e).symm)]; exact e
  refine ⟨ps, go _ _ h1 (fun xs z => by cases z), h2, fun pos cv hc => ?_⟩
  obtain ⟨c, e1, e2⟩ := h3 pos cv hc
  exact ⟨c, e1, go _ _ e2 (fun xs z => by unfold CodeO at z; cases z)⟩
theorem KpN.at_ {d p : Addr} {H H1 : Hp} {o : HO} (a : KpN d H H1) (e : H p = some o) (n : p ≠ d) (t : ∀ ps, o ≠ .tbl ps) : H1 p = some o := a.k p o n t e
end Ln
namespace Ln
open PySem PySem.Spec PyProof.Rows L2 Sx LamX
theorem kpn_mut2 {d p : Addr} {H H1 H2 : Hp} {o : HO} (a : KpN d H H1) (e : H1 p = none) (b : KpN d H H2) : KpN d H (upd H2 p o) := by
  have n : p ≠ d := by
    obtain ⟨x, y, z, h⟩ := a.d1
    exact (ne_of_none h e).symm
  refine ⟨fun q x nq t h => ?_, ?_⟩
  · rw [upd_ne (ne_of_none (a.k q x nq t h) e)]; exact b.k q x nq t h
  · obtain ⟨x, y, z, h⟩ := b.d1
    exact ⟨x, y, z, by rw [upd_ne (Ne.symm n)]; exact h⟩
end Ln

/-! Px: a property that raises. -/
namespace Px
open PySem PySem.Spec PyProof.Rows L2
theorem note_no {M : Model} {A : Around} {a R : Addr} {oe oR : Obj} {cd : ClassData} {s : Shared} {o nm : Value} {Q : Unit → Shared → Prop} {E : Value → Shared → Prop}
    (h1 : s.heap.get? a = some oe) (h2 : oe.cls = .ref R) (h3 : s.heap.get? R = some oR) (h4 : oR.data = .cls cd) (h5 : cd.mro.isEmpty = false) (h6 : cd.mro.contains (.type "AttributeError") = false) (q : Q () s) :
    wpAny M A (noteIf true o nm (.ref a)) Q E s := by
  unfold noteIf noteAttr lacksNameAndObj isInstance isSubtype mroOf classData
  simp only [if_true]
  wp_step
  wp_step
  wp_step
  refine wpAny_typeOf_ref h1 ?_
  rw [h2]
  wp_step
  wp_step
  wp_step
  refine wpAny_load h3 ?_
  rw [h4]
  wp_step
  wp_step
  simp only [h5, h6, Bool.false_eq_true, if_false]
  wp_step
  simp only [Bool.not_false, if_true]
  wp_step
  simp only [Bool.false_eq_true, if_false]
  wp_step
  exact q
/-- the class R is none that a look-up would note -/
def NoAtt (K : PySem.W.Frag) (cls : Value) : Prop := ∃ R, cls = .ref R ∧ PySem.W.mroIn K R (.type "AttributeError") = some false
def tPropX (K : PySem.W.Frag) (C : Addr) (sp : Sp) (dvs : List V) (E : XK) (ta : TE) : TE := fun σ H Q => ta σ H fun x H1 => ∃ a dx fs, x = .ref a ∧ H1 a = some (.ins C dx fs) ∧ sp (.ref a :: dvs) H1 Q (fun cls d H' => NoAtt K cls ∧ E cls d H')
section
variable {X : Cx} {k : Nat} {C p g a dx : Addr} {fs : List (Str × V)} {f : Str} {fd : FuncData} {ps : List Str} {sp : Sp} {dvs : List V} {ds : List Value} {E : XK} {pins : List (Addr × Obj)} {σ : L2.St} {H : Hp} {s : Shared} {Q : VK} {b : Bool}
theorem getprop_okX (I : Inv X pins σ H s) (ea : H a = some (.ins C dx fs)) (c : Cls X.K C) (hp : PropOf X.K C f p g) (F : FnOk X.prog X.w X.K X.mg X.base (L2.CX X.prog X.w) k g fd ps sp) (hr : Room (k + 1) X.A) (hb : Binds X.K fd ps ds) (hd : Vals dvs ds) (hx : Passes (L2.CX X.prog X.w) X E)
    (h : sp (.ref a :: dvs) H Q (fun cls d H' => NoAtt X.K cls ∧ E cls d H')) : wpAny (model X.prog X.w) X.A (getAttr (.ref a) f b) (EP X pins σ Q) X.xe s := by
  obtain ⟨mA, O, _⟩ := ins_get I.hok ea
  obtain ⟨od, J, _⟩ := O.look
  obtain ⟨rest, hrec⟩ := hp.rec_
  have I1 := I.tok (s.toks + 1)
  have hl : ([Value.ref a] ++ ds).length = ps.length := by
    rw [← F.len _ _ _ _ h]
    simp [hd.length]
  obtain ⟨cd, hcd, _⟩ : ∃ cd, PySem.W.clsIn X.K C = some cd ∧ cd.hasDict = true := PySem.W.any_some c.hd
  refine PySem.W.get_bind I.kIn J (PySem.W.plainGet_of (c.get f)).1 (PySem.W.findObj_data (by rw [hcd]; rfl) hp.at_ hp.get hp.tak) (PySem.W.plainGet_of (c.get f)).2 ?_
  refine wpAny_call (PySem.W.prop_get I.kIn hrec (codeAny_mono (F.run X.A.in1 X.stack _ H ⟨[.ref a], []⟩ (.ref a :: ds) (.ref a :: dvs) Q _ hr.in1 I1.env0.in1 (hb _ [.ref a] I1.kIn hl) (.cons rfl hd) h) ?_))
  intro r s' hq
  cases r with
  | error er =>
    have hq : L2.CX X.prog X.w X.stack H { s with toks := s.toks + 1 } (fun cls d H' => NoAtt X.K cls ∧ E cls d H') er s' := hq
    obtain ⟨a3, B3, H3, cls3, d3, u1, u2, u3, u4, u5, u6, u7, ⟨⟨R, rfl, hm⟩, u8⟩⟩ := id hq
    subst u1
    have hE : L2.CX X.prog X.w X.stack H { s with toks := s.toks + 1 } E (.ref a3) s' := ⟨a3, B3, H3, _, d3, rfl, u2, u3, u4, u5, u6, u7, u8⟩
    have last := hx pins σ H _ _ s' I1 hE
    obtain ⟨oe, vs, T, oT, ts, g1, g2, _⟩ := u2.2.2.2
    obtain ⟨a2, B, sI, pins2, σ2, H2, cls, d, e1, I2, hB, hU, _⟩ := XE.of_call (W := fun cls d _ H' => NoAtt X.K cls ∧ E cls d H') I1 (fun _ _ _ z => z) hq
    obtain ⟨cdR, hcl, he⟩ := Option.bind_eq_some_iff.mp (show (PySem.W.clsIn X.K R).bind _ = some false from hm)
    have h5 : cdR.mro.isEmpty = false := by
      cases e : cdR.mro.isEmpty with
      | false => rfl
      | true => rw [if_pos e] at he; cases he
    rw [if_neg (by rw [h5]; decide)] at he
    have h6 := Option.some.inj he
    obtain ⟨oR, hR, hd4⟩ : ∃ o, X.K.lookup R = some o ∧ o.data = .cls cdR := by
      unfold PySem.W.clsIn at hcl
      split at hcl
      · rename_i heq
        cases hcl
        exact ⟨_, heq, rfl⟩
      · cases hcl
    have hI := I2.kIn R oR hR
    obtain ⟨sl, hs'⟩ := hU R oR hI (fun vs z => by rw [hd4] at z; cases z)
    show wpAny _ _ (noteIf true _ _ (.ref a3)) _ _ _
    exact note_no g1 g2.1 hs' hd4 h5 h6 last
  | ok fl =>
    cases fl with
    | ret u =>
      obtain ⟨v, H', I3, rv, q3⟩ := I1.after hq
      show wpAny _ _ (handedOut u) _ _ _
      rw [PySem.W.handedOut_of (handed_of rv)]
      exact wpAny_pure ⟨v, H', I3, rv, q3⟩
    | next => exact False.elim hq
    | brk => exact False.elim hq
    | cont => exact False.elim hq
theorem pe_propX {e : Expr} {pos : Pos} {ta : TE} (he : PE X e ta) (c : Cls X.K C) (hp : PropOf X.K C f p g) (F : FnOk X.prog X.w X.K X.mg X.base (L2.CX X.prog X.w) k g fd ps sp) (hr : Room (k + 1) X.A) (hb : Binds X.K fd ps ds) (hd : Vals dvs ds) (hx : Passes (L2.CX X.prog X.w) X E)
    (hab : attributeBase e f X.env (eval e X.env) = eval e X.env) : PE X (.Attribute e f pos) (tPropX X.K C sp dvs E ta) := by
  constructor
  intro pins s σ H Q I h
  refine attr_of hab (thn (he.run pins s σ H _ I h) ?_)
  rintro u s1 ⟨x, H1, I1, rx, a, dx, fs, rfl, ea, q⟩
  obtain rfl : u = .ref a := rx
  exact getprop_okX I1 ea c hp F hr hb hd hx q
theorem pe_propXK {K : PySem.W.Frag} {e : Expr} {pos : Pos} {ta : TE} (hK : X.K = K) (he : PE X e ta) (c : Cls K C) (hp : PropOf K C f p g) (F : FnOk X.prog X.w K X.mg X.base (L2.CX X.prog X.w) k g fd ps sp) (hr : Room (k + 1) X.A) (hb : Binds K fd ps ds) (hd : Vals dvs ds) (hx : Passes (L2.CX X.prog X.w) X E)
    (hab : attributeBase e f X.env (eval e X.env) = eval e X.env) : PE X (.Attribute e f pos) (tPropX K C sp dvs E ta) := by
  subst hK; exact pe_propX he c hp F hr hb hd hx hab
theorem r_tpropX {K : PySem.W.Frag} {ta : TE} (h : ta σ H fun x H1 => ∃ a dx fs, x = .ref a ∧ H1 a = some (.ins C dx fs) ∧ sp (.ref a :: []) H1 Q (fun cls d H' => NoAtt K cls ∧ E cls d H')) : tPropX K C sp [] E ta σ H Q := h
end
end Px

/-! Mn: min and max of a tuple of ints. -/
namespace Mn
open PySem PySem.Spec PyProof.Rows L2 Sx Me
theorem fold_min : ∀ (ns : List Int) (n : Int), (ns.foldl min n ∈ n :: ns) ∧ ∀ y ∈ n :: ns, ns.foldl min n ≤ y
  | [], n => ⟨List.mem_cons_self, fun y hy => by rw [List.mem_singleton.mp hy]; exact Int.le_refl _⟩
  | m :: ns, n => by
    rw [List.foldl_cons]
    obtain ⟨h1, h2⟩ := fold_min ns (min n m)
    refine ⟨?_, fun y hy => ?_⟩
    · rcases List.mem_cons.mp h1 with e | e
      · rw [e]
        rcases Int.le_total n m with z | z
        · rw [Int.min_eq_left z]; exact List.mem_cons_self
        · rw [Int.min_eq_right z]; exact List.mem_cons_of_mem _ List.mem_cons_self
      · exact List.mem_cons_of_mem _ (List.mem_cons_of_mem _ e)
    · have h3 := h2 _ List.mem_cons_self
      rcases List.mem_cons.mp hy with e | e
      · rw [e]; exact Int.le_trans h3 (Int.min_le_left _ _)
      · rcases List.mem_cons.mp e with e | e
        · rw [e]; exact Int.le_trans h3 (Int.min_le_right _ _)
        · exact h2 _ (List.mem_cons_of_mem _ e)
section
variable {X : Cx}
def rMinT (K : PySem.W.Frag) : List V → Hp → VK → Prop := fun vs H Q => ∃ (a : Addr) (ns : List Int), vs = [V.ref a] ∧ SqT K H a (ns.map V.int) ∧ 0 < ns.length ∧ ∀ m, m ∈ ns → (∀ y, y ∈ ns → m ≤ y) → Q (.int m) H
theorem cr_minT (hc : X.calm = true) (hu : X.A.units + 64 < cLine) : CallR X (.builtin "min") (rMinT X.K) := by
  intro pins s σ H vs us Q I r h
  obtain ⟨a, ns, rfl, hs, hne, q⟩ := h
  obtain ⟨its, rv, tp, _⟩ := I.tuple hs
  rw [Vals.ref1 r]
  cases ns with
  | nil => exact absurd hne (Nat.lt_irrefl 0)
  | cons n ns =>
    obtain ⟨as, rd⟩ := Dp.readsAll I _ _ _ (dpI (n :: ns)) rv
    refine PySem.W.min_tuple_data (I.ok.hd hc) tp rd ?_ ?_ ?_
    · have all : ∀ x ∈ PyData.int n :: ns.map PyData.int, ∃ i : Int, x = .int i := by
        intro x hx
        obtain ⟨i, _, rfl⟩ := List.mem_map.mp (show x ∈ (n :: ns).map PyData.int from hx)
        exact ⟨i, rfl⟩
      refine ⟨fun x hx y hy => ?_, fun x hx => ?_⟩
      · obtain ⟨i, rfl⟩ := all x hx
        obtain ⟨j, rfl⟩ := all y hy
        simp [PySem.W.alike]
      · obtain ⟨i, rfl⟩ := all x hx
        exact fun z => nomatch z
    · have := deep_ints (n :: ns)
      have e : PyData.depthAll (PyData.int n :: ns.map PyData.int) ≤ 1 := this
      show X.A.units + 1 + PyData.depthAll (PyData.int n :: ns.map PyData.int) < cLine
      omega
    · intro i v h' tk bs _ rd' hk
      rw [PySem.W.minD_ints] at rd'
      obtain ⟨h1, h2⟩ := fold_min ns n
      cases rd'
      exact ⟨.int _, H, I.kept hk, ⟨_, rfl⟩, q _ h1 h2⟩
end
end Mn

/-! Rt: t[::-1] of a tuple -/
namespace Rt
open PySem PySem.Spec PyProof.Rows L2 Sx Sy
theorem fm_congr {α β : Type} {f g : α → Option β} : ∀ {l : List α}, (∀ x, x ∈ l → f x = g x) → l.filterMap f = l.filterMap g
  | [], _ => rfl
  | x :: l, h => by
    rw [List.filterMap_cons, List.filterMap_cons, h x (List.mem_cons_self ..), fm_congr fun y hy => h y (List.mem_cons_of_mem _ hy)]
theorem pick_all {α : Type} (m : List α) : ∀ n, (List.range n).filterMap (fun k => m[k]?) = m.take n
  | 0 => by simp
  | n + 1 => by
    rw [List.range_succ, List.filterMap_append, pick_all m n, List.take_add_one]
    cases h : m[n]? with
    | none => simp [h]
    | some x => simp [h]
theorem pick_rev {α : Type} (l : List α) : (List.range l.length).filterMap (fun k : Nat => l[((l.length : Int) - 1 + (k : Int) * -1).toNat]?) = l.reverse := by
  have e : (List.range l.length).filterMap (fun k : Nat => l[((l.length : Int) - 1 + (k : Int) * -1).toNat]?) = (List.range l.length).filterMap (fun k => l.reverse[k]?) := by
    apply fm_congr
    intro k hk
    rw [List.mem_range] at hk
    rw [List.getElem?_reverse hk]
    congr 1
    omega
  rw [e, pick_all, List.take_of_length_le (by rw [List.length_reverse]; exact Nat.le_refl _)]
section
variable {prog : Program} {w : World} {A : Around} {E : Value → Shared → Prop} {s : Shared}
theorem applied_back {sl : Addr} {u : Tok} {n : Nat} {Q : Int × Int × Nat → Shared → Prop} (hs : s.heap.IsSliceOf sl .none .none (.int (-1) u)) (h : Q ((n : Int) - 1, -1, n) s) : wpAny (model prog w) A (Builtin.Slice.sliceApplied (.ref sl) (pure (n : Int))) Q E s := by
  obtain ⟨os, hos, hcs, hds⟩ := hs
  unfold Builtin.Slice.sliceApplied Builtin.Slice.sliceFields
  refine wpAny_bind (wpAny_bind (wpAny_field hos hds rfl (wpAny_bind (wpAny_field hos hds rfl (wpAny_bind (wpAny_field hos hds rfl (wpAny_pure ?_)))))))
  refine wpAny_bind (slicePart_int ?_)
  show wpAny _ _ (if ((-1 : Int) == 0) = true then _ else _) _ _ _
  rw [if_neg (by decide)]
  refine wpAny_bind (slicePart_none (wpAny_bind (slicePart_none (wpAny_bind (wpAny_pure ?_)))))
  have e : Builtin.Slice.slicePlaces ((n : Int) - 1) (-1) (-1) = n := by
    unfold Builtin.Slice.slicePlaces
    rw [if_neg (by decide)]
    by_cases z : n = 0
    · subst z; decide
    · rw [if_pos (by omega)]
      show (((n : Int) - 1 - -1 - 1) / 1 + 1).toNat = n
      rw [Int.ediv_one]; omega
  show wpAny _ _ (pure (((n : Int) - 1), (-1 : Int), Builtin.Slice.slicePlaces ((n : Int) - 1) (-1) (-1))) _ _ _
  rw [e]
  exact wpAny_pure h
theorem get_rev {t sl : Addr} {items : Array Value} {u : Tok} {Q : Value → Shared → Prop} (ht : IsTup s.heap t items) (hs : s.heap.IsSliceOf sl .none .none (.int (-1) u))
    (h : Q (.ref s.heap.objs.size) { s with heap := s.heap.push { cls := .type "tuple", data := .seq items.toList.reverse.toArray } }) (n0 : items.size ≤ sizeLine) : wpAny (model prog w) A (getItem (.ref t) (.ref sl)) Q E s := by
  obtain ⟨os, hos, hcs, hds⟩ := id hs
  refine wpAny_holding (wpAny_bind (wpAny_sequenceKey ht.typeIs (by decide) (wpAny_bind (wpAny_callSpecial?_slot ht.typeIs slot_tuple_getitem (wpAny_call_entry slot_tuple_getitem ht.typeIs entry_tuple_getitem ?_ (args_tuple_getitem _ _))))))
  show wpAny (model prog w) A.in1 (Builtin.Tuple.tupleItemsOf (.ref t) >>= _) _ _ _
  refine wpAny_bind (tupleItemsOf_ ht (wpAny_bind (wpAny_typeOf (by exact ⟨os, hos, hcs⟩) ?_)))
  rw [if_pos (by decide)]
  refine wpAny_bind (applied_back hs ?_)
  show wpAny _ _ (if _ then _ else _) _ _ _
  rw [if_neg (by intro z; rw [Bool.and_eq_true, Bool.and_eq_true] at z; exact absurd z.1.2 (by decide))]
  have e : (List.filterMap (fun k : Nat => items[((items.size : Int) - 1 + (k : Int) * -1).toNat]?) (List.range items.size)) = items.toList.reverse := by
    have := pick_rev items.toList
    rw [Array.length_toList] at this
    rw [← this]
    apply fm_congr
    intro k _
    rw [Array.getElem?_toList]
  show wpAny _ _ (Builtin.Tuple.tupleExact (List.filterMap (fun k : Nat => items[((items.size : Int) - 1 + (k : Int) * -1).toNat]?) (List.range items.size)).toArray >>= _) _ _ _
  rw [e]
  refine wpAny_bind (wpAny_newObj_type (wpAny_pure ⟨.ref s.heap.objs.size, rfl, wpAny_pure h⟩) ?_)
  show items.toList.reverse.toArray.size ≤ sizeLine
  rw [List.size_toArray, List.length_reverse, Array.length_toList]; exact n0
end
theorem vals_snoc {x : V} {u : Value} (r : RelV x u) : ∀ {xs : List V} {us : List Value}, Vals xs us → Vals (xs ++ [x]) (us ++ [u])
  | _, _, .nil => .cons r .nil
  | _, _, .cons a b => .cons a (vals_snoc r b)
theorem vals_rev : ∀ {xs : List V} {us : List Value}, Vals xs us → Vals xs.reverse us.reverse
  | _, _, .nil => .nil
  | _, _, .cons a b => by
    rw [List.reverse_cons, List.reverse_cons]
    exact vals_snoc a (vals_rev b)
section
variable {X : Cx}
def tRevT (K : PySem.W.Frag) (te : TE) : TE := fun σ H Q => te σ H fun x H1 => ∃ a xs, x = .ref a ∧ SqT K H1 a xs ∧ ∀ p, H1 p = none → Q (.ref p) (upd H1 p (.tup xs.reverse))
theorem r_revT {K : PySem.W.Frag} {te : TE} {σ : L2.St} {H : Hp} {Q : VK} (h : te σ H fun x H1 => ∃ a xs, x = .ref a ∧ SqT K H1 a xs ∧ ∀ p, H1 p = none → Q (.ref p) (upd H1 p (.tup xs.reverse))) : tRevT K te σ H Q := h
theorem pe_revT {e : Expr} {te : TE} {k : Nat} {p1 p2 p3 pos : Pos} (he : PE X e te) : PE X (.Subscript e (.Slice none none (some (.UnaryOp .USub (.Constant (.int 1) k p1) p2)) p3) pos) (tRevT X.K te) := by
  constructor
  intro pins s σ H Q I h
  refine Subscript_ (thn (he.run pins s σ H _ I h) ?_)
  rintro v s1 ⟨x, H1, I1, r1, a, xs, rfl, hx, q⟩
  obtain rfl : v = .ref a := r1
  have step : PO X (some (.UnaryOp .USub (.Constant (.int 1) k p1) p2)) (tPart (tUn (rU fun i => .int (-i)) (tC (.int 1)))) := po_some (pe_un un_neg pe_int)
  refine wpAny_Slice (thn (po_none.run pins s1 σ H1 (fun o H2 => o = none ∧ H2 = H1) I1 ⟨rfl, rfl⟩) ?_)
  rintro v1 s2 ⟨o1, H2, I2, w1, rfl, rfl⟩
  refine thn (po_none.run pins s2 σ H2 (fun o H3 => o = none ∧ H3 = H2) I2 ⟨rfl, rfl⟩) ?_
  rintro v2 s3 ⟨o2, H3, I3, w2, rfl, rfl⟩
  refine thn (step.run pins s3 σ H3 (fun o H4 => o = some (-1) ∧ H4 = H3) I3 ⟨1, rfl, -1, rfl, rfl, rfl⟩) ?_
  rintro v3 s4 ⟨o3, H4, I4, w3, rfl, rfl⟩
  obtain ⟨b1, rfl, e1⟩ := IsPart.raw w1
  obtain ⟨b2, rfl, e2⟩ := IsPart.raw w2
  obtain ⟨b3, rfl, e3⟩ := IsPart.raw w3
  have n1 : b1 = none := Option.map_eq_none_iff.mp e1
  have n2 : b2 = none := Option.map_eq_none_iff.mp e2
  obtain ⟨⟨i3, t3⟩, rfl, e4⟩ := Option.map_eq_some_iff.mp e3
  subst n1 n2
  obtain rfl : i3 = -1 := e4
  have I5 : Inv X pins σ H4 { s4 with heap := s4.heap.push { cls := .type "slice", data := .fields #[partValue none, partValue none, partValue (some (-1, t3))] } } := I4.kept (t' := s4.toks) fun b ob z => Heap.get?_push_of_some _ z
  obtain ⟨its, rel, tp, big⟩ := I5.tuple hx
  refine tail_any (ops := [.ref a, .ref s4.heap.objs.size]) tp.typeIs slot_tuple_getitem.lookup ?_ (by with_unfolding_all rfl)
  refine get_rev (u := t3) tp ⟨_, Heap.get?_push_size _ rfl, rfl, rfl⟩ ?_ (by rw [List.size_toArray, ← rel.length]; exact big)
  refine ⟨.ref _, _, I5.laid (t' := s4.toks) (fun b ob z => Heap.get?_push_of_some _ z) (Nat.le_refl _) ?_, rfl, q _ (I5.hok.fresh (Nat.le_refl _))⟩
  refine ⟨by rw [List.length_reverse]; exact big, its.reverse, vals_rev rel, ?_⟩
  exact ⟨_, Heap.get?_push_size _ rfl, rfl, 0, rfl⟩
end
end Rt

/-! numbers of ways: plain mathematics -/
namespace M3
/-- choose by multiplying -/
def chl (n : Nat) : Nat → Nat
  | 0 => 1
  | k + 1 => chl n k * (n - k) / (k + 1)
def ch : Nat → Nat → Nat
  | _, 0 => 1
  | 0, _ + 1 => 0
  | n + 1, k + 1 => ch n k + ch n (k + 1)
theorem ch0 (n : Nat) : ch n 0 = 1 := by cases n <;> rfl
theorem ch_step : ∀ n k : Nat, (k + 1) * ch n (k + 1) + k * ch n k = n * ch n k
  | 0, 0 => rfl
  | 0, k + 1 => by simp [ch]
  | n + 1, 0 => by
    have h := ch_step n 0
    rw [ch0] at h ⊢
    show (0 + 1) * (ch n 0 + ch n (0 + 1)) + 0 * 1 = (n + 1) * 1
    rw [ch0]; omega
  | n + 1, k + 1 => by
    have h1 := ch_step n k
    have h2 := ch_step n (k + 1)
    show (k + 1 + 1) * (ch n (k + 1) + ch n (k + 1 + 1)) + (k + 1) * (ch n k + ch n (k + 1)) = (n + 1) * (ch n k + ch n (k + 1))
    simp only [Nat.add_mul, Nat.mul_add, Nat.one_mul] at h1 h2 ⊢
    omega
theorem ch_big : ∀ n k : Nat, n < k → ch n k = 0
  | 0, 0, h => by omega
  | 0, k + 1, _ => rfl
  | n + 1, 0, h => by omega
  | n + 1, k + 1, h => by
    show ch n k + ch n (k + 1) = 0
    rw [ch_big n k (by omega), ch_big n (k + 1) (by omega)]
theorem ch_mul (n k : Nat) : ch n k * (n - k) = (k + 1) * ch n (k + 1) := by
  by_cases h : k ≤ n
  · have e := ch_step n k
    obtain ⟨j, rfl⟩ := Nat.le.dest h
    rw [Nat.add_sub_cancel_left]
    rw [Nat.add_mul k j] at e
    rw [Nat.mul_comm (ch (k + j) k) j]; omega
  · rw [ch_big n k (by omega), ch_big n (k + 1) (by omega)]; simp
theorem chl_eq (n : Nat) : ∀ k, chl n k = ch n k
  | 0 => (ch0 n).symm
  | k + 1 => by
    show chl n k * (n - k) / (k + 1) = ch n (k + 1)
    rw [chl_eq n k, ch_mul, Nat.mul_div_cancel_left _ (Nat.succ_pos k)]
theorem ch_self : ∀ n, ch n n = 1
  | 0 => rfl
  | n + 1 => by show ch n n + ch n (n + 1) = 1; rw [ch_self n, ch_big n (n + 1) (by omega)]
theorem ch_symm : ∀ i j : Nat, ch (i + j) i = ch (i + j) j
  | 0, j => by rw [ch0, Nat.zero_add, ch_self]
  | i + 1, 0 => by rw [ch0, Nat.add_zero, ch_self]
  | i + 1, j + 1 => by
    rw [show i + 1 + (j + 1) = (i + j + 1) + 1 by omega]
    show ch (i + j + 1) i + ch (i + j + 1) (i + 1) = ch (i + j + 1) j + ch (i + j + 1) (j + 1)
    have h1 := ch_symm i (j + 1)
    have h2 := ch_symm (i + 1) j
    rw [show i + (j + 1) = i + j + 1 by omega] at h1
    rw [show i + 1 + j = i + j + 1 by omega] at h2
    omega
/-- the sum of [1.2], up to a part -/
def bzTot (r L : Nat) (cs : List Nat) (size : Nat) : Nat → Nat
  | 0 => 0
  | k + 1 => bzTot r L cs size k + cs.getD (size - (k + 1)) 0 * (chl ((k + 1) * L) ((k + 1) * r) / L)
def bzC (r L : Nat) : Nat → List Nat
  | 0 => [1]
  | n + 1 => bzC r L n ++ [bzTot r L (bzC r L n) (n + 1) (n + 1) / (n + 1)]
def wc (a b : Nat) : Nat := (bzC (a / Nat.gcd a b) (a / Nat.gcd a b + b / Nat.gcd a b) (Nat.gcd a b)).getD (Nat.gcd a b) 0
theorem bzC_len (r L : Nat) : ∀ n, (bzC r L n).length = n + 1
  | 0 => rfl
  | n + 1 => by
    show (bzC r L n ++ _).length = n + 1 + 1
    rw [List.length_append, bzC_len r L n]; rfl
theorem bzC_get (r L : Nat) : ∀ n i, i ≤ n → (bzC r L n).getD i 0 = (bzC r L i).getD i 0
  | 0, i, h => by
    have e : i = 0 := by omega
    subst e; rfl
  | n + 1, i, h => by
    by_cases e : i = n + 1
    · subst e; rfl
    · show (bzC r L n ++ _).getD i 0 = _
      rw [List.getD_eq_getElem?_getD, List.getElem?_append_left (by rw [bzC_len]; omega), ← List.getD_eq_getElem?_getD]
      exact bzC_get r L n i (by omega)
theorem bzC_last (r L n : Nat) : (bzC r L (n + 1)).getD (n + 1) 0 = bzTot r L (bzC r L n) (n + 1) (n + 1) / (n + 1) := by
  show (bzC r L n ++ [_]).getD (n + 1) 0 = _
  rw [List.getD_eq_getElem?_getD, List.getElem?_append_right (by rw [bzC_len]; omega), bzC_len]
  simp
/-- the number behind n multiples -/
def bz (r L n : Nat) : Nat := (bzC r L n).getD n 0
theorem bz0 (r L : Nat) : bz r L 0 = 1 := rfl
/-- the sum, by the numbers -/
def bzS (r L size : Nat) : Nat → Nat
  | 0 => 0
  | k + 1 => bzS r L size k + bz r L (size - (k + 1)) * (chl ((k + 1) * L) ((k + 1) * r) / L)
theorem bzTot_eq (r L n size : Nat) (h : size ≤ n + 1) : ∀ k, bzTot r L (bzC r L n) size k = bzS r L size k
  | 0 => rfl
  | k + 1 => by
    show bzTot r L (bzC r L n) size k + _ = bzS r L size k + _
    rw [bzTot_eq r L n size h k, bzC_get r L n _ (by omega)]; rfl
theorem bz_succ (r L n : Nat) : bz r L (n + 1) = bzS r L (n + 1) (n + 1) / (n + 1) := by
  unfold bz; rw [bzC_last, bzTot_eq r L n (n + 1) (Nat.le_refl _)]
/-- the number of letters divides -/
theorem ch_dvd {r L : Nat} (h : Nat.gcd r L = 1) (hr : 0 < r) (k : Nat) (hk : 0 < k) (hl : r ≤ L) : L ∣ chl (k * L) (k * r) := by
  rw [chl_eq]
  have hkr : 0 < k * r := Nat.mul_pos hk hr
  have hkl : 0 < k * L := Nat.mul_pos hk (Nat.lt_of_lt_of_le hr hl)
  obtain ⟨m, hm⟩ := Nat.exists_eq_succ_of_ne_zero (Nat.ne_of_gt hkr)
  obtain ⟨n, hn⟩ := Nat.exists_eq_succ_of_ne_zero (Nat.ne_of_gt hkl)
  have e : (m + 1) * ch (n + 1) (m + 1) = (n + 1) * ch n m := by
    have h1 := ch_step n m
    show (m + 1) * (ch n m + ch n (m + 1)) = (n + 1) * ch n m
    simp only [Nat.add_mul, Nat.mul_add, Nat.one_mul] at h1 ⊢
    omega
  rw [hm, hn]
  show L ∣ ch (n + 1) (m + 1)
  have e2 : r * ch (n + 1) (m + 1) = L * ch n m := by
    apply Nat.eq_of_mul_eq_mul_left hk
    rw [← Nat.mul_assoc, ← Nat.mul_assoc, hm, hn]; exact e
  have d : L ∣ r * ch (n + 1) (m + 1) := ⟨_, e2⟩
  exact Nat.Coprime.dvd_of_dvd_mul_left (show Nat.Coprime L r by rw [Nat.coprime_comm]; exact h) d

/-! rows of ends -/
def stepRow (a c : Nat) : Nat → Nat → List Nat → List Nat
  | _, _, [] => []
  | m, prev, x :: xs => ((if c ≤ a * m then prev else 0) + x) :: stepRow a c (m + 1) ((if c ≤ a * m then prev else 0) + x) xs
def nextRow (a c : Nat) : List Nat → List Nat
  | [] => []
  | x :: xs => x :: stepRow a c 0 x xs
def rowOf (a b : Nat) : Nat → List Nat
  | 0 => List.replicate (b + 1) 1
  | l + 1 => nextRow a (b * (l + 1)) (rowOf a b l)
theorem stepRow_len (a c : Nat) : ∀ m p xs, (stepRow a c m p xs).length = xs.length
  | _, _, [] => rfl
  | m, p, x :: xs => by
    show (stepRow a c _ _ xs).length + 1 = xs.length + 1
    rw [stepRow_len]
theorem nextRow_len (a c : Nat) (xs : List Nat) : (nextRow a c xs).length = xs.length := by
  cases xs with
  | nil => rfl
  | cons x xs =>
    show (stepRow a c 0 x xs).length + 1 = xs.length + 1
    rw [stepRow_len]
theorem rowOf_len (a b : Nat) : ∀ l, (rowOf a b l).length = b + 1
  | 0 => by show (List.replicate (b + 1) 1).length = b + 1; rw [List.length_replicate]
  | l + 1 => by show (nextRow a _ _).length = b + 1; rw [nextRow_len, rowOf_len a b l]
theorem stepRow_get (a c : Nat) : ∀ m p xs (i : Nat), i < xs.length → (stepRow a c m p xs).getD i 0 = (if c ≤ a * (m + i) then (p :: stepRow a c m p xs).getD i 0 else 0) + xs.getD i 0
  | m, p, x :: xs, 0, _ => by simp [stepRow]
  | m, p, x :: xs, i + 1, h => by
    have ih := stepRow_get a c (m + 1) ((if c ≤ a * m then p else 0) + x) xs i (by simpa using h)
    rw [show m + 1 + i = m + (i + 1) by omega] at ih
    exact ih
theorem nextRow_get0 (a c : Nat) (xs : List Nat) : (nextRow a c xs).getD 0 0 = xs.getD 0 0 := by cases xs <;> rfl
theorem nextRow_get (a c : Nat) (xs : List Nat) (i : Nat) (h : i + 1 < xs.length) : (nextRow a c xs).getD (i + 1) 0 = (if c ≤ a * i then (nextRow a c xs).getD i 0 else 0) + xs.getD (i + 1) 0 := by
  cases xs with
  | nil => exact absurd h (Nat.not_lt_zero _)
  | cons x xs =>
    have := stepRow_get a c 0 x xs i (by simpa using h)
    rw [Nat.zero_add] at this
    exact this
def scan : Nat → List Nat → List Nat
  | _, [] => []
  | acc, x :: xs => (acc + x) :: scan (acc + x) xs
def dropN : Nat → List Nat → List Nat
  | 0, xs => xs
  | _ + 1, [] => []
  | n + 1, _ :: xs => dropN n xs
theorem dropN_eq : ∀ n xs, dropN n xs = xs.drop n
  | 0, xs => rfl
  | n + 1, [] => rfl
  | n + 1, x :: xs => by show dropN n xs = (x :: xs).drop (n + 1); rw [dropN_eq n xs]; rfl
theorem step_scan (a c : Nat) : ∀ m p xs, c ≤ a * m → stepRow a c m p xs = scan p xs
  | _, _, [], _ => rfl
  | m, p, x :: xs, h => by
    show ((if c ≤ a * m then p else 0) + x) :: stepRow a c (m + 1) ((if c ≤ a * m then p else 0) + x) xs = (p + x) :: scan (p + x) xs
    rw [if_pos h, step_scan a c (m + 1) (p + x) xs (Nat.le_trans h (Nat.mul_le_mul_left a (Nat.le_succ m)))]
theorem step_drop (a c t : Nat) (ht : c ≤ a * t) (hn : ∀ m, m < t → ¬ c ≤ a * m) : ∀ (m p : Nat) (xs : List Nat) (k : Nat), t = m + 1 + k → (stepRow a c m p xs).drop k = scan 0 (xs.drop k)
  | m, p, [], k, _ => by simp [stepRow, scan]
  | m, p, x :: xs, 0, e => by
    show ((if c ≤ a * m then p else 0) + x) :: stepRow a c (m + 1) ((if c ≤ a * m then p else 0) + x) xs = (0 + x) :: scan (0 + x) xs
    rw [if_neg (hn m (by omega)), step_scan a c (m + 1) (0 + x) xs (by rw [show m + 1 = t by omega]; exact ht)]
  | m, p, x :: xs, k + 1, e => by
    show (stepRow a c (m + 1) _ xs).drop k = scan 0 (xs.drop k)
    exact step_drop a c t ht hn (m + 1) _ xs k (by omega)
theorem next_drop (a c t : Nat) (ht : c ≤ a * t) (hn : ∀ m, m < t → ¬ c ≤ a * m) (h0 : 0 < t) (xs : List Nat) : (nextRow a c xs).drop t = scan 0 (xs.drop t) := by
  cases xs with
  | nil => simp [nextRow, scan]
  | cons x xs =>
    obtain ⟨k, rfl⟩ := Nat.exists_eq_succ_of_ne_zero (Nat.ne_of_gt h0)
    show (stepRow a c 0 x xs).drop k = scan 0 (xs.drop k)
    exact step_drop a c (k + 1) ht hn 0 x xs k (by omega)
/-- the first place of the row l at which a step may be taken -/
def edge (a b l : Nat) : Nat := (b * l + (a - 1)) / a
theorem edge_ge {a b l : Nat} (ha : 0 < a) : b * l ≤ a * edge a b l := by
  unfold edge
  have h := Nat.div_add_mod (b * l + (a - 1)) a
  have h2 := Nat.mod_lt (b * l + (a - 1)) ha
  omega
theorem edge_min {a b l m : Nat} (ha : 0 < a) (h : m < edge a b l) : ¬ b * l ≤ a * m := by
  intro h2
  unfold edge at h
  have h3 : (m + 1) * a ≤ b * l + (a - 1) := (Nat.le_div_iff_mul_le ha).mp h
  rw [Nat.add_mul, Nat.mul_comm m a] at h3
  omega
def live (a b : Nat) : Nat → List Nat
  | 0 => List.replicate (b + 1) 1
  | l + 1 => scan 0 (dropN (edge a b (l + 1) - edge a b l) (live a b l))
theorem edge_mono {a b l : Nat} : edge a b l ≤ edge a b (l + 1) := by
  unfold edge
  apply Nat.div_le_div_right
  rw [Nat.mul_add]; omega
theorem live_eq {a b : Nat} (ha : 0 < a) (hb : 0 < b) : ∀ l, live a b l = (rowOf a b l).drop (edge a b l)
  | 0 => by
    have e : edge a b 0 = 0 := by
      unfold edge
      rw [Nat.mul_zero, Nat.zero_add]
      exact Nat.div_eq_of_lt (by omega)
    rw [e]; rfl
  | l + 1 => by
    show scan 0 (dropN (edge a b (l + 1) - edge a b l) (live a b l)) = (nextRow a (b * (l + 1)) (rowOf a b l)).drop (edge a b (l + 1))
    have hp : 0 < edge a b (l + 1) := by
      have h1 := edge_ge (b := b) (l := l + 1) ha
      have h2 : 0 < b * (l + 1) := Nat.mul_pos hb (Nat.succ_pos l)
      rcases Nat.eq_zero_or_pos (edge a b (l + 1)) with z | z
      · rw [z] at h1; omega
      · exact z
    rw [next_drop a _ _ (edge_ge ha) (fun m h => edge_min ha h) hp, dropN_eq, live_eq ha hb l, List.drop_drop]
    have := edge_mono (a := a) (b := b) (l := l)
    rw [show edge a b l + (edge a b (l + 1) - edge a b l) = edge a b (l + 1) by omega]
def endsN (a b : Nat) : Nat := (rowOf a b a).getD b 0
theorem ends_eq {a b : Nat} (ha : 0 < a) (hb : 0 < b) : endsN a b = (live a b a).headD 0 := by
  have e : edge a b a = b := by
    unfold edge
    rw [Nat.mul_comm b a, Nat.mul_add_div ha, Nat.div_eq_of_lt (by omega), Nat.add_zero]
  rw [live_eq ha hb, e]
  unfold endsN
  rw [List.getD_eq_getElem?_getD]
  cases h : (rowOf a b a).drop b with
  | nil =>
    have := rowOf_len a b a
    have h2 := congrArg List.length h
    rw [List.length_drop, this] at h2
    simp at h2
  | cons x xs =>
    have h2 : ((rowOf a b a).drop b)[0]? = some x := by rw [h]; rfl
    rw [List.getElem?_drop, Nat.add_zero] at h2
    rw [h2]; rfl
def remB (r L : Nat) : Nat → Nat
  | 0 => 0
  | n + 1 => bzTot r L (bzC r L n) (n + 1) (n + 1) % (n + 1)
def bndB (r L n : Nat) : Bool := (bzC r L n).all fun x => Nat.blt x (2 ^ 400)
def okT (a b : Nat) : Bool := wc a b == (live a b a).headD 0 && remB (a / Nat.gcd a b) (a / Nat.gcd a b + b / Nat.gcd a b) (Nat.gcd a b) == 0 && bndB (a / Nat.gcd a b) (a / Nat.gcd a b + b / Nat.gcd a b) (Nat.gcd a b)
def allB (f : Nat → Bool) : Nat → Bool
  | 0 => true
  | n + 1 => f (n + 1) && allB f n
theorem allB_of {f : Nat → Bool} : ∀ {n : Nat}, allB f n = true → ∀ i, 1 ≤ i → i ≤ n → f i = true
  | 0, _, i, h1, h2 => by omega
  | n + 1, h, i, h1, h2 => by
    have h' : (f (n + 1) && allB f n) = true := h
    rw [Bool.and_eq_true] at h'
    by_cases e : i = n + 1
    · rw [e]; exact h'.1
    · exact allB_of h'.2 i h1 (by omega)
end M3

namespace M3
open PySem PySem.W
def fct : Nat → Nat
  | 0 => 1
  | n + 1 => (n + 1) * fct n
theorem fct_pos : ∀ n, 0 < fct n
  | 0 => Nat.one_pos
  | n + 1 => Nat.mul_pos (Nat.succ_pos n) (fct_pos n)
theorem fp_ch (n : Nat) : ∀ m : Nat, m ≤ n → Builtin.Math.fallingProduct (n : Int) m = ((ch n m * fct m : Nat) : Int)
  | 0, _ => by rw [mc_fp_zero, ch0]; rfl
  | m + 1, h => by
    rw [mc_fp_succ, fp_ch n m (by omega), ← Int.natCast_sub (by omega), ← Int.natCast_mul]
    congr 1
    show ch n m * fct m * (n - m) = ch n (m + 1) * ((m + 1) * fct m)
    rw [Nat.mul_right_comm, ch_mul, Nat.mul_comm (m + 1), Nat.mul_assoc]
theorem mc_ch (n k : Nat) (h : k ≤ n) : mcComb (n : Int) (k : Int) = ((chl n k : Nat) : Int) := by
  rw [chl_eq]
  have go : ∀ m : Nat, m ≤ n → ch n m = ch n k → min (k : Int) ((n : Int) - k) = m → mcComb (n : Int) (k : Int) = ((ch n k : Nat) : Int) := by
    intro m hm he hmin
    rw [mcComb_at (by omega) (by omega) hmin, Int.toNat_natCast, fp_ch n m hm, fp_ch m m (Nat.le_refl _), ch_self, Nat.one_mul, ← Int.natCast_ediv, Nat.mul_div_cancel _ (fct_pos m), he]
  by_cases c : k ≤ n - k
  · exact go k h rfl (by omega)
  · refine go (n - k) (by omega) ?_ (by omega)
    have := ch_symm k (n - k)
    rw [show k + (n - k) = n by omega] at this
    exact this.symm
theorem ch_le : ∀ n k : Nat, ch n k ≤ 2 ^ n
  | n, 0 => by rw [ch0]; exact Nat.one_le_two_pow
  | 0, k + 1 => Nat.zero_le _
  | n + 1, k + 1 => by
    show ch n k + ch n (k + 1) ≤ 2 ^ (n + 1)
    have h1 := ch_le n k
    have h2 := ch_le n (k + 1)
    rw [Nat.pow_succ]; omega
end M3

namespace M3
theorem k1 : allB (fun b => okT 1 b) 60 = true := by decide +kernel
theorem k2 : allB (fun b => okT 2 b) 60 = true := by decide +kernel
theorem k3 : allB (fun b => okT 3 b) 60 = true := by decide +kernel
theorem k4 : allB (fun b => okT 4 b) 60 = true := by decide +kernel
theorem k5 : allB (fun b => okT 5 b) 60 = true := by decide +kernel
theorem k6 : allB (fun b => okT 6 b) 60 = true := by decide +kernel
theorem k7 : allB (fun b => okT 7 b) 60 = true := by decide +kernel
theorem k8 : allB (fun b => okT 8 b) 60 = true := by decide +kernel
theorem k9 : allB (fun b => okT 9 b) 60 = true := by decide +kernel
theorem k10 : allB (fun b => okT 10 b) 60 = true := by decide +kernel
theorem k11 : allB (fun b => okT 11 b) 60 = true := by decide +kernel
theorem k12 : allB (fun b => okT 12 b) 60 = true := by decide +kernel
theorem k13 : allB (fun b => okT 13 b) 60 = true := by decide +kernel
theorem k14 : allB (fun b => okT 14 b) 60 = true := by decide +kernel
theorem k15 : allB (fun b => okT 15 b) 60 = true := by decide +kernel
theorem k16 : allB (fun b => okT 16 b) 60 = true := by decide +kernel
theorem k17 : allB (fun b => okT 17 b) 60 = true := by decide +kernel
theorem k18 : allB (fun b => okT 18 b) 60 = true := by decide +kernel
theorem k19 : allB (fun b => okT 19 b) 60 = true := by decide +kernel
theorem k20 : allB (fun b => okT 20 b) 60 = true := by decide +kernel
theorem k21 : allB (fun b => okT 21 b) 60 = true := by decide +kernel
theorem k22 : allB (fun b => okT 22 b) 60 = true := by decide +kernel
theorem k23 : allB (fun b => okT 23 b) 60 = true := by decide +kernel
theorem k24 : allB (fun b => okT 24 b) 60 = true := by decide +kernel
theorem k25 : allB (fun b => okT 25 b) 60 = true := by decide +kernel
theorem k26 : allB (fun b => okT 26 b) 60 = true := by decide +kernel
theorem k27 : allB (fun b => okT 27 b) 60 = true := by decide +kernel
theorem k28 : allB (fun b => okT 28 b) 60 = true := by decide +kernel
theorem k29 : allB (fun b => okT 29 b) 60 = true := by decide +kernel
theorem k30 : allB (fun b => okT 30 b) 60 = true := by decide +kernel
theorem k31 : allB (fun b => okT 31 b) 60 = true := by decide +kernel
theorem k32 : allB (fun b => okT 32 b) 60 = true := by decide +kernel
theorem k33 : allB (fun b => okT 33 b) 60 = true := by decide +kernel
theorem k34 : allB (fun b => okT 34 b) 60 = true := by decide +kernel
theorem k35 : allB (fun b => okT 35 b) 60 = true := by decide +kernel
theorem k36 : allB (fun b => okT 36 b) 60 = true := by decide +kernel
theorem k37 : allB (fun b => okT 37 b) 60 = true := by decide +kernel
theorem k38 : allB (fun b => okT 38 b) 60 = true := by decide +kernel
theorem k39 : allB (fun b => okT 39 b) 60 = true := by decide +kernel
theorem k40 : allB (fun b => okT 40 b) 60 = true := by decide +kernel
theorem k41 : allB (fun b => okT 41 b) 60 = true := by decide +kernel
theorem k42 : allB (fun b => okT 42 b) 60 = true := by decide +kernel
theorem k43 : allB (fun b => okT 43 b) 60 = true := by decide +kernel
theorem k44 : allB (fun b => okT 44 b) 60 = true := by decide +kernel
theorem k45 : allB (fun b => okT 45 b) 60 = true := by decide +kernel
theorem k46 : allB (fun b => okT 46 b) 60 = true := by decide +kernel
theorem k47 : allB (fun b => okT 47 b) 60 = true := by decide +kernel
theorem k48 : allB (fun b => okT 48 b) 60 = true := by decide +kernel
theorem k49 : allB (fun b => okT 49 b) 60 = true := by decide +kernel
theorem k50 : allB (fun b => okT 50 b) 60 = true := by decide +kernel
theorem k51 : allB (fun b => okT 51 b) 60 = true := by decide +kernel
theorem k52 : allB (fun b => okT 52 b) 60 = true := by decide +kernel
theorem k53 : allB (fun b => okT 53 b) 60 = true := by decide +kernel
theorem k54 : allB (fun b => okT 54 b) 60 = true := by decide +kernel
theorem k55 : allB (fun b => okT 55 b) 60 = true := by decide +kernel
theorem k56 : allB (fun b => okT 56 b) 60 = true := by decide +kernel
theorem k57 : allB (fun b => okT 57 b) 60 = true := by decide +kernel
theorem k58 : allB (fun b => okT 58 b) 60 = true := by decide +kernel
theorem k59 : allB (fun b => okT 59 b) 60 = true := by decide +kernel
theorem k60 : allB (fun b => okT 60 b) 60 = true := by decide +kernel
theorem okT_all (a b : Nat) (h1 : 1 ≤ a) (h2 : a ≤ 60) (h3 : 1 ≤ b) (h4 : b ≤ 60) : okT a b = true := by
  have h : a = 1 ∨ a = 2 ∨ a = 3 ∨ a = 4 ∨ a = 5 ∨ a = 6 ∨ a = 7 ∨ a = 8 ∨ a = 9 ∨ a = 10 ∨ a = 11 ∨ a = 12 ∨ a = 13 ∨ a = 14 ∨ a = 15 ∨ a = 16 ∨ a = 17 ∨ a = 18 ∨ a = 19 ∨ a = 20 ∨ a = 21 ∨ a = 22 ∨ a = 23 ∨ a = 24 ∨ a = 25 ∨ a = 26 ∨ a = 27 ∨ a = 28 ∨ a = 29 ∨ a = 30 ∨ a = 31 ∨ a = 32 ∨ a = 33 ∨ a = 34 ∨ a = 35 ∨ a = 36 ∨ a = 37 ∨ a = 38 ∨ a = 39 ∨ a = 40 ∨ a = 41 ∨ a = 42 ∨ a = 43 ∨ a = 44 ∨ a = 45 ∨ a = 46 ∨ a = 47 ∨ a = 48 ∨ a = 49 ∨ a = 50 ∨ a = 51 ∨ a = 52 ∨ a = 53 ∨ a = 54 ∨ a = 55 ∨ a = 56 ∨ a = 57 ∨ a = 58 ∨ a = 59 ∨ a = 60 := by omega
  rcases h with rfl | rfl | rfl | rfl | rfl | rfl | rfl | rfl | rfl | rfl | rfl | rfl | rfl | rfl | rfl | rfl | rfl | rfl | rfl | rfl | rfl | rfl | rfl | rfl | rfl | rfl | rfl | rfl | rfl | rfl | rfl | rfl | rfl | rfl | rfl | rfl | rfl | rfl | rfl | rfl | rfl | rfl | rfl | rfl | rfl | rfl | rfl | rfl | rfl | rfl | rfl | rfl | rfl | rfl | rfl | rfl | rfl | rfl | rfl | rfl
  · exact allB_of k1 b h3 h4
  · exact allB_of k2 b h3 h4
  · exact allB_of k3 b h3 h4
  · exact allB_of k4 b h3 h4
  · exact allB_of k5 b h3 h4
  · exact allB_of k6 b h3 h4
  · exact allB_of k7 b h3 h4
  · exact allB_of k8 b h3 h4
  · exact allB_of k9 b h3 h4
  · exact allB_of k10 b h3 h4
  · exact allB_of k11 b h3 h4
  · exact allB_of k12 b h3 h4
  · exact allB_of k13 b h3 h4
  · exact allB_of k14 b h3 h4
  · exact allB_of k15 b h3 h4
  · exact allB_of k16 b h3 h4
  · exact allB_of k17 b h3 h4
  · exact allB_of k18 b h3 h4
  · exact allB_of k19 b h3 h4
  · exact allB_of k20 b h3 h4
  · exact allB_of k21 b h3 h4
  · exact allB_of k22 b h3 h4
  · exact allB_of k23 b h3 h4
  · exact allB_of k24 b h3 h4
  · exact allB_of k25 b h3 h4
  · exact allB_of k26 b h3 h4
  · exact allB_of k27 b h3 h4
  · exact allB_of k28 b h3 h4
  · exact allB_of k29 b h3 h4
  · exact allB_of k30 b h3 h4
  · exact allB_of k31 b h3 h4
  · exact allB_of k32 b h3 h4
  · exact allB_of k33 b h3 h4
  · exact allB_of k34 b h3 h4
  · exact allB_of k35 b h3 h4
  · exact allB_of k36 b h3 h4
  · exact allB_of k37 b h3 h4
  · exact allB_of k38 b h3 h4
  · exact allB_of k39 b h3 h4
  · exact allB_of k40 b h3 h4
  · exact allB_of k41 b h3 h4
  · exact allB_of k42 b h3 h4
  · exact allB_of k43 b h3 h4
  · exact allB_of k44 b h3 h4
  · exact allB_of k45 b h3 h4
  · exact allB_of k46 b h3 h4
  · exact allB_of k47 b h3 h4
  · exact allB_of k48 b h3 h4
  · exact allB_of k49 b h3 h4
  · exact allB_of k50 b h3 h4
  · exact allB_of k51 b h3 h4
  · exact allB_of k52 b h3 h4
  · exact allB_of k53 b h3 h4
  · exact allB_of k54 b h3 h4
  · exact allB_of k55 b h3 h4
  · exact allB_of k56 b h3 h4
  · exact allB_of k57 b h3 h4
  · exact allB_of k58 b h3 h4
  · exact allB_of k59 b h3 h4
  · exact allB_of k60 b h3 h4
end M3

/-! Pq: power series as functions; multiplying by 1 - x^k and dividing by it. -/
namespace Pq
/-- times 1 - x^k -/
def D (k : Nat) (f : Nat → Int) : Nat → Int := fun i => if k ≤ i then f i - f (i - k) else f i
/-- divided by 1 - x^k -/
def U (k : Nat) (f : Nat → Int) (i : Nat) : Int := if h : 0 < k ∧ k ≤ i then f i + U k f (i - k) else f i
termination_by i
decreasing_by omega
theorem U_lo {k i : Nat} {f : Nat → Int} (h : i < k) : U k f i = f i := by
  rw [U, dif_neg (by omega)]
theorem U_hi {k i : Nat} {f : Nat → Int} (h0 : 0 < k) (h : k ≤ i) : U k f i = f i + U k f (i - k) := by
  rw [U, dif_pos ⟨h0, h⟩]
theorem D_lo {k i : Nat} {f : Nat → Int} (h : i < k) : D k f i = f i := by unfold D; rw [if_neg (by omega)]
theorem D_hi {k i : Nat} {f : Nat → Int} (h : k ≤ i) : D k f i = f i - f (i - k) := by unfold D; rw [if_pos h]
theorem D_U {k : Nat} (h : 0 < k) (f : Nat → Int) : D k (U k f) = f := by
  funext i
  by_cases c : k ≤ i
  · rw [D_hi c, U_hi h c]; omega
  · rw [D_lo (by omega), U_lo (by omega)]
theorem U_D {k : Nat} (h : 0 < k) (f : Nat → Int) : U k (D k f) = f := by
  funext i
  induction i using Nat.strongRecOn with
  | ind i ih =>
    by_cases c : k ≤ i
    · rw [U_hi h c, D_hi c, ih (i - k) (by omega)]; omega
    · rw [U_lo (by omega), D_lo (by omega)]
theorem D_D (j k : Nat) (f : Nat → Int) : D j (D k f) = D k (D j f) := by
  funext i
  unfold D
  by_cases c1 : j ≤ i <;> by_cases c2 : k ≤ i
  · rw [if_pos c1, if_pos c2, if_pos c1, if_pos c2]
    by_cases c3 : k ≤ i - j
    · rw [if_pos c3, if_pos (show j ≤ i - k by omega), show i - j - k = i - k - j by omega]; omega
    · rw [if_neg c3, if_neg (show ¬ j ≤ i - k by omega)]; omega
  · rw [if_pos c1, if_neg c2, if_neg c2, if_pos c1, if_neg (show ¬ k ≤ i - j by omega)]
  · rw [if_neg c1, if_pos c2, if_pos c2, if_neg c1, if_neg (show ¬ j ≤ i - k by omega)]
  · rw [if_neg c1, if_neg c2, if_neg c2, if_neg c1]
theorem U_D' {j : Nat} (k : Nat) (h : 0 < j) (f : Nat → Int) : U j (D k f) = D k (U j f) := by
  have := U_D h (D k (U j f))
  rwa [D_D, D_U h] at this
theorem U_U {j k : Nat} (hj : 0 < j) (f : Nat → Int) : U j (U k f) = U k (U j f) := by
  by_cases hk : 0 < k
  · have := U_D hj (U k (U j f))
    rwa [← U_D' j hk, D_U hj] at this
  · have z : ∀ g, U k g = g := fun g => by funext i; rw [U, dif_neg (by omega)]
    rw [z, z]
def Ds (ns : List Nat) (f : Nat → Int) : Nat → Int := ns.foldl (fun g n => D n g) f
def Us (ns : List Nat) (f : Nat → Int) : Nat → Int := ns.foldl (fun g n => U n g) f
theorem Ds_app (u v : List Nat) (f : Nat → Int) : Ds (u ++ v) f = Ds v (Ds u f) := List.foldl_append
theorem Us_app (u v : List Nat) (f : Nat → Int) : Us (u ++ v) f = Us v (Us u f) := List.foldl_append
theorem D_Ds (k : Nat) : ∀ (u : List Nat) (f : Nat → Int), D k (Ds u f) = Ds u (D k f)
  | [], _ => rfl
  | n :: u, f => by
    show D k (Ds u (D n f)) = Ds u (D n (D k f))
    rw [D_Ds k u, D_D]
theorem Ds_Ds : ∀ (u v : List Nat) (f : Nat → Int), Ds u (Ds v f) = Ds v (Ds u f)
  | [], _, _ => rfl
  | n :: u, v, f => by
    show Ds u (D n (Ds v f)) = Ds v (Ds u (D n f))
    rw [D_Ds, Ds_Ds u v]
theorem U_Us {k : Nat} (h : 0 < k) : ∀ (u : List Nat) (f : Nat → Int), U k (Us u f) = Us u (U k f)
  | [], _ => rfl
  | n :: u, f => by
    show U k (Us u (U n f)) = Us u (U n (U k f))
    rw [U_Us h u, U_U h]
theorem Us_Us : ∀ (u v : List Nat) (f : Nat → Int), (∀ n, n ∈ u → 0 < n) → Us u (Us v f) = Us v (Us u f)
  | [], _, _, _ => rfl
  | n :: u, v, f, h => by
    show Us u (U n (Us v f)) = Us v (Us u (U n f))
    rw [U_Us (h n List.mem_cons_self), Us_Us u v _ fun m hm => h m (List.mem_cons_of_mem _ hm)]
theorem Us_D (k : Nat) : ∀ (u : List Nat) (f : Nat → Int), (∀ n, n ∈ u → 0 < n) → Us u (D k f) = D k (Us u f)
  | [], _, _ => rfl
  | n :: u, f, h => by
    show Us u (U n (D k f)) = D k (Us u (U n f))
    rw [U_D' k (h n List.mem_cons_self), Us_D k u _ fun m hm => h m (List.mem_cons_of_mem _ hm)]
theorem Us_Ds : ∀ (u : List Nat) (f : Nat → Int), (∀ n, n ∈ u → 0 < n) → Us u (Ds u f) = f
  | [], _, _ => rfl
  | n :: u, f, h => by
    have h' : ∀ m, m ∈ u → 0 < m := fun m hm => h m (List.mem_cons_of_mem _ hm)
    show Us u (U n (Ds u (D n f))) = f
    rw [← D_Ds, U_D (h n List.mem_cons_self), Us_Ds u f h']
def dl : Nat → Int := fun i => if i = 0 then 1 else 0
/-- from lo on, n numbers -/
def rg (lo n : Nat) : List Nat := (List.range n).map fun i => lo + i
theorem rg_pos {lo n : Nat} (h : 0 < lo) : ∀ m, m ∈ rg lo n → 0 < m := by
  intro m hm
  obtain ⟨i, _, rfl⟩ := List.mem_map.mp hm
  omega
theorem rg_app (lo n m : Nat) : rg lo (n + m) = rg lo n ++ rg (lo + n) m := by
  unfold rg
  rw [List.range_add, List.map_append, List.map_map]
  congr 1
  apply List.map_congr_left
  intro i _
  show lo + (n + i) = lo + n + i
  omega
theorem rg_cons (lo n : Nat) : rg lo (n + 1) = lo :: rg (lo + 1) n := by
  rw [Nat.add_comm, rg_app]; rfl
theorem rg_snoc (lo n : Nat) : rg lo (n + 1) = rg lo n ++ [lo + n] := by rw [rg_app]; rfl
/-- what the program makes: n turns, from 2 on -/
def pr (more : Nat) : Nat → (Nat → Int)
  | 0 => dl
  | n + 1 => U (n + 2) (D (more + n + 1) (pr more n))
theorem pr_is (more : Nat) : ∀ n, pr more n = Us (rg 2 n) (Ds (rg (more + 1) n) dl)
  | 0 => rfl
  | n + 1 => by
    rw [pr, pr_is more n, rg_snoc, rg_snoc, Us_app, Ds_app, show more + 1 + n = more + n + 1 by omega, show 2 + n = n + 2 by omega]
    show U (n + 2) (D (more + n + 1) (Us (rg 2 n) (Ds (rg (more + 1) n) dl))) = U (n + 2) (Us (rg 2 n) (D (more + n + 1) (Ds (rg (more + 1) n) dl)))
    rw [Us_D _ _ _ (rg_pos (by omega))]
/-- what the law makes -/
theorem law_le {a b : Nat} (ha : 0 < a) : Us (rg 1 a ++ rg 1 b) (Ds (1 :: rg 1 (a + b - 1)) dl) = pr b (a - 1) := by
  obtain ⟨n, rfl⟩ : ∃ n, a = n + 1 := ⟨a - 1, by omega⟩
  rw [show n + 1 + b - 1 = b + n by omega, show n + 1 - 1 = n by omega, pr_is, rg_app 1 b n, show 1 + b = b + 1 by omega]
  rw [show (1 :: (rg 1 b ++ rg (b + 1) n)) = [1] ++ (rg 1 b ++ rg (b + 1) n) from rfl, Ds_app, Ds_app, Us_app, Ds_Ds (rg (b + 1) n), Us_Us (rg 1 b) (rg 1 (n + 1)) _ (rg_pos (by omega)), Us_Ds _ _ (rg_pos (by omega)), rg_cons]
  show Us (rg 2 n) (U 1 (Ds (rg (b + 1) n) (D 1 dl))) = _
  rw [← D_Ds, U_D (by omega)]
theorem law_ge {a b : Nat} (hb : 0 < b) : Us (rg 1 a ++ rg 1 b) (Ds (1 :: rg 1 (a + b - 1)) dl) = pr a (b - 1) := by
  rw [Us_app, Us_Us (rg 1 b) (rg 1 a) _ (rg_pos (by omega)), ← Us_app, Nat.add_comm a b]
  exact law_le hb
theorem law_is {a b : Nat} (ha : 0 < a) (hb : 0 < b) : Us (rg 1 a ++ rg 1 b) (Ds (1 :: rg 1 (a + b - 1)) dl) = pr (max a b) (min a b - 1) := by
  by_cases c : a ≤ b
  · rw [Nat.max_eq_right c, Nat.min_eq_left c]; exact law_le ha
  · rw [Nat.max_eq_left (by omega), Nat.min_eq_right (by omega)]; exact law_ge hb
/-! ### lists -/
def tab (n : Nat) (f : Nat → Int) : List Int := (List.range n).map f
theorem tab_len {n : Nat} {f : Nat → Int} : (tab n f).length = n := by unfold tab; simp
theorem tab_get {n i : Nat} {f : Nat → Int} (h : i < n) : (tab n f)[i]? = some (f i) := by
  unfold tab; rw [List.getElem?_map, List.getElem?_range h]; rfl
theorem tab_set {n i : Nat} {f : Nat → Int} {v : Int} : (tab n f).set i v = tab n fun x => if x = i then v else f x := by
  apply List.ext_getElem?
  intro j
  rw [List.getElem?_set]
  by_cases c : j < n
  · rw [tab_get c]
    by_cases e : i = j
    · subst e; rw [if_pos rfl, if_pos (by rw [tab_len]; exact c), tab_get c]; simp
    · rw [if_neg e, tab_get c, if_neg fun z => e z.symm]
  · have h1 : (tab n f)[j]? = none := List.getElem?_eq_none (by rw [tab_len]; omega)
    have h2 : (tab n fun x => if x = i then v else f x)[j]? = none := List.getElem?_eq_none (by rw [tab_len]; omega)
    rw [h1, h2]
    by_cases e : i = j
    · subst e; rw [if_pos rfl, if_neg (by rw [tab_len]; exact c)]
    · rw [if_neg e]
theorem tab_congr {n : Nat} {f g : Nat → Int} (h : ∀ i, i < n → f i = g i) : tab n f = tab n g := by
  unfold tab
  exact List.map_congr_left fun i hi => h i (List.mem_range.mp hi)
/-! ### the same on lists, for reckoning -/
def dnL (k : Nat) (t : List Int) : List Int := List.zipWith (· - ·) t (List.replicate k 0 ++ t)
theorem dnL_tab {k n : Nat} {f : Nat → Int} : dnL k (tab n f) = tab n (D k f) := by
  apply List.ext_getElem?
  intro j
  unfold dnL
  rw [List.getElem?_zipWith]
  by_cases c : j < n
  · rw [tab_get c, tab_get c]
    by_cases e : k ≤ j
    · rw [List.getElem?_append_right (by simpa using e), List.length_replicate, tab_get (by omega), D_hi e]
    · rw [List.getElem?_append_left (by rw [List.length_replicate]; omega), List.getElem?_replicate, if_pos (by omega), D_lo (by omega)]
      simp
  · rw [List.getElem?_eq_none (by rw [tab_len]; omega : (tab n f).length ≤ j), List.getElem?_eq_none (by rw [tab_len]; omega : (tab n (D k f)).length ≤ j)]
def upG (k : Nat) : List Int → List Int → List Int
  | [], acc => acc.reverse
  | x :: t, acc => upG k t ((x + acc.getD (k - 1) 0) :: acc)
theorem upG_is {k : Nat} (hk : 0 < k) {f : Nat → Int} : ∀ (m i : Nat), upG k ((List.range m).map fun j => f (i + j)) (tab i (U k f)).reverse = tab (i + m) (U k f)
  | 0, i => by simp [upG]
  | m + 1, i => by
    rw [List.range_succ_eq_map, List.map_cons, upG]
    have e : f (i + 0) + (tab i (U k f)).reverse.getD (k - 1) 0 = U k f i := by
      rw [List.getD_eq_getElem?_getD, Nat.add_zero]
      by_cases c : k ≤ i
      · rw [List.getElem?_reverse (by rw [tab_len]; omega), tab_len, tab_get (by omega), U_hi hk c, show i - 1 - (k - 1) = i - k by omega]; rfl
      · rw [List.getElem?_eq_none (by rw [List.length_reverse, tab_len]; omega), U_lo (by omega)]; simp
    rw [e]
    have e2 : U k f i :: (tab i (U k f)).reverse = (tab (i + 1) (U k f)).reverse := by
      unfold tab
      rw [List.range_succ, List.map_append, List.reverse_append]; rfl
    rw [e2, List.map_map]
    have e3 : ((fun j => f (i + j)) ∘ Nat.succ) = fun j => f (i + 1 + j) := by
      funext j; show f (i + (j + 1)) = _; rw [show i + (j + 1) = i + 1 + j by omega]
    rw [e3, upG_is hk m (i + 1), show i + 1 + m = i + (m + 1) by omega]
def upL (k : Nat) (t : List Int) : List Int := upG k t []
theorem upL_tab {k n : Nat} (hk : 0 < k) {f : Nat → Int} : upL k (tab n f) = tab n (U k f) := by
  have := upG_is hk (f := f) n 0
  unfold upL
  rw [show tab n f = (List.range n).map fun j => f (0 + j) by unfold tab; apply List.map_congr_left; intro j _; rw [Nat.zero_add]]
  rw [show ([] : List Int) = (tab 0 (U k f)).reverse from rfl, this, Nat.zero_add]
def prL (sz more : Nat) : Nat → List Int
  | 0 => (1 : Int) :: List.replicate (sz - 1) 0
  | n + 1 => upL (n + 2) (dnL (more + n + 1) (prL sz more n))
theorem prL_tab {sz more : Nat} (h : 0 < sz) : ∀ n, prL sz more n = tab sz (pr more n)
  | 0 => by
    obtain ⟨s, rfl⟩ : ∃ s, sz = s + 1 := ⟨sz - 1, by omega⟩
    unfold prL tab pr
    rw [List.range_succ_eq_map, List.map_cons, List.map_map]
    congr 1
    rw [show s + 1 - 1 = s by omega]
    apply List.ext_getElem?
    intro j
    rw [List.getElem?_replicate, List.getElem?_map]
    by_cases c : j < s
    · rw [if_pos c, List.getElem?_range c]; rfl
    · rw [if_neg c, List.getElem?_eq_none (by simpa using c)]; rfl
  | n + 1 => by
    rw [prL, prL_tab h n, dnL_tab, upL_tab (by omega)]; rfl
/-! ### what is asked of the row of a:b -/
def qt (a b : Nat) : List Int := prL ((a - 1) * (b - 1) + 1) b (a - 1)
def lowG : List Int → Bool
  | [] => true
  | .ofNat n :: t => (n.blt (2 ^ 64)) && lowG t
  | .negSucc _ :: _ => false
end Pq

/-! Lp: loops over ranges of any step; lists that are told by a function. -/
namespace Lp
open PySem PySem.Spec PyProof.Rows L2 Sx
section
variable {σ : L2.St} {H : Hp} {nx bk ct : L2.St → Hp → Prop} {rt Q : VK} {tb : TS} {tl : TA} {g : TG} {K : PySem.W.Frag}
theorem r_for3 {D : Ends} (h : tl σ H fun vs H1 => ∃ (i j c : Int) (n : Nat), vs = [.int i, .int j, .int c] ∧ RgC i j c n ∧ FR (Itc i c n) g tb D σ H1) : tFor (iRng3 tl) g tb D σ H := h
theorem r_rng3 {P : Int → Int → Nat → Prop} {x y c : Int} (n : Nat) (r : RgC x y c n) (h : P x c n) : ∃ (i j c' : Int) (n : Nat), [V.int x, V.int y, V.int c] = [.int i, .int j, .int c'] ∧ RgC i j c' n ∧ P i c' n := ⟨x, y, c, n, rfl, r, h⟩
theorem fr_down {lo : Int} {n : Nat} (Pv : Nat → L2.St → Hp → Prop) (h0 : Pv 0 σ H) (hs : ∀ i σ H, i < n → Pv i σ H → g (.int (lo + (i : Nat) * (-1))) σ H fun σ2 H2 => tb ⟨Pv (i + 1), rt, nx, Pv (i + 1)⟩ σ2 H2)
    (hd : ∀ σ H, Pv n σ H → nx σ H) : FR (Itc lo (-1) n) g tb ⟨nx, rt, bk, ct⟩ σ H := for_rangeC Pv h0 hs hd
end
open Pq
def tb (n : Nat) (f : Nat → Int) : List V := (tab n f).map V.int
theorem tb_len {n : Nat} {f : Nat → Int} : (tb n f).length = n := by unfold tb; rw [List.length_map, tab_len]
theorem tb_at {n x : Nat} {f : Nat → Int} (h : x < n) : atI (tb n f) (x : Int) = some (.int (f x)) :=
  atI_nat (by unfold tb; rw [List.getElem?_map, tab_get h]; rfl)
theorem tb_ix {n x : Nat} (f : Nat → Int) (h : x < n) : ixN (tb n f).length (x : Int) = some x := by
  rw [tb_len]; unfold ixN; rw [if_pos (by omega), if_pos (by omega), Int.toNat_natCast]
theorem tb_set {n x : Nat} {f : Nat → Int} {v : Int} : (tb n f).set x (.int v) = tb n fun y => if y = x then v else f y := by
  unfold tb; rw [← List.map_set, tab_set]
theorem tb_congr {n : Nat} {f g : Nat → Int} (h : ∀ i, i < n → f i = g i) : tb n f = tb n g := by unfold tb; rw [tab_congr h]
theorem tb_dl {n : Nat} : tb (n + 1) dl = [V.int 1] ++ List.replicate n (V.int 0) := by
  unfold tb
  rw [show tab (n + 1) Pq.dl = prL (n + 1) 0 0 from (prL_tab (more := 0) (by omega) 0).symm]
  show [V.int 1] ++ (List.replicate (n + 1 - 1) (0 : Int)).map V.int = _
  rw [List.map_replicate, Nat.add_sub_cancel]
theorem flat_one {n : Nat} {x : V} : (List.replicate n [x]).flatten = List.replicate n x := by
  induction n with
  | zero => rfl
  | succ n ih => rw [List.replicate_succ, List.flatten_cons, ih, List.replicate_succ]; rfl
/-- after j turns downwards -/
def dnF (n k j : Nat) (f : Nat → Int) : Nat → Int := fun x => if n - j ≤ x then D k f x else f x
theorem dnF_0 {n k : Nat} {f : Nat → Int} : tb n (dnF n k 0 f) = tb n f := tb_congr fun i hi => by unfold dnF; rw [if_neg (by omega)]
theorem dnF_end {n k j : Nat} {f : Nat → Int} (h : j = n - k) : tb n (dnF n k j f) = tb n (D k f) := tb_congr fun i hi => by
  unfold dnF
  by_cases c : n - j ≤ i
  · rw [if_pos c]
  · rw [if_neg c, D_lo (by omega)]
theorem dnF_at {n k j x : Nat} {f : Nat → Int} (h : x < n - j) : dnF n k j f x = f x := by unfold dnF; rw [if_neg (by omega)]
theorem dnF_step {n k j : Nat} {f : Nat → Int} (hj : j < n - k) (hk : 0 < k) : (tb n (dnF n k j f)).set (n - 1 - j) (.int (dnF n k j f (n - 1 - j) - dnF n k j f (n - 1 - j - k))) = tb n (dnF n k (j + 1) f) := by
  rw [tb_set, dnF_at (by omega), dnF_at (by omega)]
  refine tb_congr fun i hi => ?_
  by_cases e : i = n - 1 - j
  · rw [if_pos e]; unfold dnF; rw [if_pos (by omega), D_hi (by omega), e]
  · rw [if_neg e]; unfold dnF
    by_cases c : n - j ≤ i
    · rw [if_pos c, if_pos (by omega)]
    · rw [if_neg c, if_neg (by omega)]
/-- after j turns upwards -/
def upF (k j : Nat) (f : Nat → Int) : Nat → Int := fun x => if x < k + j then U k f x else f x
theorem upF_0 {n k : Nat} {f : Nat → Int} : tb n (upF k 0 f) = tb n f := tb_congr fun i hi => by
  unfold upF
  by_cases c : i < k + 0
  · rw [if_pos c, U_lo (by omega)]
  · rw [if_neg c]
theorem upF_end {n k j : Nat} {f : Nat → Int} (h : n ≤ k + j) : tb n (upF k j f) = tb n (U k f) := tb_congr fun i hi => by unfold upF; rw [if_pos (by omega)]
theorem upF_step {n k j : Nat} {f : Nat → Int} (hk : 0 < k) : (tb n (upF k j f)).set (k + j) (.int (upF k j f (k + j) + upF k j f (k + j - k))) = tb n (upF k (j + 1) f) := by
  rw [tb_set]
  refine tb_congr fun i hi => ?_
  by_cases e : i = k + j
  · rw [if_pos e]; subst e; unfold upF; rw [if_neg (by omega), if_pos (by omega), if_pos (by omega), U_hi hk (show k ≤ k + j by omega)]
  · rw [if_neg e]; unfold upF
    by_cases c : i < k + j
    · rw [if_pos c, if_pos (by omega)]
    · rw [if_neg c, if_neg (by omega)]
end Lp

/-! Pv: products of rows, without zeros at the end. -/
namespace Pv
open Pq
def trim (l : List Int) : List Int := (l.reverse.dropWhile fun x => x == 0).reverse
theorem trim_snoc0 (u : List Int) : trim (u ++ [0]) = trim u := by
  unfold trim; rw [List.reverse_append]; rfl
theorem trim_snoc (u : List Int) {x : Int} (h : x ≠ 0) : trim (u ++ [x]) = u ++ [x] := by
  unfold trim
  rw [List.reverse_append]
  show ((x :: u.reverse).dropWhile _).reverse = _
  rw [List.dropWhile_cons_of_neg (by simpa using h), List.reverse_cons, List.reverse_reverse]
theorem last_of {l : List Int} (h : 0 < l.length) : ∃ u x, l = u ++ [x] := by
  cases e : l.reverse with
  | nil => rw [List.reverse_eq_nil_iff] at e; subst e; simp at h
  | cons x u => exact ⟨u.reverse, x, by rw [← List.reverse_reverse l, e, List.reverse_cons]⟩
theorem trim_take {l : List Int} {e : Nat} (he : e ≤ l.length) (z : ∀ i, e ≤ i → i < l.length → l.getD i 0 = 0) (n : e = 0 ∨ l.getD (e - 1) 0 ≠ 0) : trim l = l.take e := by
  obtain ⟨k, hk⟩ : ∃ k, l.length = e + k := ⟨l.length - e, by omega⟩
  induction k generalizing l with
  | zero =>
    rw [List.take_of_length_le (by omega)]
    rcases n with rfl | n
    · rw [List.eq_nil_of_length_eq_zero (show l.length = 0 by omega)]; rfl
    · obtain ⟨u, x, rfl⟩ : ∃ u x, l = u ++ [x] := by
        refine last_of (Nat.pos_of_ne_zero fun h => ?_)
        rw [List.eq_nil_of_length_eq_zero h] at n
        simp at n
      rw [List.length_append] at hk
      have : e - 1 = u.length := by simp at hk; omega
      rw [this, List.getD_eq_getElem?_getD, List.getElem?_append_right (Nat.le_refl _), Nat.sub_self] at n
      exact trim_snoc u n
  | succ k ih =>
    obtain ⟨u, x, rfl⟩ : ∃ u x, l = u ++ [x] := last_of (by omega)
    rw [List.length_append] at hk he
    simp only [List.length_cons, List.length_nil] at hk he
    have hx : x = 0 := by
      have := z u.length (by omega) (by simp)
      rwa [List.getD_eq_getElem?_getD, List.getElem?_append_right (Nat.le_refl _), Nat.sub_self] at this
    subst hx
    rw [trim_snoc0, List.take_append_of_le_length (by omega)]
    refine ih (by omega) (fun i h1 h2 => ?_) ?_ (by omega)
    · have := z i h1 (by simp; omega)
      rwa [List.getD_eq_getElem?_getD, List.getElem?_append_left h2, ← List.getD_eq_getElem?_getD] at this
    · rcases n with n | n
      · exact .inl n
      · by_cases e0 : e = 0
        · exact .inl e0
        · refine .inr ?_
          rwa [List.getD_eq_getElem?_getD, List.getElem?_append_left (by omega), ← List.getD_eq_getElem?_getD] at n
/-- the k-th number of the product -/
def cv : List Int → List Int → Nat → Int
  | [], _, _ => 0
  | x :: xs, ys, k => x * ys.getD k 0 + if k = 0 then 0 else cv xs ys (k - 1)
theorem cv_snoc : ∀ (u : List Int) (x : Int) (ys : List Int) (k : Nat), cv (u ++ [x]) ys k = cv u ys k + if u.length ≤ k then x * ys.getD (k - u.length) 0 else 0
  | [], x, ys, k => by simp [cv]
  | y :: u, x, ys, k => by
    rw [List.cons_append, cv, cv]
    by_cases c : k = 0
    · subst c; simp
    · rw [if_neg c, if_neg c, cv_snoc u x ys (k - 1)]
      by_cases d : u.length ≤ k - 1
      · rw [if_pos d, if_pos (by rw [List.length_cons]; omega), List.length_cons, show k - 1 - u.length = k - (u.length + 1) by omega]; omega
      · rw [if_neg d, if_neg (by rw [List.length_cons]; omega)]; omega
theorem cv_take {xs ys : List Int} {i : Nat} {x : Int} (h : xs[i]? = some x) (k : Nat) : cv (xs.take (i + 1)) ys k = cv (xs.take i) ys k + if i ≤ k then x * ys.getD (k - i) 0 else 0 := by
  have hi := (List.getElem?_eq_some_iff.mp h).1
  rw [List.take_add_one, h]
  show cv (xs.take i ++ [x]) ys k = _
  rw [cv_snoc, List.length_take, Nat.min_eq_left (by omega)]
/-- the product as a list with two zeros too many, or less -/
def mu (xs ys : List Int) : List Int := trim (tab (xs.length + ys.length) (cv xs ys))
/-- in the middle of the loops -/
def md (xs ys : List Int) (i j : Nat) (x : Int) : Nat → Int := fun k => cv (xs.take i) ys k + if i ≤ k ∧ k < i + j then x * ys.getD (k - i) 0 else 0
theorem md_0 {n : Nat} {xs ys : List Int} {i : Nat} {x : Int} : Lp.tb n (md xs ys i 0 x) = Lp.tb n (cv (xs.take i) ys) := Lp.tb_congr fun k _ => by
  unfold md; rw [if_neg (by omega)]; omega
theorem md_end {n : Nat} {xs ys : List Int} {i : Nat} {x : Int} (h : xs[i]? = some x) : Lp.tb n (md xs ys i ys.length x) = Lp.tb n (cv (xs.take (i + 1)) ys) := Lp.tb_congr fun k _ => by
  unfold md
  rw [cv_take h]
  by_cases c : i ≤ k
  · rw [if_pos c]
    by_cases d : k < i + ys.length
    · rw [if_pos ⟨c, d⟩]
    · rw [if_neg (by omega), List.getD_eq_getElem?_getD, List.getElem?_eq_none (by omega)]; simp
  · rw [if_neg c, if_neg (by omega)]
theorem md_step {n : Nat} {xs ys : List Int} {i j : Nat} {x y : Int} (h : ys[j]? = some y) : (Lp.tb n (md xs ys i j x)).set (i + j) (.int (md xs ys i j x (i + j) + x * y)) = Lp.tb n (md xs ys i (j + 1) x) := by
  rw [Lp.tb_set]
  refine Lp.tb_congr fun k _ => ?_
  by_cases e : k = i + j
  · rw [if_pos e]; subst e; unfold md
    rw [if_neg (by omega), if_pos (by omega), show i + j - i = j by omega, List.getD_eq_getElem?_getD, h]
    show _ + 0 + x * y = _ + x * y
    omega
  · rw [if_neg e]; unfold md
    by_cases c : i ≤ k ∧ k < i + j
    · rw [if_pos c, if_pos (by omega)]
    · rw [if_neg c, if_neg (by omega)]
end Pv

/-! Pm: products of rows, reckoned. -/
namespace Pm
open Pq Pv
def addL : List Int → List Int → List Int
  | [], ys => ys
  | x :: xs, [] => x :: xs
  | x :: xs, y :: ys => (x + y) :: addL xs ys
theorem addL_get : ∀ (xs ys : List Int) (k : Nat), (addL xs ys).getD k 0 = xs.getD k 0 + ys.getD k 0
  | [], ys, k => by rw [addL, show (([] : List Int).getD k 0) = 0 from rfl, Int.zero_add]
  | x :: xs, [], k => by rw [addL, show (([] : List Int).getD k 0) = 0 from rfl, Int.add_zero]
  | x :: xs, y :: ys, 0 => rfl
  | x :: xs, y :: ys, k + 1 => by
    show (addL xs ys).getD k 0 = xs.getD k 0 + ys.getD k 0
    exact addL_get xs ys k
theorem addL_len : ∀ (xs ys : List Int), (addL xs ys).length = max xs.length ys.length
  | [], ys => by rw [addL]; simp
  | x :: xs, [] => by rw [addL]; simp
  | x :: xs, y :: ys => by
    rw [addL, List.length_cons, List.length_cons, List.length_cons, addL_len xs ys]; omega
def mulL : List Int → List Int → List Int
  | [], _ => []
  | x :: xs, ys => addL (ys.map fun y => x * y) (0 :: mulL xs ys)
theorem map_get (x : Int) (ys : List Int) (k : Nat) : (ys.map fun y => x * y).getD k 0 = x * ys.getD k 0 := by
  rw [List.getD_eq_getElem?_getD, List.getD_eq_getElem?_getD, List.getElem?_map]
  cases ys[k]? with
  | none => simp
  | some y => rfl
theorem mulL_get : ∀ (xs ys : List Int) (k : Nat), (mulL xs ys).getD k 0 = cv xs ys k
  | [], _, k => rfl
  | x :: xs, ys, k => by
    rw [mulL, addL_get, map_get, cv]
    cases k with
    | zero => rfl
    | succ k =>
      rw [if_neg (by omega)]
      show x * ys.getD (k + 1) 0 + (mulL xs ys).getD k 0 = _
      rw [mulL_get xs ys k]; rfl
theorem mulL_len : ∀ (xs ys : List Int), (mulL xs ys).length ≤ xs.length + ys.length
  | [], _ => by rw [mulL]; simp
  | x :: xs, ys => by
    have := mulL_len xs ys
    rw [mulL, addL_len, List.length_map, List.length_cons, List.length_cons]; omega
theorem trim_pad (u : List Int) : ∀ k, trim (u ++ List.replicate k 0) = trim u
  | 0 => by simp
  | k + 1 => by rw [List.replicate_succ', ← List.append_assoc, trim_snoc0, trim_pad u k]
theorem mu_is (xs ys : List Int) : mu xs ys = trim (mulL xs ys) := by
  have hl := mulL_len xs ys
  unfold mu
  rw [← trim_pad (mulL xs ys) (xs.length + ys.length - (mulL xs ys).length)]
  congr 1
  apply List.ext_getElem?
  intro j
  by_cases c : j < xs.length + ys.length
  · rw [tab_get c]
    by_cases d : j < (mulL xs ys).length
    · rw [List.getElem?_append_left d, List.getElem?_eq_getElem d, ← mulL_get, List.getD_eq_getElem?_getD, List.getElem?_eq_getElem d]; rfl
    · rw [List.getElem?_append_right (by omega), List.getElem?_replicate, if_pos (by omega), ← mulL_get, List.getD_eq_getElem?_getD, List.getElem?_eq_none (by omega)]; rfl
  · rw [List.getElem?_eq_none (by rw [tab_len]; omega), List.getElem?_eq_none (by rw [List.length_append, List.length_replicate]; omega)]
def ones (n : Nat) : List Int := List.replicate n 1
/-- a polynomial, as is asked -/
def plB (q : List Int) : Bool := q.length.ble 400 && (q.all (fun x => decide (x.natAbs < 1000000000000)) && (q.isEmpty || !(q.getD (q.length - 1) 0 == 0)))
theorem plB_is {q : List Int} (h : plB q = true) : q.length ≤ 400 ∧ (∀ x, x ∈ q → x.natAbs < 1000000000000) ∧ (q = [] ∨ q.getD (q.length - 1) 0 ≠ 0) := by
  unfold plB at h
  simp only [Bool.and_eq_true, Bool.or_eq_true, Nat.ble_eq, List.all_eq_true, decide_eq_true_eq, Bool.not_eq_true', beq_eq_false_iff_ne, List.isEmpty_iff] at h
  exact ⟨h.1, h.2.1, h.2.2⟩
def gp : List Nat → List Int → Option (List Int)
  | [], q => some q
  | n :: ns, q => if plB q && plB (ones n) then gp ns (trim (mulL q (ones n))) else none
def fd (ns : List Nat) (q : List Int) : List Int := ns.foldl (fun q n => mu q (ones n)) q
theorem gp_is : ∀ (ns : List Nat) (q r : List Int), gp ns q = some r → fd ns q = r ∧ ∀ i n, ns[i]? = some n → plB (fd (ns.take i) q) = true ∧ plB (ones n) = true
  | [], q, r, h => ⟨Option.some.inj h, fun i n hn => by simp at hn⟩
  | n :: ns, q, r, h => by
    rw [gp] at h
    by_cases c : (plB q && plB (ones n)) = true
    · rw [if_pos c] at h
      rw [Bool.and_eq_true] at c
      obtain ⟨h1, h2⟩ := gp_is ns _ r h
      rw [← mu_is] at h1 h2
      refine ⟨h1, fun i m hm => ?_⟩
      cases i with
      | zero =>
        have : n = m := Option.some.inj hm
        subst this
        exact c
      | succ i => exact h2 i m hm
    · rw [if_neg c] at h; cases h
def ok12 (a b : Nat) : Bool :=
  match gp (rg 1 a ++ rg 1 b) (prL ((a - 1) * (b - 1) + 1) (max a b) (min a b - 1)), gp (rg 1 (a + b - 1)) [1] with
  | some r, some r' => r == r'
  | _, _ => false
theorem ok12_is {a b : Nat} (h : ok12 a b = true) : ∃ r, gp (rg 1 a ++ rg 1 b) (tab ((a - 1) * (b - 1) + 1) (pr (max a b) (min a b - 1))) = some r ∧ gp (rg 1 (a + b - 1)) [1] = some r := by
  unfold ok12 at h
  rw [prL_tab (by omega)] at h
  cases h1 : gp (rg 1 a ++ rg 1 b) (tab ((a - 1) * (b - 1) + 1) (pr (max a b) (min a b - 1))) with
  | none => rw [h1] at h; cases h
  | some r =>
    rw [h1] at h
    cases h2 : gp (rg 1 (a + b - 1)) [1] with
    | none => rw [h2] at h; cases h
    | some r' =>
      rw [h2] at h
      have : r = r' := eq_of_beq h
      exact ⟨r, rfl, by rw [this]⟩
end Pm

/-! Pj: the products of slopes of at most 12 letters. -/
namespace Pm
theorem o_1_1 : ok12 1 1 = true := by decide +kernel
theorem o_1_2 : ok12 1 2 = true := by decide +kernel
theorem o_1_3 : ok12 1 3 = true := by decide +kernel
theorem o_1_4 : ok12 1 4 = true := by decide +kernel
theorem o_1_5 : ok12 1 5 = true := by decide +kernel
theorem o_1_6 : ok12 1 6 = true := by decide +kernel
theorem o_1_7 : ok12 1 7 = true := by decide +kernel
theorem o_1_8 : ok12 1 8 = true := by decide +kernel
theorem o_1_9 : ok12 1 9 = true := by decide +kernel
theorem o_1_10 : ok12 1 10 = true := by decide +kernel
theorem o_1_11 : ok12 1 11 = true := by decide +kernel
theorem o_2_1 : ok12 2 1 = true := by decide +kernel
theorem o_2_3 : ok12 2 3 = true := by decide +kernel
theorem o_2_5 : ok12 2 5 = true := by decide +kernel
theorem o_2_7 : ok12 2 7 = true := by decide +kernel
theorem o_2_9 : ok12 2 9 = true := by decide +kernel
theorem o_3_1 : ok12 3 1 = true := by decide +kernel
theorem o_3_2 : ok12 3 2 = true := by decide +kernel
theorem o_3_4 : ok12 3 4 = true := by decide +kernel
theorem o_3_5 : ok12 3 5 = true := by decide +kernel
theorem o_3_7 : ok12 3 7 = true := by decide +kernel
theorem o_3_8 : ok12 3 8 = true := by decide +kernel
theorem o_4_1 : ok12 4 1 = true := by decide +kernel
theorem o_4_3 : ok12 4 3 = true := by decide +kernel
theorem o_4_5 : ok12 4 5 = true := by decide +kernel
theorem o_4_7 : ok12 4 7 = true := by decide +kernel
theorem o_5_1 : ok12 5 1 = true := by decide +kernel
theorem o_5_2 : ok12 5 2 = true := by decide +kernel
theorem o_5_3 : ok12 5 3 = true := by decide +kernel
theorem o_5_4 : ok12 5 4 = true := by decide +kernel
theorem o_5_6 : ok12 5 6 = true := by decide +kernel
theorem o_5_7 : ok12 5 7 = true := by decide +kernel
theorem o_6_1 : ok12 6 1 = true := by decide +kernel
theorem o_6_5 : ok12 6 5 = true := by decide +kernel
theorem o_7_1 : ok12 7 1 = true := by decide +kernel
theorem o_7_2 : ok12 7 2 = true := by decide +kernel
theorem o_7_3 : ok12 7 3 = true := by decide +kernel
theorem o_7_4 : ok12 7 4 = true := by decide +kernel
theorem o_7_5 : ok12 7 5 = true := by decide +kernel
theorem o_8_1 : ok12 8 1 = true := by decide +kernel
theorem o_8_3 : ok12 8 3 = true := by decide +kernel
theorem o_9_1 : ok12 9 1 = true := by decide +kernel
theorem o_9_2 : ok12 9 2 = true := by decide +kernel
theorem o_10_1 : ok12 10 1 = true := by decide +kernel
theorem o_11_1 : ok12 11 1 = true := by decide +kernel
theorem ok12_at {a b : Nat} (ha : 1 ≤ a) (hb : 1 ≤ b) (h : a + b ≤ 12) (hg : Nat.gcd a b = 1) : ok12 a b = true := by
  have a1 : a = 1 ∨ a = 2 ∨ a = 3 ∨ a = 4 ∨ a = 5 ∨ a = 6 ∨ a = 7 ∨ a = 8 ∨ a = 9 ∨ a = 10 ∨ a = 11 := by omega
  rcases a1 with rfl | rfl | rfl | rfl | rfl | rfl | rfl | rfl | rfl | rfl | rfl
  · have b1 : b = 1 ∨ b = 2 ∨ b = 3 ∨ b = 4 ∨ b = 5 ∨ b = 6 ∨ b = 7 ∨ b = 8 ∨ b = 9 ∨ b = 10 ∨ b = 11 := by omega
    rcases b1 with rfl | rfl | rfl | rfl | rfl | rfl | rfl | rfl | rfl | rfl | rfl
    · exact o_1_1
    · exact o_1_2
    · exact o_1_3
    · exact o_1_4
    · exact o_1_5
    · exact o_1_6
    · exact o_1_7
    · exact o_1_8
    · exact o_1_9
    · exact o_1_10
    · exact o_1_11
  · have b1 : b = 1 ∨ b = 2 ∨ b = 3 ∨ b = 4 ∨ b = 5 ∨ b = 6 ∨ b = 7 ∨ b = 8 ∨ b = 9 ∨ b = 10 := by omega
    rcases b1 with rfl | rfl | rfl | rfl | rfl | rfl | rfl | rfl | rfl | rfl
    · exact o_2_1
    · exact absurd hg (by decide)
    · exact o_2_3
    · exact absurd hg (by decide)
    · exact o_2_5
    · exact absurd hg (by decide)
    · exact o_2_7
    · exact absurd hg (by decide)
    · exact o_2_9
    · exact absurd hg (by decide)
  · have b1 : b = 1 ∨ b = 2 ∨ b = 3 ∨ b = 4 ∨ b = 5 ∨ b = 6 ∨ b = 7 ∨ b = 8 ∨ b = 9 := by omega
    rcases b1 with rfl | rfl | rfl | rfl | rfl | rfl | rfl | rfl | rfl
    · exact o_3_1
    · exact o_3_2
    · exact absurd hg (by decide)
    · exact o_3_4
    · exact o_3_5
    · exact absurd hg (by decide)
    · exact o_3_7
    · exact o_3_8
    · exact absurd hg (by decide)
  · have b1 : b = 1 ∨ b = 2 ∨ b = 3 ∨ b = 4 ∨ b = 5 ∨ b = 6 ∨ b = 7 ∨ b = 8 := by omega
    rcases b1 with rfl | rfl | rfl | rfl | rfl | rfl | rfl | rfl
    · exact o_4_1
    · exact absurd hg (by decide)
    · exact o_4_3
    · exact absurd hg (by decide)
    · exact o_4_5
    · exact absurd hg (by decide)
    · exact o_4_7
    · exact absurd hg (by decide)
  · have b1 : b = 1 ∨ b = 2 ∨ b = 3 ∨ b = 4 ∨ b = 5 ∨ b = 6 ∨ b = 7 := by omega
    rcases b1 with rfl | rfl | rfl | rfl | rfl | rfl | rfl
    · exact o_5_1
    · exact o_5_2
    · exact o_5_3
    · exact o_5_4
    · exact absurd hg (by decide)
    · exact o_5_6
    · exact o_5_7
  · have b1 : b = 1 ∨ b = 2 ∨ b = 3 ∨ b = 4 ∨ b = 5 ∨ b = 6 := by omega
    rcases b1 with rfl | rfl | rfl | rfl | rfl | rfl
    · exact o_6_1
    · exact absurd hg (by decide)
    · exact absurd hg (by decide)
    · exact absurd hg (by decide)
    · exact o_6_5
    · exact absurd hg (by decide)
  · have b1 : b = 1 ∨ b = 2 ∨ b = 3 ∨ b = 4 ∨ b = 5 := by omega
    rcases b1 with rfl | rfl | rfl | rfl | rfl
    · exact o_7_1
    · exact o_7_2
    · exact o_7_3
    · exact o_7_4
    · exact o_7_5
  · have b1 : b = 1 ∨ b = 2 ∨ b = 3 ∨ b = 4 := by omega
    rcases b1 with rfl | rfl | rfl | rfl
    · exact o_8_1
    · exact absurd hg (by decide)
    · exact o_8_3
    · exact absurd hg (by decide)
  · have b1 : b = 1 ∨ b = 2 ∨ b = 3 := by omega
    rcases b1 with rfl | rfl | rfl
    · exact o_9_1
    · exact o_9_2
    · exact absurd hg (by decide)
  · have b1 : b = 1 ∨ b = 2 := by omega
    rcases b1 with rfl | rfl
    · exact o_10_1
    · exact absurd hg (by decide)
  · have b1 : b = 1 := by omega
    rcases b1 with rfl
    · exact o_11_1
end Pm

/-! Pk: what is asked of the row of a coprime slope of at most 40 letters, reckoned. -/
namespace Pk
open Pq Pv
def addL : List Int → List Int → List Int
  | [], ys => ys
  | xs, [] => xs
  | x :: xs, y :: ys => (x + y) :: addL xs ys
/-- no number below 0, none too great -/
def low : List Int → Bool
  | [] => true
  | .ofNat n :: t => n.blt 18446744073709551616 && low t
  | .negSucc _ :: _ => false
def sumL : List Int → Int
  | [] => 0
  | x :: t => x + sumL t
def okq (a b : Nat) : Bool :=
  let q := prL ((a - 1) * (b - 1) + 1) b (a - 1)
  low q && (q.reverse == q && (sumL q == ((M3.wc a b : Nat) : Int) && (M3.wc a b == M3.wc b a && !(q.getD (q.length - 1) 0 == 0))))
def rowA (a : Nat) : Nat → Bool
  | 0 => true
  | n + 1 => rowA a n && (if Nat.gcd a (a + n) == 1 then okq a (a + n) else true)
def allA : Nat → Bool
  | 0 => true
  | n + 1 => allA n && rowA (n + 1) (41 - 2 * (n + 1))
theorem p_1_1 : okq 1 1 = true := by decide +kernel
theorem p_1_2 : okq 1 2 = true := by decide +kernel
theorem p_1_3 : okq 1 3 = true := by decide +kernel
theorem p_1_4 : okq 1 4 = true := by decide +kernel
theorem p_1_5 : okq 1 5 = true := by decide +kernel
theorem p_1_6 : okq 1 6 = true := by decide +kernel
theorem p_1_7 : okq 1 7 = true := by decide +kernel
theorem p_1_8 : okq 1 8 = true := by decide +kernel
theorem p_1_9 : okq 1 9 = true := by decide +kernel
theorem p_1_10 : okq 1 10 = true := by decide +kernel
theorem p_1_11 : okq 1 11 = true := by decide +kernel
theorem p_1_12 : okq 1 12 = true := by decide +kernel
theorem p_1_13 : okq 1 13 = true := by decide +kernel
theorem p_1_14 : okq 1 14 = true := by decide +kernel
theorem p_1_15 : okq 1 15 = true := by decide +kernel
theorem p_1_16 : okq 1 16 = true := by decide +kernel
theorem p_1_17 : okq 1 17 = true := by decide +kernel
theorem p_1_18 : okq 1 18 = true := by decide +kernel
theorem p_1_19 : okq 1 19 = true := by decide +kernel
theorem p_1_20 : okq 1 20 = true := by decide +kernel
theorem p_1_21 : okq 1 21 = true := by decide +kernel
theorem p_1_22 : okq 1 22 = true := by decide +kernel
theorem p_1_23 : okq 1 23 = true := by decide +kernel
theorem p_1_24 : okq 1 24 = true := by decide +kernel
theorem p_1_25 : okq 1 25 = true := by decide +kernel
theorem p_1_26 : okq 1 26 = true := by decide +kernel
theorem p_1_27 : okq 1 27 = true := by decide +kernel
theorem p_1_28 : okq 1 28 = true := by decide +kernel
theorem p_1_29 : okq 1 29 = true := by decide +kernel
theorem p_1_30 : okq 1 30 = true := by decide +kernel
theorem p_1_31 : okq 1 31 = true := by decide +kernel
theorem p_1_32 : okq 1 32 = true := by decide +kernel
theorem p_1_33 : okq 1 33 = true := by decide +kernel
theorem p_1_34 : okq 1 34 = true := by decide +kernel
theorem p_1_35 : okq 1 35 = true := by decide +kernel
theorem p_1_36 : okq 1 36 = true := by decide +kernel
theorem p_1_37 : okq 1 37 = true := by decide +kernel
theorem p_1_38 : okq 1 38 = true := by decide +kernel
theorem p_1_39 : okq 1 39 = true := by decide +kernel
theorem r_1_0 : rowA 1 0 = true := rfl
theorem r_1_1 : rowA 1 1 = true := by rw [rowA, r_1_0, if_pos (by decide), p_1_1]; rfl
theorem r_1_2 : rowA 1 2 = true := by rw [rowA, r_1_1, if_pos (by decide), p_1_2]; rfl
theorem r_1_3 : rowA 1 3 = true := by rw [rowA, r_1_2, if_pos (by decide), p_1_3]; rfl
theorem r_1_4 : rowA 1 4 = true := by rw [rowA, r_1_3, if_pos (by decide), p_1_4]; rfl
theorem r_1_5 : rowA 1 5 = true := by rw [rowA, r_1_4, if_pos (by decide), p_1_5]; rfl
theorem r_1_6 : rowA 1 6 = true := by rw [rowA, r_1_5, if_pos (by decide), p_1_6]; rfl
theorem r_1_7 : rowA 1 7 = true := by rw [rowA, r_1_6, if_pos (by decide), p_1_7]; rfl
theorem r_1_8 : rowA 1 8 = true := by rw [rowA, r_1_7, if_pos (by decide), p_1_8]; rfl
theorem r_1_9 : rowA 1 9 = true := by rw [rowA, r_1_8, if_pos (by decide), p_1_9]; rfl
theorem r_1_10 : rowA 1 10 = true := by rw [rowA, r_1_9, if_pos (by decide), p_1_10]; rfl
theorem r_1_11 : rowA 1 11 = true := by rw [rowA, r_1_10, if_pos (by decide), p_1_11]; rfl
theorem r_1_12 : rowA 1 12 = true := by rw [rowA, r_1_11, if_pos (by decide), p_1_12]; rfl
theorem r_1_13 : rowA 1 13 = true := by rw [rowA, r_1_12, if_pos (by decide), p_1_13]; rfl
theorem r_1_14 : rowA 1 14 = true := by rw [rowA, r_1_13, if_pos (by decide), p_1_14]; rfl
theorem r_1_15 : rowA 1 15 = true := by rw [rowA, r_1_14, if_pos (by decide), p_1_15]; rfl
theorem r_1_16 : rowA 1 16 = true := by rw [rowA, r_1_15, if_pos (by decide), p_1_16]; rfl
theorem r_1_17 : rowA 1 17 = true := by rw [rowA, r_1_16, if_pos (by decide), p_1_17]; rfl
theorem r_1_18 : rowA 1 18 = true := by rw [rowA, r_1_17, if_pos (by decide), p_1_18]; rfl
theorem r_1_19 : rowA 1 19 = true := by rw [rowA, r_1_18, if_pos (by decide), p_1_19]; rfl
theorem r_1_20 : rowA 1 20 = true := by rw [rowA, r_1_19, if_pos (by decide), p_1_20]; rfl
theorem r_1_21 : rowA 1 21 = true := by rw [rowA, r_1_20, if_pos (by decide), p_1_21]; rfl
theorem r_1_22 : rowA 1 22 = true := by rw [rowA, r_1_21, if_pos (by decide), p_1_22]; rfl
theorem r_1_23 : rowA 1 23 = true := by rw [rowA, r_1_22, if_pos (by decide), p_1_23]; rfl
theorem r_1_24 : rowA 1 24 = true := by rw [rowA, r_1_23, if_pos (by decide), p_1_24]; rfl
theorem r_1_25 : rowA 1 25 = true := by rw [rowA, r_1_24, if_pos (by decide), p_1_25]; rfl
theorem r_1_26 : rowA 1 26 = true := by rw [rowA, r_1_25, if_pos (by decide), p_1_26]; rfl
theorem r_1_27 : rowA 1 27 = true := by rw [rowA, r_1_26, if_pos (by decide), p_1_27]; rfl
theorem r_1_28 : rowA 1 28 = true := by rw [rowA, r_1_27, if_pos (by decide), p_1_28]; rfl
theorem r_1_29 : rowA 1 29 = true := by rw [rowA, r_1_28, if_pos (by decide), p_1_29]; rfl
theorem r_1_30 : rowA 1 30 = true := by rw [rowA, r_1_29, if_pos (by decide), p_1_30]; rfl
theorem r_1_31 : rowA 1 31 = true := by rw [rowA, r_1_30, if_pos (by decide), p_1_31]; rfl
theorem r_1_32 : rowA 1 32 = true := by rw [rowA, r_1_31, if_pos (by decide), p_1_32]; rfl
theorem r_1_33 : rowA 1 33 = true := by rw [rowA, r_1_32, if_pos (by decide), p_1_33]; rfl
theorem r_1_34 : rowA 1 34 = true := by rw [rowA, r_1_33, if_pos (by decide), p_1_34]; rfl
theorem r_1_35 : rowA 1 35 = true := by rw [rowA, r_1_34, if_pos (by decide), p_1_35]; rfl
theorem r_1_36 : rowA 1 36 = true := by rw [rowA, r_1_35, if_pos (by decide), p_1_36]; rfl
theorem r_1_37 : rowA 1 37 = true := by rw [rowA, r_1_36, if_pos (by decide), p_1_37]; rfl
theorem r_1_38 : rowA 1 38 = true := by rw [rowA, r_1_37, if_pos (by decide), p_1_38]; rfl
theorem r_1_39 : rowA 1 39 = true := by rw [rowA, r_1_38, if_pos (by decide), p_1_39]; rfl
theorem p_2_3 : okq 2 3 = true := by decide +kernel
theorem p_2_5 : okq 2 5 = true := by decide +kernel
theorem p_2_7 : okq 2 7 = true := by decide +kernel
theorem p_2_9 : okq 2 9 = true := by decide +kernel
theorem p_2_11 : okq 2 11 = true := by decide +kernel
theorem p_2_13 : okq 2 13 = true := by decide +kernel
theorem p_2_15 : okq 2 15 = true := by decide +kernel
theorem p_2_17 : okq 2 17 = true := by decide +kernel
theorem p_2_19 : okq 2 19 = true := by decide +kernel
theorem p_2_21 : okq 2 21 = true := by decide +kernel
theorem p_2_23 : okq 2 23 = true := by decide +kernel
theorem p_2_25 : okq 2 25 = true := by decide +kernel
theorem p_2_27 : okq 2 27 = true := by decide +kernel
theorem p_2_29 : okq 2 29 = true := by decide +kernel
theorem p_2_31 : okq 2 31 = true := by decide +kernel
theorem p_2_33 : okq 2 33 = true := by decide +kernel
theorem p_2_35 : okq 2 35 = true := by decide +kernel
theorem p_2_37 : okq 2 37 = true := by decide +kernel
theorem r_2_0 : rowA 2 0 = true := rfl
theorem r_2_1 : rowA 2 1 = true := by rw [rowA, r_2_0, if_neg (by decide)]; rfl
theorem r_2_2 : rowA 2 2 = true := by rw [rowA, r_2_1, if_pos (by decide), p_2_3]; rfl
theorem r_2_3 : rowA 2 3 = true := by rw [rowA, r_2_2, if_neg (by decide)]; rfl
theorem r_2_4 : rowA 2 4 = true := by rw [rowA, r_2_3, if_pos (by decide), p_2_5]; rfl
theorem r_2_5 : rowA 2 5 = true := by rw [rowA, r_2_4, if_neg (by decide)]; rfl
theorem r_2_6 : rowA 2 6 = true := by rw [rowA, r_2_5, if_pos (by decide), p_2_7]; rfl
theorem r_2_7 : rowA 2 7 = true := by rw [rowA, r_2_6, if_neg (by decide)]; rfl
theorem r_2_8 : rowA 2 8 = true := by rw [rowA, r_2_7, if_pos (by decide), p_2_9]; rfl
theorem r_2_9 : rowA 2 9 = true := by rw [rowA, r_2_8, if_neg (by decide)]; rfl
theorem r_2_10 : rowA 2 10 = true := by rw [rowA, r_2_9, if_pos (by decide), p_2_11]; rfl
theorem r_2_11 : rowA 2 11 = true := by rw [rowA, r_2_10, if_neg (by decide)]; rfl
theorem r_2_12 : rowA 2 12 = true := by rw [rowA, r_2_11, if_pos (by decide), p_2_13]; rfl
theorem r_2_13 : rowA 2 13 = true := by rw [rowA, r_2_12, if_neg (by decide)]; rfl
theorem r_2_14 : rowA 2 14 = true := by rw [rowA, r_2_13, if_pos (by decide), p_2_15]; rfl
theorem r_2_15 : rowA 2 15 = true := by rw [rowA, r_2_14, if_neg (by decide)]; rfl
theorem r_2_16 : rowA 2 16 = true := by rw [rowA, r_2_15, if_pos (by decide), p_2_17]; rfl
theorem r_2_17 : rowA 2 17 = true := by rw [rowA, r_2_16, if_neg (by decide)]; rfl
theorem r_2_18 : rowA 2 18 = true := by rw [rowA, r_2_17, if_pos (by decide), p_2_19]; rfl
theorem r_2_19 : rowA 2 19 = true := by rw [rowA, r_2_18, if_neg (by decide)]; rfl
theorem r_2_20 : rowA 2 20 = true := by rw [rowA, r_2_19, if_pos (by decide), p_2_21]; rfl
theorem r_2_21 : rowA 2 21 = true := by rw [rowA, r_2_20, if_neg (by decide)]; rfl
theorem r_2_22 : rowA 2 22 = true := by rw [rowA, r_2_21, if_pos (by decide), p_2_23]; rfl
theorem r_2_23 : rowA 2 23 = true := by rw [rowA, r_2_22, if_neg (by decide)]; rfl
theorem r_2_24 : rowA 2 24 = true := by rw [rowA, r_2_23, if_pos (by decide), p_2_25]; rfl
theorem r_2_25 : rowA 2 25 = true := by rw [rowA, r_2_24, if_neg (by decide)]; rfl
theorem r_2_26 : rowA 2 26 = true := by rw [rowA, r_2_25, if_pos (by decide), p_2_27]; rfl
theorem r_2_27 : rowA 2 27 = true := by rw [rowA, r_2_26, if_neg (by decide)]; rfl
theorem r_2_28 : rowA 2 28 = true := by rw [rowA, r_2_27, if_pos (by decide), p_2_29]; rfl
theorem r_2_29 : rowA 2 29 = true := by rw [rowA, r_2_28, if_neg (by decide)]; rfl
theorem r_2_30 : rowA 2 30 = true := by rw [rowA, r_2_29, if_pos (by decide), p_2_31]; rfl
theorem r_2_31 : rowA 2 31 = true := by rw [rowA, r_2_30, if_neg (by decide)]; rfl
theorem r_2_32 : rowA 2 32 = true := by rw [rowA, r_2_31, if_pos (by decide), p_2_33]; rfl
theorem r_2_33 : rowA 2 33 = true := by rw [rowA, r_2_32, if_neg (by decide)]; rfl
theorem r_2_34 : rowA 2 34 = true := by rw [rowA, r_2_33, if_pos (by decide), p_2_35]; rfl
theorem r_2_35 : rowA 2 35 = true := by rw [rowA, r_2_34, if_neg (by decide)]; rfl
theorem r_2_36 : rowA 2 36 = true := by rw [rowA, r_2_35, if_pos (by decide), p_2_37]; rfl
theorem r_2_37 : rowA 2 37 = true := by rw [rowA, r_2_36, if_neg (by decide)]; rfl
theorem p_3_4 : okq 3 4 = true := by decide +kernel
theorem p_3_5 : okq 3 5 = true := by decide +kernel
theorem p_3_7 : okq 3 7 = true := by decide +kernel
theorem p_3_8 : okq 3 8 = true := by decide +kernel
theorem p_3_10 : okq 3 10 = true := by decide +kernel
theorem p_3_11 : okq 3 11 = true := by decide +kernel
theorem p_3_13 : okq 3 13 = true := by decide +kernel
theorem p_3_14 : okq 3 14 = true := by decide +kernel
theorem p_3_16 : okq 3 16 = true := by decide +kernel
theorem p_3_17 : okq 3 17 = true := by decide +kernel
theorem p_3_19 : okq 3 19 = true := by decide +kernel
theorem p_3_20 : okq 3 20 = true := by decide +kernel
theorem p_3_22 : okq 3 22 = true := by decide +kernel
theorem p_3_23 : okq 3 23 = true := by decide +kernel
theorem p_3_25 : okq 3 25 = true := by decide +kernel
theorem p_3_26 : okq 3 26 = true := by decide +kernel
theorem p_3_28 : okq 3 28 = true := by decide +kernel
theorem p_3_29 : okq 3 29 = true := by decide +kernel
theorem p_3_31 : okq 3 31 = true := by decide +kernel
theorem p_3_32 : okq 3 32 = true := by decide +kernel
theorem p_3_34 : okq 3 34 = true := by decide +kernel
theorem p_3_35 : okq 3 35 = true := by decide +kernel
theorem p_3_37 : okq 3 37 = true := by decide +kernel
theorem r_3_0 : rowA 3 0 = true := rfl
theorem r_3_1 : rowA 3 1 = true := by rw [rowA, r_3_0, if_neg (by decide)]; rfl
theorem r_3_2 : rowA 3 2 = true := by rw [rowA, r_3_1, if_pos (by decide), p_3_4]; rfl
theorem r_3_3 : rowA 3 3 = true := by rw [rowA, r_3_2, if_pos (by decide), p_3_5]; rfl
theorem r_3_4 : rowA 3 4 = true := by rw [rowA, r_3_3, if_neg (by decide)]; rfl
theorem r_3_5 : rowA 3 5 = true := by rw [rowA, r_3_4, if_pos (by decide), p_3_7]; rfl
theorem r_3_6 : rowA 3 6 = true := by rw [rowA, r_3_5, if_pos (by decide), p_3_8]; rfl
theorem r_3_7 : rowA 3 7 = true := by rw [rowA, r_3_6, if_neg (by decide)]; rfl
theorem r_3_8 : rowA 3 8 = true := by rw [rowA, r_3_7, if_pos (by decide), p_3_10]; rfl
theorem r_3_9 : rowA 3 9 = true := by rw [rowA, r_3_8, if_pos (by decide), p_3_11]; rfl
theorem r_3_10 : rowA 3 10 = true := by rw [rowA, r_3_9, if_neg (by decide)]; rfl
theorem r_3_11 : rowA 3 11 = true := by rw [rowA, r_3_10, if_pos (by decide), p_3_13]; rfl
theorem r_3_12 : rowA 3 12 = true := by rw [rowA, r_3_11, if_pos (by decide), p_3_14]; rfl
theorem r_3_13 : rowA 3 13 = true := by rw [rowA, r_3_12, if_neg (by decide)]; rfl
theorem r_3_14 : rowA 3 14 = true := by rw [rowA, r_3_13, if_pos (by decide), p_3_16]; rfl
theorem r_3_15 : rowA 3 15 = true := by rw [rowA, r_3_14, if_pos (by decide), p_3_17]; rfl
theorem r_3_16 : rowA 3 16 = true := by rw [rowA, r_3_15, if_neg (by decide)]; rfl
theorem r_3_17 : rowA 3 17 = true := by rw [rowA, r_3_16, if_pos (by decide), p_3_19]; rfl
theorem r_3_18 : rowA 3 18 = true := by rw [rowA, r_3_17, if_pos (by decide), p_3_20]; rfl
theorem r_3_19 : rowA 3 19 = true := by rw [rowA, r_3_18, if_neg (by decide)]; rfl
theorem r_3_20 : rowA 3 20 = true := by rw [rowA, r_3_19, if_pos (by decide), p_3_22]; rfl
theorem r_3_21 : rowA 3 21 = true := by rw [rowA, r_3_20, if_pos (by decide), p_3_23]; rfl
theorem r_3_22 : rowA 3 22 = true := by rw [rowA, r_3_21, if_neg (by decide)]; rfl
theorem r_3_23 : rowA 3 23 = true := by rw [rowA, r_3_22, if_pos (by decide), p_3_25]; rfl
theorem r_3_24 : rowA 3 24 = true := by rw [rowA, r_3_23, if_pos (by decide), p_3_26]; rfl
theorem r_3_25 : rowA 3 25 = true := by rw [rowA, r_3_24, if_neg (by decide)]; rfl
theorem r_3_26 : rowA 3 26 = true := by rw [rowA, r_3_25, if_pos (by decide), p_3_28]; rfl
theorem r_3_27 : rowA 3 27 = true := by rw [rowA, r_3_26, if_pos (by decide), p_3_29]; rfl
theorem r_3_28 : rowA 3 28 = true := by rw [rowA, r_3_27, if_neg (by decide)]; rfl
theorem r_3_29 : rowA 3 29 = true := by rw [rowA, r_3_28, if_pos (by decide), p_3_31]; rfl
theorem r_3_30 : rowA 3 30 = true := by rw [rowA, r_3_29, if_pos (by decide), p_3_32]; rfl
theorem r_3_31 : rowA 3 31 = true := by rw [rowA, r_3_30, if_neg (by decide)]; rfl
theorem r_3_32 : rowA 3 32 = true := by rw [rowA, r_3_31, if_pos (by decide), p_3_34]; rfl
theorem r_3_33 : rowA 3 33 = true := by rw [rowA, r_3_32, if_pos (by decide), p_3_35]; rfl
theorem r_3_34 : rowA 3 34 = true := by rw [rowA, r_3_33, if_neg (by decide)]; rfl
theorem r_3_35 : rowA 3 35 = true := by rw [rowA, r_3_34, if_pos (by decide), p_3_37]; rfl
theorem p_4_5 : okq 4 5 = true := by decide +kernel
theorem p_4_7 : okq 4 7 = true := by decide +kernel
theorem p_4_9 : okq 4 9 = true := by decide +kernel
theorem p_4_11 : okq 4 11 = true := by decide +kernel
theorem p_4_13 : okq 4 13 = true := by decide +kernel
theorem p_4_15 : okq 4 15 = true := by decide +kernel
theorem p_4_17 : okq 4 17 = true := by decide +kernel
theorem p_4_19 : okq 4 19 = true := by decide +kernel
theorem p_4_21 : okq 4 21 = true := by decide +kernel
theorem p_4_23 : okq 4 23 = true := by decide +kernel
theorem p_4_25 : okq 4 25 = true := by decide +kernel
theorem p_4_27 : okq 4 27 = true := by decide +kernel
theorem p_4_29 : okq 4 29 = true := by decide +kernel
theorem p_4_31 : okq 4 31 = true := by decide +kernel
theorem p_4_33 : okq 4 33 = true := by decide +kernel
theorem p_4_35 : okq 4 35 = true := by decide +kernel
theorem r_4_0 : rowA 4 0 = true := rfl
theorem r_4_1 : rowA 4 1 = true := by rw [rowA, r_4_0, if_neg (by decide)]; rfl
theorem r_4_2 : rowA 4 2 = true := by rw [rowA, r_4_1, if_pos (by decide), p_4_5]; rfl
theorem r_4_3 : rowA 4 3 = true := by rw [rowA, r_4_2, if_neg (by decide)]; rfl
theorem r_4_4 : rowA 4 4 = true := by rw [rowA, r_4_3, if_pos (by decide), p_4_7]; rfl
theorem r_4_5 : rowA 4 5 = true := by rw [rowA, r_4_4, if_neg (by decide)]; rfl
theorem r_4_6 : rowA 4 6 = true := by rw [rowA, r_4_5, if_pos (by decide), p_4_9]; rfl
theorem r_4_7 : rowA 4 7 = true := by rw [rowA, r_4_6, if_neg (by decide)]; rfl
theorem r_4_8 : rowA 4 8 = true := by rw [rowA, r_4_7, if_pos (by decide), p_4_11]; rfl
theorem r_4_9 : rowA 4 9 = true := by rw [rowA, r_4_8, if_neg (by decide)]; rfl
theorem r_4_10 : rowA 4 10 = true := by rw [rowA, r_4_9, if_pos (by decide), p_4_13]; rfl
theorem r_4_11 : rowA 4 11 = true := by rw [rowA, r_4_10, if_neg (by decide)]; rfl
theorem r_4_12 : rowA 4 12 = true := by rw [rowA, r_4_11, if_pos (by decide), p_4_15]; rfl
theorem r_4_13 : rowA 4 13 = true := by rw [rowA, r_4_12, if_neg (by decide)]; rfl
theorem r_4_14 : rowA 4 14 = true := by rw [rowA, r_4_13, if_pos (by decide), p_4_17]; rfl
theorem r_4_15 : rowA 4 15 = true := by rw [rowA, r_4_14, if_neg (by decide)]; rfl
theorem r_4_16 : rowA 4 16 = true := by rw [rowA, r_4_15, if_pos (by decide), p_4_19]; rfl
theorem r_4_17 : rowA 4 17 = true := by rw [rowA, r_4_16, if_neg (by decide)]; rfl
theorem r_4_18 : rowA 4 18 = true := by rw [rowA, r_4_17, if_pos (by decide), p_4_21]; rfl
theorem r_4_19 : rowA 4 19 = true := by rw [rowA, r_4_18, if_neg (by decide)]; rfl
theorem r_4_20 : rowA 4 20 = true := by rw [rowA, r_4_19, if_pos (by decide), p_4_23]; rfl
theorem r_4_21 : rowA 4 21 = true := by rw [rowA, r_4_20, if_neg (by decide)]; rfl
theorem r_4_22 : rowA 4 22 = true := by rw [rowA, r_4_21, if_pos (by decide), p_4_25]; rfl
theorem r_4_23 : rowA 4 23 = true := by rw [rowA, r_4_22, if_neg (by decide)]; rfl
theorem r_4_24 : rowA 4 24 = true := by rw [rowA, r_4_23, if_pos (by decide), p_4_27]; rfl
theorem r_4_25 : rowA 4 25 = true := by rw [rowA, r_4_24, if_neg (by decide)]; rfl
theorem r_4_26 : rowA 4 26 = true := by rw [rowA, r_4_25, if_pos (by decide), p_4_29]; rfl
theorem r_4_27 : rowA 4 27 = true := by rw [rowA, r_4_26, if_neg (by decide)]; rfl
theorem r_4_28 : rowA 4 28 = true := by rw [rowA, r_4_27, if_pos (by decide), p_4_31]; rfl
theorem r_4_29 : rowA 4 29 = true := by rw [rowA, r_4_28, if_neg (by decide)]; rfl
theorem r_4_30 : rowA 4 30 = true := by rw [rowA, r_4_29, if_pos (by decide), p_4_33]; rfl
theorem r_4_31 : rowA 4 31 = true := by rw [rowA, r_4_30, if_neg (by decide)]; rfl
theorem r_4_32 : rowA 4 32 = true := by rw [rowA, r_4_31, if_pos (by decide), p_4_35]; rfl
theorem r_4_33 : rowA 4 33 = true := by rw [rowA, r_4_32, if_neg (by decide)]; rfl
theorem p_5_6 : okq 5 6 = true := by decide +kernel
theorem p_5_7 : okq 5 7 = true := by decide +kernel
theorem p_5_8 : okq 5 8 = true := by decide +kernel
theorem p_5_9 : okq 5 9 = true := by decide +kernel
theorem p_5_11 : okq 5 11 = true := by decide +kernel
theorem p_5_12 : okq 5 12 = true := by decide +kernel
theorem p_5_13 : okq 5 13 = true := by decide +kernel
theorem p_5_14 : okq 5 14 = true := by decide +kernel
theorem p_5_16 : okq 5 16 = true := by decide +kernel
theorem p_5_17 : okq 5 17 = true := by decide +kernel
theorem p_5_18 : okq 5 18 = true := by decide +kernel
theorem p_5_19 : okq 5 19 = true := by decide +kernel
theorem p_5_21 : okq 5 21 = true := by decide +kernel
theorem p_5_22 : okq 5 22 = true := by decide +kernel
theorem p_5_23 : okq 5 23 = true := by decide +kernel
theorem p_5_24 : okq 5 24 = true := by decide +kernel
theorem p_5_26 : okq 5 26 = true := by decide +kernel
theorem p_5_27 : okq 5 27 = true := by decide +kernel
theorem p_5_28 : okq 5 28 = true := by decide +kernel
theorem p_5_29 : okq 5 29 = true := by decide +kernel
theorem p_5_31 : okq 5 31 = true := by decide +kernel
theorem p_5_32 : okq 5 32 = true := by decide +kernel
theorem p_5_33 : okq 5 33 = true := by decide +kernel
theorem p_5_34 : okq 5 34 = true := by decide +kernel
theorem r_5_0 : rowA 5 0 = true := rfl
theorem r_5_1 : rowA 5 1 = true := by rw [rowA, r_5_0, if_neg (by decide)]; rfl
theorem r_5_2 : rowA 5 2 = true := by rw [rowA, r_5_1, if_pos (by decide), p_5_6]; rfl
theorem r_5_3 : rowA 5 3 = true := by rw [rowA, r_5_2, if_pos (by decide), p_5_7]; rfl
theorem r_5_4 : rowA 5 4 = true := by rw [rowA, r_5_3, if_pos (by decide), p_5_8]; rfl
theorem r_5_5 : rowA 5 5 = true := by rw [rowA, r_5_4, if_pos (by decide), p_5_9]; rfl
theorem r_5_6 : rowA 5 6 = true := by rw [rowA, r_5_5, if_neg (by decide)]; rfl
theorem r_5_7 : rowA 5 7 = true := by rw [rowA, r_5_6, if_pos (by decide), p_5_11]; rfl
theorem r_5_8 : rowA 5 8 = true := by rw [rowA, r_5_7, if_pos (by decide), p_5_12]; rfl
theorem r_5_9 : rowA 5 9 = true := by rw [rowA, r_5_8, if_pos (by decide), p_5_13]; rfl
theorem r_5_10 : rowA 5 10 = true := by rw [rowA, r_5_9, if_pos (by decide), p_5_14]; rfl
theorem r_5_11 : rowA 5 11 = true := by rw [rowA, r_5_10, if_neg (by decide)]; rfl
theorem r_5_12 : rowA 5 12 = true := by rw [rowA, r_5_11, if_pos (by decide), p_5_16]; rfl
theorem r_5_13 : rowA 5 13 = true := by rw [rowA, r_5_12, if_pos (by decide), p_5_17]; rfl
theorem r_5_14 : rowA 5 14 = true := by rw [rowA, r_5_13, if_pos (by decide), p_5_18]; rfl
theorem r_5_15 : rowA 5 15 = true := by rw [rowA, r_5_14, if_pos (by decide), p_5_19]; rfl
theorem r_5_16 : rowA 5 16 = true := by rw [rowA, r_5_15, if_neg (by decide)]; rfl
theorem r_5_17 : rowA 5 17 = true := by rw [rowA, r_5_16, if_pos (by decide), p_5_21]; rfl
theorem r_5_18 : rowA 5 18 = true := by rw [rowA, r_5_17, if_pos (by decide), p_5_22]; rfl
theorem r_5_19 : rowA 5 19 = true := by rw [rowA, r_5_18, if_pos (by decide), p_5_23]; rfl
theorem r_5_20 : rowA 5 20 = true := by rw [rowA, r_5_19, if_pos (by decide), p_5_24]; rfl
theorem r_5_21 : rowA 5 21 = true := by rw [rowA, r_5_20, if_neg (by decide)]; rfl
theorem r_5_22 : rowA 5 22 = true := by rw [rowA, r_5_21, if_pos (by decide), p_5_26]; rfl
theorem r_5_23 : rowA 5 23 = true := by rw [rowA, r_5_22, if_pos (by decide), p_5_27]; rfl
theorem r_5_24 : rowA 5 24 = true := by rw [rowA, r_5_23, if_pos (by decide), p_5_28]; rfl
theorem r_5_25 : rowA 5 25 = true := by rw [rowA, r_5_24, if_pos (by decide), p_5_29]; rfl
theorem r_5_26 : rowA 5 26 = true := by rw [rowA, r_5_25, if_neg (by decide)]; rfl
theorem r_5_27 : rowA 5 27 = true := by rw [rowA, r_5_26, if_pos (by decide), p_5_31]; rfl
theorem r_5_28 : rowA 5 28 = true := by rw [rowA, r_5_27, if_pos (by decide), p_5_32]; rfl
theorem r_5_29 : rowA 5 29 = true := by rw [rowA, r_5_28, if_pos (by decide), p_5_33]; rfl
theorem r_5_30 : rowA 5 30 = true := by rw [rowA, r_5_29, if_pos (by decide), p_5_34]; rfl
theorem r_5_31 : rowA 5 31 = true := by rw [rowA, r_5_30, if_neg (by decide)]; rfl
theorem p_6_7 : okq 6 7 = true := by decide +kernel
theorem p_6_11 : okq 6 11 = true := by decide +kernel
theorem p_6_13 : okq 6 13 = true := by decide +kernel
theorem p_6_17 : okq 6 17 = true := by decide +kernel
theorem p_6_19 : okq 6 19 = true := by decide +kernel
theorem p_6_23 : okq 6 23 = true := by decide +kernel
theorem p_6_25 : okq 6 25 = true := by decide +kernel
theorem p_6_29 : okq 6 29 = true := by decide +kernel
theorem p_6_31 : okq 6 31 = true := by decide +kernel
theorem r_6_0 : rowA 6 0 = true := rfl
theorem r_6_1 : rowA 6 1 = true := by rw [rowA, r_6_0, if_neg (by decide)]; rfl
theorem r_6_2 : rowA 6 2 = true := by rw [rowA, r_6_1, if_pos (by decide), p_6_7]; rfl
theorem r_6_3 : rowA 6 3 = true := by rw [rowA, r_6_2, if_neg (by decide)]; rfl
theorem r_6_4 : rowA 6 4 = true := by rw [rowA, r_6_3, if_neg (by decide)]; rfl
theorem r_6_5 : rowA 6 5 = true := by rw [rowA, r_6_4, if_neg (by decide)]; rfl
theorem r_6_6 : rowA 6 6 = true := by rw [rowA, r_6_5, if_pos (by decide), p_6_11]; rfl
theorem r_6_7 : rowA 6 7 = true := by rw [rowA, r_6_6, if_neg (by decide)]; rfl
theorem r_6_8 : rowA 6 8 = true := by rw [rowA, r_6_7, if_pos (by decide), p_6_13]; rfl
theorem r_6_9 : rowA 6 9 = true := by rw [rowA, r_6_8, if_neg (by decide)]; rfl
theorem r_6_10 : rowA 6 10 = true := by rw [rowA, r_6_9, if_neg (by decide)]; rfl
theorem r_6_11 : rowA 6 11 = true := by rw [rowA, r_6_10, if_neg (by decide)]; rfl
theorem r_6_12 : rowA 6 12 = true := by rw [rowA, r_6_11, if_pos (by decide), p_6_17]; rfl
theorem r_6_13 : rowA 6 13 = true := by rw [rowA, r_6_12, if_neg (by decide)]; rfl
theorem r_6_14 : rowA 6 14 = true := by rw [rowA, r_6_13, if_pos (by decide), p_6_19]; rfl
theorem r_6_15 : rowA 6 15 = true := by rw [rowA, r_6_14, if_neg (by decide)]; rfl
theorem r_6_16 : rowA 6 16 = true := by rw [rowA, r_6_15, if_neg (by decide)]; rfl
theorem r_6_17 : rowA 6 17 = true := by rw [rowA, r_6_16, if_neg (by decide)]; rfl
theorem r_6_18 : rowA 6 18 = true := by rw [rowA, r_6_17, if_pos (by decide), p_6_23]; rfl
theorem r_6_19 : rowA 6 19 = true := by rw [rowA, r_6_18, if_neg (by decide)]; rfl
theorem r_6_20 : rowA 6 20 = true := by rw [rowA, r_6_19, if_pos (by decide), p_6_25]; rfl
theorem r_6_21 : rowA 6 21 = true := by rw [rowA, r_6_20, if_neg (by decide)]; rfl
theorem r_6_22 : rowA 6 22 = true := by rw [rowA, r_6_21, if_neg (by decide)]; rfl
theorem r_6_23 : rowA 6 23 = true := by rw [rowA, r_6_22, if_neg (by decide)]; rfl
theorem r_6_24 : rowA 6 24 = true := by rw [rowA, r_6_23, if_pos (by decide), p_6_29]; rfl
theorem r_6_25 : rowA 6 25 = true := by rw [rowA, r_6_24, if_neg (by decide)]; rfl
theorem r_6_26 : rowA 6 26 = true := by rw [rowA, r_6_25, if_pos (by decide), p_6_31]; rfl
theorem r_6_27 : rowA 6 27 = true := by rw [rowA, r_6_26, if_neg (by decide)]; rfl
theorem r_6_28 : rowA 6 28 = true := by rw [rowA, r_6_27, if_neg (by decide)]; rfl
theorem r_6_29 : rowA 6 29 = true := by rw [rowA, r_6_28, if_neg (by decide)]; rfl
theorem p_7_8 : okq 7 8 = true := by decide +kernel
theorem p_7_9 : okq 7 9 = true := by decide +kernel
theorem p_7_10 : okq 7 10 = true := by decide +kernel
theorem p_7_11 : okq 7 11 = true := by decide +kernel
theorem p_7_12 : okq 7 12 = true := by decide +kernel
theorem p_7_13 : okq 7 13 = true := by decide +kernel
theorem p_7_15 : okq 7 15 = true := by decide +kernel
theorem p_7_16 : okq 7 16 = true := by decide +kernel
theorem p_7_17 : okq 7 17 = true := by decide +kernel
theorem p_7_18 : okq 7 18 = true := by decide +kernel
theorem p_7_19 : okq 7 19 = true := by decide +kernel
theorem p_7_20 : okq 7 20 = true := by decide +kernel
theorem p_7_22 : okq 7 22 = true := by decide +kernel
theorem p_7_23 : okq 7 23 = true := by decide +kernel
theorem p_7_24 : okq 7 24 = true := by decide +kernel
theorem p_7_25 : okq 7 25 = true := by decide +kernel
theorem p_7_26 : okq 7 26 = true := by decide +kernel
theorem p_7_27 : okq 7 27 = true := by decide +kernel
theorem p_7_29 : okq 7 29 = true := by decide +kernel
theorem p_7_30 : okq 7 30 = true := by decide +kernel
theorem p_7_31 : okq 7 31 = true := by decide +kernel
theorem p_7_32 : okq 7 32 = true := by decide +kernel
theorem p_7_33 : okq 7 33 = true := by decide +kernel
theorem r_7_0 : rowA 7 0 = true := rfl
theorem r_7_1 : rowA 7 1 = true := by rw [rowA, r_7_0, if_neg (by decide)]; rfl
theorem r_7_2 : rowA 7 2 = true := by rw [rowA, r_7_1, if_pos (by decide), p_7_8]; rfl
theorem r_7_3 : rowA 7 3 = true := by rw [rowA, r_7_2, if_pos (by decide), p_7_9]; rfl
theorem r_7_4 : rowA 7 4 = true := by rw [rowA, r_7_3, if_pos (by decide), p_7_10]; rfl
theorem r_7_5 : rowA 7 5 = true := by rw [rowA, r_7_4, if_pos (by decide), p_7_11]; rfl
theorem r_7_6 : rowA 7 6 = true := by rw [rowA, r_7_5, if_pos (by decide), p_7_12]; rfl
theorem r_7_7 : rowA 7 7 = true := by rw [rowA, r_7_6, if_pos (by decide), p_7_13]; rfl
theorem r_7_8 : rowA 7 8 = true := by rw [rowA, r_7_7, if_neg (by decide)]; rfl
theorem r_7_9 : rowA 7 9 = true := by rw [rowA, r_7_8, if_pos (by decide), p_7_15]; rfl
theorem r_7_10 : rowA 7 10 = true := by rw [rowA, r_7_9, if_pos (by decide), p_7_16]; rfl
theorem r_7_11 : rowA 7 11 = true := by rw [rowA, r_7_10, if_pos (by decide), p_7_17]; rfl
theorem r_7_12 : rowA 7 12 = true := by rw [rowA, r_7_11, if_pos (by decide), p_7_18]; rfl
theorem r_7_13 : rowA 7 13 = true := by rw [rowA, r_7_12, if_pos (by decide), p_7_19]; rfl
theorem r_7_14 : rowA 7 14 = true := by rw [rowA, r_7_13, if_pos (by decide), p_7_20]; rfl
theorem r_7_15 : rowA 7 15 = true := by rw [rowA, r_7_14, if_neg (by decide)]; rfl
theorem r_7_16 : rowA 7 16 = true := by rw [rowA, r_7_15, if_pos (by decide), p_7_22]; rfl
theorem r_7_17 : rowA 7 17 = true := by rw [rowA, r_7_16, if_pos (by decide), p_7_23]; rfl
theorem r_7_18 : rowA 7 18 = true := by rw [rowA, r_7_17, if_pos (by decide), p_7_24]; rfl
theorem r_7_19 : rowA 7 19 = true := by rw [rowA, r_7_18, if_pos (by decide), p_7_25]; rfl
theorem r_7_20 : rowA 7 20 = true := by rw [rowA, r_7_19, if_pos (by decide), p_7_26]; rfl
theorem r_7_21 : rowA 7 21 = true := by rw [rowA, r_7_20, if_pos (by decide), p_7_27]; rfl
theorem r_7_22 : rowA 7 22 = true := by rw [rowA, r_7_21, if_neg (by decide)]; rfl
theorem r_7_23 : rowA 7 23 = true := by rw [rowA, r_7_22, if_pos (by decide), p_7_29]; rfl
theorem r_7_24 : rowA 7 24 = true := by rw [rowA, r_7_23, if_pos (by decide), p_7_30]; rfl
theorem r_7_25 : rowA 7 25 = true := by rw [rowA, r_7_24, if_pos (by decide), p_7_31]; rfl
theorem r_7_26 : rowA 7 26 = true := by rw [rowA, r_7_25, if_pos (by decide), p_7_32]; rfl
theorem r_7_27 : rowA 7 27 = true := by rw [rowA, r_7_26, if_pos (by decide), p_7_33]; rfl
theorem p_8_9 : okq 8 9 = true := by decide +kernel
theorem p_8_11 : okq 8 11 = true := by decide +kernel
theorem p_8_13 : okq 8 13 = true := by decide +kernel
theorem p_8_15 : okq 8 15 = true := by decide +kernel
theorem p_8_17 : okq 8 17 = true := by decide +kernel
theorem p_8_19 : okq 8 19 = true := by decide +kernel
theorem p_8_21 : okq 8 21 = true := by decide +kernel
theorem p_8_23 : okq 8 23 = true := by decide +kernel
theorem p_8_25 : okq 8 25 = true := by decide +kernel
theorem p_8_27 : okq 8 27 = true := by decide +kernel
theorem p_8_29 : okq 8 29 = true := by decide +kernel
theorem p_8_31 : okq 8 31 = true := by decide +kernel
theorem r_8_0 : rowA 8 0 = true := rfl
theorem r_8_1 : rowA 8 1 = true := by rw [rowA, r_8_0, if_neg (by decide)]; rfl
theorem r_8_2 : rowA 8 2 = true := by rw [rowA, r_8_1, if_pos (by decide), p_8_9]; rfl
theorem r_8_3 : rowA 8 3 = true := by rw [rowA, r_8_2, if_neg (by decide)]; rfl
theorem r_8_4 : rowA 8 4 = true := by rw [rowA, r_8_3, if_pos (by decide), p_8_11]; rfl
theorem r_8_5 : rowA 8 5 = true := by rw [rowA, r_8_4, if_neg (by decide)]; rfl
theorem r_8_6 : rowA 8 6 = true := by rw [rowA, r_8_5, if_pos (by decide), p_8_13]; rfl
theorem r_8_7 : rowA 8 7 = true := by rw [rowA, r_8_6, if_neg (by decide)]; rfl
theorem r_8_8 : rowA 8 8 = true := by rw [rowA, r_8_7, if_pos (by decide), p_8_15]; rfl
theorem r_8_9 : rowA 8 9 = true := by rw [rowA, r_8_8, if_neg (by decide)]; rfl
theorem r_8_10 : rowA 8 10 = true := by rw [rowA, r_8_9, if_pos (by decide), p_8_17]; rfl
theorem r_8_11 : rowA 8 11 = true := by rw [rowA, r_8_10, if_neg (by decide)]; rfl
theorem r_8_12 : rowA 8 12 = true := by rw [rowA, r_8_11, if_pos (by decide), p_8_19]; rfl
theorem r_8_13 : rowA 8 13 = true := by rw [rowA, r_8_12, if_neg (by decide)]; rfl
theorem r_8_14 : rowA 8 14 = true := by rw [rowA, r_8_13, if_pos (by decide), p_8_21]; rfl
theorem r_8_15 : rowA 8 15 = true := by rw [rowA, r_8_14, if_neg (by decide)]; rfl
theorem r_8_16 : rowA 8 16 = true := by rw [rowA, r_8_15, if_pos (by decide), p_8_23]; rfl
theorem r_8_17 : rowA 8 17 = true := by rw [rowA, r_8_16, if_neg (by decide)]; rfl
theorem r_8_18 : rowA 8 18 = true := by rw [rowA, r_8_17, if_pos (by decide), p_8_25]; rfl
theorem r_8_19 : rowA 8 19 = true := by rw [rowA, r_8_18, if_neg (by decide)]; rfl
theorem r_8_20 : rowA 8 20 = true := by rw [rowA, r_8_19, if_pos (by decide), p_8_27]; rfl
theorem r_8_21 : rowA 8 21 = true := by rw [rowA, r_8_20, if_neg (by decide)]; rfl
theorem r_8_22 : rowA 8 22 = true := by rw [rowA, r_8_21, if_pos (by decide), p_8_29]; rfl
theorem r_8_23 : rowA 8 23 = true := by rw [rowA, r_8_22, if_neg (by decide)]; rfl
theorem r_8_24 : rowA 8 24 = true := by rw [rowA, r_8_23, if_pos (by decide), p_8_31]; rfl
theorem r_8_25 : rowA 8 25 = true := by rw [rowA, r_8_24, if_neg (by decide)]; rfl
theorem p_9_10 : okq 9 10 = true := by decide +kernel
theorem p_9_11 : okq 9 11 = true := by decide +kernel
theorem p_9_13 : okq 9 13 = true := by decide +kernel
theorem p_9_14 : okq 9 14 = true := by decide +kernel
theorem p_9_16 : okq 9 16 = true := by decide +kernel
theorem p_9_17 : okq 9 17 = true := by decide +kernel
theorem p_9_19 : okq 9 19 = true := by decide +kernel
theorem p_9_20 : okq 9 20 = true := by decide +kernel
theorem p_9_22 : okq 9 22 = true := by decide +kernel
theorem p_9_23 : okq 9 23 = true := by decide +kernel
theorem p_9_25 : okq 9 25 = true := by decide +kernel
theorem p_9_26 : okq 9 26 = true := by decide +kernel
theorem p_9_28 : okq 9 28 = true := by decide +kernel
theorem p_9_29 : okq 9 29 = true := by decide +kernel
theorem p_9_31 : okq 9 31 = true := by decide +kernel
theorem r_9_0 : rowA 9 0 = true := rfl
theorem r_9_1 : rowA 9 1 = true := by rw [rowA, r_9_0, if_neg (by decide)]; rfl
theorem r_9_2 : rowA 9 2 = true := by rw [rowA, r_9_1, if_pos (by decide), p_9_10]; rfl
theorem r_9_3 : rowA 9 3 = true := by rw [rowA, r_9_2, if_pos (by decide), p_9_11]; rfl
theorem r_9_4 : rowA 9 4 = true := by rw [rowA, r_9_3, if_neg (by decide)]; rfl
theorem r_9_5 : rowA 9 5 = true := by rw [rowA, r_9_4, if_pos (by decide), p_9_13]; rfl
theorem r_9_6 : rowA 9 6 = true := by rw [rowA, r_9_5, if_pos (by decide), p_9_14]; rfl
theorem r_9_7 : rowA 9 7 = true := by rw [rowA, r_9_6, if_neg (by decide)]; rfl
theorem r_9_8 : rowA 9 8 = true := by rw [rowA, r_9_7, if_pos (by decide), p_9_16]; rfl
theorem r_9_9 : rowA 9 9 = true := by rw [rowA, r_9_8, if_pos (by decide), p_9_17]; rfl
theorem r_9_10 : rowA 9 10 = true := by rw [rowA, r_9_9, if_neg (by decide)]; rfl
theorem r_9_11 : rowA 9 11 = true := by rw [rowA, r_9_10, if_pos (by decide), p_9_19]; rfl
theorem r_9_12 : rowA 9 12 = true := by rw [rowA, r_9_11, if_pos (by decide), p_9_20]; rfl
theorem r_9_13 : rowA 9 13 = true := by rw [rowA, r_9_12, if_neg (by decide)]; rfl
theorem r_9_14 : rowA 9 14 = true := by rw [rowA, r_9_13, if_pos (by decide), p_9_22]; rfl
theorem r_9_15 : rowA 9 15 = true := by rw [rowA, r_9_14, if_pos (by decide), p_9_23]; rfl
theorem r_9_16 : rowA 9 16 = true := by rw [rowA, r_9_15, if_neg (by decide)]; rfl
theorem r_9_17 : rowA 9 17 = true := by rw [rowA, r_9_16, if_pos (by decide), p_9_25]; rfl
theorem r_9_18 : rowA 9 18 = true := by rw [rowA, r_9_17, if_pos (by decide), p_9_26]; rfl
theorem r_9_19 : rowA 9 19 = true := by rw [rowA, r_9_18, if_neg (by decide)]; rfl
theorem r_9_20 : rowA 9 20 = true := by rw [rowA, r_9_19, if_pos (by decide), p_9_28]; rfl
theorem r_9_21 : rowA 9 21 = true := by rw [rowA, r_9_20, if_pos (by decide), p_9_29]; rfl
theorem r_9_22 : rowA 9 22 = true := by rw [rowA, r_9_21, if_neg (by decide)]; rfl
theorem r_9_23 : rowA 9 23 = true := by rw [rowA, r_9_22, if_pos (by decide), p_9_31]; rfl
theorem p_10_11 : okq 10 11 = true := by decide +kernel
theorem p_10_13 : okq 10 13 = true := by decide +kernel
theorem p_10_17 : okq 10 17 = true := by decide +kernel
theorem p_10_19 : okq 10 19 = true := by decide +kernel
theorem p_10_21 : okq 10 21 = true := by decide +kernel
theorem p_10_23 : okq 10 23 = true := by decide +kernel
theorem p_10_27 : okq 10 27 = true := by decide +kernel
theorem p_10_29 : okq 10 29 = true := by decide +kernel
theorem r_10_0 : rowA 10 0 = true := rfl
theorem r_10_1 : rowA 10 1 = true := by rw [rowA, r_10_0, if_neg (by decide)]; rfl
theorem r_10_2 : rowA 10 2 = true := by rw [rowA, r_10_1, if_pos (by decide), p_10_11]; rfl
theorem r_10_3 : rowA 10 3 = true := by rw [rowA, r_10_2, if_neg (by decide)]; rfl
theorem r_10_4 : rowA 10 4 = true := by rw [rowA, r_10_3, if_pos (by decide), p_10_13]; rfl
theorem r_10_5 : rowA 10 5 = true := by rw [rowA, r_10_4, if_neg (by decide)]; rfl
theorem r_10_6 : rowA 10 6 = true := by rw [rowA, r_10_5, if_neg (by decide)]; rfl
theorem r_10_7 : rowA 10 7 = true := by rw [rowA, r_10_6, if_neg (by decide)]; rfl
theorem r_10_8 : rowA 10 8 = true := by rw [rowA, r_10_7, if_pos (by decide), p_10_17]; rfl
theorem r_10_9 : rowA 10 9 = true := by rw [rowA, r_10_8, if_neg (by decide)]; rfl
theorem r_10_10 : rowA 10 10 = true := by rw [rowA, r_10_9, if_pos (by decide), p_10_19]; rfl
theorem r_10_11 : rowA 10 11 = true := by rw [rowA, r_10_10, if_neg (by decide)]; rfl
theorem r_10_12 : rowA 10 12 = true := by rw [rowA, r_10_11, if_pos (by decide), p_10_21]; rfl
theorem r_10_13 : rowA 10 13 = true := by rw [rowA, r_10_12, if_neg (by decide)]; rfl
theorem r_10_14 : rowA 10 14 = true := by rw [rowA, r_10_13, if_pos (by decide), p_10_23]; rfl
theorem r_10_15 : rowA 10 15 = true := by rw [rowA, r_10_14, if_neg (by decide)]; rfl
theorem r_10_16 : rowA 10 16 = true := by rw [rowA, r_10_15, if_neg (by decide)]; rfl
theorem r_10_17 : rowA 10 17 = true := by rw [rowA, r_10_16, if_neg (by decide)]; rfl
theorem r_10_18 : rowA 10 18 = true := by rw [rowA, r_10_17, if_pos (by decide), p_10_27]; rfl
theorem r_10_19 : rowA 10 19 = true := by rw [rowA, r_10_18, if_neg (by decide)]; rfl
theorem r_10_20 : rowA 10 20 = true := by rw [rowA, r_10_19, if_pos (by decide), p_10_29]; rfl
theorem r_10_21 : rowA 10 21 = true := by rw [rowA, r_10_20, if_neg (by decide)]; rfl
theorem p_11_12 : okq 11 12 = true := by decide +kernel
theorem p_11_13 : okq 11 13 = true := by decide +kernel
theorem p_11_14 : okq 11 14 = true := by decide +kernel
theorem p_11_15 : okq 11 15 = true := by decide +kernel
theorem p_11_16 : okq 11 16 = true := by decide +kernel
theorem p_11_17 : okq 11 17 = true := by decide +kernel
theorem p_11_18 : okq 11 18 = true := by decide +kernel
theorem p_11_19 : okq 11 19 = true := by decide +kernel
theorem p_11_20 : okq 11 20 = true := by decide +kernel
theorem p_11_21 : okq 11 21 = true := by decide +kernel
theorem p_11_23 : okq 11 23 = true := by decide +kernel
theorem p_11_24 : okq 11 24 = true := by decide +kernel
theorem p_11_25 : okq 11 25 = true := by decide +kernel
theorem p_11_26 : okq 11 26 = true := by decide +kernel
theorem p_11_27 : okq 11 27 = true := by decide +kernel
theorem p_11_28 : okq 11 28 = true := by decide +kernel
theorem p_11_29 : okq 11 29 = true := by decide +kernel
theorem r_11_0 : rowA 11 0 = true := rfl
theorem r_11_1 : rowA 11 1 = true := by rw [rowA, r_11_0, if_neg (by decide)]; rfl
theorem r_11_2 : rowA 11 2 = true := by rw [rowA, r_11_1, if_pos (by decide), p_11_12]; rfl
theorem r_11_3 : rowA 11 3 = true := by rw [rowA, r_11_2, if_pos (by decide), p_11_13]; rfl
theorem r_11_4 : rowA 11 4 = true := by rw [rowA, r_11_3, if_pos (by decide), p_11_14]; rfl
theorem r_11_5 : rowA 11 5 = true := by rw [rowA, r_11_4, if_pos (by decide), p_11_15]; rfl
theorem r_11_6 : rowA 11 6 = true := by rw [rowA, r_11_5, if_pos (by decide), p_11_16]; rfl
theorem r_11_7 : rowA 11 7 = true := by rw [rowA, r_11_6, if_pos (by decide), p_11_17]; rfl
theorem r_11_8 : rowA 11 8 = true := by rw [rowA, r_11_7, if_pos (by decide), p_11_18]; rfl
theorem r_11_9 : rowA 11 9 = true := by rw [rowA, r_11_8, if_pos (by decide), p_11_19]; rfl
theorem r_11_10 : rowA 11 10 = true := by rw [rowA, r_11_9, if_pos (by decide), p_11_20]; rfl
theorem r_11_11 : rowA 11 11 = true := by rw [rowA, r_11_10, if_pos (by decide), p_11_21]; rfl
theorem r_11_12 : rowA 11 12 = true := by rw [rowA, r_11_11, if_neg (by decide)]; rfl
theorem r_11_13 : rowA 11 13 = true := by rw [rowA, r_11_12, if_pos (by decide), p_11_23]; rfl
theorem r_11_14 : rowA 11 14 = true := by rw [rowA, r_11_13, if_pos (by decide), p_11_24]; rfl
theorem r_11_15 : rowA 11 15 = true := by rw [rowA, r_11_14, if_pos (by decide), p_11_25]; rfl
theorem r_11_16 : rowA 11 16 = true := by rw [rowA, r_11_15, if_pos (by decide), p_11_26]; rfl
theorem r_11_17 : rowA 11 17 = true := by rw [rowA, r_11_16, if_pos (by decide), p_11_27]; rfl
theorem r_11_18 : rowA 11 18 = true := by rw [rowA, r_11_17, if_pos (by decide), p_11_28]; rfl
theorem r_11_19 : rowA 11 19 = true := by rw [rowA, r_11_18, if_pos (by decide), p_11_29]; rfl
theorem p_12_13 : okq 12 13 = true := by decide +kernel
theorem p_12_17 : okq 12 17 = true := by decide +kernel
theorem p_12_19 : okq 12 19 = true := by decide +kernel
theorem p_12_23 : okq 12 23 = true := by decide +kernel
theorem p_12_25 : okq 12 25 = true := by decide +kernel
theorem r_12_0 : rowA 12 0 = true := rfl
theorem r_12_1 : rowA 12 1 = true := by rw [rowA, r_12_0, if_neg (by decide)]; rfl
theorem r_12_2 : rowA 12 2 = true := by rw [rowA, r_12_1, if_pos (by decide), p_12_13]; rfl
theorem r_12_3 : rowA 12 3 = true := by rw [rowA, r_12_2, if_neg (by decide)]; rfl
theorem r_12_4 : rowA 12 4 = true := by rw [rowA, r_12_3, if_neg (by decide)]; rfl
theorem r_12_5 : rowA 12 5 = true := by rw [rowA, r_12_4, if_neg (by decide)]; rfl
theorem r_12_6 : rowA 12 6 = true := by rw [rowA, r_12_5, if_pos (by decide), p_12_17]; rfl
theorem r_12_7 : rowA 12 7 = true := by rw [rowA, r_12_6, if_neg (by decide)]; rfl
theorem r_12_8 : rowA 12 8 = true := by rw [rowA, r_12_7, if_pos (by decide), p_12_19]; rfl
theorem r_12_9 : rowA 12 9 = true := by rw [rowA, r_12_8, if_neg (by decide)]; rfl
theorem r_12_10 : rowA 12 10 = true := by rw [rowA, r_12_9, if_neg (by decide)]; rfl
theorem r_12_11 : rowA 12 11 = true := by rw [rowA, r_12_10, if_neg (by decide)]; rfl
theorem r_12_12 : rowA 12 12 = true := by rw [rowA, r_12_11, if_pos (by decide), p_12_23]; rfl
theorem r_12_13 : rowA 12 13 = true := by rw [rowA, r_12_12, if_neg (by decide)]; rfl
theorem r_12_14 : rowA 12 14 = true := by rw [rowA, r_12_13, if_pos (by decide), p_12_25]; rfl
theorem r_12_15 : rowA 12 15 = true := by rw [rowA, r_12_14, if_neg (by decide)]; rfl
theorem r_12_16 : rowA 12 16 = true := by rw [rowA, r_12_15, if_neg (by decide)]; rfl
theorem r_12_17 : rowA 12 17 = true := by rw [rowA, r_12_16, if_neg (by decide)]; rfl
theorem p_13_14 : okq 13 14 = true := by decide +kernel
theorem p_13_15 : okq 13 15 = true := by decide +kernel
theorem p_13_16 : okq 13 16 = true := by decide +kernel
theorem p_13_17 : okq 13 17 = true := by decide +kernel
theorem p_13_18 : okq 13 18 = true := by decide +kernel
theorem p_13_19 : okq 13 19 = true := by decide +kernel
theorem p_13_20 : okq 13 20 = true := by decide +kernel
theorem p_13_21 : okq 13 21 = true := by decide +kernel
theorem p_13_22 : okq 13 22 = true := by decide +kernel
theorem p_13_23 : okq 13 23 = true := by decide +kernel
theorem p_13_24 : okq 13 24 = true := by decide +kernel
theorem p_13_25 : okq 13 25 = true := by decide +kernel
theorem p_13_27 : okq 13 27 = true := by decide +kernel
theorem r_13_0 : rowA 13 0 = true := rfl
theorem r_13_1 : rowA 13 1 = true := by rw [rowA, r_13_0, if_neg (by decide)]; rfl
theorem r_13_2 : rowA 13 2 = true := by rw [rowA, r_13_1, if_pos (by decide), p_13_14]; rfl
theorem r_13_3 : rowA 13 3 = true := by rw [rowA, r_13_2, if_pos (by decide), p_13_15]; rfl
theorem r_13_4 : rowA 13 4 = true := by rw [rowA, r_13_3, if_pos (by decide), p_13_16]; rfl
theorem r_13_5 : rowA 13 5 = true := by rw [rowA, r_13_4, if_pos (by decide), p_13_17]; rfl
theorem r_13_6 : rowA 13 6 = true := by rw [rowA, r_13_5, if_pos (by decide), p_13_18]; rfl
theorem r_13_7 : rowA 13 7 = true := by rw [rowA, r_13_6, if_pos (by decide), p_13_19]; rfl
theorem r_13_8 : rowA 13 8 = true := by rw [rowA, r_13_7, if_pos (by decide), p_13_20]; rfl
theorem r_13_9 : rowA 13 9 = true := by rw [rowA, r_13_8, if_pos (by decide), p_13_21]; rfl
theorem r_13_10 : rowA 13 10 = true := by rw [rowA, r_13_9, if_pos (by decide), p_13_22]; rfl
theorem r_13_11 : rowA 13 11 = true := by rw [rowA, r_13_10, if_pos (by decide), p_13_23]; rfl
theorem r_13_12 : rowA 13 12 = true := by rw [rowA, r_13_11, if_pos (by decide), p_13_24]; rfl
theorem r_13_13 : rowA 13 13 = true := by rw [rowA, r_13_12, if_pos (by decide), p_13_25]; rfl
theorem r_13_14 : rowA 13 14 = true := by rw [rowA, r_13_13, if_neg (by decide)]; rfl
theorem r_13_15 : rowA 13 15 = true := by rw [rowA, r_13_14, if_pos (by decide), p_13_27]; rfl
theorem p_14_15 : okq 14 15 = true := by decide +kernel
theorem p_14_17 : okq 14 17 = true := by decide +kernel
theorem p_14_19 : okq 14 19 = true := by decide +kernel
theorem p_14_23 : okq 14 23 = true := by decide +kernel
theorem p_14_25 : okq 14 25 = true := by decide +kernel
theorem r_14_0 : rowA 14 0 = true := rfl
theorem r_14_1 : rowA 14 1 = true := by rw [rowA, r_14_0, if_neg (by decide)]; rfl
theorem r_14_2 : rowA 14 2 = true := by rw [rowA, r_14_1, if_pos (by decide), p_14_15]; rfl
theorem r_14_3 : rowA 14 3 = true := by rw [rowA, r_14_2, if_neg (by decide)]; rfl
theorem r_14_4 : rowA 14 4 = true := by rw [rowA, r_14_3, if_pos (by decide), p_14_17]; rfl
theorem r_14_5 : rowA 14 5 = true := by rw [rowA, r_14_4, if_neg (by decide)]; rfl
theorem r_14_6 : rowA 14 6 = true := by rw [rowA, r_14_5, if_pos (by decide), p_14_19]; rfl
theorem r_14_7 : rowA 14 7 = true := by rw [rowA, r_14_6, if_neg (by decide)]; rfl
theorem r_14_8 : rowA 14 8 = true := by rw [rowA, r_14_7, if_neg (by decide)]; rfl
theorem r_14_9 : rowA 14 9 = true := by rw [rowA, r_14_8, if_neg (by decide)]; rfl
theorem r_14_10 : rowA 14 10 = true := by rw [rowA, r_14_9, if_pos (by decide), p_14_23]; rfl
theorem r_14_11 : rowA 14 11 = true := by rw [rowA, r_14_10, if_neg (by decide)]; rfl
theorem r_14_12 : rowA 14 12 = true := by rw [rowA, r_14_11, if_pos (by decide), p_14_25]; rfl
theorem r_14_13 : rowA 14 13 = true := by rw [rowA, r_14_12, if_neg (by decide)]; rfl
theorem p_15_16 : okq 15 16 = true := by decide +kernel
theorem p_15_17 : okq 15 17 = true := by decide +kernel
theorem p_15_19 : okq 15 19 = true := by decide +kernel
theorem p_15_22 : okq 15 22 = true := by decide +kernel
theorem p_15_23 : okq 15 23 = true := by decide +kernel
theorem r_15_0 : rowA 15 0 = true := rfl
theorem r_15_1 : rowA 15 1 = true := by rw [rowA, r_15_0, if_neg (by decide)]; rfl
theorem r_15_2 : rowA 15 2 = true := by rw [rowA, r_15_1, if_pos (by decide), p_15_16]; rfl
theorem r_15_3 : rowA 15 3 = true := by rw [rowA, r_15_2, if_pos (by decide), p_15_17]; rfl
theorem r_15_4 : rowA 15 4 = true := by rw [rowA, r_15_3, if_neg (by decide)]; rfl
theorem r_15_5 : rowA 15 5 = true := by rw [rowA, r_15_4, if_pos (by decide), p_15_19]; rfl
theorem r_15_6 : rowA 15 6 = true := by rw [rowA, r_15_5, if_neg (by decide)]; rfl
theorem r_15_7 : rowA 15 7 = true := by rw [rowA, r_15_6, if_neg (by decide)]; rfl
theorem r_15_8 : rowA 15 8 = true := by rw [rowA, r_15_7, if_pos (by decide), p_15_22]; rfl
theorem r_15_9 : rowA 15 9 = true := by rw [rowA, r_15_8, if_pos (by decide), p_15_23]; rfl
theorem r_15_10 : rowA 15 10 = true := by rw [rowA, r_15_9, if_neg (by decide)]; rfl
theorem r_15_11 : rowA 15 11 = true := by rw [rowA, r_15_10, if_neg (by decide)]; rfl
theorem p_16_17 : okq 16 17 = true := by decide +kernel
theorem p_16_19 : okq 16 19 = true := by decide +kernel
theorem p_16_21 : okq 16 21 = true := by decide +kernel
theorem p_16_23 : okq 16 23 = true := by decide +kernel
theorem r_16_0 : rowA 16 0 = true := rfl
theorem r_16_1 : rowA 16 1 = true := by rw [rowA, r_16_0, if_neg (by decide)]; rfl
theorem r_16_2 : rowA 16 2 = true := by rw [rowA, r_16_1, if_pos (by decide), p_16_17]; rfl
theorem r_16_3 : rowA 16 3 = true := by rw [rowA, r_16_2, if_neg (by decide)]; rfl
theorem r_16_4 : rowA 16 4 = true := by rw [rowA, r_16_3, if_pos (by decide), p_16_19]; rfl
theorem r_16_5 : rowA 16 5 = true := by rw [rowA, r_16_4, if_neg (by decide)]; rfl
theorem r_16_6 : rowA 16 6 = true := by rw [rowA, r_16_5, if_pos (by decide), p_16_21]; rfl
theorem r_16_7 : rowA 16 7 = true := by rw [rowA, r_16_6, if_neg (by decide)]; rfl
theorem r_16_8 : rowA 16 8 = true := by rw [rowA, r_16_7, if_pos (by decide), p_16_23]; rfl
theorem r_16_9 : rowA 16 9 = true := by rw [rowA, r_16_8, if_neg (by decide)]; rfl
theorem p_17_18 : okq 17 18 = true := by decide +kernel
theorem p_17_19 : okq 17 19 = true := by decide +kernel
theorem p_17_20 : okq 17 20 = true := by decide +kernel
theorem p_17_21 : okq 17 21 = true := by decide +kernel
theorem p_17_22 : okq 17 22 = true := by decide +kernel
theorem p_17_23 : okq 17 23 = true := by decide +kernel
theorem r_17_0 : rowA 17 0 = true := rfl
theorem r_17_1 : rowA 17 1 = true := by rw [rowA, r_17_0, if_neg (by decide)]; rfl
theorem r_17_2 : rowA 17 2 = true := by rw [rowA, r_17_1, if_pos (by decide), p_17_18]; rfl
theorem r_17_3 : rowA 17 3 = true := by rw [rowA, r_17_2, if_pos (by decide), p_17_19]; rfl
theorem r_17_4 : rowA 17 4 = true := by rw [rowA, r_17_3, if_pos (by decide), p_17_20]; rfl
theorem r_17_5 : rowA 17 5 = true := by rw [rowA, r_17_4, if_pos (by decide), p_17_21]; rfl
theorem r_17_6 : rowA 17 6 = true := by rw [rowA, r_17_5, if_pos (by decide), p_17_22]; rfl
theorem r_17_7 : rowA 17 7 = true := by rw [rowA, r_17_6, if_pos (by decide), p_17_23]; rfl
theorem p_18_19 : okq 18 19 = true := by decide +kernel
theorem r_18_0 : rowA 18 0 = true := rfl
theorem r_18_1 : rowA 18 1 = true := by rw [rowA, r_18_0, if_neg (by decide)]; rfl
theorem r_18_2 : rowA 18 2 = true := by rw [rowA, r_18_1, if_pos (by decide), p_18_19]; rfl
theorem r_18_3 : rowA 18 3 = true := by rw [rowA, r_18_2, if_neg (by decide)]; rfl
theorem r_18_4 : rowA 18 4 = true := by rw [rowA, r_18_3, if_neg (by decide)]; rfl
theorem r_18_5 : rowA 18 5 = true := by rw [rowA, r_18_4, if_neg (by decide)]; rfl
theorem p_19_20 : okq 19 20 = true := by decide +kernel
theorem p_19_21 : okq 19 21 = true := by decide +kernel
theorem r_19_0 : rowA 19 0 = true := rfl
theorem r_19_1 : rowA 19 1 = true := by rw [rowA, r_19_0, if_neg (by decide)]; rfl
theorem r_19_2 : rowA 19 2 = true := by rw [rowA, r_19_1, if_pos (by decide), p_19_20]; rfl
theorem r_19_3 : rowA 19 3 = true := by rw [rowA, r_19_2, if_pos (by decide), p_19_21]; rfl
theorem r_20_0 : rowA 20 0 = true := rfl
theorem r_20_1 : rowA 20 1 = true := by rw [rowA, r_20_0, if_neg (by decide)]; rfl
theorem all_ok : allA 20 = true := by
  simp only [allA, show rowA 1 39 = true from r_1_39, show rowA 2 37 = true from r_2_37, show rowA 3 35 = true from r_3_35, show rowA 4 33 = true from r_4_33, show rowA 5 31 = true from r_5_31, show rowA 6 29 = true from r_6_29, show rowA 7 27 = true from r_7_27, show rowA 8 25 = true from r_8_25, show rowA 9 23 = true from r_9_23, show rowA 10 21 = true from r_10_21, show rowA 11 19 = true from r_11_19, show rowA 12 17 = true from r_12_17, show rowA 13 15 = true from r_13_15, show rowA 14 13 = true from r_14_13, show rowA 15 11 = true from r_15_11, show rowA 16 9 = true from r_16_9, show rowA 17 7 = true from r_17_7, show rowA 18 5 = true from r_18_5, show rowA 19 3 = true from r_19_3, show rowA 20 1 = true from r_20_1, Bool.and_self, Nat.zero_add, Nat.reduceAdd, Nat.reduceMul, Nat.reduceSub]
theorem rowA_at {a k : Nat} : ∀ n, rowA a n = true → k < n → Nat.gcd a (a + k) = 1 → okq a (a + k) = true
  | 0, _, h, _ => by omega
  | n + 1, h, hk, hg => by
    rw [rowA, Bool.and_eq_true] at h
    by_cases c : k = n
    · subst c
      have h2 := h.2
      rw [hg] at h2
      simpa using h2
    · exact rowA_at n h.1 (by omega) hg
theorem allA_at {a : Nat} : ∀ n, allA n = true → 1 ≤ a → a ≤ n → rowA a (41 - 2 * a) = true
  | 0, _, _, _ => by omega
  | n + 1, h, h1, h2 => by
    rw [allA, Bool.and_eq_true] at h
    by_cases c : a = n + 1
    · subst c; exact h.2
    · exact allA_at n h.1 h1 (by omega)
theorem okq_at {a b : Nat} (ha : 1 ≤ a) (hab : a ≤ b) (h : a + b ≤ 40) (hg : Nat.gcd a b = 1) : okq a b = true := by
  have := rowA_at (k := b - a) _ (allA_at (a := a) 20 all_ok ha (by omega)) (by omega) (by rw [show a + (b - a) = b by omega]; exact hg)
  rwa [show a + (b - a) = b by omega] at this
theorem low_is : ∀ {l : List Int}, low l = true → ∀ x, x ∈ l → 0 ≤ x ∧ x < 18446744073709551616
  | .ofNat n :: t, h, x, hx => by
    rw [low, Bool.and_eq_true, Nat.blt_eq] at h
    rcases List.mem_cons.mp hx with rfl | hx
    · exact ⟨Int.natCast_nonneg n, by show ((n : Nat) : Int) < _; omega⟩
    · exact low_is h.2 x hx
theorem sumL_fold : ∀ (l : List Int) (v : Int), l.foldl (fun v c => v + c) v = v + sumL l
  | [], v => by simp [sumL]
  | x :: t, v => by rw [List.foldl_cons, sumL_fold t, sumL]; omega
structure Good (a b : Nat) (q : List Int) : Prop where
  low : ∀ x, x ∈ q → 0 ≤ x ∧ x < 18446744073709551616
  rev : q.reverse = q
  sum : q.reverse.foldl (fun v c => v + c) 0 = ((M3.wc a b : Nat) : Int)
  last : q.getD (q.length - 1) 0 ≠ 0
theorem good_le {a b : Nat} (ha : 1 ≤ a) (hab : a ≤ b) (h : a + b ≤ 40) (hg : Nat.gcd a b = 1) : Good a b (tab ((a - 1) * (b - 1) + 1) (pr b (a - 1))) ∧ M3.wc a b = M3.wc b a := by
  have k := okq_at ha hab h hg
  unfold okq at k
  rw [prL_tab (by omega)] at k
  simp only [Bool.and_eq_true, beq_iff_eq, Bool.not_eq_true', beq_eq_false_iff_ne] at k
  obtain ⟨k1, k2, k3, k4, k5⟩ := k
  refine ⟨⟨low_is k1, k2, ?_, k5⟩, k4⟩
  rw [sumL_fold, k2, Int.zero_add, k3]
/-- all that is asked, of both slopes -/
theorem good {a b : Nat} (ha : 1 ≤ a) (hb : 1 ≤ b) (h : a + b ≤ 40) (hg : Nat.gcd a b = 1) : Good a b (tab ((a - 1) * (b - 1) + 1) (pr (max a b) (min a b - 1))) := by
  by_cases c : a ≤ b
  · rw [Nat.max_eq_right c, Nat.min_eq_left c]; exact (good_le ha c h hg).1
  · rw [Nat.max_eq_left (by omega), Nat.min_eq_right (by omega)]
    obtain ⟨k, e⟩ := good_le (a := b) (b := a) hb (by omega) (by omega) (by rw [Nat.gcd_comm]; exact hg)
    rw [Nat.mul_comm (a - 1)]
    exact ⟨k.low, k.rev, by rw [k.sum, e], k.last⟩
end Pk

local macro_rules | `(tactic| walk_at "sx1") => `(tactic| with_reducible first
  | refine Sx.r_seq ?_ | refine Sx.r_asg ?_ | refine Sx.r_name ?_ | refine Sx.r_c ?_ | refine Sx.r_op ?_ | refine Sx.r_cons ?_ | refine Sx.r_nil ?_
  | (refine' Sx.r_var ?vxe ?_; (case vxe => with_unfolding_all exact rfl))
  | refine Sx.r_I0 ?_ | refine Sx.r_Ih ?_ ?_ | refine Sx.r_U ?_ | refine Sx.r_eqI ?_ | refine Sx.r_neI ?_ | refine Sx.r_eqS ?_ | refine Sx.r_neS ?_ | refine Sx.r_eqB ?_ | refine Sx.r_neB ?_
  | refine Sx.r_test ?_ | refine Sx.r_B ?_ | refine Sx.r_bl ?_ | refine Sx.r_int ?_ | refine Sx.r_ret ?_ | refine Sx.r_retN ?_ | refine Sx.r_drop ?_ | refine Sx.r_next ?_
  | refine Sx.r_and ?_ | refine Sx.r_or ?_ | refine Sx.r_not ?_ | refine Sx.r_andV ?_ | refine Sx.r_orV ?_ | refine Sx.r_notV ?_ | refine Sx.r_chain ?_
  | refine Sx.r_call ?_ | refine Sx.r_cb ?_ | refine Sx.r_make ?_ | refine Sx.r_tup ?_ | refine Sx.r_lst ?_ | refine Sx.r_tprop ?_ | refine Sx.r_meth ?_ | refine Sx.r_fld ?_ | refine Sx.r_sFld ?_ | refine Sx.r_BM ?_ | refine Sx.r_BM0 ?_
  | refine Sx.r_sub ?_ | refine Sx.r_sl ?_ | refine Sx.r_noPart ?_ | refine Sx.r_part ?_ | refine Sx.r_un ?_ | refine Sx.r_par ?_ | refine Sx.r_par3 ?_ | refine Sx.r_two ?_ | refine Sx.r_three ?_
  | refine Sx.r_isi_int_bool ?_ | refine Sx.r_isi_int_int ?_ | refine Sx.r_isi_str_str ?_
  | refine Sx.iteT' ?_ | refine Sx.iteF' ?_ | refine Sx.iteNT ?_ | refine Sx.iteNF ?_
  | refine Sx.r_for1 ?_ | refine Sx.r_for2 ?_ | refine Sx.r_forL ?_ | refine Sx.r_forT ?_ | refine Sx.r_forS ?_ | refine Sx.r_lc1 ?_ | refine Sx.r_lc2 ?_ | refine Sx.r_lcL ?_ | refine Sx.r_lcT ?_ | refine Sx.r_lcS ?_ | refine Sx.r_yes ?_ | refine Sx.r_seqS ?_
  | refine Sx.r_int1 ?_ | refine Sx.r_intB ?_ | refine Sx.r_abs ?_ | refine Sx.r_max ?_ | refine Sx.r_min ?_ | refine Sx.r_lenS ?_ ?_ | refine Sx.r_strI ?_ ?_ | refine Sx.r_strS ?_ | refine Sx.r_addS ?_ ?_ | refine Sx.r_ltS ?_ | refine Sx.r_cntS ?_ | refine Sx.r_findS ?_ | refine Sx.r_find3 ?_ | refine ⟨Sx.tyS, ?_⟩
  | refine Sy.r_lcN ?_ | refine Sy.r_forN ?_ | refine Sy.r_lcE ?_ | refine Sy.r_forE ?_ | refine Sy.r_mulS ?_ ?_ ?_ | refine Sy.r_listS ?_ ?_ | refine Mw.r_slS ?_ ?_
  | refine Rt.r_revT ?_ | refine Mj.r_din ?_ | refine Mj.r_dnotin ?_ | refine Mj.r_dget ?_ | refine Mj.r_dnew ?_ | refine Mj.r_dput ?_ | refine Mj.r_makeL ?_ | refine Mj.r_makeD ?_ | refine Px.r_tpropX ?_ | refine Mj.r_cmeth ?_ | refine Mj.r_dcT ?_ | refine Mj.r_lock ?_ | refine Mj.r_lcK ?_
  | refine Sx.r_gcons ?_ | refine Sx.r_gnil ?_
  | refine Sx.r_gcd ?_ | refine Sx.r_break ?_ | refine Sx.r_cont ?_)
local macro_rules | `(tactic| walk_at "sx") => `(tactic| (repeat walk_at "sx1"))
local macro_rules | `(tactic| walk_at "sd") => `(tactic| first | omega | assumption | decide | (exact Sx.cmA_l (by omega)) | (exact Sx.cmA_r (by omega)) | (exact ⟨by decide, by decide⟩) | (exact ⟨by decide, by decide, by decide⟩) | (exact Sx.cdivw (b := 64) (by omega) (by omega) (by decide)) | (exact Sx.cmA_w (Sx.cmulw (a := 64) (b := 64) (by omega) (by omega) (by decide))))
local macro_rules | `(tactic| walk_at "sxi") => `(tactic| (walk_at "sx"; refine Sx.r_ifs ?_; walk_at "sx"))

namespace Lw
open PySem PySem.Spec PyProof.Rows L2 Sx Sy Sw Mw Me
open En (NoNum)
open Ln (KpN)
open SX (S)
open C8 (pe_gc)
open SkE (call_repr_int call_str_str)
open RZ (pi_zipA)
def top (i : Nat) : Stmt := PySem.Challenge.pw_slantways_k47_whole_quotients.main.body.getD i (.Pass ⟨0, 0, 0, 0⟩)
abbrev st_TooMany_init : Stmt := inClass (top 7) 0
abbrev N_TooMany_init : List Str := ["self", "limit"]
theorem sc_TooMany_init : FnScope N_TooMany_init ["self", "limit"] (defScope st_TooMany_init) := ⟨rfl, rfl, rfl, by decide +kernel, rfl, by decide +kernel, by decide +kernel⟩
abbrev st_Refused_init : Stmt := inClass (top 8) 0
abbrev N_Refused_init : List Str := ["self", "reason"]
theorem sc_Refused_init : FnScope N_Refused_init ["self", "reason"] (defScope st_Refused_init) := ⟨rfl, rfl, rfl, by decide +kernel, rfl, by decide +kernel, by decide +kernel⟩
abbrev st_is_number : Stmt := top 11
abbrev N_is_number : List Str := ["value"]
theorem sc_is_number : FnScope N_is_number ["value"] (defScope st_is_number) := ⟨rfl, rfl, rfl, by decide +kernel, rfl, by decide +kernel, by decide +kernel⟩
abbrev st_is_whole_between : Stmt := top 12
abbrev N_is_whole_between : List Str := ["value", "least", "most"]
theorem sc_is_whole_between : FnScope N_is_whole_between ["value", "least", "most"] (defScope st_is_whole_between) := ⟨rfl, rfl, rfl, by decide +kernel, rfl, by decide +kernel, by decide +kernel⟩
abbrev st_is_integer : Stmt := top 13
abbrev N_is_integer : List Str := ["value"]
theorem sc_is_integer : FnScope N_is_integer ["value"] (defScope st_is_integer) := ⟨rfl, rfl, rfl, by decide +kernel, rfl, by decide +kernel, by decide +kernel⟩
abbrev st_check_integer : Stmt := top 14
abbrev N_check_integer : List Str := ["number"]
theorem sc_check_integer : FnScope N_check_integer ["number"] (defScope st_check_integer) := ⟨rfl, rfl, rfl, by decide +kernel, rfl, by decide +kernel, by decide +kernel⟩
abbrev st_Slope_init : Stmt := inClass (top 17) 0
abbrev N_Slope_init : List Str := ["self", "rises", "steps"]
theorem sc_Slope_init : FnScope N_Slope_init ["self", "rises", "steps"] (defScope st_Slope_init) := ⟨rfl, rfl, rfl, by decide +kernel, rfl, by decide +kernel, by decide +kernel⟩
abbrev st_Slope_rises : Stmt := inClass (top 17) 2
abbrev N_Slope_rises : List Str := ["self"]
theorem sc_Slope_rises : FnScope N_Slope_rises ["self"] (defScope st_Slope_rises) := ⟨rfl, rfl, rfl, by decide +kernel, rfl, by decide +kernel, by decide +kernel⟩
abbrev st_Slope_steps : Stmt := inClass (top 17) 3
abbrev N_Slope_steps : List Str := ["self"]
theorem sc_Slope_steps : FnScope N_Slope_steps ["self"] (defScope st_Slope_steps) := ⟨rfl, rfl, rfl, by decide +kernel, rfl, by decide +kernel, by decide +kernel⟩
abbrev st_Slope_common : Stmt := inClass (top 17) 4
abbrev N_Slope_common : List Str := ["self"]
theorem sc_Slope_common : FnScope N_Slope_common ["self"] (defScope st_Slope_common) := ⟨rfl, rfl, rfl, by decide +kernel, rfl, by decide +kernel, by decide +kernel⟩
abbrev st_Slope_is_coprime : Stmt := inClass (top 17) 5
abbrev N_Slope_is_coprime : List Str := ["self"]
theorem sc_Slope_is_coprime : FnScope N_Slope_is_coprime ["self"] (defScope st_Slope_is_coprime) := ⟨rfl, rfl, rfl, by decide +kernel, rfl, by decide +kernel, by decide +kernel⟩
abbrev st_Slope_half : Stmt := inClass (top 17) 6
abbrev N_Slope_half : List Str := ["self"]
theorem sc_Slope_half : FnScope N_Slope_half ["self"] (defScope st_Slope_half) := ⟨rfl, rfl, rfl, by decide +kernel, rfl, by decide +kernel, by decide +kernel⟩
abbrev st_check_slope : Stmt := top 18
abbrev N_check_slope : List Str := ["slope"]
theorem sc_check_slope : FnScope N_check_slope ["slope"] (defScope st_check_slope) := ⟨rfl, rfl, rfl, by decide +kernel, rfl, by decide +kernel, by decide +kernel⟩
abbrev st_check_coprime : Stmt := top 19
abbrev N_check_coprime : List Str := ["slope"]
theorem sc_check_coprime : FnScope N_check_coprime ["slope"] (defScope st_check_coprime) := ⟨rfl, rfl, rfl, by decide +kernel, rfl, by decide +kernel, by decide +kernel⟩
abbrev st_way_count : Stmt := top 20
abbrev N_way_count : List Str := ["slope", "rises", "letters", "counts", "size", "total", "part"]
theorem sc_way_count : FnScope N_way_count ["slope"] (defScope st_way_count) := ⟨rfl, rfl, rfl, by decide +kernel, rfl, by decide +kernel, by decide +kernel⟩
abbrev st_sides : Stmt := top 22
abbrev N_sides : List Str := ["slope"]
theorem sc_sides : FnScope N_sides ["slope"] (defScope st_sides) := ⟨rfl, rfl, rfl, by decide +kernel, rfl, by decide +kernel, by decide +kernel⟩
abbrev st_check_polynomial : Stmt := top 25
abbrev N_check_polynomial : List Str := ["polynomial"]
theorem sc_check_polynomial : FnScope N_check_polynomial ["polynomial"] (defScope st_check_polynomial) := ⟨rfl, rfl, rfl, by decide +kernel, rfl, by decide +kernel, by decide +kernel⟩
abbrev st_is_polynomial : Stmt := top 26
abbrev N_is_polynomial : List Str := ["value", "term"]
theorem sc_is_polynomial : FnScope N_is_polynomial ["value"] (defScope st_is_polynomial) := ⟨rfl, rfl, rfl, by decide +kernel, rfl, by decide +kernel, by decide +kernel⟩
abbrev st_trimmed : Stmt := top 27
abbrev N_trimmed : List Str := ["terms", "end"]
theorem sc_trimmed : FnScope N_trimmed ["terms"] (defScope st_trimmed) := ⟨rfl, rfl, rfl, by decide +kernel, rfl, by decide +kernel, by decide +kernel⟩
abbrev st_quotient : Stmt := top 28
abbrev N_quotient : List Str := ["slope", "size", "less", "more", "terms", "step", "at"]
theorem sc_quotient : FnScope N_quotient ["slope"] (defScope st_quotient) := ⟨rfl, rfl, rfl, by decide +kernel, rfl, by decide +kernel, by decide +kernel⟩
abbrev st_product_of : Stmt := top 29
abbrev N_product_of : List Str := ["one", "other", "terms", "at", "factor", "place", "term"]
theorem sc_product_of : FnScope N_product_of ["one", "other"] (defScope st_product_of) := ⟨rfl, rfl, rfl, by decide +kernel, rfl, by decide +kernel, by decide +kernel⟩
abbrev st_times : Stmt := top 30
abbrev N_times : List Str := ["one", "other"]
theorem sc_times : FnScope N_times ["one", "other"] (defScope st_times) := ⟨rfl, rfl, rfl, by decide +kernel, rfl, by decide +kernel, by decide +kernel⟩
abbrev st_value_at : Stmt := top 31
abbrev N_value_at : List Str := ["polynomial", "x", "value", "term"]
theorem sc_value_at : FnScope N_value_at ["polynomial", "x"] (defScope st_value_at) := ⟨rfl, rfl, rfl, by decide +kernel, rfl, by decide +kernel, by decide +kernel⟩
abbrev st_law_dice : Stmt := top 33
abbrev N_law_dice : List Str := ["_law_script", "_law_spot", "_law_cell", "_law_left"]
theorem sc_law_dice : FnScope N_law_dice ["_law_script", "_law_spot"] (defScope st_law_dice) := ⟨rfl, rfl, rfl, by decide +kernel, rfl, by decide +kernel, by decide +kernel⟩
abbrev st_law_roll : Stmt := top 34
abbrev N_law_roll : List Str := ["_law_dice_here", "_law_total", "_law_found", "_law_one", "_law_two"]
theorem sc_law_roll : FnScope N_law_roll ["_law_dice_here", "_law_total"] (defScope st_law_roll) := ⟨rfl, rfl, rfl, by decide +kernel, rfl, by decide +kernel, by decide +kernel⟩
abbrev st_law_pick : Stmt := top 35
abbrev N_law_pick : List Str := ["_law_dice_here", "_law_items"]
theorem sc_law_pick : FnScope N_law_pick ["_law_dice_here", "_law_items"] (defScope st_law_pick) := ⟨rfl, rfl, rfl, by decide +kernel, rfl, by decide +kernel, by decide +kernel⟩
abbrev st_law_slope : Stmt := top 36
abbrev N_law_slope : List Str := ["_law_dice_here", "_law_total", "_law_rises", "_law_steps", "_law_one", "_law_other"]
theorem sc_law_slope : FnScope N_law_slope ["_law_dice_here", "_law_total"] (defScope st_law_slope) := ⟨rfl, rfl, rfl, by decide +kernel, rfl, by decide +kernel, by decide +kernel⟩
abbrev st_law_quotient : Stmt := top 37
abbrev N_law_quotient : List Str := ["_law_rises", "_law_steps", "_law_size", "_law_at", "_law_found", "_law_n"]
theorem sc_law_quotient : FnScope N_law_quotient ["_law_rises", "_law_steps"] (defScope st_law_quotient) := ⟨rfl, rfl, rfl, by decide +kernel, rfl, by decide +kernel, by decide +kernel⟩
abbrev st_law_told : Stmt := top 38
abbrev N_law_told : List Str := ["_law_rises", "_law_steps", "e"]
theorem sc_law_told : FnScope N_law_told ["_law_rises", "_law_steps"] (defScope st_law_told) := ⟨rfl, rfl, rfl, by decide +kernel, rfl, by decide +kernel, by decide +kernel⟩
abbrev st_law_many : Stmt := top 39
abbrev N_law_many : List Str := ["_law_number", "_law_at"]
theorem sc_law_many : FnScope N_law_many ["_law_number"] (defScope st_law_many) := ⟨rfl, rfl, rfl, by decide +kernel, rfl, by decide +kernel, by decide +kernel⟩
abbrev st_law_product : Stmt := top 40
abbrev N_law_product : List Str := ["_law_rises", "_law_steps", "_law_told_here", "_law_left", "_law_right_here", "_law_n"]
theorem sc_law_product : FnScope N_law_product ["_law_rises", "_law_steps", "_law_told_here"] (defScope st_law_product) := ⟨rfl, rfl, rfl, by decide +kernel, rfl, by decide +kernel, by decide +kernel⟩
abbrev st_law_right : Stmt := top 41
abbrev N_law_right : List Str := ["_law_dice_here", "_law_rises", "_law_steps", "_law_told_here", "_law_half"]
theorem sc_law_right : FnScope N_law_right ["_law_dice_here"] (defScope st_law_right) := ⟨rfl, rfl, rfl, by decide +kernel, rfl, by decide +kernel, by decide +kernel⟩
abbrev st_law_edges : Stmt := top 42
abbrev N_law_edges : List Str := ["_law_told_here"]
theorem sc_law_edges : FnScope N_law_edges [] (defScope st_law_edges) := ⟨rfl, rfl, rfl, by decide +kernel, rfl, by decide +kernel, by decide +kernel⟩
abbrev st_law : Stmt := top 43
abbrev N_law : List Str := ["_law_script", "_law_spot"]
theorem sc_law : FnScope N_law ["_law_script"] (defScope st_law) := ⟨rfl, rfl, rfl, by decide +kernel, rfl, by decide +kernel, by decide +kernel⟩
structure Tx (K : PySem.W.Frag) (mg : Str → Option Value) where
  C_Slope : Addr
  C_TooMany : Addr
  C_Refused : Addr
  a_TooMany_init : Addr
  d_TooMany_init : FuncData
  F_TooMany_init : Fun K "__init__" "TooMany.__init__" st_TooMany_init a_TooMany_init d_TooMany_init
  b_TooMany_init : Binds K d_TooMany_init ["self", "limit"] []
  a_Refused_init : Addr
  d_Refused_init : FuncData
  F_Refused_init : Fun K "__init__" "Refused.__init__" st_Refused_init a_Refused_init d_Refused_init
  b_Refused_init : Binds K d_Refused_init ["self", "reason"] []
  a_is_number : Addr
  d_is_number : FuncData
  F_is_number : Fun K "is_number" "is_number" st_is_number a_is_number d_is_number
  b_is_number : Binds K d_is_number ["value"] []
  g_is_number : mg "is_number" = some (.ref a_is_number)
  a_is_whole_between : Addr
  d_is_whole_between : FuncData
  F_is_whole_between : Fun K "is_whole_between" "is_whole_between" st_is_whole_between a_is_whole_between d_is_whole_between
  b_is_whole_between : Binds K d_is_whole_between ["value", "least", "most"] []
  g_is_whole_between : mg "is_whole_between" = some (.ref a_is_whole_between)
  a_is_integer : Addr
  d_is_integer : FuncData
  F_is_integer : Fun K "is_integer" "is_integer" st_is_integer a_is_integer d_is_integer
  b_is_integer : Binds K d_is_integer ["value"] []
  g_is_integer : mg "is_integer" = some (.ref a_is_integer)
  a_check_integer : Addr
  d_check_integer : FuncData
  F_check_integer : Fun K "check_integer" "check_integer" st_check_integer a_check_integer d_check_integer
  b_check_integer : Binds K d_check_integer ["number"] []
  g_check_integer : mg "check_integer" = some (.ref a_check_integer)
  a_Slope_init : Addr
  d_Slope_init : FuncData
  F_Slope_init : Fun K "__init__" "Slope.__init__" st_Slope_init a_Slope_init d_Slope_init
  b_Slope_init : Binds K d_Slope_init ["self", "rises", "steps"] []
  a_Slope_rises : Addr
  d_Slope_rises : FuncData
  F_Slope_rises : Fun K "rises" "Slope.rises" st_Slope_rises a_Slope_rises d_Slope_rises
  b_Slope_rises : Binds K d_Slope_rises ["self"] []
  a_Slope_steps : Addr
  d_Slope_steps : FuncData
  F_Slope_steps : Fun K "steps" "Slope.steps" st_Slope_steps a_Slope_steps d_Slope_steps
  b_Slope_steps : Binds K d_Slope_steps ["self"] []
  a_Slope_common : Addr
  d_Slope_common : FuncData
  F_Slope_common : Fun K "common" "Slope.common" st_Slope_common a_Slope_common d_Slope_common
  b_Slope_common : Binds K d_Slope_common ["self"] []
  a_Slope_is_coprime : Addr
  d_Slope_is_coprime : FuncData
  F_Slope_is_coprime : Fun K "is_coprime" "Slope.is_coprime" st_Slope_is_coprime a_Slope_is_coprime d_Slope_is_coprime
  b_Slope_is_coprime : Binds K d_Slope_is_coprime ["self"] []
  a_Slope_half : Addr
  d_Slope_half : FuncData
  F_Slope_half : Fun K "half" "Slope.half" st_Slope_half a_Slope_half d_Slope_half
  b_Slope_half : Binds K d_Slope_half ["self"] []
  a_check_slope : Addr
  d_check_slope : FuncData
  F_check_slope : Fun K "check_slope" "check_slope" st_check_slope a_check_slope d_check_slope
  b_check_slope : Binds K d_check_slope ["slope"] []
  g_check_slope : mg "check_slope" = some (.ref a_check_slope)
  a_check_coprime : Addr
  d_check_coprime : FuncData
  F_check_coprime : Fun K "check_coprime" "check_coprime" st_check_coprime a_check_coprime d_check_coprime
  b_check_coprime : Binds K d_check_coprime ["slope"] []
  g_check_coprime : mg "check_coprime" = some (.ref a_check_coprime)
  a_way_count : Addr
  d_way_count : FuncData
  F_way_count : Fun K "way_count" "way_count" st_way_count a_way_count d_way_count
  b_way_count : Binds K d_way_count ["slope"] []
  g_way_count : mg "way_count" = some (.ref a_way_count)
  a_sides : Addr
  d_sides : FuncData
  F_sides : Fun K "sides" "sides" st_sides a_sides d_sides
  b_sides : Binds K d_sides ["slope"] []
  g_sides : mg "sides" = some (.ref a_sides)
  a_check_polynomial : Addr
  d_check_polynomial : FuncData
  F_check_polynomial : Fun K "check_polynomial" "check_polynomial" st_check_polynomial a_check_polynomial d_check_polynomial
  b_check_polynomial : Binds K d_check_polynomial ["polynomial"] []
  g_check_polynomial : mg "check_polynomial" = some (.ref a_check_polynomial)
  a_is_polynomial : Addr
  d_is_polynomial : FuncData
  F_is_polynomial : Fun K "is_polynomial" "is_polynomial" st_is_polynomial a_is_polynomial d_is_polynomial
  b_is_polynomial : Binds K d_is_polynomial ["value"] []
  g_is_polynomial : mg "is_polynomial" = some (.ref a_is_polynomial)
  a_trimmed : Addr
  d_trimmed : FuncData
  F_trimmed : Fun K "trimmed" "trimmed" st_trimmed a_trimmed d_trimmed
  b_trimmed : Binds K d_trimmed ["terms"] []
  g_trimmed : mg "trimmed" = some (.ref a_trimmed)
  a_quotient : Addr
  d_quotient : FuncData
  F_quotient : Fun K "quotient" "quotient" st_quotient a_quotient d_quotient
  b_quotient : Binds K d_quotient ["slope"] []
  g_quotient : mg "quotient" = some (.ref a_quotient)
  a_product_of : Addr
  d_product_of : FuncData
  F_product_of : Fun K "product_of" "product_of" st_product_of a_product_of d_product_of
  b_product_of : Binds K d_product_of ["one", "other"] []
  g_product_of : mg "product_of" = some (.ref a_product_of)
  a_times : Addr
  d_times : FuncData
  F_times : Fun K "times" "times" st_times a_times d_times
  b_times : Binds K d_times ["one", "other"] []
  g_times : mg "times" = some (.ref a_times)
  a_value_at : Addr
  d_value_at : FuncData
  F_value_at : Fun K "value_at" "value_at" st_value_at a_value_at d_value_at
  b_value_at : Binds K d_value_at ["polynomial", "x"] []
  g_value_at : mg "value_at" = some (.ref a_value_at)
  a_law_dice : Addr
  d_law_dice : FuncData
  F_law_dice : Fun K "_law_dice" "_law_dice" st_law_dice a_law_dice d_law_dice
  b_law_dice : Binds K d_law_dice ["_law_script", "_law_spot"] []
  g_law_dice : mg "_law_dice" = some (.ref a_law_dice)
  a_law_roll : Addr
  d_law_roll : FuncData
  F_law_roll : Fun K "_law_roll" "_law_roll" st_law_roll a_law_roll d_law_roll
  b_law_roll : Binds K d_law_roll ["_law_dice_here", "_law_total"] []
  g_law_roll : mg "_law_roll" = some (.ref a_law_roll)
  a_law_pick : Addr
  d_law_pick : FuncData
  F_law_pick : Fun K "_law_pick" "_law_pick" st_law_pick a_law_pick d_law_pick
  b_law_pick : Binds K d_law_pick ["_law_dice_here", "_law_items"] []
  g_law_pick : mg "_law_pick" = some (.ref a_law_pick)
  a_law_slope : Addr
  d_law_slope : FuncData
  F_law_slope : Fun K "_law_slope" "_law_slope" st_law_slope a_law_slope d_law_slope
  b_law_slope : Binds K d_law_slope ["_law_dice_here", "_law_total"] []
  g_law_slope : mg "_law_slope" = some (.ref a_law_slope)
  a_law_quotient : Addr
  d_law_quotient : FuncData
  F_law_quotient : Fun K "_law_quotient" "_law_quotient" st_law_quotient a_law_quotient d_law_quotient
  b_law_quotient : Binds K d_law_quotient ["_law_rises", "_law_steps"] []
  g_law_quotient : mg "_law_quotient" = some (.ref a_law_quotient)
  a_law_told : Addr
  d_law_told : FuncData
  F_law_told : Fun K "_law_told" "_law_told" st_law_told a_law_told d_law_told
  b_law_told : Binds K d_law_told ["_law_rises", "_law_steps"] []
  g_law_told : mg "_law_told" = some (.ref a_law_told)
  a_law_many : Addr
  d_law_many : FuncData
  F_law_many : Fun K "_law_many" "_law_many" st_law_many a_law_many d_law_many
  b_law_many : Binds K d_law_many ["_law_number"] []
  g_law_many : mg "_law_many" = some (.ref a_law_many)
  a_law_product : Addr
  d_law_product : FuncData
  F_law_product : Fun K "_law_product" "_law_product" st_law_product a_law_product d_law_product
  b_law_product : Binds K d_law_product ["_law_rises", "_law_steps", "_law_told_here"] []
  g_law_product : mg "_law_product" = some (.ref a_law_product)
  a_law_right : Addr
  d_law_right : FuncData
  F_law_right : Fun K "_law_right" "_law_right" st_law_right a_law_right d_law_right
  b_law_right : Binds K d_law_right ["_law_dice_here"] []
  g_law_right : mg "_law_right" = some (.ref a_law_right)
  a_law_edges : Addr
  d_law_edges : FuncData
  F_law_edges : Fun K "_law_edges" "_law_edges" st_law_edges a_law_edges d_law_edges
  b_law_edges : Binds K d_law_edges [] []
  g_law_edges : mg "_law_edges" = some (.ref a_law_edges)
  a_law : Addr
  d_law : FuncData
  F_law : Fun K "law" "law" st_law a_law d_law
  b_law : Binds K d_law ["_law_script"] []
  g_law : mg "law" = some (.ref a_law)
  g_Slope : mg "Slope" = some (.ref C_Slope)
  cl_Slope : Cls K C_Slope
  na_Slope_rises : NoAttr K C_Slope "_rises"
  na_Slope_steps : NoAttr K C_Slope "_steps"
  na_Slope_common : NoAttr K C_Slope "_common"
  mk_Slope : Mk K C_Slope a_Slope_init
  p_Slope_rises : Addr
  pr_Slope_rises : PropOf K C_Slope "rises" p_Slope_rises a_Slope_rises
  p_Slope_steps : Addr
  pr_Slope_steps : PropOf K C_Slope "steps" p_Slope_steps a_Slope_steps
  p_Slope_common : Addr
  pr_Slope_common : PropOf K C_Slope "common" p_Slope_common a_Slope_common
  p_Slope_is_coprime : Addr
  pr_Slope_is_coprime : PropOf K C_Slope "is_coprime" p_Slope_is_coprime a_Slope_is_coprime
  p_Slope_half : Addr
  pr_Slope_half : PropOf K C_Slope "half" p_Slope_half a_Slope_half
  ic_Slope : PySem.W.findIn K (.ref C_Slope) "__class__" = some (some (.builtin "object.__class__"))
  mr_Slope : PySem.W.mroIn K C_Slope (.type "object") = some true
  ks_Slope : PySem.W.kitOne K (.ref C_Slope) (.ref C_Slope) = some true
  cg : PySem.W.specialIn K (.builtin "object.__class__") "__get__" = some (some (.builtin "getset_descriptor.__get__"))
  ct : PySem.W.takesIn K (.builtin "object.__class__") = some true
  g_TooMany : mg "TooMany" = some (.ref C_TooMany)
  kp_TooMany : PySem.W.keepIn K (.ref C_TooMany) = true
  ex_TooMany : PySem.W.subIn K (.ref C_TooMany) (.type "BaseException") = some true
  ty_TooMany : PySem.W.typeIn K (.ref C_TooMany) = some (.type "type")
  is_TooMany : PySem.W.isClsIn K C_TooMany = true
  xf_TooMany : XfC K C_TooMany
  nf_TooMany : PySem.W.findIn K (.ref C_TooMany) "limit" = some none
  ow_TooMany : Er.Own K C_TooMany a_TooMany_init Er.bmOverflowError "OverflowError.__new__"
  g_Refused : mg "Refused" = some (.ref C_Refused)
  kp_Refused : PySem.W.keepIn K (.ref C_Refused) = true
  ex_Refused : PySem.W.subIn K (.ref C_Refused) (.type "BaseException") = some true
  ty_Refused : PySem.W.typeIn K (.ref C_Refused) = some (.type "type")
  is_Refused : PySem.W.isClsIn K C_Refused = true
  xf_Refused : XfC K C_Refused
  nf_Refused : PySem.W.findIn K (.ref C_Refused) "reason" = some none
  ma_Refused : PySem.W.mroIn K C_Refused (.type "AttributeError") = some false
  ow_Refused : Er.Own K C_Refused a_Refused_init Er.bmArithmeticError "ArithmeticError.__new__"
  sb_TooMany_TooMany : PySem.W.subIn K (.ref C_TooMany) (.ref C_TooMany) = some true
  sb_Refused_TooMany : PySem.W.subIn K (.ref C_Refused) (.ref C_TooMany) = some false
  sb_Refused_Refused : PySem.W.subIn K (.ref C_Refused) (.ref C_Refused) = some true
  n_abs : mg "abs" = none
  n_all : mg "all" = none
  n_bool : mg "bool" = none
  n_enumerate : mg "enumerate" = none
  n_int : mg "int" = none
  n_isinstance : mg "isinstance" = none
  n_len : mg "len" = none
  n_list : mg "list" = none
  n_max : mg "max" = none
  n_min : mg "min" = none
  n_range : mg "range" = none
  n_repr : mg "repr" = none
  n_tuple : mg "tuple" = none
  i_comb : mg "comb" = some (.builtin "math.comb")
  i_gcd : mg "gcd" = some (.builtin "math.gcd")
  c_GREATEST : ∃ u, mg "GREATEST" = some u ∧ RelV (.int 999999999999999999999999999999999999999999999999999999999999) u
  c_MAX_SIDE : ∃ u, mg "MAX_SIDE" = some u ∧ RelV (.int 60) u
  c_MAX_TERMS : ∃ u, mg "MAX_TERMS" = some u ∧ RelV (.int 400) u
section
variable {P : Program} {w : World} {K : PySem.W.Frag} {mg : Str → Option Value} {base : Heap}
/-- the error that keeps v -/
def ErrV (C : Addr) (f : Str) (E : XK) (H : Hp) (v : V) : Prop := ∀ d, H d = none → E (.ref C) (some d) (upd H d (.xd [(f, v)]))
/-! ### is_number, is_whole_between -/
def sp_is_number (K : PySem.W.Frag) : Sp := fun vs H Q _ => (∃ i : Int, vs = [.int i] ∧ Q (.bl true) H) ∨ ∃ v, vs = [v] ∧ NoNum K H v ∧ Q (.bl false) H
theorem ok_is_number (T : Tx K mg) : FnOk P w K mg base CX0 1 T.a_is_number T.d_is_number ["value"] (sp_is_number K) := by
  refine T.F_is_number.ok sc_is_number (fun vs H Q E h => ?_) (fun cdv A outer s H vs Q E hr h => ?_)
  · obtain ⟨i, rfl, _⟩ | ⟨v, rfl, _⟩ := h <;> rfl
  · refine ⟨_, (pss_one (ps_ret (pe_and (pe_callB call_isi (by rfl) T.n_isinstance Sx.bt_isinstance (pa_cons (pv 0) (pa_cons (pe_bltn (v := .ty "int") (by rfl) T.n_int Sx.bt_int rfl) pa_nil))) (pe_one (pe_not (pe_callB call_isi (by rfl) T.n_isinstance Sx.bt_isinstance (pa_cons (pv 0) (pa_cons (pe_bltn (v := .ty "bool") (by rfl) T.n_bool Sx.bt_bool rfl) pa_nil)))))))), ?_⟩
    obtain ⟨i, rfl, q⟩ | ⟨v, rfl, ⟨t, b1, b2, ht, h1, h2, h3⟩, q⟩ := h
    · refine Sx.r_st (σ' := [some (.int i)]) rfl ?_
      walk_at "sx"
      exact q
    · refine Sx.r_st (σ' := [some (v)]) rfl ?_
      walk_at "sx"
      refine ⟨v, .ty "int", t, .type "int", b1, rfl, .ty _, ht, h1, ?_⟩
      cases b1 with
      | false => walk_at "sx"; exact q
      | true =>
        have e2 : b2 = true := by simpa using h3
        subst e2
        walk_at "sx"
        refine ⟨v, .ty "bool", t, .type "bool", true, rfl, .ty _, ht, h2, ?_⟩
        walk_at "sx"
        exact q
def sp_is_whole_between (K : PySem.W.Frag) : Sp := fun vs H Q _ => (∃ v a b : Int, vs = [.int v, .int a, .int b] ∧ Q (.bl (decide (a ≤ v ∧ v ≤ b))) H) ∨ ∃ v, ∃ a b : Int, vs = [v, .int a, .int b] ∧ NoNum K H v ∧ Q (.bl false) H
theorem ok_is_whole_between (T : Tx K mg) : FnOk P w K mg base CX0 2 T.a_is_whole_between T.d_is_whole_between ["value", "least", "most"] (sp_is_whole_between K) := by
  refine T.F_is_whole_between.ok sc_is_whole_between (fun vs H Q E h => ?_) (fun cdv A outer s H vs Q E hr h => ?_)
  · obtain ⟨v, a, b, rfl, _⟩ | ⟨v, a, b, rfl, _⟩ := h <;> rfl
  · refine ⟨_, (pss_one (ps_ret (pe_and (pe_call (ok_is_number T) (hr.mono (by decide)) (by rfl) T.g_is_number T.F_is_number.kp T.b_is_number .nil pass0 (pa_cons (pv 0) pa_nil)) (pe_one (pe_chain op_le op_le (pv 1) (pv 0) (pv 2)))))), ?_⟩
    obtain ⟨v, a, b, rfl, q⟩ | ⟨v, a, b, rfl, hn, q⟩ := h
    · refine Sx.r_st (σ' := [some (.int v), some (.int a), some (.int b)]) rfl ?_
      walk_at "sx"
      refine .inl ⟨v, rfl, ?_⟩
      walk_at "sx"
      refine ite_d (fun h1 => ?_) (fun h1 => ?_)
      · walk_at "sx"
        have e : decide (a ≤ v ∧ v ≤ b) = decide (v ≤ b) := by simp [h1]
        rw [← e]; exact q
      · have e : decide (a ≤ v ∧ v ≤ b) = false := by simp [h1]
        rw [← e]; exact q
    · refine Sx.r_st (σ' := [some (v), some (.int a), some (.int b)]) rfl ?_
      walk_at "sx"
      refine .inr ⟨v, rfl, hn, ?_⟩
      walk_at "sx"
      exact q
/-! ### Slope -/
def slF (a b : Int) : List (Str × V) := putF "_common" (.int ((Nat.gcd a.natAbs b.natAbs : Nat) : Int)) (putF "_steps" (.int b) (putF "_rises" (.int a) []))
theorem slF_r (a b : Int) : (slF a b).lookup ("_rises" : Str) = some (.int a) := by
  unfold slF; rw [lookup_putF, if_neg (by decide +kernel), lookup_putF, if_neg (by decide +kernel), lookup_putF, if_pos rfl]
theorem slF_s (a b : Int) : (slF a b).lookup ("_steps" : Str) = some (.int b) := by
  unfold slF; rw [lookup_putF, if_neg (by decide +kernel), lookup_putF, if_pos rfl]
theorem slF_c (a b : Int) : (slF a b).lookup ("_common" : Str) = some (.int ((Nat.gcd a.natAbs b.natAbs : Nat) : Int)) := by
  unfold slF; rw [lookup_putF, if_pos rfl]
/-- v is the slope a:b -/
def SlopeAt (C : Addr) (H : Hp) (v : V) (a b : Int) : Prop := (1 ≤ a ∧ a ≤ 60 ∧ 1 ≤ b ∧ b ≤ 60) ∧ ∃ p dx, v = .ref p ∧ H p = some (.ins C dx (slF a b))
theorem SlopeAt.mono {C : Addr} {H H' : Hp} {v : V} {a b : Int} (h : SlopeAt C H v a b) (s : Same H H') : SlopeAt C H' v a b := by
  obtain ⟨h1, p, dx, h2, h3⟩ := h; exact ⟨h1, p, dx, h2, s _ _ h3⟩
theorem SlopeAt.kp {C : Addr} {H H' : Hp} {v : V} {a b : Int} {d : Addr} (h : SlopeAt C H v a b) (s : Kp d H H') : SlopeAt C H' v a b := by
  obtain ⟨h1, p, dx, h2, h3⟩ := h; exact ⟨h1, p, dx, h2, s.ins h3⟩
def sp_Slope_init (C : Addr) : Sp := fun vs H Q _ => ∃ p dx, ∃ a b : Int, vs = [.ref p, .int a, .int b] ∧ (1 ≤ a ∧ a ≤ 60 ∧ 1 ≤ b ∧ b ≤ 60) ∧ H p = some (.ins C dx []) ∧ Q .non (upd (upd (upd H p (.ins C dx (putF "_rises" (.int a) []))) p (.ins C dx (putF "_steps" (.int b) (putF "_rises" (.int a) [])))) p (.ins C dx (slF a b)))
theorem ok_Slope_init (T : Tx K mg) : FnOk P w K mg base CX0 3 T.a_Slope_init T.d_Slope_init ["self", "rises", "steps"] (sp_Slope_init T.C_Slope) := by
  refine T.F_Slope_init.ok sc_Slope_init (fun vs H Q E h => ?_) (fun cdv A outer s H vs Q E hr h => ?_)
  · obtain ⟨p, dx, a, b, rfl, _⟩ := h; rfl
  · obtain ⟨p, dx, a, b, rfl, ⟨a1, a2, b1, b2⟩, hp, q⟩ := h
    refine ⟨_, (pss_cons (ps_if (pt_not (pt_val (pe_call (ok_is_whole_between T) (hr.mono (by decide)) (by rfl) T.g_is_whole_between T.F_is_whole_between.kp T.b_is_whole_between .nil pass0 (pa_cons (pv 1) (pa_cons pe_int (pa_cons (pe_gc (by rfl) T.c_MAX_SIDE) pa_nil)))))) pss_never pss_nil)
      (pss_cons (ps_if (pt_not (pt_val (pe_call (ok_is_whole_between T) (hr.mono (by decide)) (by rfl) T.g_is_whole_between T.F_is_whole_between.kp T.b_is_whole_between .nil pass0 (pa_cons (pv 2) (pa_cons pe_int (pa_cons (pe_gc (by rfl) T.c_MAX_SIDE) pa_nil)))))) pss_never pss_nil)
      (pss_cons (ps_fld (pv 0) (pv 1) rfl)
      (pss_cons (ps_fld (pv 0) (pv 2) rfl)
      (pss_one (ps_fld (pv 0) (pe_callBfun cr_gcd (by rfl) T.i_gcd (pa_cons (pv 1) (pa_cons (pv 2) pa_nil))) rfl)))))), ?_⟩
    refine Sx.r_st (σ' := [some (.ref p), some (.int a), some (.int b)]) rfl ?_
    walk_at "sxi"
    refine .inl ⟨a, 1, 60, rfl, ?_⟩
    walk_at "sx"
    rw [show decide (1 ≤ a ∧ a ≤ 60) = true by simp [a1, a2]]
    walk_at "sxi"
    refine .inl ⟨b, 1, 60, rfl, ?_⟩
    walk_at "sx"
    rw [show decide (1 ≤ b ∧ b ≤ 60) = true by simp [b1, b2]]
    walk_at "sx"

    refine r_insput hp T.cl_Slope T.na_Slope_rises (by decide) ?_
    walk_at "sx"
    refine r_insput upd_same T.cl_Slope T.na_Slope_steps len1 ?_
    walk_at "sx"
    exact ⟨p, _, dx, _, rfl, upd_same, T.cl_Slope, T.na_Slope_common, len2, q⟩
/-- a new slope -/
theorem mk_slope {C : Addr} {H : Hp} {Q : VK} {E : XK} {a b : Int} (h : 1 ≤ a ∧ a ≤ 60 ∧ 1 ≤ b ∧ b ≤ 60) (q : ∀ v H', Same H H' → SlopeAt C H' v a b → Q v H') :
    MakeP C (sp_Slope_init C) E [.int a, .int b] H Q := by
  intro x dx hx hdx hne
  refine ⟨x, dx, a, b, rfl, h, upd_same, rfl, q _ _ ?_ ⟨h, x, dx, rfl, upd_same⟩⟩
  intro c o e
  have n1 : c ≠ x := ne_of_none e hx
  have n2 : c ≠ dx := ne_of_none e hdx
  rw [upd_ne n1, upd_ne n1, upd_ne n1, upd_ne n1, upd_ne n2]; exact e
theorem ok_Slope_rises (T : Tx K mg) : FnOk P w K mg base CX0 1 T.a_Slope_rises T.d_Slope_rises ["self"] (getSp T.C_Slope "_rises") := by
  refine T.F_Slope_rises.ok sc_Slope_rises (fun vs H Q E h => ?_) (fun cdv A outer s H vs Q E hr h => ?_)
  · obtain ⟨a, dx, fs, v, rfl, _⟩ := h; rfl
  · obtain ⟨a, dx, fs, v, rfl, e, l, q⟩ := h
    refine ⟨_, (pss_one (ps_ret (pe_fld (pv 0) rfl))), ?_⟩
    refine Sx.r_st (σ' := [some (.ref a)]) rfl ?_
    walk_at "sx"
    exact ⟨a, _, dx, fs, v, rfl, e, T.cl_Slope, T.na_Slope_rises, l, q⟩
theorem ok_Slope_steps (T : Tx K mg) : FnOk P w K mg base CX0 1 T.a_Slope_steps T.d_Slope_steps ["self"] (getSp T.C_Slope "_steps") := by
  refine T.F_Slope_steps.ok sc_Slope_steps (fun vs H Q E h => ?_) (fun cdv A outer s H vs Q E hr h => ?_)
  · obtain ⟨a, dx, fs, v, rfl, _⟩ := h; rfl
  · obtain ⟨a, dx, fs, v, rfl, e, l, q⟩ := h
    refine ⟨_, (pss_one (ps_ret (pe_fld (pv 0) rfl))), ?_⟩
    refine Sx.r_st (σ' := [some (.ref a)]) rfl ?_
    walk_at "sx"
    exact ⟨a, _, dx, fs, v, rfl, e, T.cl_Slope, T.na_Slope_steps, l, q⟩
/-- a slope's numbers, read -/
theorem rd_r {C : Addr} {H : Hp} {v : V} {a b : Int} {Q : VK} {E : XK} (h : SlopeAt C H v a b) (q : Q (.int a) H) : ∃ p dx fs, v = .ref p ∧ H p = some (.ins C dx fs) ∧ getSp C "_rises" (.ref p :: []) H Q E := by
  obtain ⟨_, p, dx, rfl, e⟩ := h; exact ⟨p, dx, _, rfl, e, r_getSp e (slF_r a b) q⟩
theorem rd_s {C : Addr} {H : Hp} {v : V} {a b : Int} {Q : VK} {E : XK} (h : SlopeAt C H v a b) (q : Q (.int b) H) : ∃ p dx fs, v = .ref p ∧ H p = some (.ins C dx fs) ∧ getSp C "_steps" (.ref p :: []) H Q E := by
  obtain ⟨_, p, dx, rfl, e⟩ := h; exact ⟨p, dx, _, rfl, e, r_getSp e (slF_s a b) q⟩
def sp_check_slope (C : Addr) : Sp := fun vs H Q _ => ∃ v, ∃ a b : Int, vs = [v] ∧ SlopeAt C H v a b ∧ Q .non H
theorem ok_check_slope (T : Tx K mg) : FnOk P w K mg base CX0 1 T.a_check_slope T.d_check_slope ["slope"] (sp_check_slope T.C_Slope) := by
  refine T.F_check_slope.ok sc_check_slope (fun vs H Q E h => ?_) (fun cdv A outer s H vs Q E hr h => ?_)
  · obtain ⟨v, a, b, rfl, _⟩ := h; rfl
  · obtain ⟨v, a, b, rfl, ⟨hb, p, dx, rfl, e⟩, q⟩ := h
    refine ⟨_, (pss_one (ps_if (pt_not (pt_val (pe_callB call_isi (by rfl) T.n_isinstance Sx.bt_isinstance (pa_cons (pv 0) (pa_cons (pe_glob (v := .ref T.C_Slope) (by rfl) T.g_Slope rfl) pa_nil))))) pss_never pss_nil)), ?_⟩
    refine Sx.r_st (σ' := [some (.ref p)]) rfl ?_
    walk_at "sxi"
    refine r_isi_own e T.cl_Slope T.ic_Slope T.cg T.ct T.mr_Slope T.ks_Slope ?_
    walk_at "sx"
    exact q
theorem ok_Slope_common (T : Tx K mg) : FnOk P w K mg base CX0 1 T.a_Slope_common T.d_Slope_common ["self"] (getSp T.C_Slope "_common") := by
  refine T.F_Slope_common.ok sc_Slope_common (fun vs H Q E h => ?_) (fun cdv A outer s H vs Q E hr h => ?_)
  · obtain ⟨a, dx, fs, v, rfl, _⟩ := h; rfl
  · obtain ⟨a, dx, fs, v, rfl, e, l, q⟩ := h
    refine ⟨_, (pss_one (ps_ret (pe_fld (pv 0) rfl))), ?_⟩
    refine Sx.r_st (σ' := [some (.ref a)]) rfl ?_
    walk_at "sx"
    exact ⟨a, _, dx, fs, v, rfl, e, T.cl_Slope, T.na_Slope_common, l, q⟩
theorem rd_c {C : Addr} {H : Hp} {v : V} {a b : Int} {Q : VK} {E : XK} (h : SlopeAt C H v a b) (q : Q (.int ((Nat.gcd a.natAbs b.natAbs : Nat) : Int)) H) : ∃ p dx fs, v = .ref p ∧ H p = some (.ins C dx fs) ∧ getSp C "_common" (.ref p :: []) H Q E := by
  obtain ⟨_, p, dx, rfl, e⟩ := h; exact ⟨p, dx, _, rfl, e, r_getSp e (slF_c a b) q⟩
theorem slF_no {a b : Int} {m : Str} (h1 : m ≠ "_rises") (h2 : m ≠ "_steps") (h3 : m ≠ "_common") : (slF a b).lookup m = none := by
  unfold slF; rw [lookup_putF, if_neg h3, lookup_putF, if_neg h2, lookup_putF, if_neg h1]; rfl
theorem md_slope {C : Addr} {H : Hp} {v : V} {a b : Int} {m : Str} {Pr : Prop} (h : SlopeAt C H v a b) (h1 : m ≠ "_rises") (h2 : m ≠ "_steps") (h3 : m ≠ "_common") (hp : Pr) : ∃ p dx fs, v = .ref p ∧ H p = some (.ins C dx fs) ∧ fs.lookup m = none ∧ Pr := by
  obtain ⟨_, p, dx, rfl, e⟩ := h
  exact ⟨p, dx, _, rfl, e, slF_no h1 h2 h3, hp⟩
theorem ok_Refused_init (T : Tx K mg) : FnOk P w K mg base CX0 1 T.a_Refused_init T.d_Refused_init ["self", "reason"] (Er.spInit T.C_Refused "reason") := by
  refine T.F_Refused_init.ok sc_Refused_init (fun vs H Q E h => ?_) (fun cdv A outer s H vs Q E hr h => ?_)
  · obtain ⟨a, v, rfl, _⟩ := h; rfl
  · obtain ⟨a, v, rfl, ha, q⟩ := h
    refine ⟨_, (pss_one (Er.ps_self T.ow_Refused PySem.F.store_ArithmeticError T.nf_Refused (pv 0) (pv 1))), ?_⟩
    refine Sx.r_st (σ' := [some (.ref a), some (v)]) rfl ?_
    walk_at "sx"
    refine Er.r_self (a := a) ?_
    walk_at "sx"
    exact ⟨a, rfl, ha, q⟩
theorem ok_TooMany_init (T : Tx K mg) : FnOk P w K mg base CX0 1 T.a_TooMany_init T.d_TooMany_init ["self", "limit"] (Er.spInit T.C_TooMany "limit") := by
  refine T.F_TooMany_init.ok sc_TooMany_init (fun vs H Q E h => ?_) (fun cdv A outer s H vs Q E hr h => ?_)
  · obtain ⟨a, v, rfl, _⟩ := h; rfl
  · obtain ⟨a, v, rfl, ha, q⟩ := h
    refine ⟨_, (pss_one (Er.ps_self T.ow_TooMany PySem.F.store_OverflowError T.nf_TooMany (pv 0) (pv 1))), ?_⟩
    refine Sx.r_st (σ' := [some (.ref a), some (v)]) rfl ?_
    walk_at "sx"
    refine Er.r_self (a := a) ?_
    walk_at "sx"
    exact ⟨a, rfl, ha, q⟩
/-! ### coprime slopes and others -/
def sp_is_coprime (C : Addr) : Sp := fun vs H Q _ => ∃ v, ∃ a b : Nat, vs = [v] ∧ SlopeAt C H v a b ∧ Q (.bl (decide (Nat.gcd a b = 1))) H
theorem ok_Slope_is_coprime (T : Tx K mg) : FnOk P w K mg base CX0 1 T.a_Slope_is_coprime T.d_Slope_is_coprime ["self"] (sp_is_coprime T.C_Slope) := by
  refine T.F_Slope_is_coprime.ok sc_Slope_is_coprime (fun vs H Q E h => ?_) (fun cdv A outer s H vs Q E hr h => ?_)
  · obtain ⟨v, a, b, rfl, _⟩ := h; rfl
  · obtain ⟨v, a, b, rfl, ⟨hb, p, dx, rfl, e⟩, q⟩ := h
    refine ⟨_, (pss_one (ps_ret (pe_cmpR op_eq (pe_fld (pv 0) rfl) pe_int (nomark _)))), ?_⟩
    refine Sx.r_st (σ' := [some (.ref p)]) rfl ?_
    walk_at "sx"
    refine ⟨p, _, dx, _, _, rfl, e, T.cl_Slope, T.na_Slope_common, slF_c a b, ?_⟩
    walk_at "sx"
    rw [Int.natAbs_natCast, Int.natAbs_natCast, show decide (((Nat.gcd a b : Nat) : Int) = 1) = decide (Nat.gcd a b = 1) by by_cases h : Nat.gcd a b = 1 <;> simp [h] <;> omega]
    exact q
theorem rd_cop {C : Addr} {H : Hp} {v : V} {a b : Nat} {Q : VK} {E : XK} (h : SlopeAt C H v a b) (q : Q (.bl (decide (Nat.gcd a b = 1))) H) : ∃ p dx fs, v = .ref p ∧ H p = some (.ins C dx fs) ∧ sp_is_coprime C (.ref p :: []) H Q E := by
  obtain ⟨h1, p, dx, rfl, e⟩ := h
  exact ⟨p, dx, _, rfl, e, .ref p, a, b, rfl, ⟨h1, p, dx, rfl, e⟩, q⟩
/-- the error of a common part -/
def ErrCom (C : Addr) (E : XK) (H : Hp) (g : Nat) : Prop := ∀ p, H p = none → ErrV C "reason" E (upd H p (.tup [.str "common", .int g])) (.ref p)
def sp_check_coprime (C CR : Addr) : Sp := fun vs H Q E => ∃ v, ∃ a b : Nat, vs = [v] ∧ SlopeAt C H v a b ∧ ((Nat.gcd a b = 1 ∧ Q .non H) ∨ (Nat.gcd a b ≠ 1 ∧ ErrCom CR E H (Nat.gcd a b)))
theorem ok_check_coprime (T : Tx K mg) : FnOk P w K mg base (L2.CX P w) 3 T.a_check_coprime T.d_check_coprime ["slope"] (sp_check_coprime T.C_Slope T.C_Refused) := by
  refine T.F_check_coprime.okX sc_check_coprime (fun vs H Q E h => ?_) (fun cdv A outer s H vs Q E hr h => ?_)
  · obtain ⟨v, a, b, rfl, _⟩ := h; rfl
  · obtain ⟨v, a, b, rfl, hS, h⟩ := h
    refine ⟨_, (pss_one (ps_if (pt_not (pt_val (pe_prop (pv 0) T.cl_Slope T.pr_Slope_is_coprime (ok_Slope_is_coprime T) (hr.mono (by decide)) T.b_Slope_is_coprime .nil pass0 rfl))) (pss_one (Er.ps_raise1 rfl (takes_of rfl rfl rfl rfl) T.ow_Refused PySem.F.excBase_ArithmeticError (ok_Refused_init T) (hr.mono (by decide)) T.b_Refused_init rfl T.g_Refused (pa_cons (pe_tup (pa_cons pe_str (pa_cons (pe_prop (pv 0) T.cl_Slope T.pr_Slope_common (ok_Slope_common T) (hr.mono (by decide)) T.b_Slope_common .nil pass0 rfl) pa_nil))) pa_nil))) pss_nil)), ?_⟩
    refine Sx.r_st (σ' := [some (v)]) rfl ?_
    walk_at "sxi"
    refine rd_cop hS ?_
    walk_at "sx"
    rcases h with ⟨hg, q⟩ | ⟨hg, q⟩
    · rw [decide_eq_true hg]
      walk_at "sx"
      exact q
    · rw [decide_eq_false hg]
      walk_at "sx"
      refine Er.r_raise ?_
      walk_at "sx"
      refine rd_c hS ?_
      rw [Int.natAbs_natCast, Int.natAbs_natCast]
      walk_at "sx"
      exact ⟨sz _ (Nat.le_of_ble_eq_true rfl), fun p hp => ⟨_, rfl, q p hp⟩⟩
def sp_half (C CR : Addr) : Sp := fun vs H Q E => ∃ v, ∃ a b : Nat, vs = [v] ∧ SlopeAt C H v a b ∧ ((Nat.gcd a b = 1 ∧ Q (.int (((a : Int) - 1) * ((b : Int) - 1) / 2)) H) ∨ (Nat.gcd a b ≠ 1 ∧ ErrCom CR E H (Nat.gcd a b)))
theorem ok_Slope_half (T : Tx K mg) : FnOk P w K mg base (L2.CX P w) 4 T.a_Slope_half T.d_Slope_half ["self"] (sp_half T.C_Slope T.C_Refused) := by
  refine T.F_Slope_half.okX sc_Slope_half (fun vs H Q E h => ?_) (fun cdv A outer s H vs Q E hr h => ?_)
  · obtain ⟨v, a, b, rfl, _⟩ := h; rfl
  · obtain ⟨v, a, b, rfl, hS, h⟩ := h
    have hS0 := hS
    obtain ⟨hb, p, dx, rfl, e⟩ := hS
    refine ⟨_, (pss_cons (ps_expr (pe_call (ok_check_coprime T) (hr.mono (by decide)) (by rfl) T.g_check_coprime T.F_check_coprime.kp T.b_check_coprime .nil (passes_call (E := E) (W := fun cls d _ H => E cls d H) (takes_of rfl rfl rfl rfl) (fun _ _ _ _ h => h)) (pa_cons (pv 0) pa_nil)))
      (pss_one (ps_ret (pe_op op_fdivW (pe_op Sx.op_mulA (pe_op op_sub (pe_fld (pv 0) rfl) pe_int) (pe_op op_sub (pe_fld (pv 0) rfl) pe_int)) pe_int)))), ?_⟩
    refine Sx.r_st (σ' := [some (.ref p)]) rfl ?_
    walk_at "sx"
    refine ⟨.ref p, a, b, rfl, hS0, ?_⟩
    rcases h with ⟨hg, q⟩ | ⟨hg, q⟩
    · refine .inl ⟨hg, ?_⟩
      walk_at "sx"
      refine ⟨p, _, dx, _, _, rfl, e, T.cl_Slope, T.na_Slope_rises, slF_r a b, ?_⟩
      walk_at "sx"
      refine ⟨p, _, dx, _, _, rfl, e, T.cl_Slope, T.na_Slope_steps, slF_s a b, ?_⟩
      walk_at "sx"
      · exact q
      · exact cdivw (b := 64) (by omega) (by omega) (by decide)
      · exact cmA_r (by omega)
    · exact .inr ⟨hg, q⟩
theorem rd_half {C CR : Addr} {H : Hp} {v : V} {a b : Nat} {Q : VK} {E : XK} (h : SlopeAt C H v a b) (q : (Nat.gcd a b = 1 ∧ Q (.int (((a : Int) - 1) * ((b : Int) - 1) / 2)) H) ∨ (Nat.gcd a b ≠ 1 ∧ ErrCom CR E H (Nat.gcd a b))) : ∃ p dx fs, v = .ref p ∧ H p = some (.ins C dx fs) ∧ sp_half C CR (.ref p :: []) H Q E := by
  obtain ⟨h1, p, dx, rfl, e⟩ := h
  exact ⟨p, dx, _, rfl, e, .ref p, a, b, rfl, ⟨h1, p, dx, rfl, e⟩, q⟩
end
end Lw

namespace Lw
open PySem PySem.Spec PyProof.Rows L2 Sx Sy Sw Mw Me
open En (NoNum)
open Ln (KpN)
open LamX (Tabs TabB ExtN)
open SX (S)
open C8 (pe_gc)
open SkE (call_repr_int call_str_str)
open RZ (pi_zipA)
section
variable {P : Program} {w : World} {K : PySem.W.Frag} {mg : Str → Option Value} {base : Heap}
def sp_sides (C : Addr) : Sp := fun vs H Q _ => ∃ v, ∃ a b : Nat, vs = [v] ∧ SlopeAt C H v a b ∧ ∀ t H', Same H H' → H' t = some (.tup [.int (min a b : Nat), .int (max a b : Nat)]) → Q (.ref t) H'
theorem ok_sides (T : Tx K mg) : FnOk P w K mg base CX0 3 T.a_sides T.d_sides ["slope"] (sp_sides T.C_Slope) := by
  refine T.F_sides.ok sc_sides (fun vs H Q E h => ?_) (fun cdv A outer s H vs Q E hr h => ?_)
  · obtain ⟨v, a, b, rfl, _⟩ := h; rfl
  · obtain ⟨v, a, b, rfl, hS, q⟩ := h
    refine ⟨_, (pss_cons (ps_if (pt_cmpR op_lt (pe_prop (pv 0) T.cl_Slope T.pr_Slope_rises (ok_Slope_rises T) (hr.mono (by decide)) T.b_Slope_rises .nil pass0 rfl) (pe_prop (pv 0) T.cl_Slope T.pr_Slope_steps (ok_Slope_steps T) (hr.mono (by decide)) T.b_Slope_steps .nil pass0 rfl) (nomark _)) (pss_one (ps_ret (pe_tup (pa_cons (pe_prop (pv 0) T.cl_Slope T.pr_Slope_rises (ok_Slope_rises T) (hr.mono (by decide)) T.b_Slope_rises .nil pass0 rfl) (pa_cons (pe_prop (pv 0) T.cl_Slope T.pr_Slope_steps (ok_Slope_steps T) (hr.mono (by decide)) T.b_Slope_steps .nil pass0 rfl) pa_nil))))) pss_nil)
      (pss_one (ps_ret (pe_tup (pa_cons (pe_prop (pv 0) T.cl_Slope T.pr_Slope_steps (ok_Slope_steps T) (hr.mono (by decide)) T.b_Slope_steps .nil pass0 rfl) (pa_cons (pe_prop (pv 0) T.cl_Slope T.pr_Slope_rises (ok_Slope_rises T) (hr.mono (by decide)) T.b_Slope_rises .nil pass0 rfl) pa_nil)))))), ?_⟩
    refine Sx.r_st (σ' := [some (v)]) rfl ?_
    walk_at "sxi"
    refine rd_r hS ?_
    walk_at "sx"
    refine rd_s hS ?_
    walk_at "sx"
    refine ite_d (fun h => ?_) (fun h => ?_)
    · walk_at "sx"
      refine rd_r hS ?_
      walk_at "sx"
      refine rd_s hS ?_
      walk_at "sx"
      refine ⟨sz _ (Nat.le_of_ble_eq_true rfl), fun t ht => ?_⟩
      refine q t _ (same_new ht) ?_
      rw [Nat.min_eq_left (by omega), Nat.max_eq_right (by omega)]; exact upd_same
    · walk_at "sx"
      refine rd_s hS ?_
      walk_at "sx"
      refine rd_r hS ?_
      walk_at "sx"
      refine ⟨sz _ (Nat.le_of_ble_eq_true rfl), fun t ht => ?_⟩
      refine q t _ (same_new ht) ?_
      rw [Nat.min_eq_right (by omega), Nat.max_eq_left (by omega)]; exact upd_same
/-- as many numbers as the row of a:b has -/
def qz (a b : Nat) : Nat := (a - 1) * (b - 1) + 1
theorem half_is {a b : Nat} (h1 : 1 ≤ a) (h2 : 1 ≤ b) (hg : Nat.gcd a b = 1) : 2 * (((a : Int) - 1) * ((b : Int) - 1) / 2) + 1 = ((qz a b : Nat) : Int) := by
  have ev : ((a - 1) * (b - 1)) % 2 = 0 := by
    rcases Nat.mod_two_eq_zero_or_one a with ha | ha
    · rcases Nat.mod_two_eq_zero_or_one b with hb | hb
      · have : 2 ∣ Nat.gcd a b := Nat.dvd_gcd (Nat.dvd_of_mod_eq_zero ha) (Nat.dvd_of_mod_eq_zero hb)
        rw [hg] at this; omega
      · rw [Nat.mul_mod, show (b - 1) % 2 = 0 by omega]; simp
    · rw [Nat.mul_mod, show (a - 1) % 2 = 0 by omega]; simp
  have e : ((a : Int) - 1) * ((b : Int) - 1) = (((a - 1) * (b - 1) : Nat) : Int) := by
    rw [Int.natCast_mul, Int.natCast_sub h1, Int.natCast_sub h2]; rfl
  unfold qz
  rw [e]
  generalize (a - 1) * (b - 1) = m at ev
  omega
/-- the row of the quotient of a:b -/
def qf (a b : Nat) : List Int := Pq.tab (qz a b) (Pq.pr (max a b) (min a b - 1))
def sp_quotient (CS CR CT : Addr) : Sp := fun vs H Q E => ∃ v, ∃ a b : Nat, vs = [v] ∧ SlopeAt CS H v a b ∧
  ((Nat.gcd a b = 1 ∧ qz a b ≤ 400 ∧ ∀ t H', Same H H' → H' t = some (.tup ((qf a b).map V.int)) → Q (.ref t) H') ∨ (Nat.gcd a b = 1 ∧ 400 < qz a b ∧ ErrV CT "limit" E H (.int 400)) ∨ (Nat.gcd a b ≠ 1 ∧ ErrCom CR E H (Nat.gcd a b)))
theorem ok_quotient (T : Tx K mg) : FnOk P w K mg base (L2.CX P w) 6 T.a_quotient T.d_quotient ["slope"] (sp_quotient T.C_Slope T.C_Refused T.C_TooMany) := by
  refine T.F_quotient.okX sc_quotient (fun vs H Q E h => ?_) (fun cdv A outer s H vs Q E hr h => ?_)
  · obtain ⟨v, a, b, rfl, _⟩ := h; rfl
  · obtain ⟨v, a, b, rfl, hS, h⟩ := h
    refine ⟨_, (pss_cons (ps_expr (pe_call (ok_check_slope T) (hr.mono (by decide)) (by rfl) T.g_check_slope T.F_check_slope.kp T.b_check_slope .nil pass0 (pa_cons (pv 0) pa_nil)))
      (pss_cons (ps_expr (pe_call (ok_check_coprime T) (hr.mono (by decide)) (by rfl) T.g_check_coprime T.F_check_coprime.kp T.b_check_coprime .nil (passes_call (E := E) (W := fun cls d _ H => E cls d H) (takes_of rfl rfl rfl rfl) (fun _ _ _ _ h => h)) (pa_cons (pv 0) pa_nil)))
      (pss_cons (ps_set (i := 1) sc_quotient.nd rfl (.inl rfl) (pe_op op_add (pe_op Sx.op_mulA pe_int (Px.pe_propXK (K := K) rfl (pv 0) T.cl_Slope T.pr_Slope_half (ok_Slope_half T) (hr.mono (by decide)) T.b_Slope_half .nil (passes_call (E := E) (W := fun cls d _ H => E cls d H) (takes_of rfl rfl rfl rfl) (fun _ _ _ _ h => h)) rfl)) pe_int))
      (pss_cons (ps_if (pt_cmpR op_gt (pv 1) (pe_gc (by rfl) T.c_MAX_TERMS) (nomark _)) (pss_one (Er.ps_raise1 rfl (takes_of rfl rfl rfl rfl) T.ow_TooMany PySem.F.excBase_OverflowError (ok_TooMany_init T) (hr.mono (by decide)) T.b_TooMany_init rfl T.g_TooMany (pa_cons (pe_gc (by rfl) T.c_MAX_TERMS) pa_nil))) pss_nil)
      (pss_cons (ps_asg (pe_call (ok_sides T) (hr.mono (by decide)) (by rfl) T.g_sides T.F_sides.kp T.b_sides .nil pass0 (pa_cons (pv 0) pa_nil)) (pg_tup rfl (pgs_cons (pg_name (i := 2) sc_quotient.nd rfl (.inl rfl)) (pgs_cons (pg_name (i := 3) sc_quotient.nd rfl (.inl rfl)) pgs_nil))))
      (pss_cons (ps_set (i := 4) sc_quotient.nd rfl (.inl rfl) (pe_op op_cat (pe_lst (pa_cons pe_int pa_nil)) (pe_op op_rep (pe_lst (pa_cons pe_int pa_nil)) (pe_op op_sub (pv 1) pe_int))))
      (pss_cons (ps_for (passes_of rfl) rfl (pi_range2 (by rfl) T.n_range (pa_cons pe_int (pa_cons (pe_op op_add (pv 2) pe_int) pa_nil))) (pg_name (i := 5) sc_quotient.nd rfl (.inl rfl)) (pss_cons (ps_for (passes_of rfl) rfl (pi_range3 (by rfl) T.n_range (pa_cons (pe_op op_sub (pv 1) pe_int) (pa_cons (pe_op op_sub (pe_op op_add (pv 3) (pv 5)) pe_int) (pa_cons (pe_un un_neg pe_int) pa_nil)))) (pg_name (i := 6) sc_quotient.nd rfl (.inl rfl)) (pss_one (ps_asg (pe_op op_sub (pe_ix ix_list (pv 4) (pv 6) (fun _ _ => rfl)) (pe_ix ix_list (pv 4) (pe_op op_add (pe_op op_sub (pe_op op_sub (pv 6) (pv 3)) (pv 5)) pe_int) (fun _ _ => rfl))) (pg_sub (pv 4) (pv 6) set_list))))
      (pss_one (ps_for (passes_of rfl) rfl (pi_range2 (by rfl) T.n_range (pa_cons (pv 5) (pa_cons (pv 1) pa_nil))) (pg_name (i := 6) sc_quotient.nd rfl (.inl rfl)) (pss_one (ps_asg (pe_op op_add (pe_ix ix_list (pv 4) (pv 6) (fun _ _ => rfl)) (pe_ix ix_list (pv 4) (pe_op op_sub (pv 6) (pv 5)) (fun _ _ => rfl))) (pg_sub (pv 4) (pv 6) set_list)))))))
      (pss_one (ps_ret (pe_callTy Sx.c_tupOf (by rfl) T.n_tuple Sx.bt_tuple (pa_cons (pv 4) pa_nil))))))))))), ?_⟩
    refine Sx.r_st (σ' := [some (v), none, none, none, none, none, none]) rfl ?_
    obtain ⟨a1, a2, b1, b2⟩ : 1 ≤ a ∧ a ≤ 60 ∧ 1 ≤ b ∧ b ≤ 60 := by have := hS.1; omega
    have hz := half_is (b := b) a1 b1
    walk_at "sx"
    refine ⟨v, a, b, rfl, hS, ?_⟩
    walk_at "sx"
    refine ⟨v, a, b, rfl, hS, ?_⟩
    rcases h with ⟨hg, hq, q⟩ | ⟨hg, hq, q⟩ | ⟨hg, q⟩
    · refine .inl ⟨hg, ?_⟩
      walk_at "sx"
      refine rd_half hS (.inl ⟨hg, ?_⟩)
      walk_at "sx"
      rotate_left
      · exact cmA_l (by decide)
      rw [hz hg]
      walk_at "sxi"
      rw [decide_eq_false (show ¬ (400 : Int) < ((qz a b : Nat) : Int) by omega)]
      walk_at "sx"
      refine ⟨v, a, b, rfl, hS, fun t0 H1 s1 ht0 => ?_⟩
      refine r_gtup ht0 rfl ?_
      walk_at "sx"
      refine ⟨by decide, fun g1 hg1 => ?_⟩
      walk_at "sx"
      refine ⟨by decide, fun g2 hg2 => ?_⟩
      walk_at "sx"
      obtain ⟨sz, hsz⟩ : ∃ sz, qz a b = sz + 1 := ⟨(a - 1) * (b - 1), rfl⟩
      have hsz4 : sz + 1 ≤ 400 := by omega
      refine ⟨g2, _, _, rfl, rfl, upd_same, by omega, by omega, ?_, fun g3 hg3 => ?_⟩
      · show 1 * _ ≤ sizeLine
        rw [sizeLine_eq]; omega
      rw [show (List.replicate (((qz a b : Nat) : Int) - 1).toNat [V.int 0]).flatten = List.replicate sz (V.int 0) by rw [Lp.flat_one, show (((qz a b : Nat) : Int) - 1).toNat = sz by omega]]
      have n12 : g1 ≠ g2 := by rintro rfl; rw [upd_same] at hg2; cases hg2
      have n13 : g1 ≠ g3 := by rintro rfl; rw [upd_ne n12, upd_same] at hg3; cases hg3
      refine ⟨g1, g3, _, _, rfl, rfl, by rw [upd_ne n13, upd_ne n12]; exact upd_same, upd_same, ?_, fun g hgn => ?_⟩
      · rw [List.length_replicate, sizeLine_eq]; show 1 + sz ≤ _; omega
      have s5 : Same H (upd (upd (upd (upd H1 g1 (.lst [.int 1])) g2 (.lst [.int 0])) g3 (.lst (List.replicate sz (V.int 0)))) g (.lst ([V.int 1] ++ List.replicate sz (V.int 0)))) := fun c o e => same_new hgn _ _ (same_new hg3 _ _ (same_new hg2 _ _ (same_new hg1 _ _ (s1 _ _ e))))
      have g5 : (upd (upd (upd (upd H1 g1 (.lst [.int 1])) g2 (.lst [.int 0])) g3 (.lst (List.replicate sz (V.int 0)))) g (.lst ([V.int 1] ++ List.replicate sz (V.int 0)))) g = some (.lst (Lp.tb (qz a b) (Pq.pr (max a b) 0))) := by
        rw [upd_same, hsz, ← Lp.tb_dl]; rfl
      have s4 : Same H (upd (upd (upd H1 g1 (.lst [.int 1])) g2 (.lst [.int 0])) g3 (.lst (List.replicate sz (V.int 0)))) := fun c o e => same_new hg3 _ _ (same_new hg2 _ _ (same_new hg1 _ _ (s1 _ _ e)))
      have fresh : H g = none := by
        cases e : H g with
        | none => rfl
        | some o => rw [s4 _ _ e] at hgn; cases hgn
      generalize (upd (upd (upd (upd H1 g1 (.lst [.int 1])) g2 (.lst [.int 0])) g3 (.lst (List.replicate sz (V.int 0)))) g (.lst ([V.int 1] ++ List.replicate sz (V.int 0)))) = H5 at s5 g5 ⊢
      obtain ⟨more, hm⟩ : ∃ m, max a b = m := ⟨_, rfl⟩
      obtain ⟨less, hle⟩ : ∃ m, min a b = m := ⟨_, rfl⟩
      rw [hm] at g5 ⊢
      rw [hle] at ⊢
      have hm1 : 1 ≤ more ∧ more ≤ 60 ∧ 1 ≤ less ∧ less ≤ 60 := by omega
      walk_at "sx"
      refine r_rng2 ?_ ⟨by omega, by omega, by omega, by omega⟩
      refine fr_range (fun i σ' H' => (∃ y5 y6, σ' = [some v, some (.int ((qz a b : Nat) : Int)), some (.int (less : Nat)), some (.int (more : Nat)), some (.ref g), y5, y6]) ∧ Same H H' ∧ H' g = some (.lst (Lp.tb (qz a b) (Pq.pr more i)))) ⟨⟨_, _, rfl⟩, s5, g5⟩ ?_ ?_
      · rintro i σ' H6 hi ⟨⟨y5, y6, rfl⟩, s6, g6⟩
        rw [show ((less : Int) + 1 - 2).toNat = less - 1 by omega] at hi
        obtain ⟨f, hf⟩ : ∃ f, Pq.pr more i = f := ⟨_, rfl⟩
        have hf1 : Pq.pr more (i + 1) = Pq.U (i + 2) (Pq.D (more + i + 1) f) := by rw [Pq.pr, hf]
        rw [hf] at g6
        rw [hf1]
        obtain ⟨n, hn⟩ : ∃ n, qz a b = n := ⟨_, rfl⟩
        rw [hn] at g6 ⊢
        walk_at "sx"
        refine Lp.r_for3 ?_
        walk_at "sx"
        rw [show ((more : Int) + (2 + (i : Int)) - 2) = ((more + i : Nat) : Int) by omega]
        refine Lp.r_rng3 _ (RgC.neg (by omega) (by omega) (by omega) (by omega)) ?_
        rw [show ((n : Int) - 1 - ((more + i : Nat) : Int)).toNat = n - (more + i + 1) by omega]
        refine Lp.fr_down (fun j σ' H' => (∃ y6, σ' = [some v, some (.int (n : Nat)), some (.int (less : Nat)), some (.int (more : Nat)), some (.ref g), some (.int (2 + (i : Int))), y6]) ∧ Same H H' ∧ H' g = some (.lst (Lp.tb n (Lp.dnF n (more + i + 1) j f)))) ⟨⟨_, rfl⟩, s6, by rw [Lp.dnF_0]; exact g6⟩ ?_ ?_
        · rintro j σ' H7 hj ⟨⟨y6, rfl⟩, s7, g7⟩
          rw [show ((n : Int) - 1 + (j : Int) * -1) = ((n - 1 - j : Nat) : Int) by omega]
          walk_at "sx"
          refine r_ixL g7 (Lp.tb_at (by omega)) ?_
          walk_at "sx"
          rw [show (((n - 1 - j : Nat) : Int) - (more : Int) - (2 + (i : Int)) + 1) = ((n - 1 - j - (more + i + 1) : Nat) : Int) by omega]
          refine r_ixL g7 (Lp.tb_at (by omega)) ?_
          walk_at "sx"
          refine r_setL g7 (Lp.tb_ix _ (by omega)) ?_
          rw [Lp.dnF_step hj (by omega)]
          walk_at "sx"
          exact ⟨⟨_, rfl⟩, same_mut s7 fresh, upd_same⟩
        · rintro σ' H7 ⟨⟨y6, rfl⟩, s7, g7⟩
          rw [Lp.dnF_end rfl] at g7
          obtain ⟨h, hh⟩ : ∃ h, Pq.D (more + i + 1) f = h := ⟨_, rfl⟩
          rw [hh] at g7 ⊢
          walk_at "sx"
          refine r_rng2 ?_ ⟨by omega, by omega, by omega, by omega⟩
          rw [show (2 + (i : Int)) = ((i + 2 : Nat) : Int) by omega]
          refine fr_range (fun j σ' H' => (∃ y6, σ' = [some v, some (.int (n : Nat)), some (.int (less : Nat)), some (.int (more : Nat)), some (.ref g), some (.int ((i + 2 : Nat) : Int)), y6]) ∧ Same H H' ∧ H' g = some (.lst (Lp.tb n (Lp.upF (i + 2) j h)))) ⟨⟨_, rfl⟩, s7, by rw [Lp.upF_0]; exact g7⟩ ?_ ?_
          · rintro j σ' H8 hj ⟨⟨y6, rfl⟩, s8, g8⟩
            have hj' : i + 2 + j < n := by omega
            rw [show (((i + 2 : Nat) : Int) + (j : Int)) = ((i + 2 + j : Nat) : Int) by omega]
            walk_at "sx"
            refine r_ixL g8 (Lp.tb_at hj') ?_
            walk_at "sx"
            rw [show (((i + 2 + j : Nat) : Int) - ((i + 2 : Nat) : Int)) = ((i + 2 + j - (i + 2) : Nat) : Int) by omega]
            refine r_ixL g8 (Lp.tb_at (by omega)) ?_
            walk_at "sx"
            refine r_setL g8 (Lp.tb_ix _ hj') ?_
            rw [Lp.upF_step (by omega)]
            walk_at "sx"
            exact ⟨⟨_, rfl⟩, same_mut s8 fresh, upd_same⟩
          · rintro σ' H8 ⟨⟨y6, rfl⟩, s8, g8⟩
            rw [Lp.upF_end (by omega)] at g8
            exact ⟨⟨_, _, rfl⟩, s8, g8⟩
      · rintro σ' H6 ⟨⟨y5, y6, rfl⟩, s6, g6⟩
        walk_at "sx"
        rw [show ((less : Int) + 1 - 2).toNat = less - 1 by omega] at g6
        refine r_tupOfL (SqL.of g6) (fun t ht => ?_)
        refine q t _ (fun c o e => same_new ht _ _ (s6 _ _ e)) ?_
        rw [upd_same]; unfold qf; rw [hm, hle]; rfl
    · refine .inl ⟨hg, ?_⟩
      walk_at "sx"
      refine rd_half hS (.inl ⟨hg, ?_⟩)
      walk_at "sx"
      rotate_left
      · exact cmA_l (by decide)
      rw [hz hg]
      walk_at "sxi"
      rw [decide_eq_true (show (400 : Int) < ((qz a b : Nat) : Int) by omega)]
      walk_at "sx"
      refine Er.r_raise ?_
      walk_at "sx"
      exact ⟨_, rfl, q⟩
    · exact .inr ⟨hg, q⟩
end
end Lw

namespace Lw
open PySem PySem.Spec PyProof.Rows L2 Sx Sy Sw Mw Me
open En (NoNum)
open Ln (KpN)
open LamX (Tabs TabB ExtN)
open SX (S)
open C8 (pe_gc)
open SkE (call_repr_int call_str_str)
open RZ (pi_zipA)
section
variable {P : Program} {w : World} {K : PySem.W.Frag} {mg : Str → Option Value} {base : Heap}
/-- the greatest integer of the stage -/
def GR : Int := 10 ^ 60 - 1
def sp_is_integer : Sp := fun vs H Q _ => ∃ i : Int, vs = [.int i] ∧ -GR ≤ i ∧ i ≤ GR ∧ Q (.bl true) H
theorem ok_is_integer (T : Tx K mg) : FnOk P w K mg base CX0 3 T.a_is_integer T.d_is_integer ["value"] sp_is_integer := by
  refine T.F_is_integer.ok sc_is_integer (fun vs H Q E h => ?_) (fun cdv A outer s H vs Q E hr h => ?_)
  · obtain ⟨i, rfl, _⟩ := h; rfl
  · obtain ⟨i, rfl, h1, h2, q⟩ := h
    refine ⟨_, (pss_one (ps_ret (pe_call (ok_is_whole_between T) (hr.mono (by decide)) (by rfl) T.g_is_whole_between T.F_is_whole_between.kp T.b_is_whole_between .nil pass0 (pa_cons (pv 0) (pa_cons (pe_un un_neg (pe_gc (by rfl) T.c_GREATEST)) (pa_cons (pe_gc (by rfl) T.c_GREATEST) pa_nil)))))), ?_⟩
    refine Sx.r_st (σ' := [some (.int i)]) rfl ?_
    unfold GR at h1 h2
    walk_at "sx"
    refine .inl ⟨i, _, _, rfl, ?_⟩
    rw [decide_eq_true (by omega)]
    exact q
def sp_check_integer : Sp := fun vs H Q _ => ∃ i : Int, vs = [.int i] ∧ -GR ≤ i ∧ i ≤ GR ∧ Q .non H
theorem ok_check_integer (T : Tx K mg) : FnOk P w K mg base CX0 4 T.a_check_integer T.d_check_integer ["number"] sp_check_integer := by
  refine T.F_check_integer.ok sc_check_integer (fun vs H Q E h => ?_) (fun cdv A outer s H vs Q E hr h => ?_)
  · obtain ⟨i, rfl, _⟩ := h; rfl
  · obtain ⟨i, rfl, h1, h2, q⟩ := h
    refine ⟨_, (pss_one (ps_if (pt_not (pt_val (pe_call (ok_is_integer T) (hr.mono (by decide)) (by rfl) T.g_is_integer T.F_is_integer.kp T.b_is_integer .nil pass0 (pa_cons (pv 0) pa_nil)))) pss_never pss_nil)), ?_⟩
    refine Sx.r_st (σ' := [some (.int i)]) rfl ?_
    walk_at "sxi"
    refine ⟨i, rfl, h1, h2, ?_⟩
    walk_at "sx"
    exact q
theorem r_isi_tup {t : Addr} {xs : List V} {H : Hp} {Q : VK} (h : SqT K H t xs) (q : Q (.bl true) H) : rIsi K [.ref t, .ty "tuple"] H Q := by
  rcases h with (h | ⟨o, h⟩) | ⟨o, its, n, h, hc, _⟩
  · exact ⟨_, _, _, _, true, rfl, .ty _, .base (.tup h), kit_ty (by decide +kernel), q⟩
  · exact ⟨_, _, _, _, true, rfl, .ty _, .fTuple h, kit_ty (by decide +kernel), q⟩
  · exact ⟨_, _, _, _, true, rfl, .ty _, .kTuple h hc, kit_ty (by decide +kernel), q⟩
theorem sqt_same {H H' : Hp} {t : Addr} {xs : List V} (h : SqT K H t xs) (s : Same H H') : SqT K H' t xs := by
  rcases h with (h | ⟨o, h⟩) | h
  · exact .inl (.inl (s _ _ h))
  · exact .inl (.inr ⟨o, s _ _ h⟩)
  · exact .inr h
/-- a polynomial: integers, the last one not 0 -/
structure Poly (ns : List Int) : Prop where
  len : ns.length ≤ 400
  bnd : ∀ x, x ∈ ns → -GR ≤ x ∧ x ≤ GR
  last : ns = [] ∨ ns.getD (ns.length - 1) 0 ≠ 0
theorem all_yes : ∀ n, ((List.replicate n true).all id) = true
  | 0 => rfl
  | n + 1 => by rw [List.replicate_succ, List.all_cons, all_yes n]; rfl
theorem tr_snoc (n : Nat) : (List.replicate (n + 1) true).map V.bl = (List.replicate n true).map V.bl ++ [V.bl true] := by
  rw [List.replicate_succ', List.map_append]; rfl
theorem eqvAll_ints : ∀ {u v : List Int}, PyData.eqvAll (u.map PyData.int) (v.map PyData.int) = decide (u = v)
  | [], [] => by simp [PyData.eqvAll]
  | [], _ :: _ => by simp [PyData.eqvAll]
  | _ :: _, [] => by simp [PyData.eqvAll]
  | x :: u, y :: v => by
    rw [List.map_cons, List.map_cons, PyData.eqvAll, eqvAll_ints, PyData.eqv]
    by_cases h1 : x = y <;> by_cases h2 : u = v <;> simp [h1, h2]
theorem eqv_ints {u v : List Int} : PyData.eqv (.tuple (u.map PyData.int)) (.tuple (v.map PyData.int)) = decide (u = v) := by
  rw [PyData.eqv]; exact eqvAll_ints
theorem last_no {ns : List Int} (h : ns = [] ∨ ns.getD (ns.length - 1) 0 ≠ 0) : ns.drop (ns.length - 1) ≠ [0] := by
  rcases h with rfl | h
  · simp
  · intro z
    apply h
    have := congrArg (fun l => l.getD 0 0) z
    simp only [List.getD_eq_getElem?_getD, List.getElem?_drop, Nat.add_zero] at this
    rw [List.getD_eq_getElem?_getD, this]; rfl
/-- the last one, cut out -/
theorem r_last {H : Hp} {t : Addr} {ns : List Int} {Q : VK} (h : SqT K H t (ns.map V.int)) (q : ∀ u H', Same H H' → SqT K H' u ((ns.drop (ns.length - 1)).map V.int) → Q (.ref u) H') : rSlA K (.ref t) (some (-1)) none H Q := by
  refine ⟨t, _, rfl, h, fun z => ?_, fun z p hp => ?_⟩
  · have e : ns.length ≤ 1 := by
      have := z.1
      unfold HT.sIx at this
      rw [List.length_map] at this
      simp at this
      omega
    refine q t H (fun _ _ e => e) ?_
    rw [show ns.length - 1 = 0 by omega, List.drop_zero]; exact h
  · refine q p _ (same_new hp) (.of ?_)
    rw [upd_same]
    unfold cutV
    congr 2
    rw [List.length_map, show HT.sIx ns.length ns.length none = ns.length from rfl, show HT.sIx ns.length 0 (some (-1)) = ns.length - 1 by unfold HT.sIx; simp; omega, ← List.map_drop, ← List.map_take, List.take_of_length_le (by rw [List.length_drop]; omega)]
def sp_is_polynomial (K : PySem.W.Frag) : Sp := fun vs H Q _ => ∃ (t : Addr) (ns : List Int), vs = [.ref t] ∧ SqT K H t (ns.map V.int) ∧ Poly ns ∧ ∀ H', Same H H' → Q (.bl true) H'
theorem ok_is_polynomial (T : Tx K mg) : FnOk P w K mg base CX0 4 T.a_is_polynomial T.d_is_polynomial ["value"] (sp_is_polynomial K) := by
  refine T.F_is_polynomial.ok sc_is_polynomial (fun vs H Q E h => ?_) (fun cdv A outer s H vs Q E hr h => ?_)
  · obtain ⟨t, ns, rfl, _⟩ := h; rfl
  · obtain ⟨t, ns, rfl, ht, hp, q⟩ := h
    refine ⟨_, (pss_cons (ps_if (PW.pt (pw_or (pt_not (pt_val (pe_callB call_isi (by rfl) T.n_isinstance Sx.bt_isinstance (pa_cons (pv 0) (pa_cons (pe_bltn (v := .ty "tuple") (by rfl) T.n_tuple Sx.bt_tuple rfl) pa_nil))))) (pw_or1 (pt_cmpR op_gt (pe_callB Sx.c_len (by rfl) T.n_len Sx.bt_len (pa_cons (pv 0) pa_nil)) (pe_gc (by rfl) T.c_MAX_TERMS) (nomark _))))) (pss_one (ps_ret pe_bl)) pss_nil)
      (pss_one (ps_ret (pe_and (pe_callB (cr_all rfl) (by rfl) T.n_all Sx.bt_all (pa_cons (pe_lc (own := [("term", 1)]) (g := (gName 1)) (tt := tYes) rfl sc_is_polynomial.nd (pi_tup (pv 0)) (blkOk_by (N := N_is_polynomial) (sc := defScope st_is_polynomial) (by decide +kernel)) (fun _ _ _ _ _ => (pg_name (i := 1) sc_is_polynomial.nd rfl (.inl rfl))) (fun _ _ _ _ _ => pts_nil) (fun _ _ _ _ _ => (pe_call (ok_is_integer T) (hr.mono (by decide)) (by rfl) T.g_is_integer T.F_is_integer.kp T.b_is_integer .nil pass0 (pa_cons (pv 1) pa_nil)))) pa_nil)) (pe_one (pe_cmpR (op_neD hr.units) (pe_slice sl_tupA (pv 0) (po_some (pe_un un_neg pe_int)) po_none) (pe_tup (pa_cons pe_int pa_nil)) (nomark _))))))), ?_⟩
    refine Sx.r_st (σ' := [some (.ref t), none]) rfl ?_
    have hl := hp.len
    walk_at "sxi"
    refine r_isi_tup ht ?_
    walk_at "sx"
    refine r_lenT ht ?_
    walk_at "sx"
    rw [List.length_map, decide_eq_false (show ¬ (400 : Int) < (ns.length : Nat) by omega)]
    walk_at "sx"
    refine r_seqT ht ?_
    refine lw_tup (xs := ns.map V.int) (fun E i H' => Same H H' ∧ H' E = some (.lst ((List.replicate i true).map V.bl))) (fun E hE => ⟨same_new hE, upd_same⟩) (fun E hE i H' _ z => sqt_same ht z.1) ?_ ?_
    · rintro E hE i x H2 hx ⟨s2, he⟩
      rw [List.getElem?_map] at hx
      obtain ⟨y, hy, rfl⟩ := Option.map_eq_some_iff.mp hx
      have hi : i < ns.length := (List.getElem?_eq_some_iff.mp hy).1
      obtain ⟨b1, b2⟩ := hp.bnd y (List.mem_of_getElem? hy)
      walk_at "sx"
      refine ⟨rfl, ?_⟩
      walk_at "sx"
      refine ⟨y, rfl, b1, b2, ?_⟩
      refine ⟨_, he, ?_, same_mut s2 hE, ?_⟩
      · rw [List.length_map, List.length_replicate, sizeLine_eq]; omega
      · rw [upd_same, tr_snoc]
    · rintro E hE H2 ⟨s2, he⟩
      rw [List.length_map] at he
      walk_at "sx"
      refine ⟨E, _, rfl, SqL.of he, ?_⟩
      rw [all_yes]
      walk_at "sx"
      refine r_last (sqt_same ht s2) (fun u H3 s3 hu => ?_)
      walk_at "sx"
      refine ⟨sz _ (Nat.le_of_ble_eq_true rfl), fun z hz => ?_⟩
      refine r_neD (.tup (sqt_same hu (same_new hz)) (dpI _)) (.tup (.of upd_same) (dpI [0])) sh_tupI (sh_tupI (ns := [0])) ?_
      rw [eqv_ints, decide_eq_false (last_no hp.last)]
      exact q _ fun c o e => same_new hz _ _ (s3 _ _ (s2 _ _ e))
def sp_check_polynomial (K : PySem.W.Frag) : Sp := fun vs H Q _ => ∃ (t : Addr) (ns : List Int), vs = [.ref t] ∧ SqT K H t (ns.map V.int) ∧ Poly ns ∧ ∀ H', Same H H' → Q .non H'
theorem ok_check_polynomial (T : Tx K mg) : FnOk P w K mg base CX0 5 T.a_check_polynomial T.d_check_polynomial ["polynomial"] (sp_check_polynomial K) := by
  refine T.F_check_polynomial.ok sc_check_polynomial (fun vs H Q E h => ?_) (fun cdv A outer s H vs Q E hr h => ?_)
  · obtain ⟨t, ns, rfl, _⟩ := h; rfl
  · obtain ⟨t, ns, rfl, ht, hp, q⟩ := h
    refine ⟨_, (pss_one (ps_if (pt_not (pt_val (pe_call (ok_is_polynomial T) (hr.mono (by decide)) (by rfl) T.g_is_polynomial T.F_is_polynomial.kp T.b_is_polynomial .nil pass0 (pa_cons (pv 0) pa_nil)))) pss_never pss_nil)), ?_⟩
    refine Sx.r_st (σ' := [some (.ref t)]) rfl ?_
    walk_at "sxi"
    refine ⟨t, ns, rfl, ht, hp, fun H1 s1 => ?_⟩
    walk_at "sx"
    exact q _ s1
end
end Lw

namespace Lw
open PySem PySem.Spec PyProof.Rows L2 Sx Sy Sw Mw Me
open En (NoNum)
open Ln (KpN)
open LamX (Tabs TabB ExtN)
open SX (S)
open C8 (pe_gc)
open SkE (call_repr_int call_str_str)
open RZ (pi_zipA)
section
variable {P : Program} {w : World} {K : PySem.W.Frag} {mg : Str → Option Value} {base : Heap}
theorem r_aug {σ : L2.St} {H : Hp} {nx bk ct : L2.St → Hp → Prop} {rt : VK} {i : Nat} {n m : Int} {f : Int → Int → Int} (e : σ[i]? = some (some (.int n))) (h : nx (σ.set i (some (.int (f n m)))) H) : tAug i (tC (.int m)) (ipI f) ⟨nx, rt, bk, ct⟩ σ H := ⟨_, e, n, m, rfl, rfl, h⟩
theorem ints_at {ns : List Int} {i : Nat} (h : i < ns.length) : atI (ns.map V.int) (i : Int) = some (.int (ns.getD i 0)) :=
  atI_nat (by rw [List.getElem?_map, List.getD_eq_getElem?_getD, List.getElem?_eq_getElem h]; rfl)
theorem cut_to {ns : List Int} {m : Nat} (h : m ≤ ns.length) : cutV (ns.map V.int) none (some (m : Int)) = (ns.take m).map V.int := by
  unfold cutV
  rw [HT.sIx_none, HT.sIx_nat, List.drop_zero, Nat.sub_zero, List.length_map, Nat.min_eq_left h, List.map_take]
def sp_trimmed : Sp := fun vs H Q _ => ∃ (g : Addr) (ns : List Int), vs = [.ref g] ∧ H g = some (.lst (ns.map V.int)) ∧ ns.length ≤ 2000 ∧ ∀ t H', Same H H' → H' t = some (.tup ((Pv.trim ns).map V.int)) → Q (.ref t) H'
theorem ok_trimmed (T : Tx K mg) : FnOk P w K mg base CX0 1 T.a_trimmed T.d_trimmed ["terms"] sp_trimmed := by
  refine T.F_trimmed.ok sc_trimmed (fun vs H Q E h => ?_) (fun cdv A outer s H vs Q E hr h => ?_)
  · obtain ⟨g, ns, rfl, _⟩ := h; rfl
  · obtain ⟨g, ns, rfl, hg, hl, q⟩ := h
    refine ⟨_, (pss_cons (ps_set (i := 1) sc_trimmed.nd rfl (.inl rfl) (pe_callB Sx.c_len (by rfl) T.n_len Sx.bt_len (pa_cons (pv 0) pa_nil)))
      (pss_cons (ps_while PassesOwn.never (PW.pt (pw_and (pt_cmpR op_gt (pv 1) pe_int (nomark _)) (pw_and1 (pt_cmpR op_eq (pe_ix ix_list (pv 0) (pe_op op_sub (pv 1) pe_int) (fun _ _ => rfl)) pe_int (nomark _))))) (pss_one (ps_aug (i := 1) sc_trimmed.nd rfl (.inl rfl) pe_int ip_sub)))
      (pss_one (ps_ret (pe_callTy Sx.c_tupOf (by rfl) T.n_tuple Sx.bt_tuple (pa_cons (pe_slice sl_list (pv 0) po_none (po_some (pv 1))) pa_nil)))))), ?_⟩
    refine Sx.r_st (σ' := [some (.ref g), none]) rfl ?_
    walk_at "sx"
    refine r_lenL (SqL.of hg) ?_
    walk_at "sx"
    rw [List.length_map]
    refine r_while (fun m σ' H' => H' = H ∧ σ' = [some (.ref g), some (.int (m : Nat))] ∧ m ≤ ns.length ∧ ∀ i, m ≤ i → i < ns.length → ns.getD i 0 = 0) ns.length ⟨rfl, rfl, Nat.le_refl _, fun i h1 h2 => absurd h2 (by omega)⟩ ?_
    rintro m σ' H' ⟨rfl, rfl, hm, hz⟩
    have fin : (m = 0 ∨ ns.getD (m - 1) 0 ≠ 0) → ∀ p p2, H' p = none → upd H' p (.lst (cutV (ns.map V.int) none (some (m : Int)))) p2 = none → Q (.ref p2) (upd (upd H' p (.lst (cutV (ns.map V.int) none (some (m : Int))))) p2 (.tup (cutV (ns.map V.int) none (some (m : Int))))) := by
      intro hn p p2 hp hp2
      refine q p2 _ (fun c o e => same_new hp2 _ _ (same_new hp _ _ e)) ?_
      rw [upd_same, cut_to hm, Pv.trim_take hm hz hn]
    walk_at "sx"
    refine ite_d (fun h0 => ?_) (fun h0 => ?_)
    · walk_at "sx"
      rw [show ((m : Int) - 1) = ((m - 1 : Nat) : Int) by omega]
      refine r_ixL hg (ints_at (by omega)) ?_
      walk_at "sx"
      refine ite_d (fun h1 => ?_) (fun h1 => ?_)
      · refine ⟨fun σ2 H2 => H2 = H' ∧ σ2 = [some (.ref g), some (.int ((m - 1 : Nat) : Int))], ?_, ?_⟩
        · rintro σ2 H2 ⟨rfl, rfl⟩
          refine ⟨m - 1, by omega, rfl, rfl, by omega, fun i hi1 hi2 => ?_⟩
          by_cases e : i = m - 1
          · rw [e]; exact h1
          · exact hz i (by omega) hi2
        · refine r_aug rfl ?_
          show H' = H' ∧ [some (V.ref g), some (V.int ((m : Int) - 1))] = _
          rw [show ((m : Int) - 1) = ((m - 1 : Nat) : Int) by omega]
          exact ⟨rfl, rfl⟩
      · walk_at "sx"
        refine ⟨g, _, rfl, SqL.of hg, fun p hp => ?_⟩
        walk_at "sx"
        exact r_tupOfL (SqL.of upd_same) fun p2 hp2 => fin (.inr h1) p p2 hp hp2
    · walk_at "sx"
      refine ⟨g, _, rfl, SqL.of hg, fun p hp => ?_⟩
      walk_at "sx"
      exact r_tupOfL (SqL.of upd_same) fun p2 hp2 => fin (.inl (by omega)) p p2 hp hp2
theorem mul_in {x y : Int} (hx : -GR ≤ x ∧ x ≤ GR) (hy : -GR ≤ y ∧ y ≤ GR) : CMulA x y := by
  unfold GR at hx hy
  exact cmA_w (cmulw (a := 200) (b := 200) (by omega) (by omega) (by decide))
def sp_product_of (K : PySem.W.Frag) : Sp := fun vs H Q _ => ∃ (p q : Addr) (xs ys : List Int), vs = [.ref p, .ref q] ∧ SqT K H p (xs.map V.int) ∧ SqT K H q (ys.map V.int) ∧ Poly xs ∧ Poly ys ∧ ∀ t H', Same H H' → H' t = some (.tup ((Pv.mu xs ys).map V.int)) → Q (.ref t) H'
theorem ok_product_of (T : Tx K mg) : FnOk P w K mg base CX0 2 T.a_product_of T.d_product_of ["one", "other"] (sp_product_of K) := by
  refine T.F_product_of.ok sc_product_of (fun vs H Q E h => ?_) (fun cdv A outer s H vs Q E hr h => ?_)
  · obtain ⟨p, r, xs, ys, rfl, _⟩ := h; rfl
  · obtain ⟨p, r, xs, ys, rfl, hp, hr', px, py, q⟩ := h
    refine ⟨_, (pss_cons (ps_set (i := 2) sc_product_of.nd rfl (.inl rfl) (pe_op op_rep (pe_lst (pa_cons pe_int pa_nil)) (pe_op op_add (pe_callB Sx.c_len (by rfl) T.n_len Sx.bt_len (pa_cons (pv 0) pa_nil)) (pe_callB Sx.c_len (by rfl) T.n_len Sx.bt_len (pa_cons (pv 1) pa_nil)))))
      (pss_cons (ps_for PassesOwn.never rfl (Sy.pi_enumT (by rfl) T.n_enumerate (pa_cons (pv 0) pa_nil)) (pg_tup rfl (pgs_cons (pg_name (i := 3) sc_product_of.nd rfl (.inl rfl)) (pgs_cons (pg_name (i := 4) sc_product_of.nd rfl (.inl rfl)) pgs_nil))) (pss_one (ps_for PassesOwn.never rfl (Sy.pi_enumT (by rfl) T.n_enumerate (pa_cons (pv 1) pa_nil)) (pg_tup rfl (pgs_cons (pg_name (i := 5) sc_product_of.nd rfl (.inl rfl)) (pgs_cons (pg_name (i := 6) sc_product_of.nd rfl (.inl rfl)) pgs_nil))) (pss_one (ps_asg (pe_op op_add (pe_ix ix_list (pv 2) (pe_op op_add (pv 3) (pv 5)) (fun _ _ => rfl)) (pe_op Sx.op_mulA (pv 4) (pv 6))) (pg_sub (pv 2) (pe_op op_add (pv 3) (pv 5)) set_list))))))
      (pss_one (ps_ret (pe_call (ok_trimmed T) (hr.mono (by decide)) (by rfl) T.g_trimmed T.F_trimmed.kp T.b_trimmed .nil pass0 (pa_cons (pv 2) pa_nil)))))), ?_⟩
    refine Sx.r_st (σ' := [some (.ref p), some (.ref r), none, none, none, none, none]) rfl ?_
    have lx := px.len
    have ly := py.len
    walk_at "sx"
    refine ⟨by decide, fun g1 hg1 => ?_⟩
    walk_at "sx"
    refine r_lenT (sqt_same hp (same_new hg1)) ?_
    walk_at "sx"
    refine r_lenT (sqt_same hr' (same_new hg1)) ?_
    walk_at "sx"
    rw [List.length_map, List.length_map]
    obtain ⟨N, hN⟩ : ∃ N, xs.length + ys.length = N := ⟨_, rfl⟩
    refine ⟨g1, _, _, rfl, rfl, upd_same, by omega, by omega, ?_, fun g hgn => ?_⟩
    · show 1 * _ ≤ sizeLine
      rw [sizeLine_eq]; omega
    rw [show (List.replicate ((xs.length : Int) + (ys.length : Int)).toNat [V.int 0]).flatten = Lp.tb N (Pv.cv (xs.take 0) ys) by
      rw [Lp.flat_one, show ((xs.length : Int) + (ys.length : Int)).toNat = N by omega]
      unfold Lp.tb Pq.tab
      rw [List.take_zero, List.map_map]
      apply List.ext_getElem?
      intro j
      rw [List.getElem?_replicate, List.getElem?_map]
      by_cases c : j < N
      · rw [if_pos c, List.getElem?_range c]; rfl
      · rw [if_neg c, List.getElem?_eq_none (by simpa using c)]; rfl]
    have s5 : Same H (upd (upd H g1 (.lst [.int 0])) g (.lst (Lp.tb N (Pv.cv (xs.take 0) ys)))) := fun c o e => same_new hgn _ _ (same_new hg1 _ _ e)
    have fresh : H g = none := by
      cases e : H g with
      | none => rfl
      | some o => rw [same_new (o := .lst [.int 0]) hg1 _ _ e] at hgn; cases hgn
    have g5 : (upd (upd H g1 (.lst [.int 0])) g (.lst (Lp.tb N (Pv.cv (xs.take 0) ys)))) g = some (.lst (Lp.tb N (Pv.cv (xs.take 0) ys))) := upd_same
    generalize upd (upd H g1 (.lst [.int 0])) g (.lst (Lp.tb N (Pv.cv (xs.take 0) ys))) = H5 at s5 g5 ⊢
    walk_at "sx"
    refine r_seqN (sqt_same hp s5) ?_
    refine fr_it (walk_num (ys := xs.map V.int)) (fun i σ' H' => (∃ y3 y4 y5 y6, σ' = [some (.ref p), some (.ref r), some (.ref g), y3, y4, y5, y6]) ∧ Same H H' ∧ H' g = some (.lst (Lp.tb N (Pv.cv (xs.take i) ys)))) ⟨⟨_, _, _, _, rfl⟩, s5, g5⟩ (fun i σ' H' _ z => sqt_same hp z.2.1) ?_ ?_
    · rintro i x σ' H6 H7 hi ⟨⟨y3, y4, y5, y6, rfl⟩, s6, g6⟩ ⟨pp, x1, x2, rfl, hpp, rfl, e1, e2⟩
      obtain rfl : V.int (i : Nat) = x1 := Option.some.inj e1
      replace e2 : (xs.map V.int)[i]? = some x2 := e2
      rw [List.getElem?_map] at e2
      obtain ⟨a, ha, rfl⟩ := Option.map_eq_some_iff.mp e2
      have hi' : i < xs.length := (List.getElem?_eq_some_iff.mp ha).1
      refine r_gtup upd_same rfl ?_
      have s7 : Same H (upd H6 pp (.tup [.int (i : Nat), .int a])) := fun c o e => same_new hpp _ _ (s6 _ _ e)
      have g7 : (upd H6 pp (.tup [.int (i : Nat), .int a])) g = _ := same_new hpp _ _ g6
      generalize upd H6 pp (.tup [.int (i : Nat), .int a]) = H7 at s7 g7 ⊢
      walk_at "sx"
      refine r_seqN (sqt_same hr' s7) ?_
      refine fr_it (walk_num (ys := ys.map V.int)) (fun j σ' H' => (∃ y5 y6, σ' = [some (.ref p), some (.ref r), some (.ref g), some (.int (i : Nat)), some (.int a), y5, y6]) ∧ Same H H' ∧ H' g = some (.lst (Lp.tb N (Pv.md xs ys i j a)))) ⟨⟨_, _, rfl⟩, s7, by rw [Pv.md_0]; exact g7⟩ (fun i σ' H' _ z => sqt_same hr' z.2.1) ?_ ?_
      · rintro j x σ' H8 H9 hj ⟨⟨y5, y6, rfl⟩, s8, g8⟩ ⟨pp2, x1, x2, rfl, hpp2, rfl, e1, e2⟩
        obtain rfl : V.int (j : Nat) = x1 := Option.some.inj e1
        replace e2 : (ys.map V.int)[j]? = some x2 := e2
        rw [List.getElem?_map] at e2
        obtain ⟨b, hb, rfl⟩ := Option.map_eq_some_iff.mp e2
        have hj' : j < ys.length := (List.getElem?_eq_some_iff.mp hb).1
        refine r_gtup upd_same rfl ?_
        have s9 : Same H (upd H8 pp2 (.tup [.int (j : Nat), .int b])) := fun c o e => same_new hpp2 _ _ (s8 _ _ e)
        have g9 : (upd H8 pp2 (.tup [.int (j : Nat), .int b])) g = _ := same_new hpp2 _ _ g8
        generalize upd H8 pp2 (.tup [.int (j : Nat), .int b]) = H9 at s9 g9 ⊢
        walk_at "sx"
        rw [show ((i : Int) + (j : Int)) = ((i + j : Nat) : Int) by omega]
        refine r_ixL g9 (Lp.tb_at (by omega)) ?_
        walk_at "sx"
        rotate_left
        · exact mul_in (px.bnd _ (List.mem_of_getElem? ha)) (py.bnd _ (List.mem_of_getElem? hb))
        rw [show ((i : Int) + (j : Int)) = ((i + j : Nat) : Int) by omega]
        refine r_setL g9 (Lp.tb_ix _ (by omega)) ?_
        rw [Pv.md_step hb]
        walk_at "sx"
        exact ⟨⟨_, _, rfl⟩, same_mut s9 fresh, upd_same⟩
      · rintro σ' H8 ⟨⟨y5, y6, rfl⟩, s8, g8⟩
        rw [List.length_map, Pv.md_end ha] at g8
        exact ⟨⟨_, _, _, _, rfl⟩, s8, g8⟩
    · rintro σ' H6 ⟨⟨y3, y4, y5, y6, rfl⟩, s6, g6⟩
      rw [List.length_map, List.take_length] at g6
      walk_at "sx"
      refine ⟨g, _, rfl, g6, ?_, fun t H7 s7 ht => ?_⟩
      · rw [Pq.tab_len]; omega
      · refine q t H7 (fun c o e => s7 _ _ (s6 _ _ e)) ?_
        unfold Pv.mu; rw [hN]; exact ht
def sp_times (K : PySem.W.Frag) : Sp := sp_product_of K
theorem ok_times (T : Tx K mg) : FnOk P w K mg base CX0 6 T.a_times T.d_times ["one", "other"] (sp_times K) := by
  refine T.F_times.ok sc_times (fun vs H Q E h => ?_) (fun cdv A outer s H vs Q E hr h => ?_)
  · obtain ⟨p, r, xs, ys, rfl, _⟩ := h; rfl
  · obtain ⟨p, r, xs, ys, rfl, hp, hr', px, py, q⟩ := h
    refine ⟨_, (pss_cons (ps_expr (pe_call (ok_check_polynomial T) (hr.mono (by decide)) (by rfl) T.g_check_polynomial T.F_check_polynomial.kp T.b_check_polynomial .nil pass0 (pa_cons (pv 0) pa_nil)))
      (pss_cons (ps_expr (pe_call (ok_check_polynomial T) (hr.mono (by decide)) (by rfl) T.g_check_polynomial T.F_check_polynomial.kp T.b_check_polynomial .nil pass0 (pa_cons (pv 1) pa_nil)))
      (pss_one (ps_ret (pe_call (ok_product_of T) (hr.mono (by decide)) (by rfl) T.g_product_of T.F_product_of.kp T.b_product_of .nil pass0 (pa_cons (pv 0) (pa_cons (pv 1) pa_nil))))))), ?_⟩
    refine Sx.r_st (σ' := [some (.ref p), some (.ref r)]) rfl ?_
    walk_at "sx"
    refine ⟨p, xs, rfl, hp, px, fun H1 s1 => ?_⟩
    walk_at "sx"
    refine ⟨r, ys, rfl, sqt_same hr' s1, py, fun H2 s2 => ?_⟩
    walk_at "sx"
    have s : Same H H2 := fun c o e => s2 _ _ (s1 _ _ e)
    exact ⟨p, r, xs, ys, rfl, sqt_same hp s, sqt_same hr' s, px, py, fun t H3 s3 ht => q t H3 (fun c o e => s3 _ _ (s _ _ e)) ht⟩
/-- at one -/
def at1 (ns : List Int) : Int := ns.reverse.foldl (fun v c => v + c) 0
def sp_value_at (K : PySem.W.Frag) : Sp := fun vs H Q _ => ∃ (t : Addr) (ns : List Int), vs = [.ref t, .int 1] ∧ SqT K H t (ns.map V.int) ∧ Poly ns ∧ ∀ H', Same H H' → Q (.int (at1 ns)) H'
theorem ok_value_at (T : Tx K mg) : FnOk P w K mg base CX0 6 T.a_value_at T.d_value_at ["polynomial", "x"] (sp_value_at K) := by
  refine T.F_value_at.ok sc_value_at (fun vs H Q E h => ?_) (fun cdv A outer s H vs Q E hr h => ?_)
  · obtain ⟨t, ns, rfl, _⟩ := h; rfl
  · obtain ⟨t, ns, rfl, ht, hp, q⟩ := h
    refine ⟨_, (pss_cons (ps_expr (pe_call (ok_check_polynomial T) (hr.mono (by decide)) (by rfl) T.g_check_polynomial T.F_check_polynomial.kp T.b_check_polynomial .nil pass0 (pa_cons (pv 0) pa_nil)))
      (pss_cons (ps_expr (pe_call (ok_check_integer T) (hr.mono (by decide)) (by rfl) T.g_check_integer T.F_check_integer.kp T.b_check_integer .nil pass0 (pa_cons (pv 1) pa_nil)))
      (pss_cons (ps_set (i := 2) sc_value_at.nd rfl (.inl rfl) pe_int)
      (pss_cons (ps_for PassesOwn.never rfl (pi_tup (Rt.pe_revT (pv 0))) (pg_name (i := 3) sc_value_at.nd rfl (.inl rfl)) (pss_one (ps_set (i := 2) sc_value_at.nd rfl (.inl rfl) (pe_op op_add (pe_op Sx.op_mulA (pv 2) (pv 1)) (pv 3)))))
      (pss_one (ps_ret (pv 2))))))), ?_⟩
    refine Sx.r_st (σ' := [some (.ref t), some (.int 1), none, none]) rfl ?_
    walk_at "sx"
    refine ⟨t, ns, rfl, ht, hp, fun H1 s1 => ?_⟩
    walk_at "sx"
    refine ⟨1, rfl, by unfold GR; omega, by unfold GR; omega, ?_⟩
    walk_at "sx"
    have ht1 := sqt_same ht s1
    refine ⟨t, _, rfl, ht1, fun p hp => ?_⟩
    have s2 : Same H (upd H1 p (.tup (ns.map V.int).reverse)) := fun c o e => same_new hp _ _ (s1 _ _ e)
    have h2 : (upd H1 p (.tup (ns.map V.int).reverse)) p = some (.tup (ns.reverse.map V.int)) := by rw [upd_same, List.map_reverse]
    generalize upd H1 p (.tup (ns.map V.int).reverse) = H2 at s2 h2 ⊢
    refine r_seqT (.of h2) ?_
    refine fr_tup (xs := ns.reverse.map V.int) (fun i σ' H' => H' = H2 ∧ ∃ y, σ' = [some (.ref t), some (.int 1), some (.int ((ns.reverse.take i).foldl (fun v c => v + c) 0)), y]) ⟨rfl, none, rfl⟩ (fun i σ' H' _ z => z.1 ▸ .of h2) ?_ ?_
    · rintro i x σ' H' hx ⟨rfl, y, rfl⟩
      rw [List.getElem?_map] at hx
      obtain ⟨z, hz, rfl⟩ := Option.map_eq_some_iff.mp hx
      walk_at "sx"
      · refine ⟨rfl, some (.int z), ?_⟩
        rw [List.take_add_one, hz, List.foldl_append, Int.mul_one]
        rfl
      · exact cmA_r (by decide)
    · rintro σ' H' ⟨rfl, y, rfl⟩
      rw [List.length_map, List.take_length]
      walk_at "sx"
      exact q _ s2
end
end Lw

namespace Lw
open PySem PySem.Spec PyProof.Rows L2 Sx Sy Sw Mw Me
open En (NoNum)
open Ln (KpN)
open LamX (Tabs TabB ExtN)
open SX (S)
open C8 (pe_gc)
open SkE (call_repr_int call_str_str)
open RZ (pi_zipA)
section
variable {P : Program} {w : World} {K : PySem.W.Frag} {mg : Str → Option Value} {base : Heap}
def sp_law_dice (K : PySem.W.Frag) : Sp := fun vs H Q _ => ∃ (a : Addr) (ns : List Int) (i : Nat), vs = [.ref a, .int i] ∧ SqL K H a (ns.map V.int) ∧ i ≤ 63 ∧ ∀ d H', Same H H' → H d = none → Dice H' d → Q (.ref d) H'
theorem ok_law_dice (T : Tx K mg) : FnOk P w K mg base CX0 1 T.a_law_dice T.d_law_dice ["_law_script", "_law_spot"] (sp_law_dice K) := by
  refine T.F_law_dice.ok sc_law_dice (fun vs H Q E h => ?_) (fun cdv A outer s H vs Q E hr h => ?_)
  · obtain ⟨a, ns, i, rfl, _⟩ := h; rfl
  · obtain ⟨a, ns, i, rfl, hS, hi, q⟩ := h
    refine ⟨_, (pss_cons (ps_set (i := 2) sc_law_dice.nd rfl (.inl rfl) (pe_ifExp (pt_cmpR op_lt (pv 1) (pe_callB Sx.c_len (by rfl) T.n_len Sx.bt_len (pa_cons (pv 0) pa_nil)) (nomark _)) (pe_callTy Sx.c_int (by rfl) T.n_int Sx.bt_int (pa_cons (pe_ix ix_list (pv 0) (pv 1) (fun _ _ => rfl)) pa_nil)) (pe_op op_add (pe_op Sx.op_mulA pe_int (pv 1)) pe_int)))
      (pss_cons (ps_set (i := 3) sc_law_dice.nd rfl (.inl rfl) (pe_op op_mod (pe_callB (Sx.c_max rfl) (by rfl) T.n_max Sx.bt_max (pa_cons pe_int (pa_cons (pe_op op_sub (pe_callB Sx.c_abs (by rfl) T.n_abs Sx.bt_abs (pa_cons (pv 2) pa_nil)) (pe_op op_pow pe_int pe_int)) pa_nil))) (pe_op Sx.op_mulA (pe_op op_pow pe_int pe_int) (pe_op op_pow pe_int pe_int))))
      (pss_one (ps_ret (pe_lst (pa_cons (pv 3) (pa_cons (pe_op op_add (pe_op op_add (pe_op op_add (pe_op Sx.op_mulA (pe_op op_mod (pe_callB Sx.c_abs (by rfl) T.n_abs Sx.bt_abs (pa_cons (pv 2) pa_nil)) pe_int) pe_int) (pe_op Sx.op_mulA pe_int (pv 1))) (pe_op Sx.op_mulA pe_int (pe_callTy Sx.c_int (by rfl) T.n_int Sx.bt_int (pa_cons (pe_cmpR op_lt (pv 2) pe_int (nomark _)) pa_nil)))) pe_int) (pa_cons pe_int pa_nil)))))))), ?_⟩
    refine Sx.r_st (σ' := [some (.ref a), some (.int i), none, none]) rfl ?_
    walk_at "sx"
    refine r_cutQ (fun v H1 => H1 = H ∧ ∃ x : Int, v = .int x) (fun Q' k => ?_) ?_
    · refine r_ifE ?_
      walk_at "sx"
      refine r_lenL hS ?_
      walk_at "sx"
      rw [List.length_map]
      refine ite_d (fun h => ?_) (fun h => ?_)
      · have h' : i < ns.length := by omega
        walk_at "sx"
        refine ⟨a, _, _, _, rfl, rfl, hS, atI_nat (j := i) (v := .int ns[i]) (by rw [List.getElem?_map, List.getElem?_eq_getElem h']; rfl), ?_⟩
        walk_at "sx"
        exact k _ _ ⟨rfl, _, rfl⟩
      · walk_at "sx"
        · exact k _ _ ⟨rfl, _, rfl⟩
        all_goals walk_at "sd"
    · rintro v H1 ⟨rfl, x, rfl⟩
      walk_at "sx"
      · refine ⟨sz _ (Nat.le_of_ble_eq_true rfl), fun d hd => ?_⟩
        exact q _ _ (same_new hd) hd ⟨_, _, _, upd_same⟩
      all_goals first | walk_at "sd" | exact cmA_w (by unfold CMulW; decide +kernel)
def sp_law_roll : Sp := fun vs H Q _ => ∃ (d : Addr) (n : Int), vs = [.ref d, .int n] ∧ Dice H d ∧ 0 < n ∧ n.natAbs.log2 < 9000 ∧ ∀ r H', 0 ≤ r → r < n → Kp d H H' → Q (.int r) H'
theorem ok_law_roll (T : Tx K mg) : FnOk P w K mg base CX0 1 T.a_law_roll T.d_law_roll ["_law_dice_here", "_law_total"] sp_law_roll := by
  refine T.F_law_roll.ok sc_law_roll (fun vs H Q E h => ?_) (fun cdv A outer s H vs Q E hr h => ?_)
  · obtain ⟨d, n, rfl, _⟩ := h; rfl
  · obtain ⟨d, n, rfl, ⟨x, y, z, hd⟩, hn, hl, q⟩ := h
    refine ⟨_, (pss_cons (ps_if (pt_cmpR op_gt (pe_ix ix_list (pv 0) pe_int (fun _ _ => rfl)) pe_int (nomark _)) (pss_cons (ps_set (i := 2) sc_law_roll.nd rfl (.inl rfl) (pe_op op_mod (pe_callTy Sx.c_int (by rfl) T.n_int Sx.bt_int (pa_cons (pe_ix ix_list (pv 0) pe_int (fun _ _ => rfl)) pa_nil)) (pv 1)))
      (pss_cons (ps_asg (pe_op op_fdivW (pe_ix ix_list (pv 0) pe_int (fun _ _ => rfl)) (pv 1)) (pg_sub (pv 0) pe_int set_list))
      (pss_one (ps_ret (pv 2))))) pss_nil)
      (pss_cons (ps_asg (pe_op op_add (pe_ix ix_list (pv 0) pe_int (fun _ _ => rfl)) pe_int) (pg_sub (pv 0) pe_int set_list))
      (pss_cons (ps_set (i := 3) sc_law_roll.nd rfl (.inl rfl) (pe_op op_mod (pe_callTy Sx.c_int (by rfl) T.n_int Sx.bt_int (pa_cons (pe_op op_add (pe_ix ix_list (pv 0) pe_int (fun _ _ => rfl)) (pe_op Sx.op_mulA pe_int (pe_ix ix_list (pv 0) pe_int (fun _ _ => rfl)))) pa_nil)) pe_int))
      (pss_cons (ps_set (i := 4) sc_law_roll.nd rfl (.inl rfl) (pe_op op_add (pe_op Sx.op_mulA (pe_op op_mod (pe_callTy Sx.c_int (by rfl) T.n_int Sx.bt_int (pa_cons (pe_op op_add (pe_op Sx.op_mulA (pv 3) (pv 3)) (pe_op Sx.op_mulA pe_int (pe_ix ix_list (pv 0) pe_int (fun _ _ => rfl)))) pa_nil)) pe_int) pe_int) (pv 3)))
      (pss_one (ps_ret (pe_op op_mod (pe_callTy Sx.c_int (by rfl) T.n_int Sx.bt_int (pa_cons (pe_op op_fdivW (pv 4) pe_int) pa_nil)) (pv 1)))))))), ?_⟩
    refine Sx.r_st (σ' := [some (.ref d), some (.int n), none, none, none]) rfl ?_
    walk_at "sxi"
    refine r_ixL hd (v := .int x) rfl ?_
    walk_at "sx"
    refine ite_d (fun h => ?_) (fun h => ?_)
    · walk_at "sx"
      refine r_ixL hd (v := .int x) rfl ?_
      walk_at "sx"
      · refine r_ixL hd (v := .int x) rfl ?_
        walk_at "sx"
        · refine r_setL hd (j := 0) rfl ?_
          walk_at "sx"
          refine q _ _ (Int.emod_nonneg _ (by omega)) (Int.emod_lt_of_pos _ hn) (Kp.put ⟨x, y, z, hd⟩)
        · exact ⟨hn, hl⟩
      · exact hn
    · walk_at "sx"
      refine r_ixL hd (v := .int z) rfl ?_
      walk_at "sx"
      refine r_setL hd (j := 2) rfl ?_
      walk_at "sx"
      refine r_ixL upd_same (v := .int y) rfl ?_
      walk_at "sx"
      refine r_ixL upd_same (v := .int (z + 1)) rfl ?_
      walk_at "sx"
      refine r_ixL upd_same (v := .int (z + 1)) rfl ?_
      walk_at "sx"
      · exact q _ _ (Int.emod_nonneg _ (by omega)) (Int.emod_lt_of_pos _ hn) (Kp.put ⟨x, y, z, hd⟩)
      all_goals walk_at "sd"
def sp_law_pick : Sp := fun vs H Q _ => ∃ (d l : Addr) (xs : List V), vs = [.ref d, .ref l] ∧ Dice H d ∧ l ≠ d ∧ H l = some (.lst xs) ∧ 0 < xs.length ∧ xs.length ≤ 1000 ∧ ∀ v H', v ∈ xs → Kp d H H' → Q v H'
theorem ok_law_pick (T : Tx K mg) : FnOk P w K mg base CX0 2 T.a_law_pick T.d_law_pick ["_law_dice_here", "_law_items"] sp_law_pick := by
  refine T.F_law_pick.ok sc_law_pick (fun vs H Q E h => ?_) (fun cdv A outer s H vs Q E hr h => ?_)
  · obtain ⟨d, n, xs, rfl, _⟩ := h; rfl
  · obtain ⟨d, l, xs, rfl, hd, hld, hl, h0, hn, q⟩ := h
    refine ⟨_, (pss_one (ps_ret (pe_ix ix_list (pv 1) (pe_call (ok_law_roll T) (hr.mono (by decide)) (by rfl) T.g_law_roll T.F_law_roll.kp T.b_law_roll .nil pass0 (pa_cons (pv 0) (pa_cons (pe_callB Sx.c_len (by rfl) T.n_len Sx.bt_len (pa_cons (pv 1) pa_nil)) pa_nil))) (fun _ _ => rfl)))), ?_⟩
    refine Sx.r_st (σ' := [some (.ref d), some (.ref l)]) rfl ?_
    walk_at "sx"
    refine r_lenL (SqL.of hl) ?_
    walk_at "sx"
    refine ⟨d, xs.length, rfl, hd, by omega, ?_, fun r H' h1 h2 kp => ?_⟩
    · exact PySem.Flt.log2_lt_of (by decide) (Nat.lt_of_le_of_lt (show (xs.length : Int).natAbs ≤ 1000 by omega) (by decide +kernel))
    have hr : r.toNat < xs.length := by omega
    refine r_ixL (kp.k l _ hld hl) (v := xs[r.toNat]) ?_ ?_
    · have := atI_nat (xs := xs) (j := r.toNat) (v := xs[r.toNat]) (List.getElem?_eq_getElem hr)
      rw [Int.toNat_of_nonneg h1] at this; exact this
    exact q _ _ (List.getElem_mem hr) kp
theorem log_small {n : Int} (h0 : 0 ≤ n) (h : n ≤ 1000) : n.natAbs.log2 < 9000 := PySem.Flt.log2_lt_of (by decide) (Nat.lt_of_le_of_lt (show n.natAbs ≤ 1000 by omega) (by decide +kernel))
/-! ### a drawn coprime slope -/
def sp_law_slope : Sp := fun vs H Q _ => ∃ (d : Addr) (n : Int), vs = [.ref d, .int n] ∧ Dice H d ∧ 2 ≤ n ∧ n ≤ 500 ∧ ∀ p (a b : Nat) H', 1 ≤ a → 1 ≤ b → (a : Int) + b ≤ n → Nat.gcd a b = 1 → Kp d H H' → H' p = some (.tup [.int a, .int b]) → Q (.ref p) H'
theorem ok_law_slope (T : Tx K mg) : FnOk P w K mg base CX0 2 T.a_law_slope T.d_law_slope ["_law_dice_here", "_law_total"] sp_law_slope := by
  refine T.F_law_slope.ok sc_law_slope (fun vs H Q E h => ?_) (fun cdv A outer s H vs Q E hr h => ?_)
  · obtain ⟨d, n, rfl, _⟩ := h; rfl
  · obtain ⟨d, n, rfl, hd, h0, hn, q⟩ := h
    refine ⟨_, (pss_cons (ps_set (i := 2) sc_law_slope.nd rfl (.inl rfl) (pe_op op_add pe_int (pe_call (ok_law_roll T) (hr.mono (by decide)) (by rfl) T.g_law_roll T.F_law_roll.kp T.b_law_roll .nil pass0 (pa_cons (pv 0) (pa_cons (pe_op op_sub (pv 1) pe_int) pa_nil)))))
      (pss_cons (ps_set (i := 3) sc_law_slope.nd rfl (.inl rfl) (pe_op op_add pe_int (pe_call (ok_law_roll T) (hr.mono (by decide)) (by rfl) T.g_law_roll T.F_law_roll.kp T.b_law_roll .nil pass0 (pa_cons (pv 0) (pa_cons (pe_op op_sub (pv 1) (pv 2)) pa_nil)))))
      (pss_cons (ps_par (i := 4) (j := 5) (by rfl) sc_law_slope.nd rfl rfl (by decide) rfl rfl (pa_cons (pv 2) (pa_cons (pv 3) pa_nil)) (by rfl))
      (pss_cons (ps_while PassesOwn.never (pt_cmpR op_gt (pv 5) pe_int (nomark _)) (pss_one (ps_par (i := 4) (j := 5) (by rfl) sc_law_slope.nd rfl rfl (by decide) rfl rfl (pa_cons (pv 5) (pa_cons (pe_op op_sub (pv 4) (pe_op Sx.op_mulA (pe_op op_fdivW (pv 4) (pv 5)) (pv 5))) pa_nil)) (by rfl))))
      (pss_one (ps_ret (pe_tup (pa_cons (pe_op op_fdivW (pv 2) (pv 4)) (pa_cons (pe_op op_fdivW (pv 3) (pv 4)) pa_nil))))))))), ?_⟩
    refine Sx.r_st (σ' := [some (.ref d), some (.int n), none, none, none, none]) rfl ?_
    walk_at "sx"
    refine ⟨d, n - 1, rfl, hd, by omega, log_small (by omega) (by omega), fun r H1 h1 h2 k1 => ?_⟩
    walk_at "sx"
    refine ⟨d, n - (1 + r), rfl, k1.d1, by omega, log_small (by omega) (by omega), fun r2 H2 h3 h4 k2 => ?_⟩
    obtain ⟨x, hx⟩ : ∃ x : Nat, 1 + r = x := ⟨(1 + r).toNat, by omega⟩
    obtain ⟨y, hy⟩ : ∃ y : Nat, 1 + r2 = y := ⟨(1 + r2).toNat, by omega⟩
    have k := k1.trans k2
    walk_at "sx"
    rw [hx, hy]
    refine r_while (fun m σ' H' => H' = H2 ∧ ∃ u v : Nat, σ' = [some (.ref d), some (.int n), some (.int x), some (.int y), some (.int u), some (.int v)] ∧ u ≤ 1000000 ∧ v ≤ 1000000 ∧ Nat.gcd u v = Nat.gcd x y ∧ v = m) y ⟨rfl, x, y, rfl, by omega, by omega, rfl, rfl⟩ ?_
    rintro m σ' H' ⟨rfl, u, v, rfl, hu, hv, hg, rfl⟩
    walk_at "sx"
    refine ite_d (fun h => ?_) (fun h => ?_)
    · refine ⟨fun σ2 H2 => H2 = H' ∧ σ2 = [some (.ref d), some (.int n), some (.int x), some (.int y), some (.int v), some (.int ((u % v : Nat) : Int))], ?_, ?_⟩
      · rintro σ2 H2 ⟨rfl, rfl⟩
        have hy0 : 0 < v := by omega
        have hm := Nat.mod_lt u hy0
        refine ⟨u % v, hm, rfl, v, u % v, rfl, hv, by omega, ?_, rfl⟩
        rw [← hg, Nat.gcd_comm u v, Nat.gcd_comm v (u % v), ← Nat.gcd_rec]
      · have hy0 : 0 < v := by omega
        have e : (u : Int) - (u : Int) / (v : Int) * (v : Int) = ((u % v : Nat) : Int) := by
          have h1 := Int.mul_ediv_add_emod (u : Int) (v : Int)
          rw [Int.natCast_emod, Int.mul_comm ((u : Int) / (v : Int))]; omega
        walk_at "sx"
        · rw [e]; exact ⟨rfl, rfl⟩
        · exact cmA_r (by omega)
        · exact cdivw (b := 64) (by omega) (by omega) (by decide)
    · have hy0 : v = 0 := by omega
      subst hy0
      rw [Nat.gcd_zero_right] at hg
      have g0 : 0 < u := by rw [hg]; exact Nat.gcd_pos_of_pos_left y (by omega)
      have d1 : u ∣ x := by rw [hg]; exact Nat.gcd_dvd_left x y
      have d2 : u ∣ y := by rw [hg]; exact Nat.gcd_dvd_right x y
      obtain ⟨a, rfl⟩ := d1
      obtain ⟨b, rfl⟩ := d2
      have e1 : ((u * a : Nat) : Int) / (u : Int) = a := by rw [Int.natCast_mul, Int.mul_ediv_cancel_left _ (by omega)]
      have e2 : ((u * b : Nat) : Int) / (u : Int) = b := by rw [Int.natCast_mul, Int.mul_ediv_cancel_left _ (by omega)]
      have a0 : 0 < a := by
        rcases Nat.eq_zero_or_pos a with z | z
        · subst z; omega
        · exact z
      have b0 : 0 < b := by
        rcases Nat.eq_zero_or_pos b with z | z
        · subst z; omega
        · exact z
      have gab : Nat.gcd a b = 1 := by
        rw [Nat.gcd_mul_left] at hg
        have : u * 1 = u * Nat.gcd a b := by omega
        exact (Nat.eq_of_mul_eq_mul_left g0 this).symm
      have la : a ≤ u * a := Nat.le_mul_of_pos_left a g0
      have lb : b ≤ u * b := Nat.le_mul_of_pos_left b g0
      walk_at "sx"
      · refine ⟨sz _ (Nat.le_of_ble_eq_true rfl), fun p hp => ?_⟩
        rw [e1, e2]
        exact q p a b _ a0 b0 (by omega) gab (k.new hp) upd_same
      all_goals first | exact cdivw (b := 64) (by omega) (by omega) (by decide) | omega
def sp_law_many : Sp := fun vs H Q _ => ∃ n : Nat, vs = [.int n] ∧ n ≤ 200 ∧ ∀ t H', Same H H' → H' t = some (.tup ((List.replicate n (1 : Int)).map V.int)) → Q (.ref t) H'
theorem ok_law_many (T : Tx K mg) : FnOk P w K mg base CX0 1 T.a_law_many T.d_law_many ["_law_number"] sp_law_many := by
  refine T.F_law_many.ok sc_law_many (fun vs H Q E h => ?_) (fun cdv A outer s H vs Q E hr h => ?_)
  · obtain ⟨n, rfl, _⟩ := h; rfl
  · obtain ⟨n, rfl, hn, q⟩ := h
    refine ⟨_, (pss_one (ps_ret (pe_callTy Sx.c_tupOf (by rfl) T.n_tuple Sx.bt_tuple (pa_cons (pe_lc (own := [("_law_at", 1)]) (g := (gName 1)) (tt := tYes) rfl sc_law_many.nd (pi_range1 (by rfl) T.n_range (pa_cons (pv 0) pa_nil)) (blkOk_by (N := N_law_many) (sc := defScope st_law_many) (by decide +kernel)) (fun _ _ _ _ _ => (pg_name (i := 1) sc_law_many.nd rfl (.inl rfl))) (fun _ _ _ _ _ => pts_nil) (fun _ _ _ _ _ => pe_int)) pa_nil)))), ?_⟩
    refine Sx.r_st (σ' := [some (.int n), none]) rfl ?_
    walk_at "sx"
    refine r_rng1 ?_ (by omega) (by omega)
    refine lw_range (fun D i H' => Same H H' ∧ H' D = some (.lst ((List.replicate i (1 : Int)).map V.int))) (fun D hD => ⟨same_new hD, upd_same⟩) ?_ ?_
    · rintro D hD i H1 hi ⟨s1, hd⟩
      walk_at "sx"
      refine ⟨rfl, ?_⟩
      walk_at "sx"
      refine ⟨_, hd, ?_, same_mut s1 hD, ?_⟩
      · rw [List.length_map, List.length_replicate, sizeLine_eq]; omega
      · rw [upd_same, List.replicate_succ', List.map_append]; rfl
    · rintro D hD H1 ⟨s1, hd⟩
      rw [Int.toNat_natCast] at hd
      walk_at "sx"
      refine r_tupOfL (SqL.of hd) (fun t ht => ?_)
      exact q t _ (fun c o e => same_new ht _ _ (s1 _ _ e)) upd_same
section
variable {σ : L2.St} {H : Hp} {Q : VK} {ta tb : TE}
theorem r_lr (h : ta σ H fun x H1 => tb σ H1 fun y H2 => ∃ i j, x = .int i ∧ y = .int j ∧ RgOk i j ∧ ∀ q, H2 q = none → Q (.ref q) (upd H2 q (.lst (rgV i j)))) : tLstRg (tRg2 ta tb) σ H Q := h
end
def nl (l : List Nat) : List V := l.map fun n : Nat => V.int n
theorem rgV_nl {lo m : Nat} {x y : Int} (hx : x = lo) (hy : y = lo + m) : rgV x y = nl (Pq.rg lo m) := by
  unfold rgV nl Pq.rg
  rw [List.map_map, show (y - x).toNat = m by omega]
  apply List.map_congr_left
  intro i _
  show V.int (x + i) = V.int ((lo + i : Nat) : Int)
  rw [hx, Int.natCast_add]
theorem nl_app (u v : List Nat) : nl (u ++ v) = nl u ++ nl v := List.map_append
theorem nl_len (u : List Nat) : (nl u).length = u.length := List.length_map _
theorem rg_len (lo m : Nat) : (Pq.rg lo m).length = m := by unfold Pq.rg; simp
theorem rg_mem {lo m k : Nat} (h : k ∈ Pq.rg lo m) : lo ≤ k ∧ k < lo + m := by
  obtain ⟨i, hi, rfl⟩ := List.mem_map.mp h
  have := List.mem_range.mp hi
  omega
theorem Ds_take {ns : List Nat} {i k : Nat} (h : ns[i]? = some k) (f : Nat → Int) : Pq.Ds (ns.take (i + 1)) f = Pq.D k (Pq.Ds (ns.take i) f) := by
  rw [List.take_add_one, h, Pq.Ds_app]; rfl
theorem Us_take {ns : List Nat} {i k : Nat} (h : ns[i]? = some k) (f : Nat → Int) : Pq.Us (ns.take (i + 1)) f = Pq.U k (Pq.Us (ns.take i) f) := by
  rw [List.take_add_one, h, Pq.Us_app]; rfl
/-- all but g stands -/
def But (g : Addr) (H H' : Hp) : Prop := ∀ c o, c ≠ g → H c = some o → H' c = some o
theorem But.put {g : Addr} {H H' : Hp} {o : HO} (h : But g H H') : But g H (upd H' g o) := fun c o' n e => by rw [upd_ne n]; exact h c o' n e
theorem But.refl {g : Addr} {H : Hp} : But g H H := fun _ _ _ e => e
theorem But.new {g p : Addr} {H H' : Hp} {o : HO} (h : But g H H') (hp : H' p = none) : But g H (upd H' p o) := fun c o' n e => same_new hp _ _ (h c o' n e)
theorem But.sqL {K : PySem.W.Frag} {g l : Addr} {H H' : Hp} {xs : List V} (h : But g H H') (n : l ≠ g) (e : H l = some (.lst xs)) : SqL K H' l xs := .of (h _ _ n e)
theorem But.same {g : Addr} {H H0 H' : Hp} (h : But g H H') (s : Same H0 H) (f : H0 g = none) : Same H0 H' := fun c o e => h c o (fun z => by rw [z, f] at e; cases e) (s c o e)
def sp_law_quotient : Sp := fun vs H Q _ => ∃ a b : Nat, vs = [.int a, .int b] ∧ 1 ≤ a ∧ a ≤ 60 ∧ 1 ≤ b ∧ b ≤ 60 ∧ qz a b ≤ 400 ∧ ∀ t H', Same H H' → H' t = some (.tup ((qf a b).map V.int)) → Q (.ref t) H'
theorem ok_law_quotient (T : Tx K mg) : FnOk P w K mg base CX0 1 T.a_law_quotient T.d_law_quotient ["_law_rises", "_law_steps"] sp_law_quotient := by
  refine T.F_law_quotient.ok sc_law_quotient (fun vs H Q E h => ?_) (fun cdv A outer s H vs Q E hr h => ?_)
  · obtain ⟨a, b, rfl, _⟩ := h; rfl
  · obtain ⟨a, b, rfl, a1, a2, b1, b2, hq, q⟩ := h
    refine ⟨_, (pss_cons (ps_set (i := 2) sc_law_quotient.nd rfl (.inl rfl) (pe_op op_add (pe_op Sx.op_mulA (pe_op op_sub (pv 0) pe_int) (pe_op op_sub (pv 1) pe_int)) pe_int))
      (pss_cons (ps_set (i := 4) sc_law_quotient.nd rfl (.inr rfl) (pe_op op_cat (pe_lst (pa_cons pe_int pa_nil)) (pe_lc (own := [("_law_at", 3)]) (g := (gName 3)) (tt := tYes) rfl sc_law_quotient.nd (pi_range1 (by rfl) T.n_range (pa_cons (pe_op op_sub (pv 2) pe_int) pa_nil)) (blkOk_by (N := N_law_quotient) (sc := defScope st_law_quotient) (by decide +kernel)) (fun _ _ _ _ _ => (pg_name (i := 3) sc_law_quotient.nd rfl (.inl rfl))) (fun _ _ _ _ _ => pts_nil) (fun _ _ _ _ _ => pe_int))))
      (pss_cons (ps_for PassesOwn.never rfl (pi_list (pe_op op_cat (pe_lst (pa_cons pe_int pa_nil)) (pe_listRg rfl (by rfl) T.n_list (prg_2 (by rfl) T.n_range pe_int (pe_op op_add (pv 0) (pv 1)))))) (pg_name (i := 5) sc_law_quotient.nd rfl (.inl rfl)) (pss_one (ps_for PassesOwn.never rfl (pi_range3 (by rfl) T.n_range (pa_cons (pe_op op_sub (pv 2) pe_int) (pa_cons (pe_op op_sub (pv 5) pe_int) (pa_cons (pe_un un_neg pe_int) pa_nil)))) (pg_name (i := 3) sc_law_quotient.nd rfl (.inl rfl)) (pss_one (ps_asg (pe_op op_sub (pe_ix ix_list (pv 4) (pv 3) (fun _ _ => rfl)) (pe_ix ix_list (pv 4) (pe_op op_sub (pv 3) (pv 5)) (fun _ _ => rfl))) (pg_sub (pv 4) (pv 3) set_list))))))
      (pss_cons (ps_for PassesOwn.never rfl (pi_list (pe_op op_cat (pe_listRg rfl (by rfl) T.n_list (prg_2 (by rfl) T.n_range pe_int (pe_op op_add (pv 0) pe_int))) (pe_listRg rfl (by rfl) T.n_list (prg_2 (by rfl) T.n_range pe_int (pe_op op_add (pv 1) pe_int))))) (pg_name (i := 5) sc_law_quotient.nd rfl (.inl rfl)) (pss_one (ps_for PassesOwn.never rfl (pi_range2 (by rfl) T.n_range (pa_cons (pv 5) (pa_cons (pv 2) pa_nil))) (pg_name (i := 3) sc_law_quotient.nd rfl (.inl rfl)) (pss_one (ps_asg (pe_op op_add (pe_ix ix_list (pv 4) (pv 3) (fun _ _ => rfl)) (pe_ix ix_list (pv 4) (pe_op op_sub (pv 3) (pv 5)) (fun _ _ => rfl))) (pg_sub (pv 4) (pv 3) set_list))))))
      (pss_one (ps_ret (pe_callTy Sx.c_tupOf (by rfl) T.n_tuple Sx.bt_tuple (pa_cons (pe_lc (own := [("_law_at", 3)]) (g := (gName 3)) (tt := tYes) rfl sc_law_quotient.nd (pi_range1 (by rfl) T.n_range (pa_cons (pv 2) pa_nil)) (blkOk_by (N := N_law_quotient) (sc := defScope st_law_quotient) (by decide +kernel)) (fun _ _ _ _ _ => (pg_name (i := 3) sc_law_quotient.nd rfl (.inl rfl))) (fun _ _ _ _ _ => pts_nil) (fun _ _ _ _ _ => (pe_ix (show IxR _ (rIxL K) from ix_list) (pv 4) (pv 3) (fun _ _ => rfl)))) pa_nil)))))))), ?_⟩
    refine Sx.r_st (σ' := [some (.int a), some (.int b), none, none, none, none]) rfl ?_
    walk_at "sx"
    rotate_left
    · exact cmA_r (by omega)
    rw [show ((a : Int) - 1) * ((b : Int) - 1) + 1 = ((qz a b : Nat) : Int) by unfold qz; rw [Int.natCast_add, Int.natCast_mul, Int.natCast_sub a1, Int.natCast_sub b1]; rfl]
    obtain ⟨sz, hsz⟩ : ∃ sz, qz a b = sz + 1 := ⟨(a - 1) * (b - 1), rfl⟩
    rw [hsz]
    refine ⟨by decide, fun g1 hg1 => ?_⟩
    have k1 : (upd H g1 (.lst [.int 1])) g1 = some (.lst [.int 1]) := upd_same
    have s1 : Same H (upd H g1 (.lst [.int 1])) := same_new hg1
    generalize upd H g1 (.lst [.int 1]) = H1 at k1 s1 ⊢
    walk_at "sx"
    refine r_rng1 ?_ (by omega) (by omega)
    rw [show (((sz + 1 : Nat) : Int) - 1).toNat = sz by omega]
    refine lw_range (fun D i H' => Same H1 H' ∧ H' D = some (.lst (List.replicate i (V.int 0)))) (fun D hD => ⟨same_new hD, upd_same⟩) ?_ ?_
    · rintro D hD i H2 hi ⟨s2, hd⟩
      walk_at "sx"
      refine ⟨rfl, ?_⟩
      walk_at "sx"
      refine ⟨_, hd, ?_, same_mut s2 hD, ?_⟩
      · rw [List.length_replicate, sizeLine_eq]; omega
      · rw [upd_same, List.replicate_succ']
    rintro g2 hg2 H2 ⟨s2, k2⟩
    refine ⟨g1, g2, _, _, rfl, rfl, s2 _ _ k1, k2, ?_, fun g hgn => ?_⟩
    · rw [List.length_replicate, sizeLine_eq]; show 1 + sz ≤ _; omega
    have s5 : Same H (upd H2 g (.lst ([V.int 1] ++ List.replicate sz (V.int 0)))) := fun c o e => same_new hgn _ _ (s2 _ _ (s1 _ _ e))
    have g5 : (upd H2 g (.lst ([V.int 1] ++ List.replicate sz (V.int 0)))) g = some (.lst (Lp.tb (sz + 1) Pq.dl)) := by rw [upd_same, Lp.tb_dl]
    have fresh : H g = none := by
      cases e : H g with
      | none => rfl
      | some o => rw [s2 _ _ (s1 _ _ e)] at hgn; cases hgn
    generalize upd H2 g (.lst ([V.int 1] ++ List.replicate sz (V.int 0))) = H5 at s5 g5 ⊢
    obtain ⟨n, hn⟩ : ∃ n, sz + 1 = n := ⟨_, rfl⟩
    rw [hn] at g5 ⊢
    have hn4 : n ≤ 400 := by omega
    walk_at "sx"
    refine ⟨by decide, fun l1 hl1 => ?_⟩
    refine r_lr ?_
    walk_at "sx"
    refine ⟨_, _, rfl, rfl, RgOk.of_le (by omega) (by omega) (by omega) (by omega), fun l2 hl2 => ?_⟩
    rw [rgV_nl (lo := 1) (m := a + b - 1) (x := 1) (y := (a : Int) + b) rfl (by omega)]
    have n12 : l1 ≠ l2 := by rintro rfl; rw [upd_same] at hl2; cases hl2
    refine ⟨l1, l2, _, _, rfl, rfl, by rw [upd_ne n12]; exact upd_same, upd_same, ?_, fun l hl => ?_⟩
    · rw [nl_len, rg_len, sizeLine_eq]; show 1 + _ ≤ _; omega
    have b6 : Same H5 (upd (upd (upd H5 l1 (.lst [.int 1])) l2 (.lst (nl (Pq.rg 1 (a + b - 1))))) l (.lst ([V.int 1] ++ nl (Pq.rg 1 (a + b - 1))))) := fun c o e => same_new hl _ _ (same_new hl2 _ _ (same_new hl1 _ _ e))
    have l6 : (upd (upd (upd H5 l1 (.lst [.int 1])) l2 (.lst (nl (Pq.rg 1 (a + b - 1))))) l (.lst ([V.int 1] ++ nl (Pq.rg 1 (a + b - 1))))) l = some (.lst (nl (1 :: Pq.rg 1 (a + b - 1)))) := upd_same
    have lg : l ≠ g := by
      rintro rfl
      rw [same_new hl2 _ _ (same_new hl1 _ _ g5)] at hl; cases hl
    generalize upd (upd (upd H5 l1 (.lst [.int 1])) l2 (.lst (nl (Pq.rg 1 (a + b - 1))))) l (.lst ([V.int 1] ++ nl (Pq.rg 1 (a + b - 1)))) = H6 at b6 l6 ⊢
    have s6 : Same H H6 := fun c o e => b6 _ _ (s5 _ _ e)
    have g6 := b6 _ _ g5
    obtain ⟨ns, hns⟩ : ∃ ns, 1 :: Pq.rg 1 (a + b - 1) = ns := ⟨_, rfl⟩
    have hpos : ∀ k, k ∈ ns → 0 < k ∧ k ≤ 200 := by
      intro k hk
      rw [← hns] at hk
      rcases List.mem_cons.mp hk with rfl | hk
      · omega
      · have := rg_mem hk; omega
    rw [hns] at l6
    refine r_seqL (.of l6) ?_
    refine fr_list (xs := nl ns) (fun i σ' H' => (∃ y3 y5, σ' = [some (.int a), some (.int b), some (.int (n : Nat)), y3, some (.ref g), y5]) ∧ But g H6 H' ∧ H' g = some (.lst (Lp.tb n (Pq.Ds (ns.take i) Pq.dl)))) ⟨⟨_, _, rfl⟩, .refl, g6⟩ (fun i σ' H' _ z => z.2.1.sqL lg l6) ?_ ?_
    · rintro i x σ' H7 hx ⟨⟨y3, y5, rfl⟩, s7, g7⟩
      unfold nl at hx
      rw [List.getElem?_map] at hx
      obtain ⟨k, hk, rfl⟩ := Option.map_eq_some_iff.mp hx
      obtain ⟨k0, k9⟩ := hpos k (List.mem_of_getElem? hk)
      rw [Ds_take hk]
      obtain ⟨f, hf⟩ : ∃ f, Pq.Ds (ns.take i) Pq.dl = f := ⟨_, rfl⟩
      rw [hf] at g7 ⊢
      walk_at "sx"
      refine Lp.r_for3 ?_
      walk_at "sx"
      refine Lp.r_rng3 _ (RgC.neg (by omega) (by omega) (by omega) (by omega)) ?_
      rw [show ((n : Int) - 1 - ((k : Int) - 1)).toNat = n - k by omega]
      refine Lp.fr_down (fun j σ' H' => (∃ y3, σ' = [some (.int a), some (.int b), some (.int (n : Nat)), y3, some (.ref g), some (.int (k : Nat))]) ∧ But g H6 H' ∧ H' g = some (.lst (Lp.tb n (Lp.dnF n k j f)))) ⟨⟨_, rfl⟩, s7, by rw [Lp.dnF_0]; exact g7⟩ ?_ ?_
      · rintro j σ' H8 hj ⟨⟨y6, rfl⟩, s8, g8⟩
        rw [show ((n : Int) - 1 + (j : Int) * -1) = ((n - 1 - j : Nat) : Int) by omega]
        walk_at "sx"
        refine r_ixL g8 (Lp.tb_at (by omega)) ?_
        walk_at "sx"
        rw [show (((n - 1 - j : Nat) : Int) - (k : Int)) = ((n - 1 - j - k : Nat) : Int) by omega]
        refine r_ixL g8 (Lp.tb_at (by omega)) ?_
        walk_at "sx"
        refine r_setL g8 (Lp.tb_ix _ (by omega)) ?_
        rw [Lp.dnF_step hj k0]
        walk_at "sx"
        exact ⟨⟨_, rfl⟩, s8.put, upd_same⟩
      · rintro σ' H8 ⟨⟨y6, rfl⟩, s8, g8⟩
        rw [Lp.dnF_end rfl] at g8
        exact ⟨⟨_, _, rfl⟩, s8, g8⟩
    rintro σ' H7 ⟨⟨y3, y5, rfl⟩, s7, g7⟩
    rw [nl_len, List.take_length] at g7
    have f7 : Same H H7 := s7.same s6 fresh
    walk_at "sx"
    refine r_lr ?_
    walk_at "sx"
    refine ⟨_, _, rfl, rfl, RgOk.of_le (by omega) (by omega) (by omega) (by omega), fun m1 hm1 => ?_⟩
    rw [rgV_nl (lo := 1) (m := a) (x := 1) (y := (a : Int) + 1) rfl (by omega)]
    refine r_lr ?_
    walk_at "sx"
    refine ⟨_, _, rfl, rfl, RgOk.of_le (by omega) (by omega) (by omega) (by omega), fun m2 hm2 => ?_⟩
    rw [rgV_nl (lo := 1) (m := b) (x := 1) (y := (b : Int) + 1) rfl (by omega)]
    have mn : m1 ≠ m2 := by rintro rfl; rw [upd_same] at hm2; cases hm2
    refine ⟨m1, m2, _, _, rfl, rfl, by rw [upd_ne mn]; exact upd_same, upd_same, ?_, fun m hm => ?_⟩
    · rw [nl_len, rg_len, nl_len, rg_len, sizeLine_eq]; omega
    rw [← nl_app]
    have b8 : Same H7 (upd (upd (upd H7 m1 (.lst (nl (Pq.rg 1 a)))) m2 (.lst (nl (Pq.rg 1 b)))) m (.lst (nl (Pq.rg 1 a ++ Pq.rg 1 b)))) := fun c o e => same_new hm _ _ (same_new hm2 _ _ (same_new hm1 _ _ e))
    have m8 : (upd (upd (upd H7 m1 (.lst (nl (Pq.rg 1 a)))) m2 (.lst (nl (Pq.rg 1 b)))) m (.lst (nl (Pq.rg 1 a ++ Pq.rg 1 b)))) m = some (.lst (nl (Pq.rg 1 a ++ Pq.rg 1 b))) := upd_same
    have mg' : m ≠ g := by
      rintro rfl
      rw [same_new hm2 _ _ (same_new hm1 _ _ g7)] at hm; cases hm
    generalize upd (upd (upd H7 m1 (.lst (nl (Pq.rg 1 a)))) m2 (.lst (nl (Pq.rg 1 b)))) m (.lst (nl (Pq.rg 1 a ++ Pq.rg 1 b))) = H8 at b8 m8 ⊢
    have f8 : Same H H8 := fun c o e => b8 _ _ (f7 _ _ e)
    have g8 := b8 _ _ g7
    obtain ⟨f0, hf0⟩ : ∃ f, Pq.Ds ns Pq.dl = f := ⟨_, rfl⟩
    rw [hf0] at g8
    obtain ⟨ks, hks⟩ : ∃ ks, Pq.rg 1 a ++ Pq.rg 1 b = ks := ⟨_, rfl⟩
    have kpos : ∀ k, k ∈ ks → 0 < k ∧ k ≤ 200 := by
      intro k hk
      rw [← hks] at hk
      rcases List.mem_append.mp hk with hk | hk <;> (have := rg_mem hk; omega)
    rw [hks] at m8
    walk_at "sx"
    refine r_seqL (.of m8) ?_
    refine fr_list (xs := nl ks) (fun i σ' H' => (∃ y3 y5, σ' = [some (.int a), some (.int b), some (.int (n : Nat)), y3, some (.ref g), y5]) ∧ But g H8 H' ∧ H' g = some (.lst (Lp.tb n (Pq.Us (ks.take i) f0)))) ⟨⟨_, _, rfl⟩, .refl, g8⟩ (fun i σ' H' _ z => z.2.1.sqL mg' m8) ?_ ?_
    · rintro i x σ' H9 hx ⟨⟨y3, y5, rfl⟩, s9, g9⟩
      unfold nl at hx
      rw [List.getElem?_map] at hx
      obtain ⟨k, hk, rfl⟩ := Option.map_eq_some_iff.mp hx
      obtain ⟨k0, k9⟩ := kpos k (List.mem_of_getElem? hk)
      rw [Us_take hk]
      obtain ⟨f, hf⟩ : ∃ f, Pq.Us (ks.take i) f0 = f := ⟨_, rfl⟩
      rw [hf] at g9 ⊢
      walk_at "sx"
      refine r_rng2 ?_ ⟨by omega, by omega, by omega, by omega⟩
      refine fr_range (fun j σ' H' => (∃ y3, σ' = [some (.int a), some (.int b), some (.int (n : Nat)), y3, some (.ref g), some (.int (k : Nat))]) ∧ But g H8 H' ∧ H' g = some (.lst (Lp.tb n (Lp.upF k j f)))) ⟨⟨_, rfl⟩, s9, by rw [Lp.upF_0]; exact g9⟩ ?_ ?_
      · rintro j σ' H10 hj ⟨⟨y6, rfl⟩, s10, g10⟩
        have hj' : k + j < n := by omega
        rw [show ((k : Int) + (j : Int)) = ((k + j : Nat) : Int) by omega]
        walk_at "sx"
        refine r_ixL g10 (Lp.tb_at hj') ?_
        walk_at "sx"
        rw [show (((k + j : Nat) : Int) - (k : Int)) = ((k + j - k : Nat) : Int) by omega]
        refine r_ixL g10 (Lp.tb_at (by omega)) ?_
        walk_at "sx"
        refine r_setL g10 (Lp.tb_ix _ hj') ?_
        rw [Lp.upF_step k0]
        walk_at "sx"
        exact ⟨⟨_, rfl⟩, s10.put, upd_same⟩
      · rintro σ' H10 ⟨⟨y6, rfl⟩, s10, g10⟩
        rw [Lp.upF_end (by omega)] at g10
        exact ⟨⟨_, _, rfl⟩, s10, g10⟩
    rintro σ' H9 ⟨⟨y3, y5, rfl⟩, s9, g9⟩
    rw [nl_len, List.take_length] at g9
    have f9 : Same H H9 := s9.same f8 fresh
    obtain ⟨f, hf⟩ : ∃ f, Pq.Us ks f0 = f := ⟨_, rfl⟩
    rw [hf] at g9
    walk_at "sx"
    refine r_rng1 ?_ (by omega) (by omega)
    rw [Int.toNat_natCast]
    refine lw_range (fun D i H' => Same H9 H' ∧ H' D = some (.lst (Lp.tb i f))) (fun D hD => ⟨same_new hD, upd_same⟩) ?_ ?_
    · rintro D hD i H10 hi ⟨s10, hd⟩
      rw [show ((0 : Int) + (i : Int)) = ((i : Nat) : Int) by omega]
      walk_at "sx"
      refine ⟨rfl, ?_⟩
      walk_at "sx"
      refine r_ixL (s10 _ _ g9) (Lp.tb_at hi) ?_
      refine ⟨_, hd, ?_, same_mut s10 hD, ?_⟩
      · rw [Lp.tb_len, sizeLine_eq]; omega
      · rw [upd_same]; unfold Lp.tb Pq.tab; rw [List.range_succ, List.map_append, List.map_append]; rfl
    · rintro D hD H10 ⟨s10, hd⟩
      walk_at "sx"
      refine r_tupOfL (SqL.of hd) (fun t ht => ?_)
      refine q t _ (fun c o e => same_new ht _ _ (s10 _ _ (f9 _ _ e))) ?_
      rw [upd_same]
      unfold qf Lp.tb
      rw [← Pq.law_is (by omega) (by omega), hks, hns, hf0, hf, hsz, hn]
end
end Lw

namespace Lw
open PySem PySem.Spec PyProof.Rows L2 Sx Sy Sw Mw Me
open En (NoNum)
open Ln (KpN)
open LamX (Tabs TabB ExtN)
open SX (S)
open C8 (pe_gc)
open SkE (call_repr_int call_str_str)
open RZ (pi_zipA)
section
variable {P : Program} {w : World} {K : PySem.W.Frag} {mg : Str → Option Value} {base : Heap}
/-! ### way_count -/
def sp_way_count (C : Addr) : Sp := fun vs H Q _ => ∃ v, ∃ a b : Nat, vs = [v] ∧ SlopeAt C H v a b ∧ ∀ H', Same H H' → Q (.int ((M3.wc a b : Nat) : Int)) H'
theorem natsAt {l : List Nat} {i : Nat} (h : i < l.length) : (l.map fun x : Nat => V.int x)[i]? = some (V.int (l.getD i 0 : Nat)) := by
  rw [List.getElem?_map, List.getD_eq_getElem?_getD, List.getElem?_eq_getElem h]; rfl
theorem bz_bnd {a b i j : Nat} (h1 : 1 ≤ a) (h2 : a ≤ 60) (h3 : 1 ≤ b) (h4 : b ≤ 60) (hi : i ≤ Nat.gcd a b) (hj : j ≤ i) : (M3.bzC (a / Nat.gcd a b) (a / Nat.gcd a b + b / Nat.gcd a b) i).getD j 0 < 2 ^ 400 := by
  have h := M3.okT_all a b h1 h2 h3 h4
  unfold M3.okT at h
  rw [Bool.and_eq_true] at h
  have h5 := List.all_eq_true.mp h.2
  rw [M3.bzC_get _ _ i j hj, ← M3.bzC_get _ _ (Nat.gcd a b) j (by omega)]
  have hl := M3.bzC_len (a / Nat.gcd a b) (a / Nat.gcd a b + b / Nat.gcd a b) (Nat.gcd a b)
  have hm : (M3.bzC (a / Nat.gcd a b) (a / Nat.gcd a b + b / Nat.gcd a b) (Nat.gcd a b)).getD j 0 ∈ M3.bzC (a / Nat.gcd a b) (a / Nat.gcd a b + b / Nat.gcd a b) (Nat.gcd a b) := by
    rw [List.getD_eq_getElem?_getD, List.getElem?_eq_getElem (by omega)]; exact List.getElem_mem _
  have := h5 _ hm
  rw [Nat.blt_eq] at this
  exact this
theorem ok_way_count (T : Tx K mg) : FnOk P w K mg base CX0 3 T.a_way_count T.d_way_count ["slope"] (sp_way_count T.C_Slope) := by
  refine T.F_way_count.ok sc_way_count (fun vs H Q E h => ?_) (fun cdv A outer s H vs Q E hr h => ?_)
  · obtain ⟨v, a, b, rfl, _⟩ := h; rfl
  · obtain ⟨v, a, b, rfl, hS, q⟩ := h
    obtain ⟨a1, a2, b1, b2⟩ : 1 ≤ a ∧ a ≤ 60 ∧ 1 ≤ b ∧ b ≤ 60 := by have := hS.1; omega
    have g0 : 0 < Nat.gcd a b := Nat.gcd_pos_of_pos_left b a1
    have g1 : Nat.gcd a b ≤ a := Nat.gcd_le_left b a1
    refine ⟨_, (pss_cons (ps_expr (pe_call (ok_check_slope T) (hr.mono (by decide)) (by rfl) T.g_check_slope T.F_check_slope.kp T.b_check_slope .nil pass0 (pa_cons (pv 0) pa_nil)))
      (pss_cons (ps_set (i := 1) sc_way_count.nd rfl (.inl rfl) (pe_op op_fdivW (pe_prop (pv 0) T.cl_Slope T.pr_Slope_rises (ok_Slope_rises T) (hr.mono (by decide)) T.b_Slope_rises .nil pass0 rfl) (pe_prop (pv 0) T.cl_Slope T.pr_Slope_common (ok_Slope_common T) (hr.mono (by decide)) T.b_Slope_common .nil pass0 rfl)))
      (pss_cons (ps_set (i := 2) sc_way_count.nd rfl (.inl rfl) (pe_op op_add (pv 1) (pe_op op_fdivW (pe_prop (pv 0) T.cl_Slope T.pr_Slope_steps (ok_Slope_steps T) (hr.mono (by decide)) T.b_Slope_steps .nil pass0 rfl) (pe_prop (pv 0) T.cl_Slope T.pr_Slope_common (ok_Slope_common T) (hr.mono (by decide)) T.b_Slope_common .nil pass0 rfl))))
      (pss_cons (ps_set (i := 3) sc_way_count.nd rfl (.inl rfl) (pe_lst (pa_cons pe_int pa_nil)))
      (pss_cons (ps_for PassesOwn.never rfl (pi_range2 (by rfl) T.n_range (pa_cons pe_int (pa_cons (pe_op op_add (pe_prop (pv 0) T.cl_Slope T.pr_Slope_common (ok_Slope_common T) (hr.mono (by decide)) T.b_Slope_common .nil pass0 rfl) pe_int) pa_nil))) (pg_name (i := 4) sc_way_count.nd rfl (.inl rfl)) (pss_cons (ps_set (i := 5) sc_way_count.nd rfl (.inl rfl) pe_int)
      (pss_cons (ps_for PassesOwn.never rfl (pi_range2 (by rfl) T.n_range (pa_cons pe_int (pa_cons (pe_op op_add (pv 4) pe_int) pa_nil))) (pg_name (i := 6) sc_way_count.nd rfl (.inl rfl)) (pss_one (ps_set (i := 5) sc_way_count.nd rfl (.inl rfl) (pe_op op_add (pv 5) (pe_op Sx.op_mulA (pe_ix ix_list (pv 3) (pe_op op_sub (pv 4) (pv 6)) (fun _ _ => rfl)) (pe_op op_fdivW (pe_callBfun Sx.cr_comb (by rfl) T.i_comb (pa_cons (pe_op Sx.op_mulA (pv 6) (pv 2)) (pa_cons (pe_op Sx.op_mulA (pv 6) (pv 1)) pa_nil))) (pv 2)))))))
      (pss_one (ps_expr (pe_bm PySem.F.plainAttrs_list PySem.F.slot_list_append PySem.F.type_list_append mt_append (pv 3) (pa_cons (pe_op op_fdivW (pv 5) (pv 4)) pa_nil)))))))
      (pss_one (ps_ret (pe_ix ix_list (pv 3) (pe_prop (pv 0) T.cl_Slope T.pr_Slope_common (ok_Slope_common T) (hr.mono (by decide)) T.b_Slope_common .nil pass0 rfl) (fun _ _ => rfl))))))))), ?_⟩
    refine Sx.r_st (σ' := [some (v), none, none, none, none, none, none]) rfl ?_
    walk_at "sx"
    refine ⟨v, a, b, rfl, hS, ?_⟩
    walk_at "sx"
    refine rd_r hS ?_
    walk_at "sx"
    refine rd_c hS ?_
    walk_at "sx"
    · refine rd_s hS ?_
      walk_at "sx"
      refine rd_c hS ?_
      walk_at "sx"
      · refine ⟨by decide, fun c hc => ?_⟩
        walk_at "sx"
        refine rd_c (hS.mono (same_new hc)) ?_
        walk_at "sx"
        simp only [Int.natAbs_natCast, ← Int.natCast_ediv, ← Int.natCast_add]
        generalize hg : Nat.gcd a b = g at *
        generalize hr' : a / g = r at *
        generalize hL : r + b / g = L at *
        have r0 : 0 < r := by rw [← hr']; exact Nat.div_pos g1 g0
        have rb : r ≤ 60 := by rw [← hr']; exact Nat.le_trans (Nat.div_le_self a g) a2
        have L0 : r ≤ L := by rw [← hL]; exact Nat.le_add_right _ _
        have Lb : L ≤ 120 := by have := Nat.div_le_self b g; omega
        have bnd : ∀ i j, i ≤ g → j ≤ i → (M3.bzC r L i).getD j 0 < 2 ^ 400 := by
          intro i j hi hj
          have := bz_bnd (i := i) (j := j) a1 a2 b1 b2 (by rw [hg]; exact hi) hj
          rw [hg, hr', hL] at this; exact this
        refine r_rng2 ?_ ⟨by omega, by omega, by omega, by omega⟩
        refine fr_range (fun i σ' H' => Same H H' ∧ (∃ y4 y5 y6, σ' = [some v, some (.int r), some (.int L), some (.ref c), y4, y5, y6]) ∧ H' c = some (.lst ((M3.bzC r L i).map fun x : Nat => V.int x))) ⟨same_new hc, ⟨none, none, none, rfl⟩, upd_same⟩ ?_ ?_
        · rintro i σ' H1 hi ⟨sm, ⟨y4, y5, y6, rfl⟩, hcc⟩
          have hi' : i < g := by omega
          have hlen := M3.bzC_len r L i
          walk_at "sx"
          refine r_rng2 ?_ ⟨by omega, by omega, by omega, by omega⟩
          refine fr_range (fun k σ' H' => H' = H1 ∧ ∃ y6, σ' = [some v, some (.int r), some (.int L), some (.ref c), some (.int (1 + i)), some (.int ((M3.bzTot r L (M3.bzC r L i) (i + 1) k : Nat) : Int)), y6]) ⟨rfl, y6, rfl⟩ ?_ ?_
          · rintro k σ' H2 hk ⟨rfl, y6, rfl⟩
            have hk' : k ≤ i := by omega
            have e1 : (1 + (k : Int)) * (L : Int) = (((k + 1) * L : Nat) : Int) := by push_cast; rw [Int.add_comm]
            have e2 : (1 + (k : Int)) * (r : Int) = (((k + 1) * r : Nat) : Int) := by push_cast; rw [Int.add_comm]
            have kl : (k + 1) * L ≤ 60 * 120 := Nat.mul_le_mul (by omega) Lb
            have kr : (k + 1) * r ≤ (k + 1) * L := Nat.mul_le_mul_left _ L0
            walk_at "sx"
            refine r_ixL hcc (v := .int ((M3.bzC r L i).getD (i - k) 0 : Nat)) ?_ ?_
            · rw [show (1 : Int) + (i : Int) - (1 + (k : Int)) = ((i - k : Nat) : Int) by omega]
              exact atI_nat (natsAt (by omega))
            walk_at "sx"
            · refine r_comb ?_ ?_ ?_ ?_
              · rw [e1, e2, M3.mc_ch _ _ kr]
                walk_at "sx"
                · refine ⟨rfl, some (.int (1 + k)), ?_⟩
                  rw [← Int.natCast_ediv, ← Int.natCast_mul, ← Int.natCast_add]
                  show _ = [some v, some (.int r), some (.int L), some (.ref c), some (.int (1 + i)), some (.int ((M3.bzTot r L (M3.bzC r L i) (i + 1) k + (M3.bzC r L i).getD (i + 1 - (k + 1)) 0 * (M3.chl ((k + 1) * L) ((k + 1) * r) / L) : Nat) : Int)), some (.int (1 + k))]
                  rw [show i + 1 - (k + 1) = i - k by omega]; rfl
                · refine cmA_w (cmulw (a := 400) (b := 8000) ?_ ?_ (by decide))
                  · rw [Int.natAbs_natCast]; exact bnd i (i - k) (by omega) (by omega)
                  · rw [← Int.natCast_ediv, Int.natAbs_natCast]
                    refine Nat.lt_of_le_of_lt (Nat.div_le_self _ _) ?_
                    rw [M3.chl_eq]
                    exact Nat.lt_of_le_of_lt (M3.ch_le _ _) (Nat.pow_lt_pow_right (by decide) (by omega))
                · exact cdivw (b := 64) (by omega) (by omega) (by decide)
              · omega
              · omega
              · omega
            · exact cmA_l (by omega)
            · exact cmA_l (by omega)
          · rintro σ' H2 ⟨rfl, y6, rfl⟩
            walk_at "sx"
            refine ⟨tyL hcc, ?_⟩
            walk_at "sx"
            · refine r_app hcc ?_ ?_
              · refine ⟨same_mut sm hc, ⟨_, _, _, rfl⟩, ?_⟩
                rw [upd_same]
                have e3 : ((1 + (i : Int) + 1 - 1).toNat) = i + 1 := by omega
                rw [e3, show (1 : Int) + i = ((i + 1 : Nat) : Int) by omega, ← Int.natCast_ediv]
                show _ = some (HO.lst ((M3.bzC r L i ++ [M3.bzTot r L (M3.bzC r L i) (i + 1) (i + 1) / (i + 1)]).map fun x : Nat => V.int x))
                rw [List.map_append]; rfl
              · rw [List.length_map, hlen]; exact sz' _ (by omega)
            · exact cdivw (b := 64) (by omega) (by omega) (by decide)
        · rintro σ' H1 ⟨sm, ⟨y4, y5, y6, rfl⟩, hcc⟩
          have e3 : (((g : Int) + 1 - 1).toNat) = g := by omega
          rw [e3] at hcc
          walk_at "sx"
          refine rd_c (hS.mono sm) ?_
          refine r_ixL hcc (v := .int ((M3.bzC r L g).getD g 0 : Nat)) ?_ ?_
          · rw [Int.natAbs_natCast, Int.natAbs_natCast, hg]
            exact atI_nat (natsAt (by rw [M3.bzC_len]; omega))
          have e4 : M3.wc a b = (M3.bzC r L g).getD g 0 := by unfold M3.wc; rw [hg, hr', hL]
          rw [← e4]
          exact q _ sm
      · rw [Int.natAbs_natCast, Int.natAbs_natCast]
        exact cdivw (b := 64) (by omega) (by rw [Int.natAbs_natCast]; omega) (by decide)
    · rw [Int.natAbs_natCast, Int.natAbs_natCast]
      exact cdivw (b := 64) (by omega) (by rw [Int.natAbs_natCast]; omega) (by decide)
theorem short_ints {ns : List Int} (h : ∀ x, x ∈ ns → 0 ≤ x ∧ x < 18446744073709551616) (hl : ns.length ≤ 400) : Rp.Short (.tuple (ns.map PyData.int)) := by
  have one : ∀ x, x ∈ ns → x.natAbs < 2 ^ 64 := fun x hx => by have := h x hx; omega
  refine ⟨?_, ?_, ?_, ?_⟩
  · show PyData.showableAll (ns.map PyData.int) = true
    clear hl h
    induction ns with
    | nil => rfl
    | cons x t ih =>
      rw [List.map_cons, PyData.showableAll, Bool.and_eq_true]
      refine ⟨decide_eq_true ?_, ih fun y hy => one y (List.mem_cons_of_mem _ hy)⟩
      exact PySem.Flt.log2_lt_of (by decide) (Nat.lt_of_lt_of_le (one x List.mem_cons_self) (Nat.pow_le_pow_right (by decide) (by decide)))
  · show PyData.hasDictAll (ns.map PyData.int) = false
    clear hl h one
    induction ns with
    | nil => rfl
    | cons x t ih => rw [List.map_cons, PyData.hasDictAll, ih]; rfl
  · have := deep_ints ns
    show PyData.depthAll (ns.map PyData.int) + 1 ≤ 60
    omega
  · have e := PySem.tupleText_len_le (PyData.shownAll (ns.map PyData.int))
    have k : ((PyData.shownAll (ns.map PyData.int)).map (·.length)).sum ≤ 100 * ns.length ∧ (PyData.shownAll (ns.map PyData.int)).length = ns.length := by
      clear hl h e
      induction ns with
      | nil => exact ⟨Nat.le_refl _, rfl⟩
      | cons x t ih =>
        obtain ⟨i1, i2⟩ := ih fun y hy => one y (List.mem_cons_of_mem _ hy)
        have e := PySem.int_text_length_le (k := 64) (by decide) (PySem.Flt.log2_lt_of (by decide) (one x List.mem_cons_self))
        have e1 : (PyData.shown (.int x)).length ≤ 100 := by
          show (Str.ofString (toString x)).length ≤ _
          rw [PySem.ofString_length]; omega
        rw [List.map_cons, PyData.shownAll, List.map_cons, List.sum_cons, List.length_cons, List.length_cons]
        exact ⟨by omega, by omega⟩
    show (tupleText (PyData.shownAll (ns.map PyData.int))).length + 64 ≤ sizeLine
    rw [sizeLine_eq]; omega
theorem lookup_one {f : Str} {v : V} : List.lookup f [(f, v)] = some v := by simp [List.lookup]
/-- what is told of a:b -/
def toldV (a b : Nat) : List V := if Nat.gcd a b = 1 then (if qz a b ≤ 400 then (qf a b).map V.int else [.str "many", .int 400]) else [.str "common", .int (Nat.gcd a b : Nat)]
def ErrT (T : Tx K mg) (a b : Nat) (H : Hp) : XK := fun cls d H' => (cls = .ref T.C_TooMany ∧ (Nat.gcd a b = 1 ∧ 400 < qz a b) ∧ ∃ dd, d = some dd ∧ Same H H' ∧ H' dd = some (.xd [(("limit" : Str), .int 400)])) ∨
  (cls = .ref T.C_Refused ∧ Nat.gcd a b ≠ 1 ∧ ∃ dd p, d = some dd ∧ Same H H' ∧ H' dd = some (.xd [(("reason" : Str), .ref p)]) ∧ H' p = some (.tup [.str "common", .int (Nat.gcd a b : Nat)]))
def sp_law_told (T : Tx K mg) : Sp := fun vs H Q _ => ∃ a b : Nat, vs = [.int a, .int b] ∧ (1 ≤ a ∧ a ≤ 60) ∧ (1 ≤ b ∧ b ≤ 60) ∧ ∀ t H', Same H H' → H' t = some (.tup (toldV a b)) → Q (.ref t) H'
theorem ok_law_told (T : Tx K mg) : FnOk P w K mg base CX0 7 T.a_law_told T.d_law_told ["_law_rises", "_law_steps"] (sp_law_told T) := by
  refine T.F_law_told.ok sc_law_told (fun vs H Q E h => ?_) (fun cdv A outer s H vs Q E hr h => ?_)
  · obtain ⟨a, b, rfl, _⟩ := h; rfl
  · obtain ⟨a, b, rfl, ⟨a1, a2⟩, ⟨b1, b2⟩, q⟩ := h
    refine ⟨_, pss_one (Tr.ps_try_all (tb := fun W D σ H => ∃ Ech : XK, (∀ cls d σ' H', Ech cls d H' → W cls d σ' H') ∧ tRet (tCall (sp_quotient T.C_Slope T.C_Refused T.C_TooMany) [] Ech (tCons (tMake T.C_Slope (sp_Slope_init T.C_Slope) [] E0 (tCons (tVar 0) (tCons (tVar 1) tNil))) tNil)) D σ H) (Wout := fun _ _ _ _ => False)
      rfl rfl sc_law_told.nd LamX.takes0 (fun W pn xe tk _ => ?_)
      (.named (i := 2) ⟨rfl, by decide, .inl T.g_TooMany⟩ rfl rfl (fun a ob cls d pn hz hf => pss_one (ps_ret (pe_tup (pa_cons pe_str (pa_cons (pe_xf T.xf_TooMany T.nf_TooMany hz hf (pv 2)) pa_nil)))))
      (.named (i := 2) ⟨rfl, by decide, .inl T.g_Refused⟩ rfl rfl (fun a ob cls d pn hz hf => pss_one (ps_ret (pe_xf T.xf_Refused T.nf_Refused hz hf (pv 2))))
      .nil))), ?_⟩
    · constructor
      intro pins s' σ H D I now
      obtain ⟨Ech, hW, h1⟩ := now
      exact (pss_one (ps_ret (pe_call (ok_quotient T) (hr.mono (by decide)) (by rfl) T.g_quotient T.F_quotient.kp T.b_quotient .nil (passes_call tk hW) (pa_cons (pe_make T.mk_Slope (ok_Slope_init T) (hr.mono (by decide)) (by rfl) T.g_Slope T.b_Slope_init .nil pass0 (pa_cons (pv 0) (pa_cons (pv 1) pa_nil))) pa_nil)))).run pins s' σ H D I h1
    · refine ⟨ErrT T a b H, ?_, ?_⟩
      · rintro cls d σ' H' (⟨rfl, ⟨hg, hz⟩, dd, rfl, s', hdd⟩ | ⟨rfl, hg, dd, p, rfl, s', hdd, hp⟩)
        · refine ⟨true, Er.exm T.ex_TooMany T.ex_TooMany T.is_TooMany T.ty_TooMany T.sb_TooMany_TooMany, fun _ e ha hl => ?_, fun z => (nomatch z)⟩
          walk_at "sx"
          refine ⟨.ref e, (List.getElem?_set_self hl).trans rfl, rfl, rfl, dd, _, .int 400, rfl, hdd, lookup_one, ?_⟩
          walk_at "sx"
          refine ⟨sz _ (Nat.le_of_ble_eq_true rfl), fun t ht => ?_⟩
          refine q t _ (fun c o z => same_new ht _ _ (s' _ _ z)) ?_
          rw [upd_same]; unfold toldV; rw [if_pos hg, if_neg (by omega)]
        · refine ⟨false, Er.exm T.ex_Refused T.ex_TooMany T.is_TooMany T.ty_TooMany T.sb_Refused_TooMany, fun z => (nomatch z), fun _ => ?_⟩
          refine ⟨true, Er.exm T.ex_Refused T.ex_Refused T.is_Refused T.ty_Refused T.sb_Refused_Refused, fun _ e ha hl => ?_, fun z => (nomatch z)⟩
          walk_at "sx"
          refine ⟨.ref e, (List.getElem?_set_self hl).trans rfl, rfl, rfl, dd, _, .ref p, rfl, hdd, lookup_one, ?_⟩
          walk_at "sx"
          refine q p _ s' ?_
          unfold toldV; rw [if_neg hg]; exact hp
      · refine Sx.r_st (σ' := [some (.int a), some (.int b), none]) rfl ?_
        walk_at "sx"
        refine mk_slope ⟨by omega, by omega, by omega, by omega⟩ (fun sv H1 s1 hS => ?_)
        walk_at "sx"
        refine ⟨sv, a, b, rfl, hS, ?_⟩
        by_cases hg : Nat.gcd a b = 1
        · by_cases hz : qz a b ≤ 400
          · refine .inl ⟨hg, hz, fun t H2 s2 ht => ?_⟩
            walk_at "sx"
            refine q t H2 (fun c o z => s2 _ _ (s1 _ _ z)) ?_
            unfold toldV; rw [if_pos hg, if_pos hz]; exact ht
          · exact .inr (.inl ⟨hg, by omega, fun d hd => .inl ⟨rfl, ⟨hg, by omega⟩, d, rfl, fun c o z => same_new hd _ _ (s1 _ _ z), upd_same⟩⟩)
        · refine .inr (.inr ⟨hg, fun p hp d hd => .inr ⟨rfl, hg, d, p, rfl, fun c o z => same_new hd _ _ (same_new hp _ _ (s1 _ _ z)), upd_same, same_new hd _ _ upd_same⟩⟩)
end
end Lw

namespace Lw
open PySem PySem.Spec PyProof.Rows L2 Sx Sy Sw Mw Me
open En (NoNum)
open Ln (KpN)
open LamX (Tabs TabB ExtN)
open SX (S)
open C8 (pe_gc)
open SkE (call_repr_int call_str_str)
open RZ (pi_zipA)
section
variable {P : Program} {w : World} {K : PySem.W.Frag} {mg : Str → Option Value} {base : Heap}
theorem poly_of {q : List Int} (h : Pm.plB q = true) : Poly q := by
  obtain ⟨h1, h2, h3⟩ := Pm.plB_is h
  exact ⟨h1, fun x hx => by have := h2 x hx; unfold GR; omega, h3⟩
theorem fd_take {ns : List Nat} {i n : Nat} (h : ns[i]? = some n) (q : List Int) : Pm.fd (ns.take (i + 1)) q = Pv.mu (Pm.fd (ns.take i) q) (Pm.ones n) := by
  rw [List.take_add_one, h]
  unfold Pm.fd
  rw [List.foldl_append]; rfl
def sp_law_product (K : PySem.W.Frag) : Sp := fun vs H Q _ => ∃ (a b : Nat) (t : Addr), vs = [.int a, .int b, .ref t] ∧ 1 ≤ a ∧ 1 ≤ b ∧ a + b ≤ 12 ∧ Nat.gcd a b = 1 ∧ SqT K H t ((qf a b).map V.int) ∧ ∀ H', Same H H' → Q (.bl true) H'
theorem ok_law_product (T : Tx K mg) : FnOk P w K mg base CX0 7 T.a_law_product T.d_law_product ["_law_rises", "_law_steps", "_law_told_here"] (sp_law_product K) := by
  refine T.F_law_product.ok sc_law_product (fun vs H Q E h => ?_) (fun cdv A outer s H vs Q E hr h => ?_)
  · obtain ⟨a, b, t, rfl, _⟩ := h; rfl
  · obtain ⟨a, b, t, rfl, a1, b1, hab, hg, ht, q⟩ := h
    refine ⟨_, (pss_cons (ps_par (i := 3) (j := 4) (by rfl) sc_law_product.nd rfl rfl (by decide) rfl rfl (pa_cons (pv 2) (pa_cons (pe_tup (pa_cons pe_int pa_nil)) pa_nil)) (by rfl))
      (pss_cons (ps_for PassesOwn.never rfl (pi_list (pe_op op_cat (pe_listRg rfl (by rfl) T.n_list (prg_2 (by rfl) T.n_range pe_int (pe_op op_add (pv 0) pe_int))) (pe_listRg rfl (by rfl) T.n_list (prg_2 (by rfl) T.n_range pe_int (pe_op op_add (pv 1) pe_int))))) (pg_name (i := 5) sc_law_product.nd rfl (.inl rfl)) (pss_one (ps_set (i := 3) sc_law_product.nd rfl (.inl rfl) (pe_call (ok_times T) (hr.mono (by decide)) (by rfl) T.g_times T.F_times.kp T.b_times .nil pass0 (pa_cons (pv 3) (pa_cons (pe_call (ok_law_many T) (hr.mono (by decide)) (by rfl) T.g_law_many T.F_law_many.kp T.b_law_many .nil pass0 (pa_cons (pv 5) pa_nil)) pa_nil))))))
      (pss_cons (ps_for PassesOwn.never rfl (pi_range2 (by rfl) T.n_range (pa_cons pe_int (pa_cons (pe_op op_add (pv 0) (pv 1)) pa_nil))) (pg_name (i := 5) sc_law_product.nd rfl (.inl rfl)) (pss_one (ps_set (i := 4) sc_law_product.nd rfl (.inl rfl) (pe_call (ok_times T) (hr.mono (by decide)) (by rfl) T.g_times T.F_times.kp T.b_times .nil pass0 (pa_cons (pv 4) (pa_cons (pe_call (ok_law_many T) (hr.mono (by decide)) (by rfl) T.g_law_many T.F_law_many.kp T.b_law_many .nil pass0 (pa_cons (pv 5) pa_nil)) pa_nil))))))
      (pss_one (ps_ret (pe_cmpR (op_eqD hr.units) (pv 3) (pv 4) (nomark _))))))), ?_⟩
    refine Sx.r_st (σ' := [some (.int a), some (.int b), some (.ref t), none, none, none]) rfl ?_
    obtain ⟨r, g1, g2⟩ := Pm.ok12_is (Pm.ok12_at a1 b1 hab hg)
    obtain ⟨f1, p1⟩ := Pm.gp_is _ _ _ g1
    obtain ⟨f2, p2⟩ := Pm.gp_is _ _ _ g2
    walk_at "sx"
    refine ⟨by decide, fun r0 hr0 => ?_⟩
    have s1 : Same H (upd H r0 (.tup [.int 1])) := same_new hr0
    have k1 : (upd H r0 (.tup [.int 1])) r0 = some (.tup (([1] : List Int).map V.int)) := upd_same
    generalize upd H r0 (.tup [.int 1]) = H1 at s1 k1 ⊢
    walk_at "sx"
    refine r_lr ?_
    walk_at "sx"
    refine ⟨_, _, rfl, rfl, RgOk.of_le (by omega) (by omega) (by omega) (by omega), fun m1 hm1 => ?_⟩
    rw [rgV_nl (lo := 1) (m := a) (x := 1) (y := (a : Int) + 1) rfl (by omega)]
    refine r_lr ?_
    walk_at "sx"
    refine ⟨_, _, rfl, rfl, RgOk.of_le (by omega) (by omega) (by omega) (by omega), fun m2 hm2 => ?_⟩
    rw [rgV_nl (lo := 1) (m := b) (x := 1) (y := (b : Int) + 1) rfl (by omega)]
    have mn : m1 ≠ m2 := by rintro rfl; rw [upd_same] at hm2; cases hm2
    refine ⟨m1, m2, _, _, rfl, rfl, by rw [upd_ne mn]; exact upd_same, upd_same, ?_, fun m hm => ?_⟩
    · rw [nl_len, rg_len, nl_len, rg_len, sizeLine_eq]; omega
    rw [← nl_app]
    have b8 : Same H1 (upd (upd (upd H1 m1 (.lst (nl (Pq.rg 1 a)))) m2 (.lst (nl (Pq.rg 1 b)))) m (.lst (nl (Pq.rg 1 a ++ Pq.rg 1 b)))) := fun c o e => same_new hm _ _ (same_new hm2 _ _ (same_new hm1 _ _ e))
    have m8 : (upd (upd (upd H1 m1 (.lst (nl (Pq.rg 1 a)))) m2 (.lst (nl (Pq.rg 1 b)))) m (.lst (nl (Pq.rg 1 a ++ Pq.rg 1 b)))) m = some (.lst (nl (Pq.rg 1 a ++ Pq.rg 1 b))) := upd_same
    generalize upd (upd (upd H1 m1 (.lst (nl (Pq.rg 1 a)))) m2 (.lst (nl (Pq.rg 1 b)))) m (.lst (nl (Pq.rg 1 a ++ Pq.rg 1 b))) = H2 at b8 m8 ⊢
    have s2 : Same H H2 := fun c o e => b8 _ _ (s1 _ _ e)
    have k2 := b8 _ _ k1
    obtain ⟨ks, hks⟩ : ∃ ks, Pq.rg 1 a ++ Pq.rg 1 b = ks := ⟨_, rfl⟩
    have kpos : ∀ k, k ∈ ks → k ≤ 200 := by
      intro k hk
      rw [← hks] at hk
      rcases List.mem_append.mp hk with hk | hk <;> (have := rg_mem hk; omega)
    rw [hks] at m8 f1 p1
    change Pm.fd ks (qf a b) = r at f1
    change ∀ i n, ks[i]? = some n → Pm.plB (Pm.fd (ks.take i) (qf a b)) = true ∧ Pm.plB (Pm.ones n) = true at p1
    walk_at "sx"
    refine r_seqL (.of m8) ?_
    refine fr_list (xs := nl ks) (fun i σ' H' => (∃ y5 u, σ' = [some (.int a), some (.int b), some (.ref t), some (.ref u), some (.ref r0), y5] ∧ SqT K H' u ((Pm.fd (ks.take i) (qf a b)).map V.int)) ∧ Same H2 H') ⟨⟨_, t, rfl, by rw [List.take_zero]; exact sqt_same ht s2⟩, fun c o e => e⟩ (fun i σ' H' _ z => .of (z.2 _ _ m8)) ?_ ?_
    · rintro i x σ' H3 hx ⟨⟨y5, u, rfl, hu⟩, s3⟩
      unfold nl at hx
      rw [List.getElem?_map] at hx
      obtain ⟨k, hk, rfl⟩ := Option.map_eq_some_iff.mp hx
      obtain ⟨q1, q2⟩ := p1 i k hk
      walk_at "sx"
      refine ⟨k, rfl, kpos k (List.mem_of_getElem? hk), fun w H4 s4 hw => ?_⟩
      walk_at "sx"
      refine ⟨u, w, _, _, rfl, sqt_same hu s4, .of hw, poly_of q1, poly_of q2, fun v H5 s5 hv => ?_⟩
      walk_at "sx"
      refine ⟨⟨_, v, rfl, ?_⟩, fun c o e => s5 _ _ (s4 _ _ (s3 _ _ e))⟩
      rw [fd_take hk]
      exact .of hv
    rintro σ' H3 ⟨⟨y5, u, rfl, hu⟩, s3⟩
    rw [nl_len, List.take_length, f1] at hu
    have k3 := s3 _ _ k2
    have s3' : Same H H3 := fun c o e => s3 _ _ (s2 _ _ e)
    obtain ⟨ls, hls⟩ : ∃ ls, Pq.rg 1 (a + b - 1) = ls := ⟨_, rfl⟩
    rw [hls] at f2 p2
    walk_at "sx"
    refine r_rng2 ?_ ⟨by omega, by omega, by omega, by omega⟩
    rw [show ((a : Int) + (b : Int) - 1).toNat = ls.length by rw [← hls, rg_len]; omega]
    refine fr_range (fun i σ' H' => (∃ y5 w, σ' = [some (.int a), some (.int b), some (.ref t), some (.ref u), some (.ref w), y5] ∧ SqT K H' w ((Pm.fd (ls.take i) [1]).map V.int)) ∧ Same H3 H') ⟨⟨_, r0, rfl, by rw [List.take_zero]; exact .of k3⟩, fun c o e => e⟩ ?_ ?_
    · rintro i σ' H4 hi ⟨⟨y5, w, rfl, hw⟩, s4⟩
      have hk : ls[i]? = some (i + 1) := by
        rw [← hls] at hi ⊢
        rw [rg_len] at hi
        unfold Pq.rg
        rw [List.getElem?_map, List.getElem?_range hi, Nat.add_comm]; rfl
      obtain ⟨q1, q2⟩ := p2 i (i + 1) hk
      rw [show (1 : Int) + (i : Int) = ((i + 1 : Nat) : Int) by omega]
      have hi' : i < a + b - 1 := by rw [← hls, rg_len] at hi; exact hi
      walk_at "sx"
      refine ⟨i + 1, rfl, by omega, fun z H5 s5 hz => ?_⟩
      walk_at "sx"
      refine ⟨w, z, _, _, rfl, sqt_same hw s5, .of hz, poly_of q1, poly_of q2, fun v H6 s6 hv => ?_⟩
      walk_at "sx"
      refine ⟨⟨_, v, rfl, ?_⟩, fun c o e => s6 _ _ (s5 _ _ (s4 _ _ e))⟩
      rw [fd_take hk]
      exact .of hv
    · rintro σ' H4 ⟨⟨y5, w, rfl, hw⟩, s4⟩
      rw [List.take_length, f2] at hw
      walk_at "sx"
      refine eq_same (.tup (sqt_same hu s4) (dpI _)) (.tup hw (dpI _)) sh_tupI ?_
      exact q _ fun c o e => s4 _ _ (s3' _ _ e)
end
end Lw

namespace Lw
open PySem PySem.Spec PyProof.Rows L2 Sx Sy Sw Mw Me
open En (NoNum)
open Ln (KpN)
open LamX (Tabs TabB ExtN)
open SX (S)
open C8 (pe_gc)
open SkE (call_repr_int call_str_str)
open RZ (pi_zipA)
section
variable {P : Program} {w : World} {K : PySem.W.Frag} {mg : Str → Option Value} {base : Heap}
theorem qz_comm (a b : Nat) : qz b a = qz a b := by unfold qz; rw [Nat.mul_comm]
theorem qf_comm (a b : Nat) : qf b a = qf a b := by unfold qf; rw [qz_comm, Nat.max_comm, Nat.min_comm]
theorem told_comm (a b : Nat) : toldV b a = toldV a b := by
  unfold toldV
  simp only [show Nat.gcd b a = Nat.gcd a b from Nat.gcd_comm b a, qz_comm a b, qf_comm a b]
theorem qz_low {a b : Nat} (ha : 1 ≤ a) (hb : 1 ≤ b) (h : a + b ≤ 40) : qz a b ≤ 400 := by
  unfold qz
  have h1 : (a - 1) * (b - 1) ≤ 399 := by
    have e : (a - 1) + (b - 1) ≤ 38 := by omega
    generalize a - 1 = x at e ⊢
    generalize b - 1 = y at e ⊢
    rcases Nat.lt_or_ge x 20 with c | c
    · rcases Nat.lt_or_ge y 20 with d | d
      · exact Nat.le_trans (Nat.mul_le_mul (show x ≤ 19 by omega) (show y ≤ 19 by omega)) (by decide)
      · have hx : x ≤ 38 - y := by omega
        have : ∀ y, y ≤ 38 → (38 - y) * y ≤ 399 := by decide
        exact Nat.le_trans (Nat.mul_le_mul_right y hx) (this y (by omega))
    · have hy : y ≤ 38 - x := by omega
      have : ∀ x, x ≤ 38 → x * (38 - x) ≤ 399 := by decide
      exact Nat.le_trans (Nat.mul_le_mul_left x hy) (this x (by omega))
  omega
theorem good_qf {a b : Nat} (ha : 1 ≤ a) (hb : 1 ≤ b) (h : a + b ≤ 40) (hg : Nat.gcd a b = 1) : Pk.Good a b (qf a b) := Pk.good ha hb h hg
theorem qf_len (a b : Nat) : (qf a b).length = qz a b := by unfold qf; exact Pq.tab_len
theorem qf_poly {a b : Nat} (hq : qz a b ≤ 400) (g : Pk.Good a b (qf a b)) : Poly (qf a b) :=
  ⟨by rw [qf_len]; exact hq, fun x hx => by have := g.low x hx; unfold GR; omega, .inr g.last⟩
theorem told_is {a b : Nat} (hg : Nat.gcd a b = 1) (hq : qz a b ≤ 400) : toldV a b = (qf a b).map V.int := by unfold toldV; rw [if_pos hg, if_pos hq]
/-- no tables here -/
def TabBs {K : PySem.W.Frag} {mg : Str → Option Value} (_ : Tx K mg) (_ : Heap) (_ : Str → Option Value) : Prop := True
def sp_law_right : Sp := fun vs H Q _ => ∃ d : Addr, vs = [.ref d] ∧ Dice H d ∧ ∀ H', Kp d H H' → Q (.bl true) H'
theorem ok_law_right (T : Tx K mg) (TB : TabBs T base mg) : En.FnG P w K mg base CX0 8 T.a_law_right T.d_law_right ["_law_dice_here"] sp_law_right := by
  refine En.fnG T.F_law_right sc_law_right (fun vs H Q E h => ?_) (fun cdv A outer s H vs Q E hcd hgd hr h => ?_)
  · obtain ⟨d, rfl, _⟩ := h; rfl
  · obtain ⟨d, rfl, hd, q⟩ := h
    refine ⟨_, (pss_cons (ps_asg (pe_call (ok_law_slope T) (hr.mono (by decide)) (by rfl) T.g_law_slope T.F_law_slope.kp T.b_law_slope .nil pass0 (pa_cons (pv 0) (pa_cons (pe_call (ok_law_pick T) (hr.mono (by decide)) (by rfl) T.g_law_pick T.F_law_pick.kp T.b_law_pick .nil pass0 (pa_cons (pv 0) (pa_cons (pe_lst (pa_cons pe_int (pa_cons pe_int (pa_cons pe_int pa_nil)))) pa_nil))) pa_nil))) (pg_tup rfl (pgs_cons (pg_name (i := 1) sc_law_right.nd rfl (.inl rfl)) (pgs_cons (pg_name (i := 2) sc_law_right.nd rfl (.inl rfl)) pgs_nil))))
      (pss_cons (ps_par (i := 3) (j := 4) (by rfl) sc_law_right.nd rfl rfl (by decide) rfl rfl (pa_cons (pe_call (ok_law_told T) (hr.mono (by decide)) (by rfl) T.g_law_told T.F_law_told.kp T.b_law_told .nil pass0 (pa_cons (pv 1) (pa_cons (pv 2) pa_nil))) (pa_cons (pe_op op_fdivW (pe_op Sx.op_mulA (pe_op op_sub (pv 1) pe_int) (pe_op op_sub (pv 2) pe_int)) pe_int) pa_nil)) (by rfl))
      (pss_cons (ps_if (pt_cmpR op_gt (pe_op op_add (pe_op Sx.op_mulA pe_int (pv 4)) pe_int) pe_int (nomark _)) (pss_one (ps_ret (pe_and (pe_cmpR (op_eqD hr.units) (pv 3) (pe_tup (pa_cons pe_str (pa_cons pe_int pa_nil))) (nomark _)) (pe_one (pe_cmpR op_eq (pe_gc (by rfl) T.c_MAX_TERMS) pe_int (nomark _)))))) pss_nil)
      (pss_cons (ps_if (PW.pt (pw_or (pt_cmpR op_ne (pe_callB (show CallR _ _ (Rp.qRepr K) from Rp.c_repr hgd (Nat.lt_of_le_of_lt (Nat.add_le_add (Nat.le_add_right _ _) (by decide : 64 ≤ 200)) hr.un)) (by rfl) T.n_repr Sx.bt_repr (pa_cons (pv 3) pa_nil)) (pe_callB (show CallR _ _ (Rp.qRepr K) from Rp.c_repr hgd (Nat.lt_of_le_of_lt (Nat.add_le_add (Nat.le_add_right _ _) (by decide : 64 ≤ 200)) hr.un)) (by rfl) T.n_repr Sx.bt_repr (pa_cons (pe_call (ok_law_quotient T) (hr.mono (by decide)) (by rfl) T.g_law_quotient T.F_law_quotient.kp T.b_law_quotient .nil pass0 (pa_cons (pv 1) (pa_cons (pv 2) pa_nil))) pa_nil)) (nomark _)) (pw_or (pt_cmpR op_ne (pe_callB Sx.c_len (by rfl) T.n_len Sx.bt_len (pa_cons (pv 3) pa_nil)) (pe_op op_add (pe_op Sx.op_mulA pe_int (pv 4)) pe_int) (nomark _)) (pw_or (pt_cmpR (op_neD hr.units) (pv 3) (Rt.pe_revT (pv 3)) (nomark _)) (pw_or1 (pt_cmpR op_lt (pe_callB (Mn.cr_minT rfl (Nat.lt_of_le_of_lt (Nat.add_le_add (Nat.le_add_right _ _) (by decide : 64 ≤ 200)) hr.un)) (by rfl) T.n_min Sx.bt_min (pa_cons (pv 3) pa_nil)) pe_int (nomark _))))))) (pss_one (ps_ret pe_bl)) pss_nil)
      (pss_cons (ps_if (PW.pt (pw_or (pt_cmpR op_ne (pe_call (ok_value_at T) (hr.mono (by decide)) (by rfl) T.g_value_at T.F_value_at.kp T.b_value_at .nil pass0 (pa_cons (pv 3) (pa_cons pe_int pa_nil))) (pe_call (ok_way_count T) (hr.mono (by decide)) (by rfl) T.g_way_count T.F_way_count.kp T.b_way_count .nil pass0 (pa_cons (pe_make T.mk_Slope (ok_Slope_init T) (hr.mono (by decide)) (by rfl) T.g_Slope T.b_Slope_init .nil pass0 (pa_cons (pv 1) (pa_cons (pv 2) pa_nil))) pa_nil)) (nomark _)) (pw_or1 (pt_cmpR (op_neD hr.units) (pe_call (ok_law_told T) (hr.mono (by decide)) (by rfl) T.g_law_told T.F_law_told.kp T.b_law_told .nil pass0 (pa_cons (pv 2) (pa_cons (pv 1) pa_nil))) (pv 3) (nomark _))))) (pss_one (ps_ret pe_bl)) pss_nil)
      (pss_one (ps_ret (pe_or (pe_cmpR op_gt (pe_op op_add (pv 1) (pv 2)) pe_int (nomark _)) (pe_one (pe_call (ok_law_product T) (hr.mono (by decide)) (by rfl) T.g_law_product T.F_law_product.kp T.b_law_product .nil pass0 (pa_cons (pv 1) (pa_cons (pv 2) (pa_cons (pv 3) pa_nil))))))))))))), ?_⟩
    refine Sx.r_st (σ' := [some (.ref d), none, none, none, none]) rfl ?_
    walk_at "sx"
    refine ⟨by decide, fun g0 hg0 => ?_⟩
    have n0 : g0 ≠ d := by
      obtain ⟨x, y, z, h⟩ := hd
      exact (ne_of_none h hg0).symm
    have d0 := ((Kp.refl hd).same (same_new (o := .lst [.int 12, .int 24, .int 40]) hg0))
    have k0 : (upd H g0 (.lst [.int 12, .int 24, .int 40])) g0 = some (.lst [.int 12, .int 24, .int 40]) := upd_same
    generalize upd H g0 (.lst [.int 12, .int 24, .int 40]) = H0 at d0 k0 ⊢
    walk_at "sx"
    refine ⟨d, g0, _, rfl, d0.d1, n0, k0, by decide, by decide, fun v H1 hv k1 => ?_⟩
    obtain ⟨m, rfl, hm2, hm40⟩ : ∃ m : Int, v = .int m ∧ 2 ≤ m ∧ m ≤ 40 := by
      simp only [List.mem_cons, List.not_mem_nil, or_false] at hv
      rcases hv with rfl | rfl | rfl
      · exact ⟨12, rfl, by decide, by decide⟩
      · exact ⟨24, rfl, by decide, by decide⟩
      · exact ⟨40, rfl, by decide, by decide⟩
    have d1 := d0.trans k1
    walk_at "sx"
    refine ⟨d, m, rfl, d1.d1, hm2, by omega, fun p a b H2 a1 b1 hab hg k2 hp => ?_⟩
    have d2 := d1.trans k2
    have hab' : a + b ≤ 40 := by omega
    have hq := qz_low a1 b1 hab'
    have gd := good_qf a1 b1 hab' hg
    have hz := half_is a1 b1 hg
    refine r_gtup hp rfl ?_
    walk_at "sx"
    refine ⟨a, b, rfl, ⟨by omega, by omega⟩, ⟨by omega, by omega⟩, fun t H3 s3 ht => ?_⟩
    rw [told_is hg hq] at ht
    have d3 := d2.same s3
    walk_at "sx"
    rotate_left
    · exact cdivw (b := 64) (by have := Int.mul_nonneg (show (0 : Int) ≤ (a : Int) - 1 by omega) (show (0 : Int) ≤ (b : Int) - 1 by omega); have := Int.mul_le_mul (show (a : Int) - 1 ≤ 100 by omega) (show (b : Int) - 1 ≤ 100 by omega) (by omega) (by omega); omega) (by have := Int.mul_le_mul (show (a : Int) - 1 ≤ 100 by omega) (show (b : Int) - 1 ≤ 100 by omega) (by omega) (by omega); omega) (by decide)
    · exact cmA_r (by omega)
    refine r_ifs ?_
    walk_at "sx"
    rotate_left
    · exact cmA_l (by decide)
    rw [hz, decide_eq_false (show ¬ (400 : Int) < ((qz a b : Nat) : Int) by omega)]
    walk_at "sxi"
    have hlen : (qf a b).length ≤ 400 := by rw [qf_len]; exact hq
    have sh := short_ints gd.low hlen
    refine ⟨.ref t, _, rfl, .tup (.of ht) (dpI _), sh, ?_⟩
    walk_at "sx"
    refine ⟨a, b, rfl, a1, by omega, b1, by omega, hq, fun t2 H4 s4 ht2 => ?_⟩
    have ht4 := s4 _ _ ht
    have d4 := d3.same s4
    walk_at "sx"
    refine ⟨.ref t2, _, rfl, .tup (.of ht2) (dpI _), sh, ?_⟩
    walk_at "sx"
    rw [decide_eq_true rfl]
    walk_at "sx"
    refine r_lenT (.of ht4) ?_
    walk_at "sx"
    rotate_left
    · exact cmA_l (by decide)
    rw [hz, List.length_map, qf_len]
    rw [decide_eq_true rfl]
    walk_at "sx"
    refine ⟨t, _, rfl, .of ht4, fun p5 hp5 => ?_⟩
    have s5 : Same H4 (upd H4 p5 (.tup ((qf a b).map V.int).reverse)) := same_new hp5
    have k5 : (upd H4 p5 (.tup ((qf a b).map V.int).reverse)) p5 = some (.tup ((qf a b).map V.int)) := by rw [upd_same, ← List.map_reverse, gd.rev]
    generalize upd H4 p5 (.tup ((qf a b).map V.int).reverse) = H5 at s5 k5 ⊢
    have ht5 := s5 _ _ ht4
    have d5 := d4.same s5
    refine ne_tupI ht5 k5 ?_
    walk_at "sx"
    have n0' : 0 < (qf a b).length := by rw [qf_len]; unfold qz; omega
    refine ⟨t, _, rfl, .of ht5, n0', fun mi hmi _ => ?_⟩
    walk_at "sx"
    rw [decide_eq_false (show ¬ mi < 0 by have := gd.low mi hmi; omega)]
    walk_at "sxi"
    refine ⟨t, _, rfl, .of ht5, qf_poly hq gd, fun H6 s6 => ?_⟩
    have ht6 := s6 _ _ ht5
    have d6 := d5.same s6
    walk_at "sx"
    refine mk_slope ⟨by omega, by omega, by omega, by omega⟩ (fun sv H7 s7 hS7 => ?_)
    walk_at "sx"
    refine ⟨sv, a, b, rfl, hS7, fun H8 s8 => ?_⟩
    have ht8 := s8 _ _ (s7 _ _ ht6)
    have d8 := (d6.same s7).same s8
    walk_at "sx"
    rw [show at1 (qf a b) = ((M3.wc a b : Nat) : Int) from gd.sum, decide_eq_true rfl]
    walk_at "sx"
    refine ⟨b, a, rfl, ⟨by omega, by omega⟩, ⟨by omega, by omega⟩, fun t9 H9 s9 ht9 => ?_⟩
    rw [told_comm, told_is hg hq] at ht9
    have hta := s9 _ _ ht8
    have d9 := d8.same s9
    walk_at "sx"
    refine ne_tupI ht9 hta ?_
    walk_at "sx"
    refine ite_d (fun h => ?_) (fun h => ?_)
    · walk_at "sx"
      exact q _ d9
    · walk_at "sx"
      exact ⟨a, b, t, rfl, a1, b1, by omega, hg, .of hta, fun H10 s10 => q _ (d9.same s10)⟩
end
end Lw

namespace Lw
open PySem PySem.Spec PyProof.Rows L2 Sx Sy Sw Mw Me
open En (NoNum)
open Ln (KpN)
open LamX (Tabs TabB ExtN)
open SX (S)
open C8 (pe_gc)
open SkE (call_repr_int call_str_str)
open RZ (pi_zipA)
section
variable {P : Program} {w : World} {K : PySem.W.Frag} {mg : Str → Option Value} {base : Heap}
theorem told_at {a b : Nat} {l : List V} (h : toldV a b = l) {H : Hp} {t : Addr} (e : H t = some (.tup (toldV a b))) : H t = some (.tup l) := by rw [← h]; exact e
theorem told_len {a b n : Nat} (hg : Nat.gcd a b = 1) (hz : qz a b = n) (hn : n ≤ 400) : (toldV a b).length = n := by
  rw [told_is hg (by omega), List.length_map, qf_len, hz]
theorem told_many {a b : Nat} (hg : Nat.gcd a b = 1) (hz : ¬ qz a b ≤ 400) : toldV a b = [.str "many", .int 400] := by unfold toldV; rw [if_pos hg, if_neg hz]
theorem told_com {a b g : Nat} (hg : Nat.gcd a b = g) (h1 : g ≠ 1) : toldV a b = [.str "common", .int (g : Nat)] := by subst hg; unfold toldV; rw [if_neg h1]
theorem told_one : toldV 1 60 = [.int 1] := by
  rw [told_is (by decide) (by decide)]; rfl
theorem dp_many {K : PySem.W.Frag} {H : Hp} {t : Addr} (e : H t = some (.tup [.str "many", .int 400])) : Dp K H (.ref t) (.tuple [.str "many", .int 400]) := .tup (.of e) (.cons (.str _) (.cons (.int _) .nil))
theorem dp_com {K : PySem.W.Frag} {H : Hp} {t : Addr} {g : Int} (e : H t = some (.tup [.str "common", .int g])) : Dp K H (.ref t) (.tuple [.str "common", .int g]) := .tup (.of e) (.cons (.str _) (.cons (.int _) .nil))
theorem dp_one {K : PySem.W.Frag} {H : Hp} {t : Addr} {g : Int} (e : H t = some (.tup [.int g])) : Dp K H (.ref t) (.tuple [.int g]) := .tup (.of e) (.cons (.int _) .nil)
def edgesD : PyData := .list [.int 381, .tuple [.str "many", .int 400], .tuple [.str "common", .int 2], .int 343, .tuple [.int 1]]
theorem dp_edges {K : PySem.W.Frag} {H : Hp} {g t2 t3 t5 : Addr} (h : H g = some (.lst [.int 381, .ref t2, .ref t3, .int 343, .ref t5])) (e2 : H t2 = some (.tup [.str "many", .int 400])) (e3 : H t3 = some (.tup [.str "common", .int 2])) (e5 : H t5 = some (.tup [.int 1])) : Dp K H (.ref g) edgesD :=
  .lst (.of h) (.cons (.int _) (.cons (dp_many e2) (.cons (dp_com e3) (.cons (.int _) (.cons (dp_one e5) .nil)))))
theorem sh_edges : SeqAt.shaped edgesD = true := by decide +kernel
def comsD : PyData := .list [.tuple [.str "common", .int 2], .tuple [.str "common", .int 2], .tuple [.str "common", .int 60]]
theorem dp_coms {K : PySem.W.Frag} {H : Hp} {g t1 t2 t3 : Addr} (h : H g = some (.lst [.ref t1, .ref t2, .ref t3])) (e1 : H t1 = some (.tup [.str "common", .int 2])) (e2 : H t2 = some (.tup [.str "common", .int 2])) (e3 : H t3 = some (.tup [.str "common", .int 60])) : Dp K H (.ref g) comsD :=
  .lst (.of h) (.cons (dp_com e1) (.cons (dp_com e2) (.cons (dp_com e3) .nil)))
theorem sh_coms : SeqAt.shaped comsD = true := by decide +kernel
def sp_law_edges : Sp := fun vs H Q _ => vs = [] ∧ ∀ H', Same H H' → Q (.bl true) H'
theorem ok_law_edges (T : Tx K mg) : FnOk P w K mg base CX0 8 T.a_law_edges T.d_law_edges [] sp_law_edges := by
  refine T.F_law_edges.ok sc_law_edges (fun vs H Q E h => ?_) (fun cdv A outer s H vs Q E hr h => ?_)
  · obtain ⟨rfl, _⟩ := h; rfl
  · obtain ⟨rfl, q⟩ := h
    refine ⟨_, (pss_cons (ps_set (i := 0) sc_law_edges.nd rfl (.inl rfl) (pe_lst (pa_cons (pe_callB Sx.c_len (by rfl) T.n_len Sx.bt_len (pa_cons (pe_call (ok_law_told T) (hr.mono (by decide)) (by rfl) T.g_law_told T.F_law_told.kp T.b_law_told .nil pass0 (pa_cons pe_int (pa_cons pe_int pa_nil))) pa_nil)) (pa_cons (pe_call (ok_law_told T) (hr.mono (by decide)) (by rfl) T.g_law_told T.F_law_told.kp T.b_law_told .nil pass0 (pa_cons pe_int (pa_cons pe_int pa_nil))) (pa_cons (pe_call (ok_law_told T) (hr.mono (by decide)) (by rfl) T.g_law_told T.F_law_told.kp T.b_law_told .nil pass0 (pa_cons pe_int (pa_cons pe_int pa_nil))) (pa_cons (pe_callB Sx.c_len (by rfl) T.n_len Sx.bt_len (pa_cons (pe_call (ok_law_told T) (hr.mono (by decide)) (by rfl) T.g_law_told T.F_law_told.kp T.b_law_told .nil pass0 (pa_cons pe_int (pa_cons pe_int pa_nil))) pa_nil)) (pa_cons (pe_call (ok_law_told T) (hr.mono (by decide)) (by rfl) T.g_law_told T.F_law_told.kp T.b_law_told .nil pass0 (pa_cons pe_int (pa_cons pe_int pa_nil))) pa_nil)))))))
      (pss_one (ps_ret (pe_cmpR (op_eqD hr.units) (pv 0) (pe_lst (pa_cons pe_int (pa_cons (pe_tup (pa_cons pe_str (pa_cons pe_int pa_nil))) (pa_cons (pe_tup (pa_cons pe_str (pa_cons pe_int pa_nil))) (pa_cons pe_int (pa_cons (pe_tup (pa_cons pe_int pa_nil)) pa_nil)))))) (nomark _))))), ?_⟩
    refine Sx.r_st (σ' := [none]) rfl ?_
    walk_at "sx"
    refine ⟨20, 21, rfl, by decide, by decide, fun t1 H1 s1 ht1 => ?_⟩
    walk_at "sx"
    refine r_lenT (.of ht1) ?_
    rw [told_len (n := 381) (by decide) (by decide) (by decide)]
    walk_at "sx"
    refine ⟨21, 22, rfl, by decide, by decide, fun t2 H2 s2 ht2 => ?_⟩
    rw [told_many (by decide) (by decide)] at ht2
    walk_at "sx"
    refine ⟨58, 8, rfl, by decide, by decide, fun t3 H3 s3 ht3 => ?_⟩
    rw [told_com (g := 2) (by decide) (by decide)] at ht3
    walk_at "sx"
    refine ⟨58, 7, rfl, by decide, by decide, fun t4 H4 s4 ht4 => ?_⟩
    walk_at "sx"
    refine r_lenT (.of ht4) ?_
    rw [told_len (n := 343) (by decide) (by decide) (by decide)]
    walk_at "sx"
    refine ⟨1, 60, rfl, by decide, by decide, fun t5 H5 s5 ht5 => ?_⟩
    rw [told_one] at ht5
    walk_at "sx"
    refine ⟨sz _ (Nat.le_of_ble_eq_true rfl), fun g1 hg1 => ?_⟩
    have k1 : (upd H5 g1 (.lst [.int 381, .ref t2, .ref t3, .int 343, .ref t5])) g1 = some (.lst [.int 381, .ref t2, .ref t3, .int 343, .ref t5]) := upd_same
    have s6 : Same H5 (upd H5 g1 (.lst [.int 381, .ref t2, .ref t3, .int 343, .ref t5])) := same_new hg1
    have e2 := s6 _ _ (s5 _ _ (s4 _ _ (s3 _ _ ht2)))
    have e3 := s6 _ _ (s5 _ _ (s4 _ _ ht3))
    have e5 := s6 _ _ ht5
    have sH : Same H (upd H5 g1 (.lst [.int 381, .ref t2, .ref t3, .int 343, .ref t5])) := fun c o e => s6 _ _ (s5 _ _ (s4 _ _ (s3 _ _ (s2 _ _ (s1 _ _ e)))))
    change (upd H5 g1 (.lst [.int 381, .ref t2, .ref t3, .int 343, .ref t5])) t2 = _ at e2
    change (upd H5 g1 (.lst [.int 381, .ref t2, .ref t3, .int 343, .ref t5])) t3 = _ at e3
    change (upd H5 g1 (.lst [.int 381, .ref t2, .ref t3, .int 343, .ref t5])) t5 = _ at e5
    generalize hG : upd H5 g1 (.lst [.int 381, .ref t2, .ref t3, .int 343, .ref t5]) = H6 at k1 e2 e3 e5 sH
    walk_at "sx"
    refine ⟨by decide, fun q1 hq1 => ?_⟩
    have s7 := same_new (o := .tup [.str "many", .int 400]) hq1
    have f1 : (upd H6 q1 (.tup [.str "many", .int 400])) q1 = some (.tup [.str "many", .int 400]) := upd_same
    generalize upd H6 q1 (.tup [.str "many", .int 400]) = H7 at s7 f1 ⊢
    walk_at "sx"
    refine ⟨by decide, fun q2 hq2 => ?_⟩
    have s8 := same_new (o := .tup [.str "common", .int 2]) hq2
    have f2 : (upd H7 q2 (.tup [.str "common", .int 2])) q2 = some (.tup [.str "common", .int 2]) := upd_same
    generalize upd H7 q2 (.tup [.str "common", .int 2]) = H8 at s8 f2 ⊢
    walk_at "sx"
    refine ⟨by decide, fun q3 hq3 => ?_⟩
    have s9 := same_new (o := .tup [.int 1]) hq3
    have f3 : (upd H8 q3 (.tup [.int 1])) q3 = some (.tup [.int 1]) := upd_same
    generalize upd H8 q3 (.tup [.int 1]) = H9 at s9 f3 ⊢
    walk_at "sx"
    refine ⟨sz _ (Nat.le_of_ble_eq_true rfl), fun g2 hg2 => ?_⟩
    have s10 := same_new (o := .lst [.int 381, .ref q1, .ref q2, .int 343, .ref q3]) hg2
    have z : Same H6 (upd H9 g2 (.lst [.int 381, .ref q1, .ref q2, .int 343, .ref q3])) := fun c o e => s10 _ _ (s9 _ _ (s8 _ _ (s7 _ _ e)))
    refine eq_same (dp_edges (z _ _ k1) (z _ _ e2) (z _ _ e3) (z _ _ e5)) (dp_edges upd_same (s10 _ _ (s9 _ _ (s8 _ _ f1))) (s10 _ _ (s9 _ _ f2)) (s10 _ _ f3)) sh_edges ?_
    exact q _ fun c o e => z _ _ (sH _ _ e)
def spLaw (K : PySem.W.Frag) (_ : Tx K mg) : Sp := fun vs H Q _ => ∃ (a : Addr) (ns : List Int), vs = [.ref a] ∧ SqL K H a (ns.map V.int) ∧ ns.length ≤ 63 ∧ ∀ H', Q (.bl true) H'
theorem ok_law (T : Tx K mg) (TB : TabBs T base mg) : En.FnG P w K mg base CX0 9 T.a_law T.d_law ["_law_script"] (spLaw K T) := by
  refine En.fnG T.F_law sc_law (fun vs H Q E h => ?_) (fun cdv A outer s H vs Q E hcd hgd hr h => ?_)
  · obtain ⟨a, ns, rfl, _⟩ := h; rfl
  · obtain ⟨a, ns, rfl, hS, hl, q⟩ := h
    refine ⟨_, (pss_cons (ps_for PassesOwn.never rfl (pi_range1 (by rfl) T.n_range (pa_cons (pe_callB (Sx.c_max rfl) (by rfl) T.n_max Sx.bt_max (pa_cons pe_int (pa_cons (pe_callB (Sx.c_min rfl) (by rfl) T.n_min Sx.bt_min (pa_cons pe_int (pa_cons (pe_callB Sx.c_len (by rfl) T.n_len Sx.bt_len (pa_cons (pv 0) pa_nil)) pa_nil))) pa_nil))) pa_nil)) (pg_name (i := 1) sc_law.nd rfl (.inl rfl)) (pss_one (ps_if (pt_not (pt_val (En.pe_callG hgd (ok_law_right T TB) (hr.mono (by decide)) (by rfl) T.g_law_right T.F_law_right.kp T.b_law_right pass0 (pa_cons (pe_call (ok_law_dice T) (hr.mono (by decide)) (by rfl) T.g_law_dice T.F_law_dice.kp T.b_law_dice .nil pass0 (pa_cons (pv 0) (pa_cons (pv 1) pa_nil))) pa_nil)))) (pss_one (ps_ret pe_bl)) pss_nil)))
      (pss_cons (ps_if (pt_cmpR (op_neD hr.units) (pe_lst (pa_cons (pe_call (ok_law_told T) (hr.mono (by decide)) (by rfl) T.g_law_told T.F_law_told.kp T.b_law_told .nil pass0 (pa_cons pe_int (pa_cons pe_int pa_nil))) (pa_cons (pe_call (ok_law_told T) (hr.mono (by decide)) (by rfl) T.g_law_told T.F_law_told.kp T.b_law_told .nil pass0 (pa_cons pe_int (pa_cons pe_int pa_nil))) (pa_cons (pe_call (ok_law_told T) (hr.mono (by decide)) (by rfl) T.g_law_told T.F_law_told.kp T.b_law_told .nil pass0 (pa_cons pe_int (pa_cons pe_int pa_nil))) pa_nil)))) (pe_lst (pa_cons (pe_tup (pa_cons pe_str (pa_cons pe_int pa_nil))) (pa_cons (pe_tup (pa_cons pe_str (pa_cons pe_int pa_nil))) (pa_cons (pe_tup (pa_cons pe_str (pa_cons pe_int pa_nil))) pa_nil)))) (nomark _)) (pss_one (ps_ret pe_bl)) pss_nil)
      (pss_one (ps_ret (pe_call0 (ok_law_edges T) (hr.mono (by decide)) (by rfl) T.g_law_edges T.F_law_edges.kp T.b_law_edges .nil pass0))))), ?_⟩
    refine Sx.r_st (σ' := [some (.ref a), none]) rfl ?_
    walk_at "sx"
    refine r_lenL hS ?_
    walk_at "sx"
    obtain ⟨n, hn, hn6⟩ : ∃ n : Nat, (if (if ((ns.map V.int).length : Int) < 6 then ((ns.map V.int).length : Int) else 6) > 1 then (if ((ns.map V.int).length : Int) < 6 then ((ns.map V.int).length : Int) else 6) else 1) = n ∧ n ≤ 13 := by
      refine ⟨(if (if ((ns.map V.int).length : Int) < 6 then ((ns.map V.int).length : Int) else 6) > 1 then (if ((ns.map V.int).length : Int) < 6 then ((ns.map V.int).length : Int) else 6) else 1).toNat, ?_, ?_⟩
      · split <;> split <;> omega
      · split <;> split <;> omega
    rw [hn]
    refine r_rng1 ?_ (by omega) (by omega)
    refine fr_range (fun i σ' H' => Same H H' ∧ ∃ y1, σ' = [some (.ref a), y1]) ⟨fun c o e => e, none, rfl⟩ ?_ ?_
    · rintro i σ' H1 hi ⟨sm, y1, rfl⟩
      walk_at "sxi"
      refine ⟨a, ns, i, by rw [Int.zero_add]; rfl, sm.seq hS, by omega, fun d H2 sm2 hdn hd => ?_⟩
      walk_at "sx"
      refine ⟨d, rfl, hd, fun H3 k3 => ?_⟩
      walk_at "sx"
      exact ⟨fun c o e => k3.k c o (ne_of_none (sm _ _ e) hdn) (sm2 _ _ (sm _ _ e)), _, rfl⟩
    · rintro σ' H1 ⟨sm, y1, rfl⟩
      walk_at "sxi"
      refine ⟨20, 22, rfl, by decide, by decide, fun t1 H2 s2 ht1 => ?_⟩
      rw [told_com (g := 2) (by decide) (by decide)] at ht1
      walk_at "sx"
      refine ⟨4, 6, rfl, by decide, by decide, fun t2 H3 s3 ht2 => ?_⟩
      rw [told_com (g := 2) (by decide) (by decide)] at ht2
      walk_at "sx"
      refine ⟨60, 60, rfl, by decide, by decide, fun t3 H4 s4 ht3 => ?_⟩
      rw [told_com (g := 60) (by decide) (by decide)] at ht3
      walk_at "sx"
      refine ⟨sz _ (Nat.le_of_ble_eq_true rfl), fun g1 hg1 => ?_⟩
      have s5 := same_new (o := .lst [.ref t1, .ref t2, .ref t3]) hg1
      have k1 : (upd H4 g1 (.lst [.ref t1, .ref t2, .ref t3])) g1 = some (.lst [.ref t1, .ref t2, .ref t3]) := upd_same
      have e1 := s5 _ _ (s4 _ _ (s3 _ _ ht1))
      have e2 := s5 _ _ (s4 _ _ ht2)
      have e3 := s5 _ _ ht3
      generalize upd H4 g1 (.lst [.ref t1, .ref t2, .ref t3]) = H5 at k1 e1 e2 e3 ⊢
      walk_at "sx"
      refine ⟨by decide, fun q1 hq1 => ?_⟩
      have s7 := same_new (o := .tup [.str "common", .int 2]) hq1
      have f1 : (upd H5 q1 (.tup [.str "common", .int 2])) q1 = some (.tup [.str "common", .int 2]) := upd_same
      generalize upd H5 q1 (.tup [.str "common", .int 2]) = H7 at s7 f1 ⊢
      walk_at "sx"
      refine ⟨by decide, fun q2 hq2 => ?_⟩
      have s8 := same_new (o := .tup [.str "common", .int 2]) hq2
      have f2 : (upd H7 q2 (.tup [.str "common", .int 2])) q2 = some (.tup [.str "common", .int 2]) := upd_same
      generalize upd H7 q2 (.tup [.str "common", .int 2]) = H8 at s8 f2 ⊢
      walk_at "sx"
      refine ⟨by decide, fun q3 hq3 => ?_⟩
      have s9 := same_new (o := .tup [.str "common", .int 60]) hq3
      have f3 : (upd H8 q3 (.tup [.str "common", .int 60])) q3 = some (.tup [.str "common", .int 60]) := upd_same
      generalize upd H8 q3 (.tup [.str "common", .int 60]) = H9 at s9 f3 ⊢
      walk_at "sx"
      refine ⟨sz _ (Nat.le_of_ble_eq_true rfl), fun g2 hg2 => ?_⟩
      have s10 := same_new (o := .lst [.ref q1, .ref q2, .ref q3]) hg2
      have z : Same H5 (upd H9 g2 (.lst [.ref q1, .ref q2, .ref q3])) := fun c o e => s10 _ _ (s9 _ _ (s8 _ _ (s7 _ _ e)))
      refine ne_same (dp_coms (z _ _ k1) (z _ _ e1) (z _ _ e2) (z _ _ e3)) (dp_coms upd_same (s10 _ _ (s9 _ _ (s8 _ _ f1))) (s10 _ _ (s9 _ _ f2)) (s10 _ _ f3)) sh_coms ?_
      walk_at "sx"
      exact ⟨rfl, fun H11 _ => q _⟩
end
end Lw

namespace Lw
open PySem PySem.Spec PyProof.Rows L2 Sx Sy Sw Mw Me
open En (NoNum)
open Ln (KpN)
open SX (S)
open C8 (pe_gc)
open SkE (call_repr_int call_str_str)
open RZ (pi_zipA)
theorem all_mk {l : PySem.W.OpenLaw} {w : World} {K : PySem.W.Frag} {h : Heap} {mg : Str → Option Value} {fa : Addr} (X : K.In h) (G : h.Ns mainGlobals mg) (hfa : mg "law" = some (.ref fa))
    {C_Slope C_TooMany C_Refused a_TooMany_init a_Refused_init a_is_number a_is_whole_between a_is_integer a_check_integer a_Slope_init a_Slope_rises p_Slope_rises a_Slope_steps p_Slope_steps a_Slope_common p_Slope_common a_Slope_is_coprime p_Slope_is_coprime a_Slope_half p_Slope_half a_check_slope a_check_coprime a_way_count a_sides a_check_polynomial a_is_polynomial a_trimmed a_quotient a_product_of a_times a_value_at a_law_dice a_law_roll a_law_pick a_law_slope a_law_quotient a_law_told a_law_many a_law_product a_law_right a_law_edges a_law : Addr} {t_GREATEST t_MAX_SIDE t_MAX_TERMS : Tok}
    {oc_TooMany_init kV_TooMany_init dc_TooMany_init pm_TooMany_init cd_TooMany_init ct_TooMany_init : Value} {od_TooMany_init an_TooMany_init : Option Addr} {sl_TooMany_init : Array (Option Value)}
    {oc_Refused_init kV_Refused_init dc_Refused_init pm_Refused_init cd_Refused_init ct_Refused_init : Value} {od_Refused_init an_Refused_init : Option Addr} {sl_Refused_init : Array (Option Value)}
    {oc_is_number kV_is_number dc_is_number pm_is_number cd_is_number ct_is_number : Value} {od_is_number an_is_number : Option Addr} {sl_is_number : Array (Option Value)}
    {oc_is_whole_between kV_is_whole_between dc_is_whole_between pm_is_whole_between cd_is_whole_between ct_is_whole_between : Value} {od_is_whole_between an_is_whole_between : Option Addr} {sl_is_whole_between : Array (Option Value)}
    {oc_is_integer kV_is_integer dc_is_integer pm_is_integer cd_is_integer ct_is_integer : Value} {od_is_integer an_is_integer : Option Addr} {sl_is_integer : Array (Option Value)}
    {oc_check_integer kV_check_integer dc_check_integer pm_check_integer cd_check_integer ct_check_integer : Value} {od_check_integer an_check_integer : Option Addr} {sl_check_integer : Array (Option Value)}
    {oc_Slope_init kV_Slope_init dc_Slope_init pm_Slope_init cd_Slope_init ct_Slope_init : Value} {od_Slope_init an_Slope_init : Option Addr} {sl_Slope_init : Array (Option Value)}
    {oc_Slope_rises kV_Slope_rises dc_Slope_rises pm_Slope_rises cd_Slope_rises ct_Slope_rises : Value} {od_Slope_rises an_Slope_rises : Option Addr} {sl_Slope_rises : Array (Option Value)}
    {re_Slope_rises : List Value}
    {oc_Slope_steps kV_Slope_steps dc_Slope_steps pm_Slope_steps cd_Slope_steps ct_Slope_steps : Value} {od_Slope_steps an_Slope_steps : Option Addr} {sl_Slope_steps : Array (Option Value)}
    {re_Slope_steps : List Value}
    {oc_Slope_common kV_Slope_common dc_Slope_common pm_Slope_common cd_Slope_common ct_Slope_common : Value} {od_Slope_common an_Slope_common : Option Addr} {sl_Slope_common : Array (Option Value)}
    {re_Slope_common : List Value}
    {oc_Slope_is_coprime kV_Slope_is_coprime dc_Slope_is_coprime pm_Slope_is_coprime cd_Slope_is_coprime ct_Slope_is_coprime : Value} {od_Slope_is_coprime an_Slope_is_coprime : Option Addr} {sl_Slope_is_coprime : Array (Option Value)}
    {re_Slope_is_coprime : List Value}
    {oc_Slope_half kV_Slope_half dc_Slope_half pm_Slope_half cd_Slope_half ct_Slope_half : Value} {od_Slope_half an_Slope_half : Option Addr} {sl_Slope_half : Array (Option Value)}
    {re_Slope_half : List Value}
    {oc_check_slope kV_check_slope dc_check_slope pm_check_slope cd_check_slope ct_check_slope : Value} {od_check_slope an_check_slope : Option Addr} {sl_check_slope : Array (Option Value)}
    {oc_check_coprime kV_check_coprime dc_check_coprime pm_check_coprime cd_check_coprime ct_check_coprime : Value} {od_check_coprime an_check_coprime : Option Addr} {sl_check_coprime : Array (Option Value)}
    {oc_way_count kV_way_count dc_way_count pm_way_count cd_way_count ct_way_count : Value} {od_way_count an_way_count : Option Addr} {sl_way_count : Array (Option Value)}
    {oc_sides kV_sides dc_sides pm_sides cd_sides ct_sides : Value} {od_sides an_sides : Option Addr} {sl_sides : Array (Option Value)}
    {oc_check_polynomial kV_check_polynomial dc_check_polynomial pm_check_polynomial cd_check_polynomial ct_check_polynomial : Value} {od_check_polynomial an_check_polynomial : Option Addr} {sl_check_polynomial : Array (Option Value)}
    {oc_is_polynomial kV_is_polynomial dc_is_polynomial pm_is_polynomial cd_is_polynomial ct_is_polynomial : Value} {od_is_polynomial an_is_polynomial : Option Addr} {sl_is_polynomial : Array (Option Value)}
    {oc_trimmed kV_trimmed dc_trimmed pm_trimmed cd_trimmed ct_trimmed : Value} {od_trimmed an_trimmed : Option Addr} {sl_trimmed : Array (Option Value)}
    {oc_quotient kV_quotient dc_quotient pm_quotient cd_quotient ct_quotient : Value} {od_quotient an_quotient : Option Addr} {sl_quotient : Array (Option Value)}
    {oc_product_of kV_product_of dc_product_of pm_product_of cd_product_of ct_product_of : Value} {od_product_of an_product_of : Option Addr} {sl_product_of : Array (Option Value)}
    {oc_times kV_times dc_times pm_times cd_times ct_times : Value} {od_times an_times : Option Addr} {sl_times : Array (Option Value)}
    {oc_value_at kV_value_at dc_value_at pm_value_at cd_value_at ct_value_at : Value} {od_value_at an_value_at : Option Addr} {sl_value_at : Array (Option Value)}
    {oc_law_dice kV_law_dice dc_law_dice pm_law_dice cd_law_dice ct_law_dice : Value} {od_law_dice an_law_dice : Option Addr} {sl_law_dice : Array (Option Value)}
    {oc_law_roll kV_law_roll dc_law_roll pm_law_roll cd_law_roll ct_law_roll : Value} {od_law_roll an_law_roll : Option Addr} {sl_law_roll : Array (Option Value)}
    {oc_law_pick kV_law_pick dc_law_pick pm_law_pick cd_law_pick ct_law_pick : Value} {od_law_pick an_law_pick : Option Addr} {sl_law_pick : Array (Option Value)}
    {oc_law_slope kV_law_slope dc_law_slope pm_law_slope cd_law_slope ct_law_slope : Value} {od_law_slope an_law_slope : Option Addr} {sl_law_slope : Array (Option Value)}
    {oc_law_quotient kV_law_quotient dc_law_quotient pm_law_quotient cd_law_quotient ct_law_quotient : Value} {od_law_quotient an_law_quotient : Option Addr} {sl_law_quotient : Array (Option Value)}
    {oc_law_told kV_law_told dc_law_told pm_law_told cd_law_told ct_law_told : Value} {od_law_told an_law_told : Option Addr} {sl_law_told : Array (Option Value)}
    {oc_law_many kV_law_many dc_law_many pm_law_many cd_law_many ct_law_many : Value} {od_law_many an_law_many : Option Addr} {sl_law_many : Array (Option Value)}
    {oc_law_product kV_law_product dc_law_product pm_law_product cd_law_product ct_law_product : Value} {od_law_product an_law_product : Option Addr} {sl_law_product : Array (Option Value)}
    {oc_law_right kV_law_right dc_law_right pm_law_right cd_law_right ct_law_right : Value} {od_law_right an_law_right : Option Addr} {sl_law_right : Array (Option Value)}
    {oc_law_edges kV_law_edges dc_law_edges pm_law_edges cd_law_edges ct_law_edges : Value} {od_law_edges an_law_edges : Option Addr} {sl_law_edges : Array (Option Value)}
    {oc_law kV_law dc_law pm_law cd_law ct_law : Value} {od_law an_law : Option Addr} {sl_law : Array (Option Value)}
    (g_Slope : PySem.W.nsIn K mainGlobals "Slope" = some (some (.ref C_Slope)))
    (g_TooMany : PySem.W.nsIn K mainGlobals "TooMany" = some (some (.ref C_TooMany)))
    (g_Refused : PySem.W.nsIn K mainGlobals "Refused" = some (some (.ref C_Refused)))
    (m_TooMany_init : PySem.W.findIn K (.ref C_TooMany) "__init__" = some (some (.ref a_TooMany_init)))
    (f_TooMany_init : PySem.W.isFn K (.ref a_TooMany_init) = true)
    (l_TooMany_init : K.lookup a_TooMany_init = some ⟨oc_TooMany_init, od_TooMany_init, .func (PySem.W.fnOf "__init__" "TooMany.__init__" (defArgs st_TooMany_init) (defBody st_TooMany_init) (defScope st_TooMany_init) .none kV_TooMany_init dc_TooMany_init pm_TooMany_init an_TooMany_init cd_TooMany_init ct_TooMany_init), sl_TooMany_init⟩)
    (c_TooMany_init : PySem.W.codeIn K cd_TooMany_init "TooMany.__init__" = true)
    (k_TooMany_init : PySem.W.keepIn K (.ref a_TooMany_init) = true)
    (m_Refused_init : PySem.W.findIn K (.ref C_Refused) "__init__" = some (some (.ref a_Refused_init)))
    (f_Refused_init : PySem.W.isFn K (.ref a_Refused_init) = true)
    (l_Refused_init : K.lookup a_Refused_init = some ⟨oc_Refused_init, od_Refused_init, .func (PySem.W.fnOf "__init__" "Refused.__init__" (defArgs st_Refused_init) (defBody st_Refused_init) (defScope st_Refused_init) .none kV_Refused_init dc_Refused_init pm_Refused_init an_Refused_init cd_Refused_init ct_Refused_init), sl_Refused_init⟩)
    (c_Refused_init : PySem.W.codeIn K cd_Refused_init "Refused.__init__" = true)
    (k_Refused_init : PySem.W.keepIn K (.ref a_Refused_init) = true)
    (g_is_number : PySem.W.nsIn K mainGlobals "is_number" = some (some (.ref a_is_number)))
    (l_is_number : K.lookup a_is_number = some ⟨oc_is_number, od_is_number, .func (PySem.W.fnOf "is_number" "is_number" (defArgs st_is_number) (defBody st_is_number) (defScope st_is_number) .none kV_is_number dc_is_number pm_is_number an_is_number cd_is_number ct_is_number), sl_is_number⟩)
    (c_is_number : PySem.W.codeIn K cd_is_number "is_number" = true)
    (k_is_number : PySem.W.keepIn K (.ref a_is_number) = true)
    (g_is_whole_between : PySem.W.nsIn K mainGlobals "is_whole_between" = some (some (.ref a_is_whole_between)))
    (l_is_whole_between : K.lookup a_is_whole_between = some ⟨oc_is_whole_between, od_is_whole_between, .func (PySem.W.fnOf "is_whole_between" "is_whole_between" (defArgs st_is_whole_between) (defBody st_is_whole_between) (defScope st_is_whole_between) .none kV_is_whole_between dc_is_whole_between pm_is_whole_between an_is_whole_between cd_is_whole_between ct_is_whole_between), sl_is_whole_between⟩)
    (c_is_whole_between : PySem.W.codeIn K cd_is_whole_between "is_whole_between" = true)
    (k_is_whole_between : PySem.W.keepIn K (.ref a_is_whole_between) = true)
    (g_is_integer : PySem.W.nsIn K mainGlobals "is_integer" = some (some (.ref a_is_integer)))
    (l_is_integer : K.lookup a_is_integer = some ⟨oc_is_integer, od_is_integer, .func (PySem.W.fnOf "is_integer" "is_integer" (defArgs st_is_integer) (defBody st_is_integer) (defScope st_is_integer) .none kV_is_integer dc_is_integer pm_is_integer an_is_integer cd_is_integer ct_is_integer), sl_is_integer⟩)
    (c_is_integer : PySem.W.codeIn K cd_is_integer "is_integer" = true)
    (k_is_integer : PySem.W.keepIn K (.ref a_is_integer) = true)
    (g_check_integer : PySem.W.nsIn K mainGlobals "check_integer" = some (some (.ref a_check_integer)))
    (l_check_integer : K.lookup a_check_integer = some ⟨oc_check_integer, od_check_integer, .func (PySem.W.fnOf "check_integer" "check_integer" (defArgs st_check_integer) (defBody st_check_integer) (defScope st_check_integer) .none kV_check_integer dc_check_integer pm_check_integer an_check_integer cd_check_integer ct_check_integer), sl_check_integer⟩)
    (c_check_integer : PySem.W.codeIn K cd_check_integer "check_integer" = true)
    (k_check_integer : PySem.W.keepIn K (.ref a_check_integer) = true)
    (m_Slope_init : PySem.W.findIn K (.ref C_Slope) "__init__" = some (some (.ref a_Slope_init)))
    (f_Slope_init : PySem.W.isFn K (.ref a_Slope_init) = true)
    (l_Slope_init : K.lookup a_Slope_init = some ⟨oc_Slope_init, od_Slope_init, .func (PySem.W.fnOf "__init__" "Slope.__init__" (defArgs st_Slope_init) (defBody st_Slope_init) (defScope st_Slope_init) .none kV_Slope_init dc_Slope_init pm_Slope_init an_Slope_init cd_Slope_init ct_Slope_init), sl_Slope_init⟩)
    (c_Slope_init : PySem.W.codeIn K cd_Slope_init "Slope.__init__" = true)
    (k_Slope_init : PySem.W.keepIn K (.ref a_Slope_init) = true)
    (pa_Slope_rises : PySem.W.findIn K (.ref C_Slope) "rises" = some (some (.ref p_Slope_rises)))
    (pg_Slope_rises : PySem.W.specialIn K (.ref p_Slope_rises) "__get__" = some (some (.builtin "property.__get__")))
    (pt_Slope_rises : PySem.W.takesIn K (.ref p_Slope_rises) = some true)
    (pq_Slope_rises : PySem.W.recIn K p_Slope_rises "property" = some (.ref a_Slope_rises :: re_Slope_rises))
    (l_Slope_rises : K.lookup a_Slope_rises = some ⟨oc_Slope_rises, od_Slope_rises, .func (PySem.W.fnOf "rises" "Slope.rises" (defArgs st_Slope_rises) (defBody st_Slope_rises) (defScope st_Slope_rises) .none kV_Slope_rises dc_Slope_rises pm_Slope_rises an_Slope_rises cd_Slope_rises ct_Slope_rises), sl_Slope_rises⟩)
    (c_Slope_rises : PySem.W.codeIn K cd_Slope_rises "Slope.rises" = true)
    (k_Slope_rises : PySem.W.keepIn K (.ref a_Slope_rises) = true)
    (pa_Slope_steps : PySem.W.findIn K (.ref C_Slope) "steps" = some (some (.ref p_Slope_steps)))
    (pg_Slope_steps : PySem.W.specialIn K (.ref p_Slope_steps) "__get__" = some (some (.builtin "property.__get__")))
    (pt_Slope_steps : PySem.W.takesIn K (.ref p_Slope_steps) = some true)
    (pq_Slope_steps : PySem.W.recIn K p_Slope_steps "property" = some (.ref a_Slope_steps :: re_Slope_steps))
    (l_Slope_steps : K.lookup a_Slope_steps = some ⟨oc_Slope_steps, od_Slope_steps, .func (PySem.W.fnOf "steps" "Slope.steps" (defArgs st_Slope_steps) (defBody st_Slope_steps) (defScope st_Slope_steps) .none kV_Slope_steps dc_Slope_steps pm_Slope_steps an_Slope_steps cd_Slope_steps ct_Slope_steps), sl_Slope_steps⟩)
    (c_Slope_steps : PySem.W.codeIn K cd_Slope_steps "Slope.steps" = true)
    (k_Slope_steps : PySem.W.keepIn K (.ref a_Slope_steps) = true)
    (pa_Slope_common : PySem.W.findIn K (.ref C_Slope) "common" = some (some (.ref p_Slope_common)))
    (pg_Slope_common : PySem.W.specialIn K (.ref p_Slope_common) "__get__" = some (some (.builtin "property.__get__")))
    (pt_Slope_common : PySem.W.takesIn K (.ref p_Slope_common) = some true)
    (pq_Slope_common : PySem.W.recIn K p_Slope_common "property" = some (.ref a_Slope_common :: re_Slope_common))
    (l_Slope_common : K.lookup a_Slope_common = some ⟨oc_Slope_common, od_Slope_common, .func (PySem.W.fnOf "common" "Slope.common" (defArgs st_Slope_common) (defBody st_Slope_common) (defScope st_Slope_common) .none kV_Slope_common dc_Slope_common pm_Slope_common an_Slope_common cd_Slope_common ct_Slope_common), sl_Slope_common⟩)
    (c_Slope_common : PySem.W.codeIn K cd_Slope_common "Slope.common" = true)
    (k_Slope_common : PySem.W.keepIn K (.ref a_Slope_common) = true)
    (pa_Slope_is_coprime : PySem.W.findIn K (.ref C_Slope) "is_coprime" = some (some (.ref p_Slope_is_coprime)))
    (pg_Slope_is_coprime : PySem.W.specialIn K (.ref p_Slope_is_coprime) "__get__" = some (some (.builtin "property.__get__")))
    (pt_Slope_is_coprime : PySem.W.takesIn K (.ref p_Slope_is_coprime) = some true)
    (pq_Slope_is_coprime : PySem.W.recIn K p_Slope_is_coprime "property" = some (.ref a_Slope_is_coprime :: re_Slope_is_coprime))
    (l_Slope_is_coprime : K.lookup a_Slope_is_coprime = some ⟨oc_Slope_is_coprime, od_Slope_is_coprime, .func (PySem.W.fnOf "is_coprime" "Slope.is_coprime" (defArgs st_Slope_is_coprime) (defBody st_Slope_is_coprime) (defScope st_Slope_is_coprime) .none kV_Slope_is_coprime dc_Slope_is_coprime pm_Slope_is_coprime an_Slope_is_coprime cd_Slope_is_coprime ct_Slope_is_coprime), sl_Slope_is_coprime⟩)
    (c_Slope_is_coprime : PySem.W.codeIn K cd_Slope_is_coprime "Slope.is_coprime" = true)
    (k_Slope_is_coprime : PySem.W.keepIn K (.ref a_Slope_is_coprime) = true)
    (pa_Slope_half : PySem.W.findIn K (.ref C_Slope) "half" = some (some (.ref p_Slope_half)))
    (pg_Slope_half : PySem.W.specialIn K (.ref p_Slope_half) "__get__" = some (some (.builtin "property.__get__")))
    (pt_Slope_half : PySem.W.takesIn K (.ref p_Slope_half) = some true)
    (pq_Slope_half : PySem.W.recIn K p_Slope_half "property" = some (.ref a_Slope_half :: re_Slope_half))
    (l_Slope_half : K.lookup a_Slope_half = some ⟨oc_Slope_half, od_Slope_half, .func (PySem.W.fnOf "half" "Slope.half" (defArgs st_Slope_half) (defBody st_Slope_half) (defScope st_Slope_half) .none kV_Slope_half dc_Slope_half pm_Slope_half an_Slope_half cd_Slope_half ct_Slope_half), sl_Slope_half⟩)
    (c_Slope_half : PySem.W.codeIn K cd_Slope_half "Slope.half" = true)
    (k_Slope_half : PySem.W.keepIn K (.ref a_Slope_half) = true)
    (g_check_slope : PySem.W.nsIn K mainGlobals "check_slope" = some (some (.ref a_check_slope)))
    (l_check_slope : K.lookup a_check_slope = some ⟨oc_check_slope, od_check_slope, .func (PySem.W.fnOf "check_slope" "check_slope" (defArgs st_check_slope) (defBody st_check_slope) (defScope st_check_slope) .none kV_check_slope dc_check_slope pm_check_slope an_check_slope cd_check_slope ct_check_slope), sl_check_slope⟩)
    (c_check_slope : PySem.W.codeIn K cd_check_slope "check_slope" = true)
    (k_check_slope : PySem.W.keepIn K (.ref a_check_slope) = true)
    (g_check_coprime : PySem.W.nsIn K mainGlobals "check_coprime" = some (some (.ref a_check_coprime)))
    (l_check_coprime : K.lookup a_check_coprime = some ⟨oc_check_coprime, od_check_coprime, .func (PySem.W.fnOf "check_coprime" "check_coprime" (defArgs st_check_coprime) (defBody st_check_coprime) (defScope st_check_coprime) .none kV_check_coprime dc_check_coprime pm_check_coprime an_check_coprime cd_check_coprime ct_check_coprime), sl_check_coprime⟩)
    (c_check_coprime : PySem.W.codeIn K cd_check_coprime "check_coprime" = true)
    (k_check_coprime : PySem.W.keepIn K (.ref a_check_coprime) = true)
    (g_way_count : PySem.W.nsIn K mainGlobals "way_count" = some (some (.ref a_way_count)))
    (l_way_count : K.lookup a_way_count = some ⟨oc_way_count, od_way_count, .func (PySem.W.fnOf "way_count" "way_count" (defArgs st_way_count) (defBody st_way_count) (defScope st_way_count) .none kV_way_count dc_way_count pm_way_count an_way_count cd_way_count ct_way_count), sl_way_count⟩)
    (c_way_count : PySem.W.codeIn K cd_way_count "way_count" = true)
    (k_way_count : PySem.W.keepIn K (.ref a_way_count) = true)
    (g_sides : PySem.W.nsIn K mainGlobals "sides" = some (some (.ref a_sides)))
    (l_sides : K.lookup a_sides = some ⟨oc_sides, od_sides, .func (PySem.W.fnOf "sides" "sides" (defArgs st_sides) (defBody st_sides) (defScope st_sides) .none kV_sides dc_sides pm_sides an_sides cd_sides ct_sides), sl_sides⟩)
    (c_sides : PySem.W.codeIn K cd_sides "sides" = true)
    (k_sides : PySem.W.keepIn K (.ref a_sides) = true)
    (g_check_polynomial : PySem.W.nsIn K mainGlobals "check_polynomial" = some (some (.ref a_check_polynomial)))
    (l_check_polynomial : K.lookup a_check_polynomial = some ⟨oc_check_polynomial, od_check_polynomial, .func (PySem.W.fnOf "check_polynomial" "check_polynomial" (defArgs st_check_polynomial) (defBody st_check_polynomial) (defScope st_check_polynomial) .none kV_check_polynomial dc_check_polynomial pm_check_polynomial an_check_polynomial cd_check_polynomial ct_check_polynomial), sl_check_polynomial⟩)
    (c_check_polynomial : PySem.W.codeIn K cd_check_polynomial "check_polynomial" = true)
    (k_check_polynomial : PySem.W.keepIn K (.ref a_check_polynomial) = true)
    (g_is_polynomial : PySem.W.nsIn K mainGlobals "is_polynomial" = some (some (.ref a_is_polynomial)))
    (l_is_polynomial : K.lookup a_is_polynomial = some ⟨oc_is_polynomial, od_is_polynomial, .func (PySem.W.fnOf "is_polynomial" "is_polynomial" (defArgs st_is_polynomial) (defBody st_is_polynomial) (defScope st_is_polynomial) .none kV_is_polynomial dc_is_polynomial pm_is_polynomial an_is_polynomial cd_is_polynomial ct_is_polynomial), sl_is_polynomial⟩)
    (c_is_polynomial : PySem.W.codeIn K cd_is_polynomial "is_polynomial" = true)
    (k_is_polynomial : PySem.W.keepIn K (.ref a_is_polynomial) = true)
    (g_trimmed : PySem.W.nsIn K mainGlobals "trimmed" = some (some (.ref a_trimmed)))
    (l_trimmed : K.lookup a_trimmed = some ⟨oc_trimmed, od_trimmed, .func (PySem.W.fnOf "trimmed" "trimmed" (defArgs st_trimmed) (defBody st_trimmed) (defScope st_trimmed) .none kV_trimmed dc_trimmed pm_trimmed an_trimmed cd_trimmed ct_trimmed), sl_trimmed⟩)
    (c_trimmed : PySem.W.codeIn K cd_trimmed "trimmed" = true)
    (k_trimmed : PySem.W.keepIn K (.ref a_trimmed) = true)
    (g_quotient : PySem.W.nsIn K mainGlobals "quotient" = some (some (.ref a_quotient)))
    (l_quotient : K.lookup a_quotient = some ⟨oc_quotient, od_quotient, .func (PySem.W.fnOf "quotient" "quotient" (defArgs st_quotient) (defBody st_quotient) (defScope st_quotient) .none kV_quotient dc_quotient pm_quotient an_quotient cd_quotient ct_quotient), sl_quotient⟩)
    (c_quotient : PySem.W.codeIn K cd_quotient "quotient" = true)
    (k_quotient : PySem.W.keepIn K (.ref a_quotient) = true)
    (g_product_of : PySem.W.nsIn K mainGlobals "product_of" = some (some (.ref a_product_of)))
    (l_product_of : K.lookup a_product_of = some ⟨oc_product_of, od_product_of, .func (PySem.W.fnOf "product_of" "product_of" (defArgs st_product_of) (defBody st_product_of) (defScope st_product_of) .none kV_product_of dc_product_of pm_product_of an_product_of cd_product_of ct_product_of), sl_product_of⟩)
    (c_product_of : PySem.W.codeIn K cd_product_of "product_of" = true)
    (k_product_of : PySem.W.keepIn K (.ref a_product_of) = true)
    (g_times : PySem.W.nsIn K mainGlobals "times" = some (some (.ref a_times)))
    (l_times : K.lookup a_times = some ⟨oc_times, od_times, .func (PySem.W.fnOf "times" "times" (defArgs st_times) (defBody st_times) (defScope st_times) .none kV_times dc_times pm_times an_times cd_times ct_times), sl_times⟩)
    (c_times : PySem.W.codeIn K cd_times "times" = true)
    (k_times : PySem.W.keepIn K (.ref a_times) = true)
    (g_value_at : PySem.W.nsIn K mainGlobals "value_at" = some (some (.ref a_value_at)))
    (l_value_at : K.lookup a_value_at = some ⟨oc_value_at, od_value_at, .func (PySem.W.fnOf "value_at" "value_at" (defArgs st_value_at) (defBody st_value_at) (defScope st_value_at) .none kV_value_at dc_value_at pm_value_at an_value_at cd_value_at ct_value_at), sl_value_at⟩)
    (c_value_at : PySem.W.codeIn K cd_value_at "value_at" = true)
    (k_value_at : PySem.W.keepIn K (.ref a_value_at) = true)
    (g_law_dice : PySem.W.nsIn K mainGlobals "_law_dice" = some (some (.ref a_law_dice)))
    (l_law_dice : K.lookup a_law_dice = some ⟨oc_law_dice, od_law_dice, .func (PySem.W.fnOf "_law_dice" "_law_dice" (defArgs st_law_dice) (defBody st_law_dice) (defScope st_law_dice) .none kV_law_dice dc_law_dice pm_law_dice an_law_dice cd_law_dice ct_law_dice), sl_law_dice⟩)
    (c_law_dice : PySem.W.codeIn K cd_law_dice "_law_dice" = true)
    (k_law_dice : PySem.W.keepIn K (.ref a_law_dice) = true)
    (g_law_roll : PySem.W.nsIn K mainGlobals "_law_roll" = some (some (.ref a_law_roll)))
    (l_law_roll : K.lookup a_law_roll = some ⟨oc_law_roll, od_law_roll, .func (PySem.W.fnOf "_law_roll" "_law_roll" (defArgs st_law_roll) (defBody st_law_roll) (defScope st_law_roll) .none kV_law_roll dc_law_roll pm_law_roll an_law_roll cd_law_roll ct_law_roll), sl_law_roll⟩)
    (c_law_roll : PySem.W.codeIn K cd_law_roll "_law_roll" = true)
    (k_law_roll : PySem.W.keepIn K (.ref a_law_roll) = true)
    (g_law_pick : PySem.W.nsIn K mainGlobals "_law_pick" = some (some (.ref a_law_pick)))
    (l_law_pick : K.lookup a_law_pick = some ⟨oc_law_pick, od_law_pick, .func (PySem.W.fnOf "_law_pick" "_law_pick" (defArgs st_law_pick) (defBody st_law_pick) (defScope st_law_pick) .none kV_law_pick dc_law_pick pm_law_pick an_law_pick cd_law_pick ct_law_pick), sl_law_pick⟩)
    (c_law_pick : PySem.W.codeIn K cd_law_pick "_law_pick" = true)
    (k_law_pick : PySem.W.keepIn K (.ref a_law_pick) = true)
    (g_law_slope : PySem.W.nsIn K mainGlobals "_law_slope" = some (some (.ref a_law_slope)))
    (l_law_slope : K.lookup a_law_slope = some ⟨oc_law_slope, od_law_slope, .func (PySem.W.fnOf "_law_slope" "_law_slope" (defArgs st_law_slope) (defBody st_law_slope) (defScope st_law_slope) .none kV_law_slope dc_law_slope pm_law_slope an_law_slope cd_law_slope ct_law_slope), sl_law_slope⟩)
    (c_law_slope : PySem.W.codeIn K cd_law_slope "_law_slope" = true)
    (k_law_slope : PySem.W.keepIn K (.ref a_law_slope) = true)
    (g_law_quotient : PySem.W.nsIn K mainGlobals "_law_quotient" = some (some (.ref a_law_quotient)))
    (l_law_quotient : K.lookup a_law_quotient = some ⟨oc_law_quotient, od_law_quotient, .func (PySem.W.fnOf "_law_quotient" "_law_quotient" (defArgs st_law_quotient) (defBody st_law_quotient) (defScope st_law_quotient) .none kV_law_quotient dc_law_quotient pm_law_quotient an_law_quotient cd_law_quotient ct_law_quotient), sl_law_quotient⟩)
    (c_law_quotient : PySem.W.codeIn K cd_law_quotient "_law_quotient" = true)
    (k_law_quotient : PySem.W.keepIn K (.ref a_law_quotient) = true)
    (g_law_told : PySem.W.nsIn K mainGlobals "_law_told" = some (some (.ref a_law_told)))
    (l_law_told : K.lookup a_law_told = some ⟨oc_law_told, od_law_told, .func (PySem.W.fnOf "_law_told" "_law_told" (defArgs st_law_told) (defBody st_law_told) (defScope st_law_told) .none kV_law_told dc_law_told pm_law_told an_law_told cd_law_told ct_law_told), sl_law_told⟩)
    (c_law_told : PySem.W.codeIn K cd_law_told "_law_told" = true)
    (k_law_told : PySem.W.keepIn K (.ref a_law_told) = true)
    (g_law_many : PySem.W.nsIn K mainGlobals "_law_many" = some (some (.ref a_law_many)))
    (l_law_many : K.lookup a_law_many = some ⟨oc_law_many, od_law_many, .func (PySem.W.fnOf "_law_many" "_law_many" (defArgs st_law_many) (defBody st_law_many) (defScope st_law_many) .none kV_law_many dc_law_many pm_law_many an_law_many cd_law_many ct_law_many), sl_law_many⟩)
    (c_law_many : PySem.W.codeIn K cd_law_many "_law_many" = true)
    (k_law_many : PySem.W.keepIn K (.ref a_law_many) = true)
    (g_law_product : PySem.W.nsIn K mainGlobals "_law_product" = some (some (.ref a_law_product)))
    (l_law_product : K.lookup a_law_product = some ⟨oc_law_product, od_law_product, .func (PySem.W.fnOf "_law_product" "_law_product" (defArgs st_law_product) (defBody st_law_product) (defScope st_law_product) .none kV_law_product dc_law_product pm_law_product an_law_product cd_law_product ct_law_product), sl_law_product⟩)
    (c_law_product : PySem.W.codeIn K cd_law_product "_law_product" = true)
    (k_law_product : PySem.W.keepIn K (.ref a_law_product) = true)
    (g_law_right : PySem.W.nsIn K mainGlobals "_law_right" = some (some (.ref a_law_right)))
    (l_law_right : K.lookup a_law_right = some ⟨oc_law_right, od_law_right, .func (PySem.W.fnOf "_law_right" "_law_right" (defArgs st_law_right) (defBody st_law_right) (defScope st_law_right) .none kV_law_right dc_law_right pm_law_right an_law_right cd_law_right ct_law_right), sl_law_right⟩)
    (c_law_right : PySem.W.codeIn K cd_law_right "_law_right" = true)
    (k_law_right : PySem.W.keepIn K (.ref a_law_right) = true)
    (g_law_edges : PySem.W.nsIn K mainGlobals "_law_edges" = some (some (.ref a_law_edges)))
    (l_law_edges : K.lookup a_law_edges = some ⟨oc_law_edges, od_law_edges, .func (PySem.W.fnOf "_law_edges" "_law_edges" (defArgs st_law_edges) (defBody st_law_edges) (defScope st_law_edges) .none kV_law_edges dc_law_edges pm_law_edges an_law_edges cd_law_edges ct_law_edges), sl_law_edges⟩)
    (c_law_edges : PySem.W.codeIn K cd_law_edges "_law_edges" = true)
    (k_law_edges : PySem.W.keepIn K (.ref a_law_edges) = true)
    (g_law : PySem.W.nsIn K mainGlobals "law" = some (some (.ref a_law)))
    (l_law : K.lookup a_law = some ⟨oc_law, od_law, .func (PySem.W.fnOf "law" "law" (defArgs st_law) (defBody st_law) (defScope st_law) .none kV_law dc_law pm_law an_law cd_law ct_law), sl_law⟩)
    (c_law : PySem.W.codeIn K cd_law "law" = true)
    (k_law : PySem.W.keepIn K (.ref a_law) = true)
    (c1_Slope : PySem.W.plainGet K C_Slope Str.empty = true)
    (c2_Slope : PySem.W.hasDictIn K C_Slope = true)
    (c3_Slope : PySem.W.plainOver K C_Slope = true)
    (c4_Slope : PySem.W.findIn K (.ref C_Slope) "__setattr__" = some (some (.builtin "object.__setattr__")))
    (c5_Slope : PySem.W.makesIn K C_Slope = true)
    (c6_Slope : PySem.W.keepIn K (.ref C_Slope) = true)
    (na_Slope_rises : PySem.W.findIn K (.ref C_Slope) "_rises" = some none)
    (na_Slope_steps : PySem.W.findIn K (.ref C_Slope) "_steps" = some none)
    (na_Slope_common : PySem.W.findIn K (.ref C_Slope) "_common" = some none)
    (o1_TooMany : PySem.W.excInitIn K C_TooMany Er.bmOverflowError "OverflowError.__new__" = true)
    (o2_TooMany : PySem.W.excOver K C_TooMany Er.bmOverflowError = true)
    (o4_TooMany : PySem.W.findIn K (.ref C_TooMany) "__setattr__" = some (some (.builtin "object.__setattr__")))
    (o3_TooMany : PySem.W.hasDictIn K C_TooMany = true)
    (o5_TooMany : PySem.W.findIn K (.ref C_TooMany) "__getattribute__" = some (some (.builtin "BaseException.__getattribute__")))
    (o6_TooMany : PySem.W.findIn K (.ref C_TooMany) "__getattr__" = some none)
    (o1_Refused : PySem.W.excInitIn K C_Refused Er.bmArithmeticError "ArithmeticError.__new__" = true)
    (o2_Refused : PySem.W.excOver K C_Refused Er.bmArithmeticError = true)
    (o4_Refused : PySem.W.findIn K (.ref C_Refused) "__setattr__" = some (some (.builtin "object.__setattr__")))
    (o3_Refused : PySem.W.hasDictIn K C_Refused = true)
    (o5_Refused : PySem.W.findIn K (.ref C_Refused) "__getattribute__" = some (some (.builtin "BaseException.__getattribute__")))
    (o6_Refused : PySem.W.findIn K (.ref C_Refused) "__getattr__" = some none)
    (ic_Slope : PySem.W.findIn K (.ref C_Slope) "__class__" = some (some (.builtin "object.__class__")))
    (mr_Slope : PySem.W.mroIn K C_Slope (.type "object") = some true)
    (cg : PySem.W.specialIn K (.builtin "object.__class__") "__get__" = some (some (.builtin "getset_descriptor.__get__")))
    (ct : PySem.W.takesIn K (.builtin "object.__class__") = some true)
    (kp_TooMany : PySem.W.keepIn K (.ref C_TooMany) = true)
    (ex_TooMany : PySem.W.subIn K (.ref C_TooMany) (.type "BaseException") = some true)
    (ty_TooMany : PySem.W.typeIn K (.ref C_TooMany) = some (.type "type"))
    (is_TooMany : PySem.W.isClsIn K C_TooMany = true)
    (nf_TooMany : PySem.W.findIn K (.ref C_TooMany) "limit" = some none)
    (kp_Refused : PySem.W.keepIn K (.ref C_Refused) = true)
    (ex_Refused : PySem.W.subIn K (.ref C_Refused) (.type "BaseException") = some true)
    (ty_Refused : PySem.W.typeIn K (.ref C_Refused) = some (.type "type"))
    (is_Refused : PySem.W.isClsIn K C_Refused = true)
    (nf_Refused : PySem.W.findIn K (.ref C_Refused) "reason" = some none)
    (ma_Refused : PySem.W.mroIn K C_Refused (.type "AttributeError") = some false)
    (sb_TooMany_TooMany : PySem.W.subIn K (.ref C_TooMany) (.ref C_TooMany) = some true)
    (sb_Refused_TooMany : PySem.W.subIn K (.ref C_Refused) (.ref C_TooMany) = some false)
    (sb_Refused_Refused : PySem.W.subIn K (.ref C_Refused) (.ref C_Refused) = some true)
    (n_abs : PySem.W.nsIn K mainGlobals "abs" = some none)
    (n_all : PySem.W.nsIn K mainGlobals "all" = some none)
    (n_bool : PySem.W.nsIn K mainGlobals "bool" = some none)
    (n_enumerate : PySem.W.nsIn K mainGlobals "enumerate" = some none)
    (n_int : PySem.W.nsIn K mainGlobals "int" = some none)
    (n_isinstance : PySem.W.nsIn K mainGlobals "isinstance" = some none)
    (n_len : PySem.W.nsIn K mainGlobals "len" = some none)
    (n_list : PySem.W.nsIn K mainGlobals "list" = some none)
    (n_max : PySem.W.nsIn K mainGlobals "max" = some none)
    (n_min : PySem.W.nsIn K mainGlobals "min" = some none)
    (n_range : PySem.W.nsIn K mainGlobals "range" = some none)
    (n_repr : PySem.W.nsIn K mainGlobals "repr" = some none)
    (n_tuple : PySem.W.nsIn K mainGlobals "tuple" = some none)
    (i_comb : PySem.W.nsIn K mainGlobals "comb" = some (some (.builtin "math.comb")))
    (i_gcd : PySem.W.nsIn K mainGlobals "gcd" = some (some (.builtin "math.gcd")))
    (qc_GREATEST : PySem.W.nsIn K mainGlobals "GREATEST" = some (some (.int 999999999999999999999999999999999999999999999999999999999999 t_GREATEST)))
    (qc_MAX_SIDE : PySem.W.nsIn K mainGlobals "MAX_SIDE" = some (some (.int 60 t_MAX_SIDE)))
    (qc_MAX_TERMS : PySem.W.nsIn K mainGlobals "MAX_TERMS" = some (some (.int 400 t_MAX_TERMS)))
    : En.Law l w K 9 63 "_law_script" mg fa h := by
  have e : fa = a_law := Value.ref.inj (Option.some.inj (hfa.symm.trans (PySem.W.mg_of X G g_law)))
  rw [e]
  let T : Tx K mg := {
    C_Slope := C_Slope,
    C_TooMany := C_TooMany,
    C_Refused := C_Refused,
    a_TooMany_init := a_TooMany_init,
    d_TooMany_init := _,
    F_TooMany_init := fun_mk (st := st_TooMany_init) l_TooMany_init c_TooMany_init k_TooMany_init,
    b_TooMany_init := (fun_mk (st := st_TooMany_init) l_TooMany_init c_TooMany_init k_TooMany_init).binds (ps := ["self", "limit"]) fun _ _ _ _ _ _ us hl => match us, hl with | [_, _], _ => rfl,
    a_Refused_init := a_Refused_init,
    d_Refused_init := _,
    F_Refused_init := fun_mk (st := st_Refused_init) l_Refused_init c_Refused_init k_Refused_init,
    b_Refused_init := (fun_mk (st := st_Refused_init) l_Refused_init c_Refused_init k_Refused_init).binds (ps := ["self", "reason"]) fun _ _ _ _ _ _ us hl => match us, hl with | [_, _], _ => rfl,
    a_is_number := a_is_number,
    d_is_number := _,
    F_is_number := fun_mk (st := st_is_number) l_is_number c_is_number k_is_number,
    b_is_number := (fun_mk (st := st_is_number) l_is_number c_is_number k_is_number).binds (ps := ["value"]) fun _ _ _ _ _ _ us hl => match us, hl with | [_], _ => rfl,
    g_is_number := PySem.W.mg_of X G g_is_number,
    a_is_whole_between := a_is_whole_between,
    d_is_whole_between := _,
    F_is_whole_between := fun_mk (st := st_is_whole_between) l_is_whole_between c_is_whole_between k_is_whole_between,
    b_is_whole_between := (fun_mk (st := st_is_whole_between) l_is_whole_between c_is_whole_between k_is_whole_between).binds (ps := ["value", "least", "most"]) fun _ _ _ _ _ _ us hl => match us, hl with | [_, _, _], _ => rfl,
    g_is_whole_between := PySem.W.mg_of X G g_is_whole_between,
    a_is_integer := a_is_integer,
    d_is_integer := _,
    F_is_integer := fun_mk (st := st_is_integer) l_is_integer c_is_integer k_is_integer,
    b_is_integer := (fun_mk (st := st_is_integer) l_is_integer c_is_integer k_is_integer).binds (ps := ["value"]) fun _ _ _ _ _ _ us hl => match us, hl with | [_], _ => rfl,
    g_is_integer := PySem.W.mg_of X G g_is_integer,
    a_check_integer := a_check_integer,
    d_check_integer := _,
    F_check_integer := fun_mk (st := st_check_integer) l_check_integer c_check_integer k_check_integer,
    b_check_integer := (fun_mk (st := st_check_integer) l_check_integer c_check_integer k_check_integer).binds (ps := ["number"]) fun _ _ _ _ _ _ us hl => match us, hl with | [_], _ => rfl,
    g_check_integer := PySem.W.mg_of X G g_check_integer,
    a_Slope_init := a_Slope_init,
    d_Slope_init := _,
    F_Slope_init := fun_mk (st := st_Slope_init) l_Slope_init c_Slope_init k_Slope_init,
    b_Slope_init := (fun_mk (st := st_Slope_init) l_Slope_init c_Slope_init k_Slope_init).binds (ps := ["self", "rises", "steps"]) fun _ _ _ _ _ _ us hl => match us, hl with | [_, _, _], _ => rfl,
    a_Slope_rises := a_Slope_rises,
    d_Slope_rises := _,
    F_Slope_rises := fun_mk (st := st_Slope_rises) l_Slope_rises c_Slope_rises k_Slope_rises,
    b_Slope_rises := (fun_mk (st := st_Slope_rises) l_Slope_rises c_Slope_rises k_Slope_rises).binds (ps := ["self"]) fun _ _ _ _ _ _ us hl => match us, hl with | [_], _ => rfl,
    a_Slope_steps := a_Slope_steps,
    d_Slope_steps := _,
    F_Slope_steps := fun_mk (st := st_Slope_steps) l_Slope_steps c_Slope_steps k_Slope_steps,
    b_Slope_steps := (fun_mk (st := st_Slope_steps) l_Slope_steps c_Slope_steps k_Slope_steps).binds (ps := ["self"]) fun _ _ _ _ _ _ us hl => match us, hl with | [_], _ => rfl,
    a_Slope_common := a_Slope_common,
    d_Slope_common := _,
    F_Slope_common := fun_mk (st := st_Slope_common) l_Slope_common c_Slope_common k_Slope_common,
    b_Slope_common := (fun_mk (st := st_Slope_common) l_Slope_common c_Slope_common k_Slope_common).binds (ps := ["self"]) fun _ _ _ _ _ _ us hl => match us, hl with | [_], _ => rfl,
    a_Slope_is_coprime := a_Slope_is_coprime,
    d_Slope_is_coprime := _,
    F_Slope_is_coprime := fun_mk (st := st_Slope_is_coprime) l_Slope_is_coprime c_Slope_is_coprime k_Slope_is_coprime,
    b_Slope_is_coprime := (fun_mk (st := st_Slope_is_coprime) l_Slope_is_coprime c_Slope_is_coprime k_Slope_is_coprime).binds (ps := ["self"]) fun _ _ _ _ _ _ us hl => match us, hl with | [_], _ => rfl,
    a_Slope_half := a_Slope_half,
    d_Slope_half := _,
    F_Slope_half := fun_mk (st := st_Slope_half) l_Slope_half c_Slope_half k_Slope_half,
    b_Slope_half := (fun_mk (st := st_Slope_half) l_Slope_half c_Slope_half k_Slope_half).binds (ps := ["self"]) fun _ _ _ _ _ _ us hl => match us, hl with | [_], _ => rfl,
    a_check_slope := a_check_slope,
    d_check_slope := _,
    F_check_slope := fun_mk (st := st_check_slope) l_check_slope c_check_slope k_check_slope,
    b_check_slope := (fun_mk (st := st_check_slope) l_check_slope c_check_slope k_check_slope).binds (ps := ["slope"]) fun _ _ _ _ _ _ us hl => match us, hl with | [_], _ => rfl,
    g_check_slope := PySem.W.mg_of X G g_check_slope,
    a_check_coprime := a_check_coprime,
    d_check_coprime := _,
    F_check_coprime := fun_mk (st := st_check_coprime) l_check_coprime c_check_coprime k_check_coprime,
    b_check_coprime := (fun_mk (st := st_check_coprime) l_check_coprime c_check_coprime k_check_coprime).binds (ps := ["slope"]) fun _ _ _ _ _ _ us hl => match us, hl with | [_], _ => rfl,
    g_check_coprime := PySem.W.mg_of X G g_check_coprime,
    a_way_count := a_way_count,
    d_way_count := _,
    F_way_count := fun_mk (st := st_way_count) l_way_count c_way_count k_way_count,
    b_way_count := (fun_mk (st := st_way_count) l_way_count c_way_count k_way_count).binds (ps := ["slope"]) fun _ _ _ _ _ _ us hl => match us, hl with | [_], _ => rfl,
    g_way_count := PySem.W.mg_of X G g_way_count,
    a_sides := a_sides,
    d_sides := _,
    F_sides := fun_mk (st := st_sides) l_sides c_sides k_sides,
    b_sides := (fun_mk (st := st_sides) l_sides c_sides k_sides).binds (ps := ["slope"]) fun _ _ _ _ _ _ us hl => match us, hl with | [_], _ => rfl,
    g_sides := PySem.W.mg_of X G g_sides,
    a_check_polynomial := a_check_polynomial,
    d_check_polynomial := _,
    F_check_polynomial := fun_mk (st := st_check_polynomial) l_check_polynomial c_check_polynomial k_check_polynomial,
    b_check_polynomial := (fun_mk (st := st_check_polynomial) l_check_polynomial c_check_polynomial k_check_polynomial).binds (ps := ["polynomial"]) fun _ _ _ _ _ _ us hl => match us, hl with | [_], _ => rfl,
    g_check_polynomial := PySem.W.mg_of X G g_check_polynomial,
    a_is_polynomial := a_is_polynomial,
    d_is_polynomial := _,
    F_is_polynomial := fun_mk (st := st_is_polynomial) l_is_polynomial c_is_polynomial k_is_polynomial,
    b_is_polynomial := (fun_mk (st := st_is_polynomial) l_is_polynomial c_is_polynomial k_is_polynomial).binds (ps := ["value"]) fun _ _ _ _ _ _ us hl => match us, hl with | [_], _ => rfl,
    g_is_polynomial := PySem.W.mg_of X G g_is_polynomial,
    a_trimmed := a_trimmed,
    d_trimmed := _,
    F_trimmed := fun_mk (st := st_trimmed) l_trimmed c_trimmed k_trimmed,
    b_trimmed := (fun_mk (st := st_trimmed) l_trimmed c_trimmed k_trimmed).binds (ps := ["terms"]) fun _ _ _ _ _ _ us hl => match us, hl with | [_], _ => rfl,
    g_trimmed := PySem.W.mg_of X G g_trimmed,
    a_quotient := a_quotient,
    d_quotient := _,
    F_quotient := fun_mk (st := st_quotient) l_quotient c_quotient k_quotient,
    b_quotient := (fun_mk (st := st_quotient) l_quotient c_quotient k_quotient).binds (ps := ["slope"]) fun _ _ _ _ _ _ us hl => match us, hl with | [_], _ => rfl,
    g_quotient := PySem.W.mg_of X G g_quotient,
    a_product_of := a_product_of,
    d_product_of := _,
    F_product_of := fun_mk (st := st_product_of) l_product_of c_product_of k_product_of,
    b_product_of := (fun_mk (st := st_product_of) l_product_of c_product_of k_product_of).binds (ps := ["one", "other"]) fun _ _ _ _ _ _ us hl => match us, hl with | [_, _], _ => rfl,
    g_product_of := PySem.W.mg_of X G g_product_of,
    a_times := a_times,
    d_times := _,
    F_times := fun_mk (st := st_times) l_times c_times k_times,
    b_times := (fun_mk (st := st_times) l_times c_times k_times).binds (ps := ["one", "other"]) fun _ _ _ _ _ _ us hl => match us, hl with | [_, _], _ => rfl,
    g_times := PySem.W.mg_of X G g_times,
    a_value_at := a_value_at,
    d_value_at := _,
    F_value_at := fun_mk (st := st_value_at) l_value_at c_value_at k_value_at,
    b_value_at := (fun_mk (st := st_value_at) l_value_at c_value_at k_value_at).binds (ps := ["polynomial", "x"]) fun _ _ _ _ _ _ us hl => match us, hl with | [_, _], _ => rfl,
    g_value_at := PySem.W.mg_of X G g_value_at,
    a_law_dice := a_law_dice,
    d_law_dice := _,
    F_law_dice := fun_mk (st := st_law_dice) l_law_dice c_law_dice k_law_dice,
    b_law_dice := (fun_mk (st := st_law_dice) l_law_dice c_law_dice k_law_dice).binds (ps := ["_law_script", "_law_spot"]) fun _ _ _ _ _ _ us hl => match us, hl with | [_, _], _ => rfl,
    g_law_dice := PySem.W.mg_of X G g_law_dice,
    a_law_roll := a_law_roll,
    d_law_roll := _,
    F_law_roll := fun_mk (st := st_law_roll) l_law_roll c_law_roll k_law_roll,
    b_law_roll := (fun_mk (st := st_law_roll) l_law_roll c_law_roll k_law_roll).binds (ps := ["_law_dice_here", "_law_total"]) fun _ _ _ _ _ _ us hl => match us, hl with | [_, _], _ => rfl,
    g_law_roll := PySem.W.mg_of X G g_law_roll,
    a_law_pick := a_law_pick,
    d_law_pick := _,
    F_law_pick := fun_mk (st := st_law_pick) l_law_pick c_law_pick k_law_pick,
    b_law_pick := (fun_mk (st := st_law_pick) l_law_pick c_law_pick k_law_pick).binds (ps := ["_law_dice_here", "_law_items"]) fun _ _ _ _ _ _ us hl => match us, hl with | [_, _], _ => rfl,
    g_law_pick := PySem.W.mg_of X G g_law_pick,
    a_law_slope := a_law_slope,
    d_law_slope := _,
    F_law_slope := fun_mk (st := st_law_slope) l_law_slope c_law_slope k_law_slope,
    b_law_slope := (fun_mk (st := st_law_slope) l_law_slope c_law_slope k_law_slope).binds (ps := ["_law_dice_here", "_law_total"]) fun _ _ _ _ _ _ us hl => match us, hl with | [_, _], _ => rfl,
    g_law_slope := PySem.W.mg_of X G g_law_slope,
    a_law_quotient := a_law_quotient,
    d_law_quotient := _,
    F_law_quotient := fun_mk (st := st_law_quotient) l_law_quotient c_law_quotient k_law_quotient,
    b_law_quotient := (fun_mk (st := st_law_quotient) l_law_quotient c_law_quotient k_law_quotient).binds (ps := ["_law_rises", "_law_steps"]) fun _ _ _ _ _ _ us hl => match us, hl with | [_, _], _ => rfl,
    g_law_quotient := PySem.W.mg_of X G g_law_quotient,
    a_law_told := a_law_told,
    d_law_told := _,
    F_law_told := fun_mk (st := st_law_told) l_law_told c_law_told k_law_told,
    b_law_told := (fun_mk (st := st_law_told) l_law_told c_law_told k_law_told).binds (ps := ["_law_rises", "_law_steps"]) fun _ _ _ _ _ _ us hl => match us, hl with | [_, _], _ => rfl,
    g_law_told := PySem.W.mg_of X G g_law_told,
    a_law_many := a_law_many,
    d_law_many := _,
    F_law_many := fun_mk (st := st_law_many) l_law_many c_law_many k_law_many,
    b_law_many := (fun_mk (st := st_law_many) l_law_many c_law_many k_law_many).binds (ps := ["_law_number"]) fun _ _ _ _ _ _ us hl => match us, hl with | [_], _ => rfl,
    g_law_many := PySem.W.mg_of X G g_law_many,
    a_law_product := a_law_product,
    d_law_product := _,
    F_law_product := fun_mk (st := st_law_product) l_law_product c_law_product k_law_product,
    b_law_product := (fun_mk (st := st_law_product) l_law_product c_law_product k_law_product).binds (ps := ["_law_rises", "_law_steps", "_law_told_here"]) fun _ _ _ _ _ _ us hl => match us, hl with | [_, _, _], _ => rfl,
    g_law_product := PySem.W.mg_of X G g_law_product,
    a_law_right := a_law_right,
    d_law_right := _,
    F_law_right := fun_mk (st := st_law_right) l_law_right c_law_right k_law_right,
    b_law_right := (fun_mk (st := st_law_right) l_law_right c_law_right k_law_right).binds (ps := ["_law_dice_here"]) fun _ _ _ _ _ _ us hl => match us, hl with | [_], _ => rfl,
    g_law_right := PySem.W.mg_of X G g_law_right,
    a_law_edges := a_law_edges,
    d_law_edges := _,
    F_law_edges := fun_mk (st := st_law_edges) l_law_edges c_law_edges k_law_edges,
    b_law_edges := (fun_mk (st := st_law_edges) l_law_edges c_law_edges k_law_edges).binds (ps := []) fun _ _ _ _ _ _ us hl => match us, hl with | [], _ => rfl,
    g_law_edges := PySem.W.mg_of X G g_law_edges,
    a_law := a_law,
    d_law := _,
    F_law := fun_mk (st := st_law) l_law c_law k_law,
    b_law := (fun_mk (st := st_law) l_law c_law k_law).binds (ps := ["_law_script"]) fun _ _ _ _ _ _ us hl => match us, hl with | [_], _ => rfl,
    g_law := PySem.W.mg_of X G g_law,
    g_Slope := PySem.W.mg_of X G g_Slope,
    cl_Slope := ⟨c1_Slope, c2_Slope, c3_Slope, c4_Slope⟩,
    na_Slope_rises := na_Slope_rises,
    na_Slope_steps := na_Slope_steps,
    na_Slope_common := na_Slope_common,
    mk_Slope := ⟨c5_Slope, m_Slope_init, f_Slope_init, c6_Slope⟩,
    p_Slope_rises := p_Slope_rises,
    pr_Slope_rises := ⟨pa_Slope_rises, pg_Slope_rises, pt_Slope_rises, ⟨_, pq_Slope_rises⟩⟩,
    p_Slope_steps := p_Slope_steps,
    pr_Slope_steps := ⟨pa_Slope_steps, pg_Slope_steps, pt_Slope_steps, ⟨_, pq_Slope_steps⟩⟩,
    p_Slope_common := p_Slope_common,
    pr_Slope_common := ⟨pa_Slope_common, pg_Slope_common, pt_Slope_common, ⟨_, pq_Slope_common⟩⟩,
    p_Slope_is_coprime := p_Slope_is_coprime,
    pr_Slope_is_coprime := ⟨pa_Slope_is_coprime, pg_Slope_is_coprime, pt_Slope_is_coprime, ⟨_, pq_Slope_is_coprime⟩⟩,
    p_Slope_half := p_Slope_half,
    pr_Slope_half := ⟨pa_Slope_half, pg_Slope_half, pt_Slope_half, ⟨_, pq_Slope_half⟩⟩,
    ic_Slope := ic_Slope,
    mr_Slope := mr_Slope,
    ks_Slope := Sx.kit_self,
    cg := cg,
    ct := ct,
    g_TooMany := PySem.W.mg_of X G g_TooMany,
    kp_TooMany := kp_TooMany,
    ex_TooMany := ex_TooMany,
    ty_TooMany := ty_TooMany,
    is_TooMany := is_TooMany,
    xf_TooMany := ⟨o5_TooMany, o6_TooMany, ex_TooMany, o3_TooMany⟩,
    nf_TooMany := nf_TooMany,
    ow_TooMany := ⟨o1_TooMany, o2_TooMany, o3_TooMany, o4_TooMany, m_TooMany_init, f_TooMany_init, kp_TooMany, ex_TooMany, ty_TooMany, o5_TooMany, o6_TooMany⟩,
    g_Refused := PySem.W.mg_of X G g_Refused,
    kp_Refused := kp_Refused,
    ex_Refused := ex_Refused,
    ty_Refused := ty_Refused,
    is_Refused := is_Refused,
    xf_Refused := ⟨o5_Refused, o6_Refused, ex_Refused, o3_Refused⟩,
    nf_Refused := nf_Refused,
    ma_Refused := ma_Refused,
    ow_Refused := ⟨o1_Refused, o2_Refused, o3_Refused, o4_Refused, m_Refused_init, f_Refused_init, kp_Refused, ex_Refused, ty_Refused, o5_Refused, o6_Refused⟩,
    sb_TooMany_TooMany := sb_TooMany_TooMany,
    sb_Refused_TooMany := sb_Refused_TooMany,
    sb_Refused_Refused := sb_Refused_Refused,
    n_abs := PySem.W.mg_none_of X G n_abs,
    n_all := PySem.W.mg_none_of X G n_all,
    n_bool := PySem.W.mg_none_of X G n_bool,
    n_enumerate := PySem.W.mg_none_of X G n_enumerate,
    n_int := PySem.W.mg_none_of X G n_int,
    n_isinstance := PySem.W.mg_none_of X G n_isinstance,
    n_len := PySem.W.mg_none_of X G n_len,
    n_list := PySem.W.mg_none_of X G n_list,
    n_max := PySem.W.mg_none_of X G n_max,
    n_min := PySem.W.mg_none_of X G n_min,
    n_range := PySem.W.mg_none_of X G n_range,
    n_repr := PySem.W.mg_none_of X G n_repr,
    n_tuple := PySem.W.mg_none_of X G n_tuple,
    i_comb := PySem.W.mg_of X G i_comb,
    i_gcd := PySem.W.mg_of X G i_gcd,
    c_GREATEST := ⟨_, PySem.W.mg_of X G qc_GREATEST, ⟨_, rfl⟩⟩,
    c_MAX_SIDE := ⟨_, PySem.W.mg_of X G qc_MAX_SIDE, ⟨_, rfl⟩⟩,
    c_MAX_TERMS := ⟨_, PySem.W.mg_of X G qc_MAX_TERMS, ⟨_, rfl⟩⟩
  }
  refine ⟨_, [], spLaw K T, ?_, fun s v => .of_eq rfl, ?_, fun base _ _ _ => ok_law T trivial⟩
  · intro p hp
    cases hp
  · intro H a ns hl _ hS
    exact ⟨a, ns, rfl, hS, hl, fun _ => rfl⟩
end Lw
open PySem PySem.W PyProof.Rows
set_option maxRecDepth 100000 in
set_option maxHeartbeats 0 in
theorem PySem.Challenge.cw_slantways_k47_whole_quotients_holds : PySem.Challenge.rw_slantways_k47_whole_quotients.Holds := by
  w_on; o_law; k_head; (case hw => w_witness2)
  k_fill
  refine En.walkG (l := PySem.Challenge.rw_slantways_k47_whole_quotients) (n := 63) (k := 9) (x := "_law_script") rfl (by decide) rfl ⟨rfl, by decide, by decide⟩ (fun w h Y => PySem.W.kIn_of Y) ?F
  case F =>
    intro w mg fa h Y KX G hmg
    refine' Lw.all_mk KX G hmg ?g_Slope ?g_TooMany ?g_Refused ?m_TooMany_init ?f_TooMany_init ?l_TooMany_init ?c_TooMany_init ?k_TooMany_init ?m_Refused_init ?f_Refused_init ?l_Refused_init ?c_Refused_init ?k_Refused_init ?g_is_number ?l_is_number ?c_is_number ?k_is_number ?g_is_whole_between ?l_is_whole_between ?c_is_whole_between ?k_is_whole_between ?g_is_integer ?l_is_integer ?c_is_integer ?k_is_integer ?g_check_integer ?l_check_integer ?c_check_integer ?k_check_integer ?m_Slope_init ?f_Slope_init ?l_Slope_init ?c_Slope_init ?k_Slope_init ?pa_Slope_rises ?pg_Slope_rises ?pt_Slope_rises ?pq_Slope_rises ?l_Slope_rises ?c_Slope_rises ?k_Slope_rises ?pa_Slope_steps ?pg_Slope_steps ?pt_Slope_steps ?pq_Slope_steps ?l_Slope_steps ?c_Slope_steps ?k_Slope_steps ?pa_Slope_common ?pg_Slope_common ?pt_Slope_common ?pq_Slope_common ?l_Slope_common ?c_Slope_common ?k_Slope_common ?pa_Slope_is_coprime ?pg_Slope_is_coprime ?pt_Slope_is_coprime ?pq_Slope_is_coprime ?l_Slope_is_coprime ?c_Slope_is_coprime ?k_Slope_is_coprime ?pa_Slope_half ?pg_Slope_half ?pt_Slope_half ?pq_Slope_half ?l_Slope_half ?c_Slope_half ?k_Slope_half ?g_check_slope ?l_check_slope ?c_check_slope ?k_check_slope ?g_check_coprime ?l_check_coprime ?c_check_coprime ?k_check_coprime ?g_way_count ?l_way_count ?c_way_count ?k_way_count ?g_sides ?l_sides ?c_sides ?k_sides ?g_check_polynomial ?l_check_polynomial ?c_check_polynomial ?k_check_polynomial ?g_is_polynomial ?l_is_polynomial ?c_is_polynomial ?k_is_polynomial ?g_trimmed ?l_trimmed ?c_trimmed ?k_trimmed ?g_quotient ?l_quotient ?c_quotient ?k_quotient ?g_product_of ?l_product_of ?c_product_of ?k_product_of ?g_times ?l_times ?c_times ?k_times ?g_value_at ?l_value_at ?c_value_at ?k_value_at ?g_law_dice ?l_law_dice ?c_law_dice ?k_law_dice ?g_law_roll ?l_law_roll ?c_law_roll ?k_law_roll ?g_law_pick ?l_law_pick ?c_law_pick ?k_law_pick ?g_law_slope ?l_law_slope ?c_law_slope ?k_law_slope ?g_law_quotient ?l_law_quotient ?c_law_quotient ?k_law_quotient ?g_law_told ?l_law_told ?c_law_told ?k_law_told ?g_law_many ?l_law_many ?c_law_many ?k_law_many ?g_law_product ?l_law_product ?c_law_product ?k_law_product ?g_law_right ?l_law_right ?c_law_right ?k_law_right ?g_law_edges ?l_law_edges ?c_law_edges ?k_law_edges ?g_law ?l_law ?c_law ?k_law ?c1_Slope ?c2_Slope ?c3_Slope ?c4_Slope ?c5_Slope ?c6_Slope ?na_Slope_rises ?na_Slope_steps ?na_Slope_common ?o1_TooMany ?o2_TooMany ?o4_TooMany ?o3_TooMany ?o5_TooMany ?o6_TooMany ?o1_Refused ?o2_Refused ?o4_Refused ?o3_Refused ?o5_Refused ?o6_Refused ?ic_Slope ?mr_Slope ?cg ?ct ?kp_TooMany ?ex_TooMany ?ty_TooMany ?is_TooMany ?nf_TooMany ?kp_Refused ?ex_Refused ?ty_Refused ?is_Refused ?nf_Refused ?ma_Refused ?sb_TooMany_TooMany ?sb_Refused_TooMany ?sb_Refused_Refused ?n_abs ?n_all ?n_bool ?n_enumerate ?n_int ?n_isinstance ?n_len ?n_list ?n_max ?n_min ?n_range ?n_repr ?n_tuple ?i_comb ?i_gcd ?qc_GREATEST ?qc_MAX_SIDE ?qc_MAX_TERMS
    (case g_Slope => k_is)
    (case g_TooMany => k_is)
    (case g_Refused => k_is)
    (case m_TooMany_init => k_is)
    (case f_TooMany_init => k_is)
    (case l_TooMany_init => k_is)
    (case c_TooMany_init => k_is)
    (case k_TooMany_init => k_is)
    (case m_Refused_init => k_is)
    (case f_Refused_init => k_is)
    (case l_Refused_init => k_is)
    (case c_Refused_init => k_is)
    (case k_Refused_init => k_is)
    (case g_is_number => k_is)
    (case l_is_number => k_is)
    (case c_is_number => k_is)
    (case k_is_number => k_is)
    (case g_is_whole_between => k_is)
    (case l_is_whole_between => k_is)
    (case c_is_whole_between => k_is)
    (case k_is_whole_between => k_is)
    (case g_is_integer => k_is)
    (case l_is_integer => k_is)
    (case c_is_integer => k_is)
    (case k_is_integer => k_is)
    (case g_check_integer => k_is)
    (case l_check_integer => k_is)
    (case c_check_integer => k_is)
    (case k_check_integer => k_is)
    (case m_Slope_init => k_is)
    (case f_Slope_init => k_is)
    (case l_Slope_init => k_is)
    (case c_Slope_init => k_is)
    (case k_Slope_init => k_is)
    (case pa_Slope_rises => k_is)
    (case pg_Slope_rises => k_is)
    (case pt_Slope_rises => k_is)
    (case pq_Slope_rises => k_is)
    (case l_Slope_rises => k_is)
    (case c_Slope_rises => k_is)
    (case k_Slope_rises => k_is)
    (case pa_Slope_steps => k_is)
    (case pg_Slope_steps => k_is)
    (case pt_Slope_steps => k_is)
    (case pq_Slope_steps => k_is)
    (case l_Slope_steps => k_is)
    (case c_Slope_steps => k_is)
    (case k_Slope_steps => k_is)
    (case pa_Slope_common => k_is)
    (case pg_Slope_common => k_is)
    (case pt_Slope_common => k_is)
    (case pq_Slope_common => k_is)
    (case l_Slope_common => k_is)
    (case c_Slope_common => k_is)
    (case k_Slope_common => k_is)
    (case pa_Slope_is_coprime => k_is)
    (case pg_Slope_is_coprime => k_is)
    (case pt_Slope_is_coprime => k_is)
    (case pq_Slope_is_coprime => k_is)
    (case l_Slope_is_coprime => k_is)
    (case c_Slope_is_coprime => k_is)
    (case k_Slope_is_coprime => k_is)
    (case pa_Slope_half => k_is)
    (case pg_Slope_half => k_is)
    (case pt_Slope_half => k_is)
    (case pq_Slope_half => k_is)
    (case l_Slope_half => k_is)
    (case c_Slope_half => k_is)
    (case k_Slope_half => k_is)
    (case g_check_slope => k_is)
    (case l_check_slope => k_is)
    (case c_check_slope => k_is)
    (case k_check_slope => k_is)
    (case g_check_coprime => k_is)
    (case l_check_coprime => k_is)
    (case c_check_coprime => k_is)
    (case k_check_coprime => k_is)
    (case g_way_count => k_is)
    (case l_way_count => k_is)
    (case c_way_count => k_is)
    (case k_way_count => k_is)
    (case g_sides => k_is)
    (case l_sides => k_is)
    (case c_sides => k_is)
    (case k_sides => k_is)
    (case g_check_polynomial => k_is)
    (case l_check_polynomial => k_is)
    (case c_check_polynomial => k_is)
    (case k_check_polynomial => k_is)
    (case g_is_polynomial => k_is)
    (case l_is_polynomial => k_is)
    (case c_is_polynomial => k_is)
    (case k_is_polynomial => k_is)
    (case g_trimmed => k_is)
    (case l_trimmed => k_is)
    (case c_trimmed => k_is)
    (case k_trimmed => k_is)
    (case g_quotient => k_is)
    (case l_quotient => k_is)
    (case c_quotient => k_is)
    (case k_quotient => k_is)
    (case g_product_of => k_is)
    (case l_product_of => k_is)
    (case c_product_of => k_is)
    (case k_product_of => k_is)
    (case g_times => k_is)
    (case l_times => k_is)
    (case c_times => k_is)
    (case k_times => k_is)
    (case g_value_at => k_is)
    (case l_value_at => k_is)
    (case c_value_at => k_is)
    (case k_value_at => k_is)
    (case g_law_dice => k_is)
    (case l_law_dice => k_is)
    (case c_law_dice => k_is)
    (case k_law_dice => k_is)
    (case g_law_roll => k_is)
    (case l_law_roll => k_is)
    (case c_law_roll => k_is)
    (case k_law_roll => k_is)
    (case g_law_pick => k_is)
    (case l_law_pick => k_is)
    (case c_law_pick => k_is)
    (case k_law_pick => k_is)
    (case g_law_slope => k_is)
    (case l_law_slope => k_is)
    (case c_law_slope => k_is)
    (case k_law_slope => k_is)
    (case g_law_quotient => k_is)
    (case l_law_quotient => k_is)
    (case c_law_quotient => k_is)
    (case k_law_quotient => k_is)
    (case g_law_told => k_is)
    (case l_law_told => k_is)
    (case c_law_told => k_is)
    (case k_law_told => k_is)
    (case g_law_many => k_is)
    (case l_law_many => k_is)
    (case c_law_many => k_is)
    (case k_law_many => k_is)
    (case g_law_product => k_is)
    (case l_law_product => k_is)
    (case c_law_product => k_is)
    (case k_law_product => k_is)
    (case g_law_right => k_is)
    (case l_law_right => k_is)
    (case c_law_right => k_is)
    (case k_law_right => k_is)
    (case g_law_edges => k_is)
    (case l_law_edges => k_is)
    (case c_law_edges => k_is)
    (case k_law_edges => k_is)
    (case g_law => k_is)
    (case l_law => k_is)
    (case c_law => k_is)
    (case k_law => k_is)
    (case c1_Slope => k_is)
    (case c2_Slope => k_is)
    (case c3_Slope => k_is)
    (case c4_Slope => k_is)
    (case c5_Slope => k_is)
    (case c6_Slope => k_is)
    (case na_Slope_rises => k_is)
    (case na_Slope_steps => k_is)
    (case na_Slope_common => k_is)
    (case o1_TooMany => first | k_is | kernel_rfl | rfl)
    (case o2_TooMany => first | k_is | kernel_rfl | rfl)
    (case o4_TooMany => k_is)
    (case o3_TooMany => k_is)
    (case o5_TooMany => k_is)
    (case o6_TooMany => k_is)
    (case o1_Refused => first | k_is | kernel_rfl | rfl)
    (case o2_Refused => first | k_is | kernel_rfl | rfl)
    (case o4_Refused => k_is)
    (case o3_Refused => k_is)
    (case o5_Refused => k_is)
    (case o6_Refused => k_is)
    (case ic_Slope => k_is)
    (case mr_Slope => k_is)
    (case cg => k_is)
    (case ct => k_is)
    (case kp_TooMany => k_is)
    (case ex_TooMany => k_is)
    (case ty_TooMany => k_is)
    (case is_TooMany => first | k_is | kernel_rfl | rfl)
    (case nf_TooMany => k_is)
    (case kp_Refused => k_is)
    (case ex_Refused => k_is)
    (case ty_Refused => k_is)
    (case is_Refused => first | k_is | kernel_rfl | rfl)
    (case nf_Refused => k_is)
    (case ma_Refused => k_is)
    (case sb_TooMany_TooMany => k_is)
    (case sb_Refused_TooMany => k_is)
    (case sb_Refused_Refused => k_is)
    (case n_abs => k_is)
    (case n_all => k_is)
    (case n_bool => k_is)
    (case n_enumerate => k_is)
    (case n_int => k_is)
    (case n_isinstance => k_is)
    (case n_len => k_is)
    (case n_list => k_is)
    (case n_max => k_is)
    (case n_min => k_is)
    (case n_range => k_is)
    (case n_repr => k_is)
    (case n_tuple => k_is)
    (case i_comb => k_is)
    (case i_gcd => k_is)
    (case qc_GREATEST => k_is)
    (case qc_MAX_SIDE => k_is)
    (case qc_MAX_TERMS => k_is)
