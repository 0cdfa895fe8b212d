import PyProof.Rows.All
import Wide.All
import OpenK.AllK
import Wide.FinOn
import HandS.ForMost
import HandS.Wide
import HandS.Gcd
import HandS.Property
import HandS.IsInst
import HandS.Codes
import HandS.TupAny
import HandS.Style
import HandS.RaiseMore
import HandS.SortInts
import HandS.StrMore
import HandS.Conv
import HandS.Zip
import HandS.Rev
import HandS.FStr
import KE.GoesEnum
import PyProof.ListStr
import PyProof.StrOps2
import HandS.Iter
import HandS.Walk
import HandS.SlotsOwn
import KE.LtData
import PyProof.Rows.StrRev
import HandS.WordsList
import HandS.Exc
import HandS.TryMany
import KE.KExcInit
import HandS.ExcInit
import HandS.ExcField
import HandS.ExcOwn
import HandS.Lambda
import HandS.EndTab
import KE.KNestM
import PyProof.ReprRoads
import HandS.WordsExc
import PySem.Challenge.RW_slantways_k04_whole_ways_by_number
set_option Elab.async false
set_option linter.all false
set_option maxRecDepth 100000
set_option maxHeartbeats 4000000
/-! Sx: small steps over readings, heaps that only grow, dice. -/
namespace Sx
open PySem PySem.Spec PyProof.Rows L2

/-! ### the built-ins by name -/
theorem bt_len : bootBuiltins "len" = some (.builtin "len") := by decide +kernel
theorem bt_abs : bootBuiltins "abs" = some (.builtin "abs") := by decide +kernel
theorem bt_max : bootBuiltins "max" = some (.builtin "max") := by decide +kernel
theorem bt_min : bootBuiltins "min" = some (.builtin "min") := by decide +kernel
theorem bt_sum : bootBuiltins "sum" = some (.builtin "sum") := by decide +kernel
theorem bt_any : bootBuiltins "any" = some (.builtin "any") := by decide +kernel
theorem bt_all : bootBuiltins "all" = some (.builtin "all") := by decide +kernel
theorem bt_sorted : bootBuiltins "sorted" = some (.builtin "sorted") := by decide +kernel
theorem bt_isinstance : bootBuiltins "isinstance" = some (.builtin "isinstance") := by decide +kernel
theorem bt_ord : bootBuiltins "ord" = some (.builtin "ord") := by decide +kernel
theorem bt_chr : bootBuiltins "chr" = some (.builtin "chr") := by decide +kernel
theorem bt_repr : bootBuiltins "repr" = some (.builtin "repr") := by decide +kernel
theorem bt_int : bootBuiltins "int" = some (.type "int") := by decide +kernel
theorem bt_str : bootBuiltins "str" = some (.type "str") := by decide +kernel
theorem bt_bool : bootBuiltins "bool" = some (.type "bool") := by decide +kernel
theorem bt_list : bootBuiltins "list" = some (.type "list") := by decide +kernel
theorem bt_tuple : bootBuiltins "tuple" = some (.type "tuple") := by decide +kernel
theorem bt_range : bootBuiltins "range" = some (.type "range") := by decide +kernel

/-! ### steps: one lemma for each head of a reading -/
section
variable {σ : L2.St} {H : Hp} {nx bk ct : L2.St → Hp → Prop} {rt Q : VK} {ta tb tc te : TE} {tt uu : TT} {t u : TS} {tl : TA} {x y v : V} {r : R2}
theorem r_st {t : TS} {D : Ends} {σ σ' : L2.St} {H : Hp} (e : σ = σ') (h : t D σ' H) : t D σ H := by rw [e]; exact h
theorem r_seq (h : t ⟨u ⟨nx, rt, bk, ct⟩, rt, bk, ct⟩ σ H) : tSeq t u ⟨nx, rt, bk, ct⟩ σ H := h
theorem r_next (h : nx σ H) : tNext ⟨nx, rt, bk, ct⟩ σ H := h
theorem r_break (h : bk σ H) : tBreak ⟨nx, rt, bk, ct⟩ σ H := h
theorem r_cont (h : ct σ H) : tCont ⟨nx, rt, bk, ct⟩ σ H := h
theorem r_asg {g : TG} (h : te σ H fun x H1 => g x σ H1 nx) : tAsg te g ⟨nx, rt, bk, ct⟩ σ H := h
theorem r_name {i : Nat} {k : L2.St → Hp → Prop} (h : k (σ.set i (some v)) H) : gName i v σ H k := h
theorem r_ret (h : te σ H rt) : tRet te ⟨nx, rt, bk, ct⟩ σ H := h
theorem r_retN (h : rt .non H) : tRetN ⟨nx, rt, bk, ct⟩ σ H := h
theorem r_drop (h : te σ H fun _ H1 => nx σ H1) : tDrop te ⟨nx, rt, bk, ct⟩ σ H := h
theorem r_ifs (h : tt σ H fun b H1 => if b = true then t ⟨nx, rt, bk, ct⟩ σ H1 else u ⟨nx, rt, bk, ct⟩ σ H1) : tIfS tt t u ⟨nx, rt, bk, ct⟩ σ H := h
theorem r_par {i j : Nat} (h : tl σ H fun vs H1 => ∃ v w, vs = [v, w] ∧ nx ((σ.set i (some v)).set j (some w)) H1) : tPar i j tl ⟨nx, rt, bk, ct⟩ σ H := h
theorem r_par3 {i j l : Nat} (h : tl σ H fun vs H1 => ∃ u v w, vs = [u, v, w] ∧ nx (((σ.set i (some u)).set j (some v)).set l (some w)) H1) : tPar3 i j l tl ⟨nx, rt, bk, ct⟩ σ H := h
theorem r_two {P : V → V → Prop} {a b : V} (h : P a b) : ∃ v w, [a, b] = [v, w] ∧ P v w := ⟨a, b, rfl, h⟩
theorem r_three {P : V → V → V → Prop} {a b c : V} (h : P a b c) : ∃ u v w, [a, b, c] = [u, v, w] ∧ P u v w := ⟨a, b, c, rfl, h⟩
theorem r_var {i : Nat} (e : σ[i]? = some (some v)) (h : Q v H) : tVar i σ H Q := ⟨v, e, h⟩
theorem r_c (h : Q v H) : tC v σ H Q := h
theorem r_op (h : ta σ H fun x H1 => tb σ H1 fun y H2 => r x y H2 Q) : tOp r ta tb σ H Q := h
theorem r_un {f : V → Hp → VK → Prop} (h : ta σ H fun x H1 => f x H1 Q) : tUn f ta σ H Q := h
theorem r_I0 {g : Int → Int → V} {i j : Int} (h : Q (g i j) H) : rI0 g (.int i) (.int j) H Q := ⟨i, j, rfl, rfl, h⟩
theorem r_I {C : Int → Int → Prop} {g : Int → Int → V} {i j : Int} (hc : C i j) (h : Q (g i j) H) : rI C g (.int i) (.int j) H Q := ⟨i, j, rfl, rfl, hc, h⟩
theorem r_U {g : Int → V} {i : Int} (h : Q (g i) H) : rU g (.int i) H Q := ⟨i, rfl, h⟩
theorem dI {i j : Int} : decide (V.int i = V.int j) = decide (i = j) := by simp
theorem dS {i j : Str} : decide (V.str i = V.str j) = decide (i = j) := by simp
theorem dB {i j : Bool} : decide (V.bl i = V.bl j) = decide (i = j) := by simp
theorem r_eqI {i j : Int} (h : Q (.bl (decide (i = j))) H) : rEq (.int i) (.int j) H Q := ⟨rfl, by rw [dI]; exact h⟩
theorem r_neI {i j : Int} (h : Q (.bl (!decide (i = j))) H) : rNe (.int i) (.int j) H Q := ⟨rfl, by rw [dI]; exact h⟩
theorem r_eqS {i j : Str} (h : Q (.bl (decide (i = j))) H) : rEq (.str i) (.str j) H Q := ⟨rfl, by rw [dS]; exact h⟩
theorem r_neS {i j : Str} (h : Q (.bl (!decide (i = j))) H) : rNe (.str i) (.str j) H Q := ⟨rfl, by rw [dS]; exact h⟩
theorem r_eqB {i j : Bool} (h : Q (.bl (decide (i = j))) H) : rEq (.bl i) (.bl j) H Q := ⟨rfl, by rw [dB]; exact h⟩
theorem r_neB {i j : Bool} (h : Q (.bl (!decide (i = j))) H) : rNe (.bl i) (.bl j) H Q := ⟨rfl, by rw [dB]; exact h⟩
theorem r_test {Q : Bool → Hp → Prop} (h : ta σ H fun x H1 => ∃ k, x = .bl k ∧ Q k H1) : tTest ta σ H Q := h
theorem r_B {Q : Bool → Hp → Prop} (h : ta σ H fun x H1 => ∃ k, x = .bl k ∧ Q k H1) : tB ta σ H Q := h
theorem r_bl {P : Bool → Prop} {b : Bool} (h : P b) : ∃ k, V.bl b = .bl k ∧ P k := ⟨b, rfl, h⟩
theorem r_and {Q : Bool → Hp → Prop} (h : tt σ H fun c H1 => if c = true then uu σ H1 Q else Q false H1) : tAnd tt uu σ H Q := h
theorem r_or {Q : Bool → Hp → Prop} (h : tt σ H fun c H1 => if c = true then Q true H1 else uu σ H1 Q) : tOr tt uu σ H Q := h
theorem r_not {Q : Bool → Hp → Prop} (h : tt σ H fun c H1 => Q (!c) H1) : tNot tt σ H Q := h
theorem r_andV (h : ta σ H fun x H1 => ∃ c, x = .bl c ∧ if c = true then tb σ H1 Q else Q (.bl false) H1) : tAndV ta tb σ H Q := h
theorem r_orV (h : ta σ H fun x H1 => ∃ c, x = .bl c ∧ if c = true then Q (.bl true) H1 else tb σ H1 Q) : tOrV ta tb σ H Q := h
theorem r_notV (h : ta σ H fun x H1 => ∃ c, x = .bl c ∧ Q (.bl (!c)) H1) : tNotV ta σ H Q := h
theorem r_ifE (h : tt σ H fun c H1 => if c = true then ta σ H1 Q else tb σ H1 Q) : tIf tt ta tb σ H Q := h
theorem r_chain {r r' : R2} (h : ta σ H fun x H1 => tb σ H1 fun y H2 => r x y H2 fun z H3 => ∃ k, z = .bl k ∧ (if k = true then tc σ H3 fun w' H4 => r' y w' H4 Q else Q (.bl false) H3)) : tChain r r' ta tb tc σ H Q := h
theorem r_nil {Q : List V → Hp → Prop} (h : Q [] H) : tNil σ H Q := h
theorem r_cons {Q : List V → Hp → Prop} (h : ta σ H fun x H1 => tl σ H1 fun xs H2 => Q (x :: xs) H2) : tCons ta tl σ H Q := h
theorem r_call {sp : Sp} {E : XK} (h : tl σ H fun vs H1 => sp (vs ++ []) H1 Q E) : tCall sp [] E tl σ H Q := h
theorem r_cb {f : List V → Hp → VK → Prop} (h : tl σ H fun vs H1 => f vs H1 Q) : tCB f tl σ H Q := h
def MakeP (C : Addr) (sp : Sp) (E : XK) (vs : List V) (H1 : Hp) (Q : VK) : Prop := ∀ x dx, H1 x = none → H1 dx = none → dx ≠ x → sp (.ref x :: (vs ++ [])) (upd (upd H1 dx (.own x)) x (.ins C dx [])) (fun v H2 => v = .non ∧ Q (.ref x) H2) E
theorem r_make {C : Addr} {sp : Sp} {E : XK} (h : tl σ H fun vs H1 => MakeP C sp E vs H1 Q) : tMake C sp [] E tl σ H Q := h
theorem r_tup (h : tl σ H fun xs H1 => xs.length ≤ sizeLine ∧ ∀ p, H1 p = none → Q (.ref p) (upd H1 p (.tup xs))) : tTup tl σ H Q := h
theorem r_lst (h : tl σ H fun xs H1 => xs.length ≤ sizeLine ∧ ∀ p, H1 p = none → Q (.ref p) (upd H1 p (.lst xs))) : tLst tl σ H Q := h
theorem r_prop {C : Addr} {sp : Sp} {E : XK} {dx a : Addr} {fs : List (Str × V)} (e : H a = some (.ins C dx fs)) (h : sp [.ref a] H Q E) : ∃ a' dx fs, V.ref a = .ref a' ∧ H a' = some (.ins C dx fs) ∧ sp (.ref a' :: []) H Q E := ⟨a, dx, fs, rfl, e, h⟩
theorem r_tprop {C : Addr} {sp : Sp} {E : XK} (h : ta σ H fun x H1 => ∃ a dx fs, x = .ref a ∧ H1 a = some (.ins C dx fs) ∧ sp (.ref a :: []) H1 Q E) : tProp C sp [] E ta σ H Q := h
theorem r_meth {C : Addr} {m : Str} {sp : Sp} {E : XK} (h : ta σ H fun x H1 => ∃ a dx fs, x = .ref a ∧ H1 a = some (.ins C dx fs) ∧ fs.lookup m = none ∧ tl σ H1 fun vs H2 => sp (x :: (vs ++ [])) H2 Q E) : tMeth C m sp [] E ta tl σ H Q := h
theorem r_getSp {C : Addr} {f : Str} {E : XK} {a dx : Addr} {fs : List (Str × V)} (e : H a = some (.ins C dx fs)) (l : fs.lookup f = some v) (h : Q v H) : getSp C f [.ref a] H Q E := ⟨a, dx, fs, v, rfl, e, l, h⟩
theorem r_fld {K : PySem.W.Frag} {f : Str} (h : ta σ H fun x H1 => ∃ a C dx fs v, x = .ref a ∧ H1 a = some (.ins C dx fs) ∧ Cls K C ∧ NoAttr K C f ∧ fs.lookup f = some v ∧ Q v H1) : tFld K ta f σ H Q := h
theorem r_BM {K : PySem.W.Frag} {T : String} {f : V → List V → Hp → VK → Prop} (h : ta σ H fun x H1 => tyV K T x H1 ∧ tl σ H1 fun xs H2 => f x xs H2 Q) : tBM K T f ta tl σ H Q := h
theorem r_BM0 {K : PySem.W.Frag} {T : String} {f : V → List V → Hp → VK → Prop} (h : ta σ H fun x H1 => tyV K T x H1 ∧ f x [] H1 Q) : tBM0 K T f ta σ H Q := h
theorem r_sub {ti : TE} {s : TSet} {k : L2.St → Hp → Prop} (h : ta σ H fun o H1 => ti σ H1 fun i H2 => s o i v H2 fun H3 => k σ H3) : gSub ta ti s v σ H k := h
theorem r_sl {f : V → Option Int → Option Int → Hp → VK → Prop} {t1 t2 : TO} (h : te σ H fun x H1 => t1 σ H1 fun l H2 => t2 σ H2 fun u H3 => f x l u H3 Q) : tSl f te t1 t2 σ H Q := h
theorem r_noPart {Q : Option Int → Hp → Prop} (h : Q none H) : tNoPart σ H Q := h
theorem r_part {Q : Option Int → Hp → Prop} (h : te σ H fun x H1 => ∃ i, x = .int i ∧ Q (some i) H1) : tPart te σ H Q := h
theorem r_int {P : Int → Prop} {i : Int} (h : P i) : ∃ j, V.int i = .int j ∧ P j := ⟨i, rfl, h⟩
theorem iteNT {A B : Prop} {i : Decidable ((!true) = true)} (h : B) : @ite Prop ((!true) = true) i A B := by
  rw [if_neg (fun z => nomatch z)]; exact h
theorem iteNF {A B : Prop} {i : Decidable ((!false) = true)} (h : A) : @ite Prop ((!false) = true) i A B := by
  rw [if_pos (show (!false) = true from rfl)]; exact h
theorem iteT' {A B : Prop} {i : Decidable (true = true)} (h : A) : @ite Prop (true = true) i A B := by
  rw [if_pos rfl]; exact h
theorem iteF' {A B : Prop} {i : Decidable (false = true)} (h : B) : @ite Prop (false = true) i A B := by
  rw [if_neg Bool.false_ne_true]; exact h
theorem r_cutQ {t : TE} (S : V → Hp → Prop) (h : ∀ Q' : VK, (∀ v H1, S v H1 → Q' v H1) → t σ H Q') (k : ∀ v H1, S v H1 → Q v H1) : t σ H Q := h Q k
theorem r_cutS {t : TS} (S : L2.St → Hp → Prop) (h : ∀ nx', (∀ σ H, S σ H → nx' σ H) → t ⟨nx', rt, bk, ct⟩ σ H) (k : ∀ σ H, S σ H → nx σ H) : t ⟨nx, rt, bk, ct⟩ σ H := h nx k
theorem ite_d {p A B : Prop} {j : Decidable p} {i : Decidable (@decide p j = true)} (h1 : p → A) (h2 : ¬ p → B) : @ite Prop (@decide p j = true) i A B := by
  by_cases h : p
  · rw [if_pos (decide_eq_true h)]; exact h1 h
  · rw [if_neg (by rw [decide_eq_false h]; exact Bool.false_ne_true)]; exact h2 h
theorem ite_nd {p A B : Prop} {j : Decidable p} {i : Decidable ((!@decide p j) = true)} (h1 : ¬ p → A) (h2 : p → B) : @ite Prop ((!@decide p j) = true) i A B := by
  by_cases h : p
  · rw [if_neg (by rw [decide_eq_true h]; exact Bool.false_ne_true)]; exact h2 h
  · rw [if_pos (by rw [decide_eq_false h]; rfl)]; exact h1 h
theorem ite_b {b : Bool} {A B : Prop} {i : Decidable (b = true)} (h1 : b = true → A) (h2 : b = false → B) : @ite Prop (b = true) i A B := by
  cases b with
  | true => rw [if_pos rfl]; exact h1 rfl
  | false => rw [if_neg Bool.false_ne_true]; exact h2 rfl
end

/-! ### more steps -/
section
variable {σ : L2.St} {H : Hp} {Q : VK} {v x y : V} {K : PySem.W.Frag}
theorem r_isi_int_bool {i : Int} (h : Q (.bl false) H) : rIsi K [.int i, .ty "bool"] H Q := ⟨_, _, _, _, false, rfl, .ty _, .base (.int i), kit_ty (by decide +kernel), h⟩
theorem r_isi_int_int {i : Int} (h : Q (.bl true) H) : rIsi K [.int i, .ty "int"] H Q := ⟨_, _, _, _, true, rfl, .ty _, .base (.int i), kit_ty (by decide +kernel), h⟩
theorem r_isi_str_str {i : Str} (h : Q (.bl true) H) : rIsi K [.str i, .ty "str"] H Q := ⟨_, _, _, _, true, rfl, .ty _, .base (.str i), kit_ty (by decide +kernel), h⟩
theorem r_isi_own {a C dx : Addr} {fs : List (Str × V)} {b : Bool} {D : Addr} (e : H a = some (.ins C dx fs)) (cl : Cls K C) (ha : PySem.W.findIn K (.ref C) "__class__" = some (some (.builtin "object.__class__")))
    (hn : PySem.W.specialIn K (.builtin "object.__class__") "__get__" = some (some (.builtin "getset_descriptor.__get__"))) (htk : PySem.W.takesIn K (.builtin "object.__class__") = some true) (hm : PySem.W.mroIn K C (.type "object") = some true)
    (ks : PySem.W.kitOne K (.ref C) (.ref D) = some b) (h : Q (.bl b) H) : rIsi K [.ref a, .ref D] H Q := ⟨_, _, _, _, b, rfl, .own D, .base (.ins e cl ha hn htk hm), ks, h⟩
theorem r_Ih {C : Int → Int → Prop} {g : Int → Int → V} {i j : Int} (h : Q (g i j) H) (hc : C i j) : rI C g (.int i) (.int j) H Q := ⟨i, j, rfl, rfl, hc, h⟩
theorem r_ixL {p : Addr} {xs : List V} {i : Int} (hp : H p = some (.lst xs)) (a : atI xs i = some v) (h : Q v H) : rIxL K (.ref p) (.int i) H Q := ⟨p, xs, i, v, rfl, rfl, SqL.of hp, a, h⟩
theorem r_ixT {p : Addr} {xs : List V} {i : Int} (hp : H p = some (.tup xs)) (a : atI xs i = some v) (h : Q v H) : rIxT K (.ref p) (.int i) H Q := ⟨p, xs, i, v, rfl, rfl, SqT.of hp, a, h⟩
theorem r_sFld {K : PySem.W.Frag} {f : Str} {ta tv : TE} {σ : L2.St} {nx bk ct : L2.St → Hp → Prop} {rt : VK} (h : tv σ H fun y H1 => ta σ H1 fun x H2 => ∃ a C dx fs, x = .ref a ∧ H2 a = some (.ins C dx fs) ∧ Cls K C ∧ NoAttr K C f ∧ fs.length < 1000 ∧ nx σ (upd H2 a (.ins C dx (putF f y fs)))) : sFld K ta tv f ⟨nx, rt, bk, ct⟩ σ H := h
theorem len1 {f : Str} {v : V} : (putF f v []).length < 1000 := Nat.lt_of_le_of_lt (length_putF f v []) (by decide)
theorem len2 {f g : Str} {v w : V} : (putF f v (putF g w [])).length < 1000 := Nat.lt_of_le_of_lt (Nat.le_trans (length_putF f v _) (Nat.succ_le_succ (length_putF g w []))) (by decide)
theorem len3 {f g k : Str} {v w u : V} : (putF f v (putF g w (putF k u []))).length < 1000 := Nat.lt_of_le_of_lt (Nat.le_trans (length_putF f v _) (Nat.succ_le_succ (Nat.le_trans (length_putF g w _) (Nat.succ_le_succ (length_putF k u []))))) (by decide)
theorem len4 {f g k j : Str} {v w u t : V} : (putF f v (putF g w (putF k u (putF j t [])))).length < 1000 := Nat.lt_of_le_of_lt (Nat.le_trans (length_putF f v _) (Nat.succ_le_succ (Nat.le_trans (length_putF g w _) (Nat.succ_le_succ (Nat.le_trans (length_putF k u _) (Nat.succ_le_succ (length_putF j t []))))))) (by decide)
theorem r_insput {K : PySem.W.Frag} {f : Str} {y : V} {nx : L2.St → Hp → Prop} {σ : L2.St} {a C dx : Addr} {fs : List (Str × V)} (e : H a = some (.ins C dx fs)) (cl : Cls K C) (na : NoAttr K C f) (hl : fs.length < 1000) (h : nx σ (upd H a (.ins C dx (putF f y fs)))) :
    ∃ a' C dx fs, V.ref a = .ref a' ∧ H a' = some (.ins C dx fs) ∧ Cls K C ∧ NoAttr K C f ∧ fs.length < 1000 ∧ nx σ (upd H a' (.ins C dx (putF f y fs))) := ⟨a, C, dx, fs, rfl, e, cl, na, hl, h⟩
theorem r_setL {p : Addr} {xs : List V} {i : Int} {j : Nat} {Q : Hp → Prop} (hp : H p = some (.lst xs)) (a : ixN xs.length i = some j) (h : Q (upd H p (.lst (xs.set j v)))) : rSetL (.ref p) (.int i) v H Q := ⟨p, xs, i, j, rfl, rfl, hp, a, h⟩
theorem tyL {l : Addr} {xs : List V} (h : H l = some (.lst xs)) : tyV K "list" (.ref l) H := .inl ⟨rfl, xs, SqL.of h⟩
theorem r_app {l : Addr} {xs : List V} (hp : H l = some (.lst xs)) (h : Q .non (upd H l (.lst (xs ++ [v])))) (hl : xs.length < sizeLine) : rAppend (.ref l) [v] H Q := ⟨l, xs, v, rfl, rfl, hp, hl, h⟩
theorem r_gcd {a b : Int} (h : Q (.int ((Nat.gcd a.natAbs b.natAbs : Nat) : Int)) H) : rGcd [.int a, .int b] H Q := ⟨a, b, rfl, h⟩
theorem sz (n : Nat) (h : n ≤ 100000) : n ≤ sizeLine := Nat.le_trans h (by decide)
theorem sz' (n : Nat) (h : n < 100000) : n < sizeLine := Nat.lt_of_lt_of_le h (by decide)
theorem cmulw {i j : Int} {a b : Nat} (ha : i.natAbs < 2 ^ a) (hb : j.natAbs < 2 ^ b) (h : a + b ≤ 100000) (h0 : 0 < a := by decide) (h1 : 0 < b := by decide) : CMulW i j := wide_mul ha hb h0 h1 (by omega)
theorem cdivw {i j : Int} {b : Nat} (h : 0 < j) (hb : j.natAbs < 2 ^ b) (h9 : b ≤ 9000) (h0 : 0 < b := by decide) : CDivW i j := wide_div h hb h0 h9
/-- * of two ints, one of them small, or both not too great -/
def CMulA (i j : Int) : Prop := CMul i j ∨ CMulW i j
theorem op_mulA {X : Cx} : OpR X (binaryOp .Mult) (rI CMulA fun i j => .int (i * j)) := opI fun _ _ _ _ _ _ _ hc q => mul_int q (by
  rcases hc with h | h
  · exact h.ok
  · exact h.ok)
theorem cmA_l {i j : Int} (h : -(2 ^ 64) < i ∧ i < 2 ^ 64) : CMulA i j := .inl (.inl h)
theorem cmA_r {i j : Int} (h : -(2 ^ 64) < j ∧ j < 2 ^ 64) : CMulA i j := .inl (.inr h)
theorem cmA_w {i j : Int} (h : CMulW i j) : CMulA i j := .inr h
/-- comb, perm -/
theorem r_gtup {p : Addr} {xs : List V} {n : Nat} {t : TGs} {k : L2.St → Hp → Prop} (hp : H p = some (.tup xs)) (hl : xs.length = n) (h : t xs σ H k) : gTup K n t (.ref p) σ H k := ⟨p, xs, rfl, SqT.of hp, hl, h⟩
theorem r_gcons {t : TG} {u : TGs} {r : List V} {k : L2.St → Hp → Prop} (h : t v σ H fun σ' H' => u r σ' H' k) : gCons t u (v :: r) σ H k := ⟨v, r, rfl, h⟩
theorem r_gnil {k : L2.St → Hp → Prop} (h : k σ H) : gNil [] σ H k := ⟨rfl, h⟩
def rComb : List V → Hp → VK → Prop := fun vs H Q => ∃ a b : Int, vs = [.int a, .int b] ∧ 0 ≤ a ∧ 0 ≤ b ∧ a ≤ 18000 ∧ Q (.int (PySem.W.mcComb a b)) H
theorem cr_comb {X : Cx} : CallR X (.builtin "math.comb") rComb := by
  intro pins s σ H vs us Q I r h
  obtain ⟨a, b, rfl, ha, hb, h8, q⟩ := h
  obtain ⟨t, u, rfl⟩ := Vals.int2 r
  exact PySem.W.mc_comb ha hb (by omega) (.inr h8) fun _ => ⟨.int _, H, I.tok _, ⟨_, rfl⟩, q⟩
theorem r_comb {a b : Int} (h : Q (.int (PySem.W.mcComb a b)) H) (ha : 0 ≤ a) (hb : 0 ≤ b) (h8 : a ≤ 18000) : rComb [.int a, .int b] H Q := ⟨a, b, rfl, ha, hb, h8, h⟩
end

/-! ### readings by names -/
section
variable {X : Cx} {σ : L2.St} {H : Hp} {Q : VK} {K : PySem.W.Frag}
def qInt : List V → Hp → VK → Prop := fun xs H Q => (∃ i, xs = [.int i] ∧ Q (.int i) H) ∨ ∃ k, xs = [.bl k] ∧ Q (.int (if k then 1 else 0)) H
theorem c_int : CallR X (.type "int") qInt := call_int1
theorem r_int1 {i : Int} (h : Q (.int i) H) : qInt [.int i] H Q := .inl ⟨i, rfl, h⟩
theorem r_intB {k : Bool} (h : Q (.int (if k then 1 else 0)) H) : qInt [.bl k] H Q := .inr ⟨k, rfl, h⟩
def qAbs : List V → Hp → VK → Prop := fun xs H Q => ∃ i, xs = [.int i] ∧ Q (.int (if i < 0 then -i else i)) H
theorem c_abs : CallR X (.builtin "abs") qAbs := call_abs
theorem r_abs {i : Int} (h : Q (.int (if i < 0 then -i else i)) H) : qAbs [.int i] H Q := ⟨i, rfl, h⟩
def qMax : List V → Hp → VK → Prop := fun xs H Q => ∃ i j, xs = [.int i, .int j] ∧ Q (.int (if j > i then j else i)) H
theorem c_max (hc : X.calm = true) : CallR X (.builtin "max") qMax := call_max2 hc
theorem r_max {i j : Int} (h : Q (.int (if j > i then j else i)) H) : qMax [.int i, .int j] H Q := ⟨i, j, rfl, h⟩
def qMin : List V → Hp → VK → Prop := fun xs H Q => ∃ i j, xs = [.int i, .int j] ∧ Q (.int (if j < i then j else i)) H
theorem c_min (hc : X.calm = true) : CallR X (.builtin "min") qMin := call_min2 hc
theorem r_min {i j : Int} (h : Q (.int (if j < i then j else i)) H) : qMin [.int i, .int j] H Q := ⟨i, j, rfl, h⟩
def qLen (K : PySem.W.Frag) : List V → Hp → VK → Prop := fun xs H Q => ∃ p ys, xs = [.ref p] ∧ (SqL K H p ys ∨ SqT K H p ys) ∧ Q (.int ys.length) H
theorem c_len : CallR X (.builtin "len") (qLen X.K) := call_len_seq
theorem r_lenL {p : Addr} {ys : List V} (q : SqL K H p ys) (h : Q (.int ys.length) H) : qLen K [.ref p] H Q := ⟨p, ys, rfl, .inl q, h⟩
theorem r_lenT {p : Addr} {ys : List V} (q : SqT K H p ys) (h : Q (.int ys.length) H) : qLen K [.ref p] H Q := ⟨p, ys, rfl, .inr q, h⟩
def qLenS : List V → Hp → VK → Prop := fun xs H Q => ∃ z, xs = [.str z] ∧ z.length ≤ sizeLine ∧ Q (.int z.length) H
theorem c_lenS : CallR X (.builtin "len") qLenS := call_len_str
theorem r_lenS {z : Str} (h : Q (.int z.length) H) (hz : z.length ≤ sizeLine) : qLenS [.str z] H Q := ⟨z, rfl, hz, h⟩
def qLstOf (K : PySem.W.Frag) : List V → Hp → VK → Prop := fun xs H Q => ∃ p ys, xs = [.ref p] ∧ (SqL K H p ys ∨ SqT K H p ys) ∧ ∀ l, H l = none → Q (.ref l) (upd H l (.lst ys))
theorem c_lstOf : CallR X (.type "list") (qLstOf X.K) := call_list_of
theorem r_lstOfL {p : Addr} {ys : List V} (q : SqL K H p ys) (h : ∀ l, H l = none → Q (.ref l) (upd H l (.lst ys))) : qLstOf K [.ref p] H Q := ⟨p, ys, rfl, .inl q, h⟩
theorem r_lstOfT {p : Addr} {ys : List V} (q : SqT K H p ys) (h : ∀ l, H l = none → Q (.ref l) (upd H l (.lst ys))) : qLstOf K [.ref p] H Q := ⟨p, ys, rfl, .inr q, h⟩
def qTupOf (K : PySem.W.Frag) : List V → Hp → VK → Prop := fun xs H Q => ∃ p ys, xs = [.ref p] ∧ ((SqL K H p ys ∧ ∀ l, H l = none → Q (.ref l) (upd H l (.tup ys))) ∨ (SqT K H p ys ∧ Q (.ref p) H))
theorem c_tupOf : CallR X (.type "tuple") (qTupOf X.K) := call_tuple_of
theorem r_tupOfL {p : Addr} {ys : List V} (q : SqL K H p ys) (h : ∀ l, H l = none → Q (.ref l) (upd H l (.tup ys))) : qTupOf K [.ref p] H Q := ⟨p, ys, rfl, .inl ⟨q, h⟩⟩
theorem r_tupOfT {p : Addr} {ys : List V} (q : SqT K H p ys) (h : Q (.ref p) H) : qTupOf K [.ref p] H Q := ⟨p, ys, rfl, .inr ⟨q, h⟩⟩
def qStrI : List V → Hp → VK → Prop := fun xs H Q => ∃ i, xs = [.int i] ∧ i.natAbs.log2 < 1920 ∧ Q (.str (toString i)) H
theorem c_strI : CallR X (.type "str") qStrI := call_str_int
theorem r_strI {i : Int} (h : Q (.str (toString i)) H) (hi : i.natAbs.log2 < 1920) : qStrI [.int i] H Q := ⟨i, rfl, hi, h⟩
def qStrS : List V → Hp → VK → Prop := fun xs H Q => ∃ a, xs = [.str a] ∧ Q (.str a) H
theorem c_strS : CallR X (.type "str") qStrS := SkE.call_str_str
theorem r_strS {a : Str} (h : Q (.str a) H) : qStrS [.str a] H Q := ⟨a, rfl, h⟩
def qAddS : R2 := fun x y H Q => ∃ i j, x = .str i ∧ y = .str j ∧ i.length + j.length ≤ sizeLine ∧ Q (.str (i ++ j)) H
theorem o_addS : OpR X (binaryOp .Add) qAddS := op_add_str
theorem r_addS {i j : Str} (h : Q (.str (i ++ j)) H) (hz : i.length + j.length ≤ sizeLine) : qAddS (.str i) (.str j) H Q := ⟨i, j, rfl, rfl, hz, h⟩
def qLtS : R2 := fun x y H Q => ∃ i j, x = .str i ∧ y = .str j ∧ Q (.bl (decide (i.cps.toList < j.cps.toList))) H
theorem o_ltS : OpR X (compareOp .Lt) qLtS := op_lt_str
theorem r_ltS {i j : Str} (h : Q (.bl (decide (i.cps.toList < j.cps.toList))) H) : qLtS (.str i) (.str j) H Q := ⟨i, j, rfl, rfl, h⟩
def qAddIB : R2 := fun x y H Q => ∃ i k, x = .int i ∧ y = .bl k ∧ Q (.int (i + b2i k)) H
theorem o_addIB : OpR X (binaryOp .Add) qAddIB := op_add_ib
def qIsN : R2 := fun x y H Q => y = .non ∧ Q (.bl (decide (x = .non))) H
theorem o_isN : OpR X (compareOp .Is) qIsN := op_isN
def qNotN : R2 := fun x y H Q => y = .non ∧ Q (.bl (!decide (x = .non))) H
theorem o_notN : OpR X (compareOp .IsNot) qNotN := op_notN
def qCntS : V → List V → Hp → VK → Prop := fun x xs H Q => ∃ a b, x = .str a ∧ xs = [.str b] ∧ Q (.int (Txt.count a b)) H
theorem m_cntS : MtR X "str.count" qCntS := mt_count
theorem r_cntS {a b : Str} (h : Q (.int (Txt.count a b)) H) : qCntS (.str a) [.str b] H Q := ⟨a, b, rfl, rfl, h⟩
def qFindS : V → List V → Hp → VK → Prop := fun x xs H Q => ∃ a b, x = .str a ∧ xs = [.str b] ∧ Q (.int (Txt.find a b)) H
theorem m_findS : MtR X "str.find" qFindS := mt_find
theorem r_findS {a b : Str} (h : Q (.int (Txt.find a b)) H) : qFindS (.str a) [.str b] H Q := ⟨a, b, rfl, rfl, h⟩
def qFind3 : V → List V → Hp → VK → Prop := fun x xs H Q => ∃ (a b : Str) (i : Int), x = .str a ∧ xs = [.str b, .int i] ∧ Q (.int (Txt.find3 a b i)) H
theorem m_find3 : MtR X "str.find" qFind3 := mt_find3
theorem r_find3 {a b : Str} {i : Int} (h : Q (.int (Txt.find3 a b i)) H) : qFind3 (.str a) [.str b, .int i] H Q := ⟨a, b, i, rfl, rfl, h⟩
def qSplit : V → List V → Hp → VK → Prop := fun x xs H Q => ∃ a b, x = .str a ∧ xs = [.str b] ∧ (b.length == 0) = false ∧ a.length + 2 ≤ sizeLine ∧ rNewStrs (Txt.split a b) H Q
theorem m_split : MtR X "str.split" qSplit := mt_split
def qJoin (K : PySem.W.Frag) : V → List V → Hp → VK → Prop := fun x xs H Q => ∃ a p, ∃ ys : List Str, x = .str a ∧ xs = [.ref p] ∧ (SqL K H p (ys.map V.str) ∨ SqT K H p (ys.map V.str)) ∧ (ys.map (·.length)).sum + ys.length * a.length ≤ 16777216 ∧ Q (.str (Txt.join a ys)) H
theorem m_join : MtR X "str.join" (qJoin X.K) := mt_join
theorem r_joinL {a : Str} {p : Addr} {ys : List Str} (q : SqL K H p (ys.map V.str)) (h : Q (.str (Txt.join a ys)) H) (hz : (ys.map (·.length)).sum + ys.length * a.length ≤ 16777216) : qJoin K (.str a) [.ref p] H Q := ⟨a, p, ys, rfl, rfl, .inl q, hz, h⟩
theorem tyS {a : Str} : tyV K "str" (.str a) H := rfl
end
/-! ### loops -/
section
variable {σ : L2.St} {H : Hp} {nx bk ct : L2.St → Hp → Prop} {rt Q : VK} {ta te : TE} {tt : TT} {tb : TS} {tl : TA} {g : TG} {K : PySem.W.Frag}
def FR (J : It) (g : TG) (tb : TS) (D : Ends) (σ : L2.St) (H1 : Hp) : Prop := ∃ W : Nat → Nat → L2.St → Hp → Prop, (∃ m, W 0 m σ H1) ∧ ∀ i m σ H, W i m σ H →
  (J.stop i H ∧ D.nx σ H) ∨ (J.go i H ∧ ∃ N : L2.St → Hp → Prop, (∀ σ' H', N σ' H' → ∃ m', m' < m ∧ W (i + 1) m' σ' H') ∧ ∀ x H', J.yld i H x H' → g x σ H' fun σ2 H2 => tb { D with nx := N, ct := N, bk := D.nx } σ2 H2)
theorem r_for1 {D : Ends} (h : tl σ H fun vs H1 => ∃ j : Int, vs = [.int j] ∧ -(2 ^ 62) ≤ j ∧ j < 2 ^ 62 ∧ FR (Itr 0 j.toNat) g tb D σ H1) : tFor (iRng1 tl) g tb D σ H := h
theorem r_for2 {D : Ends} (h : tl σ H fun vs H1 => ∃ i j : Int, vs = [.int i, .int j] ∧ (-(2 ^ 62) ≤ i ∧ i < 2 ^ 62 ∧ -(2 ^ 62) ≤ j ∧ j < 2 ^ 62) ∧ FR (Itr i (j - i).toNat) g tb D σ H1) : tFor (iRng2 tl) g tb D σ H := h
theorem r_forL {D : Ends} (h : te σ H fun x H1 => ∃ a, x = .ref a ∧ (∃ xs, SqL K H1 a xs) ∧ FR (Itl K a) g tb D σ H1) : tFor (iList K te) g tb D σ H := h
theorem r_forT {D : Ends} (h : te σ H fun x H1 => ∃ a, x = .ref a ∧ (∃ xs, SqT K H1 a xs) ∧ FR (Itt K a) g tb D σ H1) : tFor (iTup K te) g tb D σ H := h
theorem r_forS {D : Ends} (h : te σ H fun v H1 => ∃ x, v = .str x ∧ FR (Its x) g tb D σ H1) : tFor (iStr te) g tb D σ H := h
theorem r_rng1 {P : Int → Prop} {x : Int} (h : P x) (h1 : -(2 ^ 62) ≤ x) (h2 : x < 2 ^ 62) : ∃ j : Int, [V.int x] = [.int j] ∧ -(2 ^ 62) ≤ j ∧ j < 2 ^ 62 ∧ P j := ⟨x, rfl, h1, h2, h⟩
theorem r_rng2 {P : Int → Int → Prop} {x y : Int} (h : P x y) (h1 : -(2 ^ 62) ≤ x ∧ x < 2 ^ 62 ∧ -(2 ^ 62) ≤ y ∧ y < 2 ^ 62) : ∃ i j : Int, [V.int x, V.int y] = [.int i, .int j] ∧ (-(2 ^ 62) ≤ i ∧ i < 2 ^ 62 ∧ -(2 ^ 62) ≤ j ∧ j < 2 ^ 62) ∧ P i j := ⟨x, y, rfl, h1, h⟩
theorem r_seqL {P : Addr → Prop} {a : Addr} {xs : List V} (q : SqL K H a xs) (h : P a) : ∃ b, V.ref a = .ref b ∧ (∃ xs, SqL K H b xs) ∧ P b := ⟨a, rfl, ⟨xs, q⟩, h⟩
theorem r_seqT {P : Addr → Prop} {a : Addr} {xs : List V} (q : SqT K H a xs) (h : P a) : ∃ b, V.ref a = .ref b ∧ (∃ xs, SqT K H b xs) ∧ P b := ⟨a, rfl, ⟨xs, q⟩, h⟩
theorem r_seqS {P : Str → Prop} {x : Str} (h : P x) : ∃ y, V.str x = .str y ∧ P y := ⟨x, rfl, h⟩
theorem fr_range {lo : Int} {n : Nat} (Pv : Nat → L2.St → Hp → Prop) (h0 : Pv 0 σ H) (hs : ∀ i σ H, i < n → Pv i σ H → g (.int (lo + i)) σ H fun σ2 H2 => tb ⟨Pv (i + 1), rt, nx, Pv (i + 1)⟩ σ2 H2)
    (hd : ∀ σ H, Pv n σ H → nx σ H) : FR (Itr lo n) g tb ⟨nx, rt, bk, ct⟩ σ H := for_range Pv h0 hs hd
theorem fr_list {a : Addr} {xs : List V} (Pv : Nat → L2.St → Hp → Prop) (h0 : Pv 0 σ H) (hl : ∀ i σ H, i ≤ xs.length → Pv i σ H → SqL K H a xs) (hs : ∀ i x σ H, xs[i]? = some x → Pv i σ H → g x σ H fun σ2 H2 => tb ⟨Pv (i + 1), rt, nx, Pv (i + 1)⟩ σ2 H2)
    (hd : ∀ σ H, Pv xs.length σ H → nx σ H) : FR (Itl K a) g tb ⟨nx, rt, bk, ct⟩ σ H := for_list Pv h0 hl hs hd
theorem fr_tup {a : Addr} {xs : List V} (Pv : Nat → L2.St → Hp → Prop) (h0 : Pv 0 σ H) (hl : ∀ i σ H, i ≤ xs.length → Pv i σ H → SqT K H a xs) (hs : ∀ i x σ H, xs[i]? = some x → Pv i σ H → g x σ H fun σ2 H2 => tb ⟨Pv (i + 1), rt, nx, Pv (i + 1)⟩ σ2 H2)
    (hd : ∀ σ H, Pv xs.length σ H → nx σ H) : FR (Itt K a) g tb ⟨nx, rt, bk, ct⟩ σ H := for_tup Pv h0 hl hs hd
theorem fr_str {x : Str} (Pv : Nat → L2.St → Hp → Prop) (h0 : Pv 0 σ H) (hs : ∀ i c σ H, x.cps[i]? = some c → Pv i σ H → g (.str ⟨#[c]⟩) σ H fun σ2 H2 => tb ⟨Pv (i + 1), rt, nx, Pv (i + 1)⟩ σ2 H2)
    (hd : ∀ σ H, Pv x.cps.size σ H → nx σ H) : FR (Its x) g tb ⟨nx, rt, bk, ct⟩ σ H := by
  refine ⟨fun i m σ H => m = x.cps.size - i ∧ i ≤ x.cps.size ∧ Pv i σ H, ⟨x.cps.size, by simp, Nat.zero_le _, h0⟩, ?_⟩
  rintro i m σ H ⟨rfl, hi, p⟩
  by_cases hlt : i < x.cps.size
  · refine .inr ⟨hlt, Pv (i + 1), fun σ' H' p' => ⟨x.cps.size - (i + 1), by omega, rfl, hlt, p'⟩, fun y H' z => ?_⟩
    obtain ⟨e, c, hc, e2⟩ := z
    subst e e2
    exact hs i c σ _ hc p
  · have e : i = x.cps.size := by omega
    subst e
    exact .inl ⟨Nat.le_refl _, hd σ H p⟩
def LCW (J : It) (g : TG) (tt : TT) (te : TE) (vs : List Nat) (σ : L2.St) (H1 : Hp) (Q : VK) : Prop := ∀ D, H1 D = none → ∃ W : Nat → Nat → Hp → Prop, (∃ m, W 0 m (upd H1 D (.lst []))) ∧ ∀ i m H, W i m H →
  (J.stop i H ∧ Q (.ref D) H) ∨ (J.go i H ∧ ∃ Nx : Hp → Prop, (∀ H', Nx H' → ∃ m', m' < m ∧ W (i + 1) m' H') ∧ ∀ x H', J.yld i H x H' → g x (wipe σ vs) H' fun σ2 H2 => wipe σ2 vs = wipe σ vs ∧ tt σ2 H2 fun b H3 =>
    if b = true then te σ2 H3 fun y H4 => ∃ acc, H4 D = some (.lst acc) ∧ acc.length < sizeLine ∧ Nx (upd H4 D (.lst (acc ++ [y]))) else Nx H3)
variable {vs : List Nat}
theorem r_lc1 (h : tl σ H fun us H1 => ∃ j : Int, us = [.int j] ∧ -(2 ^ 62) ≤ j ∧ j < 2 ^ 62 ∧ LCW (Itr 0 j.toNat) g tt te vs σ H1 Q) : tLc (iRng1 tl) g tt te vs σ H Q := h
theorem r_lc2 (h : tl σ H fun us H1 => ∃ i j : Int, us = [.int i, .int j] ∧ (-(2 ^ 62) ≤ i ∧ i < 2 ^ 62 ∧ -(2 ^ 62) ≤ j ∧ j < 2 ^ 62) ∧ LCW (Itr i (j - i).toNat) g tt te vs σ H1 Q) : tLc (iRng2 tl) g tt te vs σ H Q := h
theorem r_lcL (h : ta σ H fun x H1 => ∃ a, x = .ref a ∧ (∃ xs, SqL K H1 a xs) ∧ LCW (Itl K a) g tt te vs σ H1 Q) : tLc (iList K ta) g tt te vs σ H Q := h
theorem r_lcT (h : ta σ H fun x H1 => ∃ a, x = .ref a ∧ (∃ xs, SqT K H1 a xs) ∧ LCW (Itt K a) g tt te vs σ H1 Q) : tLc (iTup K ta) g tt te vs σ H Q := h
theorem r_lcS (h : ta σ H fun v H1 => ∃ x, v = .str x ∧ LCW (Its x) g tt te vs σ H1 Q) : tLc (iStr ta) g tt te vs σ H Q := h
theorem lw_range {lo : Int} {n : Nat} (Pv : Addr → Nat → Hp → Prop) (h0 : ∀ D, H D = none → Pv D 0 (upd H D (.lst [])))
    (hs : ∀ D, H D = none → ∀ i H, i < n → Pv D i H → g (.int (lo + i)) (wipe σ vs) H fun σ2 H2 => wipe σ2 vs = wipe σ vs ∧ tt σ2 H2 fun b H3 =>
      if b = true then te σ2 H3 fun y H4 => ∃ acc, H4 D = some (.lst acc) ∧ acc.length < sizeLine ∧ Pv D (i + 1) (upd H4 D (.lst (acc ++ [y]))) else Pv D (i + 1) H3) (hd : ∀ D, H D = none → ∀ H, Pv D n H → Q (.ref D) H) : LCW (Itr lo n) g tt te vs σ H Q :=
  fun D hD => lc_range (Pv D) (h0 D hD) (hs D hD) (hd D hD)
theorem lw_list {a : Addr} {xs : List V} (Pv : Addr → Nat → Hp → Prop) (h0 : ∀ D, H D = none → Pv D 0 (upd H D (.lst []))) (hl : ∀ D, H D = none → ∀ i H, i ≤ xs.length → Pv D i H → SqL K H a xs)
    (hs : ∀ D, H D = none → ∀ i x H, xs[i]? = some x → Pv D i H → g x (wipe σ vs) H fun σ2 H2 => wipe σ2 vs = wipe σ vs ∧ tt σ2 H2 fun b H3 =>
      if b = true then te σ2 H3 fun y H4 => ∃ acc, H4 D = some (.lst acc) ∧ acc.length < sizeLine ∧ Pv D (i + 1) (upd H4 D (.lst (acc ++ [y]))) else Pv D (i + 1) H3) (hd : ∀ D, H D = none → ∀ H, Pv D xs.length H → Q (.ref D) H) : LCW (Itl K a) g tt te vs σ H Q :=
  fun D hD => lc_list (Pv D) (h0 D hD) (hl D hD) (hs D hD) (hd D hD)
theorem lw_tup {a : Addr} {xs : List V} (Pv : Addr → Nat → Hp → Prop) (h0 : ∀ D, H D = none → Pv D 0 (upd H D (.lst []))) (hl : ∀ D, H D = none → ∀ i H, i ≤ xs.length → Pv D i H → SqT K H a xs)
    (hs : ∀ D, H D = none → ∀ i x H, xs[i]? = some x → Pv D i H → g x (wipe σ vs) H fun σ2 H2 => wipe σ2 vs = wipe σ vs ∧ tt σ2 H2 fun b H3 =>
      if b = true then te σ2 H3 fun y H4 => ∃ acc, H4 D = some (.lst acc) ∧ acc.length < sizeLine ∧ Pv D (i + 1) (upd H4 D (.lst (acc ++ [y]))) else Pv D (i + 1) H3) (hd : ∀ D, H D = none → ∀ H, Pv D xs.length H → Q (.ref D) H) : LCW (Itt K a) g tt te vs σ H Q :=
  fun D hD => lc_tup (Pv D) (h0 D hD) (hl D hD) (hs D hD) (hd D hD)
theorem r_while {c : TT} (W : Nat → L2.St → Hp → Prop) (m : Nat) (w0 : W m σ H) (hs : ∀ m σ H, W m σ H → c σ H fun b H1 => if b = true then ∃ N : L2.St → Hp → Prop, (∀ σ' H', N σ' H' → ∃ m', m' < m ∧ W m' σ' H') ∧ tb ⟨N, rt, nx, N⟩ σ H1 else nx σ H1) : tWhile c tb ⟨nx, rt, bk, ct⟩ σ H := ⟨W, ⟨m, w0⟩, hs⟩
theorem r_yes {Q : Bool → Hp → Prop} (h : Q true H) : tYes σ H Q := h
theorem r_wh {c : TT} {D : Ends} (h : tWhile c tb D σ H) : tWhile c tb D σ H := h
end
/-! ### heaps -/
theorem same_new {H : Hp} {p : Addr} {o : HO} (h : H p = none) : Same H (upd H p o) := fun b x e => by
  rw [upd_ne (ne_of_none e h)]; exact e
theorem same_mut {H H' : Hp} {p : Addr} {o : HO} (s : Same H H') (h : H p = none) : Same H (upd H' p o) := fun b x e => by
  rw [upd_ne (ne_of_none e h)]; exact s b x e
theorem same_tup {H H' : Hp} {p : Addr} {o : HO} (s : Same H H') (e : H p = some o) : H' p = some o := s p o e

/-- lists of ints, as data -/
theorem dpI {K : PySem.W.Frag} {H : Hp} : ∀ ns : List Int, DpAll K H (ns.map V.int) (ns.map PyData.int)
  | [] => .nil
  | n :: ns => .cons (.int n) (dpI ns)
theorem dpS {K : PySem.W.Frag} {H : Hp} : ∀ ns : List Str, DpAll K H (ns.map V.str) (ns.map PyData.str)
  | [] => .nil
  | n :: ns => .cons (.str n) (dpS ns)
theorem r_eqD {K : PySem.W.Frag} {H : Hp} {Q : VK} {x y : V} {d e : PyData} (hx : Dp K H x d) (hy : Dp K H y e) (h1 : SeqAt.shaped d = true) (h2 : SeqAt.shaped e = true) (h : Q (.bl (PyData.eqv d e)) H) : rEqD K x y H Q := ⟨d, e, hx, hy, h1, h2, h⟩
theorem r_neD {K : PySem.W.Frag} {H : Hp} {Q : VK} {x y : V} {d e : PyData} (hx : Dp K H x d) (hy : Dp K H y e) (h1 : SeqAt.shaped d = true) (h2 : SeqAt.shaped e = true) (h : Q (.bl (!PyData.eqv d e)) H) : rNeD K x y H Q := ⟨d, e, hx, hy, h1, h2, h⟩
theorem kit_self {K : PySem.W.Frag} {t : Value} : PySem.W.kitOne K t t = some true := if_pos (beq_self_eq_true t)
/-- a list of three ints -/
def Dice (H : Hp) (d : Addr) : Prop := ∃ x y z : Int, H d = some (.lst [.int x, .int y, .int z])
/-- all but the dice at d stands as it stood -/
structure Kp (d : Addr) (H H' : Hp) : Prop where
  k : ∀ b o, b ≠ d → H b = some o → H' b = some o
  d0 : Dice H d
  d1 : Dice H' d
theorem Kp.refl {d : Addr} {H : Hp} (h : Dice H d) : Kp d H H := ⟨fun _ _ _ e => e, h, h⟩
theorem Kp.trans {d : Addr} {H H1 H2 : Hp} (a : Kp d H H1) (b : Kp d H1 H2) : Kp d H H2 := ⟨fun c o n e => b.k c o n (a.k c o n e), a.d0, b.d1⟩
theorem Kp.same {d : Addr} {H H1 H2 : Hp} (a : Kp d H H1) (b : Same H1 H2) : Kp d H H2 := ⟨fun c o n e => b c o (a.k c o n e), a.d0, let ⟨x, y, z, h⟩ := a.d1; ⟨x, y, z, b _ _ h⟩⟩
theorem Kp.of {d : Addr} {H H1 : Hp} (h : Dice H d) (b : Same H H1) : Kp d H H1 := (Kp.refl h).same b
theorem Kp.put {d : Addr} {H : Hp} {x y z : Int} (h : Dice H d) : Kp d H (upd H d (.lst [.int x, .int y, .int z])) := ⟨fun b o n e => by rw [upd_ne n]; exact e, h, ⟨x, y, z, upd_same⟩⟩
theorem Kp.put' {d : Addr} {H H1 : Hp} {x y z : Int} (a : Kp d H H1) : Kp d H (upd H1 d (.lst [.int x, .int y, .int z])) := a.trans (Kp.put a.d1)
theorem Kp.tup {d : Addr} {H H1 : Hp} (a : Kp d H H1) {p : Addr} {xs : List V} (e : H p = some (.tup xs)) : H1 p = some (.tup xs) := a.k p _ (by
  obtain ⟨x, y, z, h⟩ := a.d0
  exact ne_of e h (fun q => nomatch q)) e
theorem Kp.ins {d : Addr} {H H1 : Hp} (a : Kp d H H1) {p C dx : Addr} {fs : List (Str × V)} (e : H p = some (.ins C dx fs)) : H1 p = some (.ins C dx fs) := a.k p _ (by
  obtain ⟨x, y, z, h⟩ := a.d0
  exact ne_of e h (fun q => nomatch q)) e
theorem Kp.free {d : Addr} {H H1 : Hp} (a : Kp d H H1) {p : Addr} (e : H1 p = none) : H p = none := by
  cases q : H p with
  | none => rfl
  | some o =>
    by_cases h : p = d
    · obtain ⟨x, y, z, h'⟩ := a.d1
      rw [h, h'] at e; cases e
    · rw [a.k p o h q] at e; cases e
theorem Kp.new {d : Addr} {H H1 : Hp} (a : Kp d H H1) {p : Addr} {o : HO} (e : H1 p = none) : Kp d H (upd H1 p o) := a.same (same_new e)
theorem Kp.mut {d : Addr} {H H1 : Hp} (a : Kp d H H1) {p : Addr} {o : HO} (e : H p = none) : Kp d H (upd H1 p o) := ⟨fun b x n q => by
    rw [upd_ne (ne_of_none q e)]; exact a.k b x n q, a.d0, by
    obtain ⟨x, y, z, h⟩ := a.d0
    obtain ⟨x', y', z', h'⟩ := a.d1
    exact ⟨x', y', z', by rw [upd_ne (ne_of_none h e)]; exact h'⟩⟩
end Sx

/-! Sy: more steps: texts times numbers, a text's letters as a list, tuples gone through by number. -/
namespace Sy
open PySem PySem.Spec PyProof.Rows L2 Sx
open Sem (wp)
theorem bt_enumerate : bootBuiltins "enumerate" = some (.type "enumerate") := by decide +kernel
/-! ### text * number -/
def times (a : Str) (n : Nat) : Str := ⟨(List.replicate n a.cps).foldl (· ++ ·) #[]⟩
theorem times_one (a : Str) : times a 1 = a := by
  unfold times; simp [List.replicate]
def qMulS : R2 := fun x y H Q => ∃ (a : Str) (n : Int), x = .str a ∧ y = .int n ∧ 0 < a.length ∧ a.length ≤ 1000 ∧ 1 ≤ n ∧ n ≤ 1000 ∧ Q (.str (times a n.toNat)) H
theorem times_len (a : Str) (n : Nat) : (times a n).length = n * a.length := by
  have h : ∀ (l : List (Array Nat)) (z : Array Nat), (l.foldl (· ++ ·) z).size = z.size + (l.map Array.size).sum := by
    intro l
    induction l with
    | nil => intro z; simp
    | cons x l ih => intro z; rw [List.foldl_cons, ih, Array.size_append, List.map_cons, List.sum_cons]; omega
  show ((List.replicate n a.cps).foldl (· ++ ·) #[]).size = n * a.cps.size
  rw [h]; simp
section
variable {X : Cx}
theorem op_strmul : OpR X (binaryOp .Mult) qMulS := by
  intro pins s σ H x y v u Q I rx ry h
  obtain ⟨a, n, rfl, rfl, a0, a1, n0, n1, q⟩ := h
  obtain ⟨t, rfl⟩ := rx
  obtain ⟨t', rfl⟩ := ry
  have m1 : ((a.length : Int)) ≤ 1000 := by omega
  have big : (1000 : Int) ≤ (2 ^ 63 - 1) / n := by
    rw [Int.le_ediv_iff_mul_le (by omega)]
    exact Int.le_trans (Int.mul_le_mul_of_nonneg_left n1 (by decide)) (by decide)
  refine P.mul_str ?_ (fun _ _ => by omega) (fun _ _ => ?_) ?_
  · rw [decide_eq_false (by omega), decide_eq_false (by omega)]; rfl
  · show decide (_ > _) = false
    have m2 : a.length * n.toNat ≤ 1000 * 1000 := Nat.mul_le_mul a1 (by omega)
    exact decide_eq_false (Nat.not_lt.mpr (Nat.le_trans m2 (by rw [sizeLine_eq]; decide)))
  · rw [if_neg (by omega)]
    by_cases e : (n == 1 || a.length == 0) = true
    · rw [if_pos e]
      have e1 : n = 1 := by
        rw [Bool.or_eq_true, beq_iff_eq, beq_iff_eq] at e
        omega
      subst e1
      rw [show ((1 : Int).toNat) = 1 from rfl, times_one] at q
      exact ⟨.str a, H, I, ⟨t, rfl⟩, q⟩
    · rw [if_neg e]
      refine ⟨?_, .str (times a n.toNat), H, I.tok _, ⟨_, rfl⟩, q⟩
      have m2 : n.toNat * a.length ≤ 1000 * 1000 := Nat.mul_le_mul (by omega) a1
      have l := times_len a n.toNat
      unfold times at l
      rw [l, sizeLine_eq]; omega
theorem r_mulS {a : Str} {n : Int} {H : Hp} {Q : VK} (h : Q (.str (times a n.toNat)) H) (a0 : 0 < a.length ∧ a.length ≤ 1000) (n0 : 1 ≤ n ∧ n ≤ 1000) : qMulS (.str a) (.int n) H Q := ⟨a, n, rfl, rfl, a0.1, a0.2, n0.1, n0.2, h⟩
/-! ### list(text) -/
def letters (a : Str) : List V := a.cps.toList.map fun c => V.str ⟨#[c]⟩
def qListS : List V → Hp → VK → Prop := fun xs H Q => ∃ a : Str, xs = [.str a] ∧ a.length ≤ 100000 ∧ ∀ l, H l = none → Q (.ref l) (upd H l (.lst (letters a)))
theorem letters_vals {a : Str} {its : Array Value} (h : ItemsOf (SignAt a) its a.cps.size) : Vals (letters a) its.toList := by
  obtain ⟨hs, hi⟩ := h
  have main : ∀ (cs : List Nat) (vs : List Value), cs.length = vs.length → (∀ (j : Nat) (v : Value), vs[j]? = some v → ∃ (c : Nat) (u : Tok), cs[j]? = some c ∧ v = Value.str ⟨#[c]⟩ u) → Vals (cs.map fun c => V.str ⟨#[c]⟩) vs := by
    intro cs
    induction cs with
    | nil => intro vs hl _; cases vs with
      | nil => exact .nil
      | cons _ _ => cases hl
    | cons c cs ih => intro vs hl hv; cases vs with
      | nil => cases hl
      | cons v vs =>
        refine .cons ?_ (ih vs (Nat.succ.inj hl) fun j w hw => hv (j + 1) w hw)
        obtain ⟨c', u, e, rfl⟩ := hv 0 v rfl
        cases e
        exact ⟨u, rfl⟩
  refine main _ _ (by rw [Array.length_toList, Array.length_toList, hs]) fun j v hj => ?_
  rw [Array.getElem?_toList] at hj
  obtain ⟨c, u, e, rfl⟩ := hi j v hj
  exact ⟨c, u, by rw [Array.getElem?_toList]; exact e, rfl⟩
theorem letters_len (a : Str) : (letters a).length = a.length := by
  unfold letters; rw [List.length_map, Array.length_toList]; rfl
theorem call_list_str (hc : X.calm = true) : CallR X (.type "list") qListS := by
  intro pins s σ H xs us Q I r h
  obtain ⟨a, rfl, hl, q⟩ := h
  obtain ⟨u, rfl, rx⟩ := vals1 r
  obtain ⟨t, rfl⟩ := rx
  have big : a.length ≤ sizeLine := by rw [sizeLine_eq]; omega
  refine PySem.call_list_str (I.ok.hd hc) a t (hn := big) ?_
  intro h2 tk acc room keep got its
  refine ⟨.ref s.heap.objs.size, upd H s.heap.objs.size (.lst (letters a)), ?_, rfl, q _ (I.hok.fresh (Nat.le_refl _))⟩
  refine I.laid keep (Nat.le_refl _) ?_
  exact ⟨by rw [letters_len]; exact big, acc.toList, room, letters_vals its, got⟩
theorem r_listS {a : Str} {H : Hp} {Q : VK} (h : ∀ l, H l = none → Q (.ref l) (upd H l (.lst (letters a)))) (hl : a.length ≤ 100000) : qListS [.str a] H Q := ⟨a, rfl, hl, h⟩
end

/-! ### enumerate(tuple) -/
section
variable {P : Program} {w : World} {K : PySem.W.Frag}
/-- the tuple at a, each item behind its number in a new pair -/
def Itn (K : PySem.W.Frag) (a : Addr) : It :=
  ⟨fun i H => ∃ ys z, SqT K H a ys ∧ ys[i]? = some z,
   fun i H v H2 => ∃ p z, v = V.ref p ∧ H p = none ∧ H2 = upd H p (.tup [.int (i : Nat), z]) ∧ (∀ ys, SqT K H a ys → ys[i]? = some z),
   fun i H => ∃ ys : List V, SqT K H a ys ∧ ys.length = i⟩
theorem turn_number {tgs : List Expr} {q : Nat} {at' : Pos} (a en it : Addr) :
    Turn P w K (.Tuple tgs q at') (Itn K a) [en, it] en (fun i g => (∃ last, IsEnum g en it ((i : Nat) : Int) last) ∧ g.IsTupleIter it a i ∧ en ≠ it) where
  mem := List.mem_cons_self ..
  obj := fun i g ⟨⟨last, x1⟩, x2, _⟩ b m => by
    rcases List.mem_cons.mp m with rfl | m
    · exact ⟨_, x1, nofun⟩
    · cases List.mem_singleton.mp m
      obtain ⟨ob, y1, y2, y3⟩ := x2
      exact ⟨ob, y1, fun v z => by rw [y3] at z; exact nomatch z⟩
  keep := fun i g g' ⟨⟨last, x1⟩, x2, x3⟩ same => ⟨⟨last, same en (List.mem_cons_self ..) _ x1⟩, x2.at fun ob z => same it (by simp) ob z, x3⟩
  item := by
    rintro X rfl rfl rfl calm i pins s σ H E I free ⟨⟨last, x1⟩, x2, apart⟩ ⟨ys, z, at1, at2⟩
    obtain ⟨vs, rel, tp, _⟩ := I.tuple at1
    have tp' : s.heap.IsTuple a vs.toArray := tp
    obtain ⟨u, hu, ru⟩ := rel.get at2
    have lt : i < vs.toArray.size := by
      obtain ⟨q1, _⟩ := List.getElem?_eq_some_iff.mp hu
      rw [List.size_toArray]; exact q1
    have hdif : ∀ c : Addr, (∃ ob, s.heap.get? c = some ob ∧ ob.cls ≠ .type "tuple") → a ≠ c := by
      rintro c ⟨ob, y1, y2⟩ rfl
      obtain ⟨ob2, y4, y5, _⟩ := tp'
      rw [y1] at y4; cases y4
      exact y2 y5
    have below : ∀ b ∈ [en, it], b < s.heap.objs.size := fun b m => by
      rcases List.mem_cons.mp m with rfl | m
      · exact Heap.lt_size x1
      · cases List.mem_singleton.mp m
        obtain ⟨ob, y1, _⟩ := x2
        exact Heap.lt_size y1
    have dif : a ≠ it := by
      obtain ⟨ob, y1, y2, _⟩ := x2
      exact hdif it ⟨ob, y1, by rw [y2]; decide⟩
    have dif2 : en ∉ [it, a] := by
      intro z
      rcases List.mem_cons.mp z with z | z
      · exact apart z
      · exact hdif en ⟨_, x1, fun z => absurd (show Value.type "enumerate" = Value.type "tuple" from z) (by decide)⟩ (List.mem_singleton.mp z).symm
    have drawn := Draws.tuple (prog := X.prog) (w := X.w) (A := X.A.in1) (I.ok.hd calm) it a dif vs.toArray
    refine wpAny_pyNext_enum_itemD drawn x1 ⟨x2, tp'⟩ lt apart dif2 ?_
    rintro w1 g1 k1 pw out ⟨it1, tp1⟩ new1 size1 others
    have ew : w1 = u := by
      have e1 : vs.toArray[i]? = some w1 := pw
      rw [List.getElem?_toArray, hu] at e1
      exact (Option.some.inj e1).symm
    subst ew
    refine ⟨_, rfl, wpAny_letOwnedTupleGo_enum (s := { s with heap := g1, toks := k1 + 1 }) out fun g2 en2 but => ?_⟩
    have far : s.heap.objs.size ≠ en := Nat.ne_of_gt (below en (List.mem_cons_self ..))
    have new2 := (but.2 _ far).trans new1
    have I2 : Inv X pins σ (upd H s.heap.objs.size (.tup [.int (i : Nat), z])) { s with heap := g2, toks := k1 + 1 } := by
      refine I.turnedNew (ch := [en, it]) ?_ free (Nat.le_refl _) ?_
      · intro b ob m y
        exact (but.2 b fun e => m (e ▸ List.mem_cons_self ..)).trans (others b ob (fun e => m (e ▸ List.mem_cons_self ..)) (fun e => m (by rw [e]; simp)) y)
      · exact ⟨by rw [sizeLine_eq]; exact (by decide : 2 ≤ 16777216), _, .cons ⟨k1, rfl⟩ (.cons ru .nil), _, new2, rfl, _, rfl⟩
    refine ⟨.ref s.heap.objs.size, _, I2, rfl, ⟨_, z, rfl, I.hok.fresh (Nat.le_refl _), rfl, fun zs hz => ?_⟩, ⟨⟨w1, ?_⟩, it1.at fun ob y => (but.2 it (Ne.symm apart)).trans y, apart⟩, fun b m => ?_⟩
    · rw [I.tuple_inj hz at1]; exact at2
    · rw [Int.natCast_add]; exact en2
    · rw [upd_ne (Nat.ne_of_lt (below b m))]
      exact (free b m).1
  done := by
    rintro X rfl rfl rfl calm i pins s σ H E I free ⟨⟨last, x1⟩, x2, apart⟩ ⟨ys, at1, rfl⟩
    obtain ⟨vs, rel, tp, _⟩ := I.tuple at1
    have tp' : s.heap.IsTuple a vs.toArray := tp
    have dif : a ≠ it := by
      rintro rfl
      obtain ⟨ob, y1, y2, _⟩ := x2
      obtain ⟨ob2, y4, y5, _⟩ := tp'
      rw [y1] at y4; cases y4
      rw [y2] at y5; exact absurd y5 (by decide)
    have drawn := Draws.tuple (prog := X.prog) (w := X.w) (A := X.A.in1) (I.ok.hd calm) it a dif vs.toArray
    have size1 : ys.length = vs.toArray.size := by rw [List.size_toArray]; exact rel.length
    obtain ⟨f0, f1, f2, f3, f4, f5⟩ := free it (by simp)
    refine wpAny_pyNext_enum_endD drawn x1 ⟨size1 ▸ x2, tp'⟩ fun g ext => ⟨rfl, ?_⟩
    exact I.turned (t' := s.toks) (fun b ob m y => ext b ob m y) f0 f1 f3 f4 f5
  self := fun A i s Q E ⟨⟨_, x1⟩, _⟩ h => wpAny_pyIter_enum x1 h
def iNum (K : PySem.W.Frag) (ta : TA) : TI := fun σ H R => ta σ H fun vs H1 => ∃ a ys, vs = [V.ref a] ∧ SqT K H1 a ys ∧ R (Itn K a) H1
theorem walk_num {a : Addr} {ys : List V} : Walk (Itn K a) ys.length (fun H => SqT K H a ys) (YPair (fun i => some (.int (i : Nat))) (fun i => ys[i]?)) := by
  constructor
  · intro i H hi q; exact ⟨ys, ys[i], q, List.getElem?_eq_getElem hi⟩
  · intro H q; exact ⟨ys, q, rfl⟩
  · rintro i H v H2 _ q ⟨p, z, rfl, h1, h2, h3⟩
    exact ⟨p, .int (i : Nat), z, rfl, h1, h2, rfl, h3 ys q⟩
end
set_option maxHeartbeats 1000000 in
theorem meets_number {v : Value} {ob : Obj} {G : Heap → Prop} (B : Begins v ob G) :
    Meets (Builtin.«enumerate.__new__» ⟨[.type "enumerate", v], []⟩) (fun _ R s => G s.heap ∧
      R (.ok (.ret (.ref (s.heap.push ob).objs.size))) { s with heap := (s.heap.push ob).push { cls := .type "enumerate", data := .fields #[.none, .bool false, .ref s.heap.objs.size, rawInt 0, .none, .none] } }) := by
  refine Meets.of_wp fun prog w A R st hh => ?_
  obtain ⟨hp, gl, dp, tk, ext⟩ := st
  obtain ⟨hG, hR⟩ := hh
  have kin := sub_enumerate
  have begin' : ∀ {A2 : Around} {E2 : Value → Shared → Prop} {Q2 : Value → Shared → Prop}, Q2 (.ref hp.objs.size) ⟨hp.push ob, gl, dp, tk, ext⟩ → wpAny (model prog w) A2 (pyIter v) Q2 E2 ⟨hp, gl, dp, tk, ext⟩ := by
    intro A2 E2 Q2 q2
    exact B.iter prog w A2 E2 ⟨hp, gl, dp, tk, ext⟩ Q2 hG q2
  wp_walk using begin'
  apply wpAny_stack_any
  intro stk
  apply wpAny_pure
  split
  · rename_i c _ _ _ _ _
    cases (c == Value.type "enumerate") <;> (wp_walk using begin'; exact ⟨_, rfl, hR⟩)
  · wp_walk using begin'
    exact ⟨_, rfl, hR⟩
section
variable {X : Cx}
theorem pi_enumT {e : Expr} {ta : TA} {p pos tpos : Pos} {tgs : List Expr} {q : Nat} (hg : Gl X "enumerate") (hm : X.mg "enumerate" = none) (ha : PA X [e] ta) (na : starEach [e] X.env = [(false, eval e X.env)] := by rfl) :
    PI X (.Tuple tgs q tpos) (.Call (.Name "enumerate" p) [e] [] pos) (iNum X.K ta) := by
  constructor
  intro pins s σ H R I h
  refine Call_ (ld_blt I hg hm bt_enumerate (PyProof.Rows.callWith_type1 (thn (ha.run pos pins s σ H _ I h) ?_) na rfl))
  rintro us s1 ⟨vs, H1, I1, r1, a, ys, rfl, hq, next⟩
  obtain ⟨u, rfl, rx⟩ := vals1 r1
  obtain rfl : u = .ref a := rx
  obtain ⟨its, rel, tp, _⟩ := I1.tuple hq
  have tp' : s1.heap.IsTuple a its.toArray := tp
  have B := begins_tuple a its.toArray
  refine callType_new F.called_enumerate (by decide) (F.typeCall_enumerate_1 _) (F.newCall_enumerate_1 _) (fun ob => F.args_object_init_2 ob _) F.entry_enumerate_new (meets_number B) ⟨tp', ?_⟩
  let t1 := s1.heap.push { cls := .type "tuple_iterator", data := .fields #[.ref a, .int 0 0] }
  have n1 : t1.objs.size = s1.heap.objs.size + 1 := Heap.size_push ..
  show _ ∧ _
  rw [n1]
  have x1 : IsEnum (t1.push { cls := .type "enumerate", data := .fields #[.none, .bool false, .ref s1.heap.objs.size, rawInt 0, .none, .none] }) (s1.heap.objs.size + 1) s1.heap.objs.size 0 .none := by
    have z := Heap.get?_push_size t1 (o := { cls := .type "enumerate", data := .fields #[.none, .bool false, .ref s1.heap.objs.size, rawInt 0, .none, .none] }) rfl
    rw [n1] at z; exact z
  have same : ∀ b ob, s1.heap.get? b = some ob → (t1.push { cls := .type "enumerate", data := .fields #[.none, .bool false, .ref s1.heap.objs.size, rawInt 0, .none, .none] }).get? b = some ob :=
    fun b ob z => Heap.get?_push_of_some _ (Heap.get?_push_of_some _ z)
  refine ⟨⟨_, x1, rfl⟩, wpAny_pyIter_enum x1 ?_⟩
  have it1 : (t1.push { cls := .type "enumerate", data := .fields #[.none, .bool false, .ref s1.heap.objs.size, rawInt 0, .none, .none] }).IsTupleIter s1.heap.objs.size a 0 :=
    ⟨_, Heap.get?_push_of_some _ (Heap.get?_push_size _ rfl), rfl, rfl⟩
  refine ⟨s1.heap.objs.size + 1, [s1.heap.objs.size + 1, s1.heap.objs.size], _, Itn X.K a, H1, rfl, I1.kept (t' := s1.toks) same, turn_number a (s1.heap.objs.size + 1) s1.heap.objs.size, ⟨⟨.none, x1⟩, it1, Nat.succ_ne_self _⟩, ?_, next⟩
  intro b m
  have le : s1.heap.objs.size ≤ b := by
    rcases List.mem_cons.mp m with rfl | m
    · exact Nat.le_succ _
    · exact Nat.le_of_eq (List.mem_singleton.mp m).symm
  exact I1.fpOk le (I1.hok.fresh le)
end
/-! ### any walk, for loops and comprehensions -/
section
variable {σ : L2.St} {H : Hp} {nx bk ct : L2.St → Hp → Prop} {rt Q : VK} {te : TE} {tt : TT} {tb : TS} {tl : TA} {g : TG} {K : PySem.W.Frag} {J : It} {n : Nat} {G : Hp → Prop} {Y : Nat → Hp → V → Hp → Prop} {vs : List Nat}
theorem fr_it (w : Walk J n G Y) (Pv : Nat → L2.St → Hp → Prop) (h0 : Pv 0 σ H) (hG : ∀ i σ H, i ≤ n → Pv i σ H → G H)
    (hs : ∀ i x σ H H', i < n → Pv i σ H → Y i H x H' → g x σ H' fun σ2 H2 => tb ⟨Pv (i + 1), rt, nx, Pv (i + 1)⟩ σ2 H2) (hd : ∀ σ H, Pv n σ H → nx σ H) : FR J g tb ⟨nx, rt, bk, ct⟩ σ H := for_it w Pv h0 hG hs hd
theorem lw_it (w : Walk J n G Y) (Pv : Addr → Nat → Hp → Prop) (h0 : ∀ D, H D = none → Pv D 0 (upd H D (.lst []))) (hG : ∀ D, H D = none → ∀ i H, i ≤ n → Pv D i H → G H)
    (hs : ∀ D, H D = none → ∀ i x H H', i < n → Pv D i H → Y i H x H' → g x (wipe σ vs) H' fun σ2 H2 => wipe σ2 vs = wipe σ vs ∧ tt σ2 H2 fun b H3 =>
      if b = true then te σ2 H3 fun y H4 => ∃ acc, H4 D = some (.lst acc) ∧ acc.length < sizeLine ∧ Pv D (i + 1) (upd H4 D (.lst (acc ++ [y]))) else Pv D (i + 1) H3) (hd : ∀ D, H D = none → ∀ H, Pv D n H → Q (.ref D) H) : LCW J g tt te vs σ H Q :=
  fun D hD => lc_it w (Pv D) (h0 D hD) (hG D hD) (hs D hD) (hd D hD)
theorem r_lcN (h : tl σ H fun us H1 => ∃ a ys, us = [V.ref a] ∧ SqT K H1 a ys ∧ LCW (Itn K a) g tt te vs σ H1 Q) : tLc (iNum K tl) g tt te vs σ H Q := h
theorem r_forN {D : Ends} (h : tl σ H fun us H1 => ∃ a ys, us = [V.ref a] ∧ SqT K H1 a ys ∧ FR (Itn K a) g tb D σ H1) : tFor (iNum K tl) g tb D σ H := h
theorem r_lcE (h : tl σ H fun us H1 => ∃ a ys, us = [V.ref a] ∧ SqL K H1 a ys ∧ LCW (Ite K a) g tt te vs σ H1 Q) : tLc (iEnum K tl) g tt te vs σ H Q := h
theorem r_forE {D : Ends} (h : tl σ H fun us H1 => ∃ a ys, us = [V.ref a] ∧ SqL K H1 a ys ∧ FR (Ite K a) g tb D σ H1) : tFor (iEnum K tl) g tb D σ H := h
theorem r_seqN {a : Addr} {ys : List V} {Pr : Addr → Prop} (q : SqT K H a ys) (h : Pr a) : ∃ b zs, [V.ref a] = [V.ref b] ∧ SqT K H b zs ∧ Pr b := ⟨a, ys, rfl, q, h⟩
theorem r_seqE {a : Addr} {ys : List V} {Pr : Addr → Prop} (q : SqL K H a ys) (h : Pr a) : ∃ b zs, [V.ref a] = [V.ref b] ∧ SqL K H b zs ∧ Pr b := ⟨a, ys, rfl, q, h⟩
end
end Sy

/-! Me: equal tuples and lists of plain data. -/
namespace Me
open PySem PySem.Spec PyProof.Rows L2 Sx
theorem lay_ints : ∀ ns : List Int, PyData.canLayAll0 (ns.map PyData.int) = true
  | [] => rfl
  | n :: ns => by
    have h := lay_ints ns
    simp only [List.map_cons, PyData.canLayAll0, PyData.canLay0, h, Bool.and_self]
theorem deep_ints : ∀ ns : List Int, PyData.depthAll (ns.map PyData.int) ≤ 1
  | [] => by simp [PyData.depthAll]
  | n :: ns => by
    have h := deep_ints ns
    simp only [List.map_cons, PyData.depthAll, PyData.depth]
    omega
theorem lay_strs : ∀ ns : List Str, ns.all PyData.strOk = true → PyData.canLayAll0 (ns.map PyData.str) = true
  | [], _ => rfl
  | n :: ns, k => by
    rw [List.all_cons, Bool.and_eq_true] at k
    have h := lay_strs ns k.2
    simp only [List.map_cons, PyData.canLayAll0, PyData.canLay0, h, k.1, Bool.and_self]
theorem deep_strs : ∀ ns : List Str, PyData.depthAll (ns.map PyData.str) ≤ 1
  | [] => by simp [PyData.depthAll]
  | n :: ns => by
    have h := deep_strs ns
    simp only [List.map_cons, PyData.depthAll, PyData.depth]
    omega
theorem tup_ok {ds : List PyData} (h1 : PyData.canLayAll0 ds = true) (h2 : PyData.depthAll ds ≤ 40) : SeqAt.shaped (.tuple ds) = true := by
  unfold SeqAt.shaped
  rw [Bool.and_eq_true, decide_eq_true_iff]
  refine ⟨by simpa [PyData.canLay0] using h1, ?_⟩
  simp only [PyData.depth]; omega
theorem lst_ok {ds : List PyData} (h1 : PyData.canLayAll0 ds = true) (h2 : PyData.depthAll ds ≤ 40) : SeqAt.shaped (.list ds) = true := by
  unfold SeqAt.shaped
  rw [Bool.and_eq_true, decide_eq_true_iff]
  refine ⟨by simpa [PyData.canLay0] using h1, ?_⟩
  simp only [PyData.depth]; omega
section
variable {K : PySem.W.Frag} {H : Hp} {Q : VK} {a b : Addr} {ns : List Int} {ts : List Str}
theorem sh_tupI : SeqAt.shaped (.tuple (ns.map PyData.int)) = true := tup_ok (lay_ints ns) (Nat.le_trans (deep_ints ns) (by decide))
theorem sh_lstI : SeqAt.shaped (.list (ns.map PyData.int)) = true := lst_ok (lay_ints ns) (Nat.le_trans (deep_ints ns) (by decide))
theorem sh_tupS (hs : ts.all PyData.strOk = true) : SeqAt.shaped (.tuple (ts.map PyData.str)) = true := tup_ok (lay_strs ts hs) (Nat.le_trans (deep_strs ts) (by decide))
theorem sh_lstS (hs : ts.all PyData.strOk = true) : SeqAt.shaped (.list (ts.map PyData.str)) = true := lst_ok (lay_strs ts hs) (Nat.le_trans (deep_strs ts) (by decide))
theorem eqv_same {d : PyData} (h : SeqAt.shaped d = true) : PyData.eqv d d = true := SeqAt.eqv_refl d (SeqAt.canLay_of_shaped h)
/-- two tuples of the same ints are equal -/
theorem eq_tupI (h1 : H a = some (.tup (ns.map V.int))) (h2 : H b = some (.tup (ns.map V.int))) (h : Q (.bl true) H) : rEqD K (.ref a) (.ref b) H Q :=
  r_eqD (.tup (SqT.of h1) (dpI ns)) (.tup (SqT.of h2) (dpI ns)) sh_tupI sh_tupI (by rw [eqv_same sh_tupI]; exact h)
theorem ne_tupI (h1 : H a = some (.tup (ns.map V.int))) (h2 : H b = some (.tup (ns.map V.int))) (h : Q (.bl false) H) : rNeD K (.ref a) (.ref b) H Q :=
  r_neD (.tup (SqT.of h1) (dpI ns)) (.tup (SqT.of h2) (dpI ns)) sh_tupI sh_tupI (by rw [eqv_same sh_tupI]; exact h)
theorem eq_lstI (h1 : H a = some (.lst (ns.map V.int))) (h2 : H b = some (.lst (ns.map V.int))) (h : Q (.bl true) H) : rEqD K (.ref a) (.ref b) H Q :=
  r_eqD (.lst (SqL.of h1) (dpI ns)) (.lst (SqL.of h2) (dpI ns)) sh_lstI sh_lstI (by rw [eqv_same sh_lstI]; exact h)
theorem ne_lstI (h1 : H a = some (.lst (ns.map V.int))) (h2 : H b = some (.lst (ns.map V.int))) (h : Q (.bl false) H) : rNeD K (.ref a) (.ref b) H Q :=
  r_neD (.lst (SqL.of h1) (dpI ns)) (.lst (SqL.of h2) (dpI ns)) sh_lstI sh_lstI (by rw [eqv_same sh_lstI]; exact h)
/-- any two values that read the same -/
theorem ne_same {x y : V} {d : PyData} (hx : Dp K H x d) (hy : Dp K H y d) (hs : SeqAt.shaped d = true) (h : Q (.bl false) H) : rNeD K x y H Q :=
  r_neD hx hy hs hs (by rw [eqv_same hs]; exact h)
theorem eq_same {x y : V} {d : PyData} (hx : Dp K H x d) (hy : Dp K H y d) (hs : SeqAt.shaped d = true) (h : Q (.bl true) H) : rEqD K x y H Q :=
  r_eqD hx hy hs hs (by rw [eqv_same hs]; exact h)
end
end Me

/-! Sw: comparisons by own defs, data that are less, texts turned round. -/
namespace Sw
open PySem PySem.Spec PyProof.Rows L2 Sx Sy
open Sem (wp)
section
variable {X : Cx}
/-! ### less, for data -/
def qLtD (K : PySem.W.Frag) : R2 := fun x y H Q => ∃ d e, Dp K H x d ∧ Dp K H y e ∧ PySem.W.alike d e = true ∧ d ≠ .none ∧ d.depth ≤ 60 ∧ Q (.bl (PySem.W.dataLt d e)) H
theorem op_ltD (hu : X.A.units + 64 < cLine) : OpR X (compareOp .Lt) (qLtD X.K) := by
  intro pins s σ H x y v u Q I rx ry h
  obtain ⟨d, e, hd, he, al, nn, dp, q⟩ := h
  obtain ⟨as, h1⟩ := Dp.reads I d x v hd rx
  obtain ⟨bs, h2⟩ := Dp.reads I e y u he ry
  have room : X.A.units + min d.depth e.depth < cLine := by
    have := Nat.min_le_left d.depth e.depth
    omega
  exact PySem.W.rcLt_alike d e X.A s v u as bs h1 h2 al nn room X.prog X.w X.xe _ ⟨.bl _, H, I, rfl, q⟩
theorem r_ltD {K : PySem.W.Frag} {x y : V} {d e : PyData} {H : Hp} {Q : VK} (hx : Dp K H x d) (hy : Dp K H y e) (al : PySem.W.alike d e = true) (nn : d ≠ .none) (dp : d.depth ≤ 60) (h : Q (.bl (PySem.W.dataLt d e)) H) : qLtD K x y H Q := ⟨d, e, hx, hy, al, nn, dp, h⟩
/-! ### text[::-1] -/
def tBack (te : TE) : TE := fun σ H Q => te σ H fun x H1 => ∃ l : List Nat, x = .str ⟨l.toArray⟩ ∧ l.length ≤ 100000 ∧ Q (.str ⟨l.reverse.toArray⟩) H1
theorem picked_back (l : List Nat) : (Builtin.Str.strSliceIndices none none (-1) (⟨l.toArray⟩ : Str).length).filterMap ((⟨l.toArray⟩ : Str).cps[·]?) = l.reverse := by
  have e : (⟨l.toArray⟩ : Str).length = l.length := by simp [Str.length]
  rw [e, picked_rev]
  apply List.ext_getElem?
  intro i
  rw [filterMap_get _ _ (by
    intro j hj
    obtain ⟨k, hk, rfl⟩ := List.mem_map.mp hj
    have := List.mem_range.mp hk
    simp; omega), List.map_map, List.getElem?_map]
  by_cases h : i < l.length
  · rw [List.getElem?_range h, List.getElem?_reverse h]
    have h2 : l.length - 1 - i < l.length := by omega
    simp [Array.getD, h2]
  · rw [List.getElem?_eq_none (by simpa using h), List.getElem?_eq_none (by simpa using h)]; rfl
theorem pe_revS {e : Expr} {te : TE} {k : Nat} {p1 p2 p3 pos : Pos} (he : PE X e te) : PE X (.Subscript e (.Slice none none (some (.UnaryOp .USub (.Constant (.int 1) k p1) p2)) p3) pos) (tBack te) := by
  constructor
  intro pins s σ H Q I h
  refine Subscript_ (thn (he.run pins s σ H _ I h) ?_)
  rintro v s1 ⟨x, H1, I1, r1, l, rfl, hl, q⟩
  obtain ⟨t, rfl⟩ := r1
  have step : PO X (some (.UnaryOp .USub (.Constant (.int 1) k p1) p2)) (tPart (tUn (rU fun i => .int (-i)) (tC (.int 1)))) := po_some (pe_un un_neg pe_int)
  refine wpAny_Slice (thn (po_none.run pins s1 σ H1 (fun o H2 => o = none ∧ H2 = H1) I1 ⟨rfl, rfl⟩) ?_)
  rintro v1 s2 ⟨o1, H2, I2, w1, rfl, rfl⟩
  refine thn (po_none.run pins s2 σ H2 (fun o H3 => o = none ∧ H3 = H2) I2 ⟨rfl, rfl⟩) ?_
  rintro v2 s3 ⟨o2, H3, I3, w2, rfl, rfl⟩
  refine thn (step.run pins s3 σ H3 (fun o H4 => o = some (-1) ∧ H4 = H3) I3 ⟨1, rfl, -1, rfl, rfl, rfl⟩) ?_
  rintro v3 s4 ⟨o3, H4, I4, w3, rfl, rfl⟩
  obtain ⟨b1, rfl, e1⟩ := IsPart.raw w1
  obtain ⟨b2, rfl, e2⟩ := IsPart.raw w2
  obtain ⟨b3, rfl, e3⟩ := IsPart.raw w3
  have n1 : b1 = none := Option.map_eq_none_iff.mp e1
  have n2 : b2 = none := Option.map_eq_none_iff.mp e2
  obtain ⟨⟨i3, t3⟩, rfl, e4⟩ := Option.map_eq_some_iff.mp e3
  subst n1 n2
  obtain rfl : i3 = -1 := e4
  have I5 : Inv X pins σ H4 { s4 with heap := s4.heap.push { cls := .type "slice", data := .fields #[partValue none, partValue none, partValue (some (-1, t3))] } } := I4.kept (t' := s4.toks) fun b ob z => Heap.get?_push_of_some _ z
  refine tail_any (ops := [.str ⟨l.toArray⟩ t, .ref s4.heap.objs.size]) (typeIs_str _ _ _) F.slot_str_getitem.lookup ?_ (by with_unfolding_all rfl)
  refine wpAny_getItem_str_slice (l := none) (u := none) (st := some (-1, t3)) ⟨_, Heap.get?_push_size _ rfl, rfl, rfl⟩ rfl ?_
  have made : sliceMade ⟨l.toArray⟩ t none none (some (-1, t3)) = .str ⟨l.reverse.toArray⟩ := by
    unfold sliceMade slicePicked
    rw [if_neg (by intro z; rw [Bool.and_eq_true] at z; exact absurd (show ((-1 : Int) == 1) = true from z.1) (by decide))]
    show Made.str ⟨((Builtin.Str.strSliceIndices none none (-1) (⟨l.toArray⟩ : Str).length).filterMap ((⟨l.toArray⟩ : Str).cps[·]?)).toArray⟩ = _
    rw [picked_back]
  rw [made]
  refine ⟨?_, .str _, H4, I5.tok _, ⟨_, rfl⟩, q⟩
  show l.reverse.toArray.size ≤ _
  rw [List.size_toArray, List.length_reverse, sizeLine_eq]; omega
theorem r_back {te : TE} {σ : L2.St} {H : Hp} {Q : VK} (h : te σ H fun x H1 => ∃ l : List Nat, x = .str ⟨l.toArray⟩ ∧ l.length ≤ 100000 ∧ Q (.str ⟨l.reverse.toArray⟩) H1) : tBack te σ H Q := h
/-! ### x == y, x < y by an own def -/
def qOwn (C : Addr) (sp : Sp) : R2 := fun x y H Q => ∃ a dx fs b dy gs, x = .ref a ∧ y = .ref b ∧ H a = some (.ins C dx fs) ∧ H b = some (.ins C dy gs) ∧ sp [x, y] H Q C8.E0
/-- what a class's own comparisons stand on -/
structure OwnOp (K : PySem.W.Frag) (C : Addr) (m : Str) (g : Addr) : Prop where
  at' : PySem.W.findIn K (.ref C) m = some (some (.ref g))
  fn : PySem.W.isFn K (.ref g) = true
variable {P : Program} {n : Nat} {sp : Sp} {C g : Addr} {fd : FuncData} {ps : List Str}
theorem op_own {op : CmpOp} (hop : ∀ a b, compareOp op a b = richCompare op a b) (o : OwnOp X.K C (cmpInfo op).2.1 g) (F : FnOk X.prog X.w X.K X.mg X.base C8.CX0 n g fd ps sp) (hr : Room n X.A) (bd : Binds X.K fd ps []) : OpR X (compareOp op) (qOwn C sp) := by
  intro pins s σ H x y v u Q I rx ry h
  obtain ⟨a, dx, fs, b, dy, gs, rfl, rfl, ha, hb, q⟩ := h
  obtain rfl : v = .ref a := rx
  obtain rfl : u = .ref b := ry
  obtain ⟨mA, J, _⟩ := ins_get I.hok ha
  obtain ⟨mB, J2, _⟩ := ins_get I.hok hb
  obtain ⟨od, J, _⟩ := J.look
  obtain ⟨od2, J2, _⟩ := J2.look
  obtain ⟨m, fr⟩ := I.fr
  rw [hop]
  refine PySem.W.cmp_K (op := op) (tb := .ref C) hr.units0 fr I.ok.mod.kin J J2.type (by simp [PySem.W.notFirst]) o.at' o.fn ?_
  have len := F.len _ _ _ _ q
  have both : Vals [V.ref a, V.ref b] [Value.ref a, Value.ref b] := .cons rfl (.cons rfl .nil)
  have bind := bd s [.ref a, .ref b] I.kIn (by simpa using len)
  refine wpAny_call (codeAny_mono (F.run X.A X.stack s H ⟨[.ref a, .ref b], []⟩ [.ref a, .ref b] [.ref a, .ref b] Q C8.E0 hr I.env0 (by simpa using bind) both q) ?_)
  intro r s2 hq
  cases r with
  | error e => exact False.elim hq
  | ok fl =>
    cases fl with
    | ret z =>
      obtain ⟨v, H2, I2, rz, qz⟩ := I.after hq
      exact SlX.cmpback rz ⟨v, H2, I2, rz, qz⟩
    | next => exact hq.elim
    | brk => exact hq.elim
    | cont => exact hq.elim
end
end Sw
namespace Sw
open PySem PySem.Spec PyProof.Rows L2 Sx Sy
/-! ### x != y by an own == -/
section
variable {M : Model} {prog : Program} {w : World} {A : Around} {E : Value → Shared → Prop} {s : Shared} {K : PySem.W.Frag} {x C : Addr} {ox : Obj} {od : Option Obj}
theorem bound_ne {args : List Value} {Q : Option Value → Shared → Prop} (X : K.In s.heap) (I : PySem.W.InstAt s.heap x ox C od) (hs : PySem.W.findIn K (.ref C) "__ne__" = some (some (.builtin "object.__ne__")))
    (h : wpAny M A (call (.builtin "object.__ne__") (.ref x :: args)) (fun v => Q (some v)) E s) : wpAny M A (callSpecialIfBound? (.ref x) "__ne__" args) Q E s := by
  have last : wpAny M A (call (.builtin "object.__ne__") ([.ref x] ++ args) >>= fun v => pure (some v)) Q E s := wpAny_bind (wpAny_mono h (fun v s2 h2 => wpAny_pure h2) fun _ _ e => e)
  simp only [callSpecialIfBound?, bindSpecialIfBound?]
  apply wpAny_holding
  refine wpAny_bind (wpAny_bind (wpAny_bind (I.type.here ((PySem.W.looks_findIn X hs).here ?_))))
  apply wpAny_bind
  refine wpAny_askSetting (wpAny_ite ?_)
  split
  · exact wpAny_bind (wpAny_of_eq (F.cmp_object.ne.bind _) (wpAny_pure (by exact last)))
  · exact wpAny_tryCatch (wpAny_bind (wpAny_of_eq (F.cmp_object.ne.bind _) (wpAny_pure (by exact last))))
theorem call_ne {f : Addr} {b : Value} {Q : Value → Shared → Prop} (X : K.In s.heap) (I : PySem.W.InstAt s.heap x ox C od) (hm : PySem.W.mroIn K C (.type "object") = some true) (hu : A.in1.units < cLine)
    (hs : PySem.W.findIn K (.ref C) "__eq__" = some (some (.ref f))) (hf : PySem.W.isFn K (.ref f) = true)
    (h : wpAny (model prog w) A.in1 (call (.ref f) [.ref x, b]) (fun v s' => ∃ k, v = .bool k ∧ Q (.bool (!k)) s') E s) : wpAny (model prog w) A (call (.builtin "object.__ne__") [.ref x, b]) Q E s := by
  refine wpAny_call (codeAny_call_builtin F.cmp_object.ne.plain F.cmpEntry_ne (PySem.W.check_slot F.cmpKind_ne F.cmpSplit_ne (I.type.andThen (PySem.W.looks_mroIn X hm)) (F.cmpArgs_ne _ _) ?_))
  unfold Builtin.«object.__ne__»
  refine wpAny_bind (m := slotArgs "__ne__" 1 ⟨[.ref x, b], []⟩) (wpAny_of_eq (a := (Value.ref x, [b])) rfl ?_)
  show wpAny _ _ (cRoomFor "comparison" [.ref x, b] >>= _) _ _ _
  refine wpAny_bind (wpAny_cRoomFor hu ?_)
  show wpAny _ _ (callSpecialIfBound? (.ref x) "__eq__" [b] >>= _) _ _ _
  refine wpAny_bind (PySem.W.ifBound_K X I hs hf (wpAny_mono h ?_ fun _ _ e => e))
  rintro v s2 ⟨k, rfl, hq⟩
  refine wpAny_bind (wpAny_truthy_bool ?_)
  exact wpAny_pure hq
end
end Sw
namespace Sw
open PySem PySem.Spec PyProof.Rows L2 Sx Sy
section
variable {prog : Program} {w : World} {A : Around} {E : Value → Shared → Prop} {s : Shared} {K : PySem.W.Frag} {x y C : Addr} {ox oy : Obj} {od oe : Option Obj} {b : Value}
theorem differ {f : Addr} {Q : Value → Shared → Prop} (hu : A.in1.units < cLine) (hu0 : A.units < cLine) (X : K.In s.heap) (I : PySem.W.InstAt s.heap x ox C od) (J : PySem.W.InstAt s.heap y oy C oe) (hm : PySem.W.mroIn K C (.type "object") = some true)
    (hn : PySem.W.findIn K (.ref C) "__ne__" = some (some (.builtin "object.__ne__"))) (hs : PySem.W.findIn K (.ref C) "__eq__" = some (some (.ref f))) (hf : PySem.W.isFn K (.ref f) = true)
    (h : wpAny (model prog w) A.in1 (call (.ref f) [.ref x, .ref y]) (fun v s' => ∃ k, v = .bool k ∧ Q (.bool (!k)) s') E s) : wpAny (model prog w) A (richCompare .NotEq (.ref x) (.ref y)) Q E s := by
  have try1 : wpAny (model prog w) A (tryCompare (.ref x) "__ne__" (.ref y)) (fun r s' => ∃ k : Bool, r = some (.bool k) ∧ Q (.bool k) s') E s := by
    have t : wpAny (model prog w) A (call (.builtin "object.__ne__") [.ref x, .ref y]) (fun v s' => ∃ k : Bool, v = .bool k ∧ Q (.bool k) s') E s := by
      refine call_ne X I hm hu hs hf (wpAny_mono h ?_ fun _ _ e => e)
      rintro v s2 ⟨k, rfl, q⟩
      exact ⟨k, rfl, !k, rfl, q⟩
    unfold tryCompare
    refine wpAny_bind (bound_ne X I hn (wpAny_mono t ?_ fun _ _ e => e))
    rintro v s2 ⟨k, rfl, q⟩
    exact wpAny_pure ⟨k, rfl, q⟩
  unfold richCompare
  simp only [oneThing_ref]
  apply wpAny_holding
  refine wpAny_bind (wpAny_cRoomFor hu0 ?_)
  refine wpAny_bind (I.type.here (wpAny_bind (J.type.here ?_)))
  split
  · rename_i q
    exact absurd q (by simp)
  · apply wpAny_bind
    apply wpAny_pure
    simp only [Bool.false_eq_true, if_false]
    refine wpAny_bind (wpAny_mono try1 ?_ fun _ _ e => e)
    rintro r s2 ⟨k, rfl, q⟩
    exact wpAny_pure q
end
section
variable {X : Cx} {n : Nat} {sp : Sp} {C g : Addr} {fd : FuncData} {ps : List Str}
def qOwnNe (C : Addr) (sp : Sp) : R2 := fun x y H Q => ∃ a dx fs b dy gs, x = .ref a ∧ y = .ref b ∧ H a = some (.ins C dx fs) ∧ H b = some (.ins C dy gs) ∧ sp [x, y] H (fun z H' => ∃ k, z = .bl k ∧ Q (.bl (!k)) H') C8.E0
theorem op_ownNe (o : OwnOp X.K C "__eq__" g) (hm : PySem.W.mroIn X.K C (.type "object") = some true) (hn : PySem.W.findIn X.K (.ref C) "__ne__" = some (some (.builtin "object.__ne__")))
    (F : FnOk X.prog X.w X.K X.mg X.base C8.CX0 n g fd ps sp) (hr : Room (n + 1) X.A) (bd : Binds X.K fd ps []) : OpR X (compareOp .NotEq) (qOwnNe C sp) := by
  intro pins s σ H x y v u Q I rx ry h
  obtain ⟨a, dx, fs, b, dy, gs, rfl, rfl, ha, hb, q⟩ := h
  obtain rfl : v = .ref a := rx
  obtain rfl : u = .ref b := ry
  obtain ⟨mA, J, _⟩ := ins_get I.hok ha
  obtain ⟨mB, J2, _⟩ := ins_get I.hok hb
  obtain ⟨od, J, _⟩ := J.look
  obtain ⟨od2, J2, _⟩ := J2.look
  refine differ hr.in1.units0 hr.units0 I.kIn J J2 hm hn o.at' o.fn ?_
  have len := F.len _ _ _ _ q
  have both : Vals [V.ref a, V.ref b] [Value.ref a, Value.ref b] := .cons rfl (.cons rfl .nil)
  have bind := bd s [.ref a, .ref b] I.kIn (by simpa using len)
  refine wpAny_call (codeAny_mono (F.run X.A.in1 X.stack s H ⟨[.ref a, .ref b], []⟩ [.ref a, .ref b] [.ref a, .ref b] _ C8.E0 hr.in1 I.env0.in1 (by simpa using bind) both q) ?_)
  intro r s2 hq
  cases r with
  | error e => exact False.elim hq
  | ok fl =>
    cases fl with
    | ret z =>
      obtain ⟨v, H2, I2, rz, k, rfl, qz⟩ := I.after hq
      obtain rfl : z = .bool k := rz
      exact ⟨k, rfl, .bl (!k), H2, I2, rfl, qz⟩
    | next => exact hq.elim
    | brk => exact hq.elim
    | cont => exact hq.elim
end
end Sw

/-! Sz: zip over three tuples. -/
namespace Sw
open PySem PySem.Spec PyProof.Rows L2 Sx Sy
open Sem (wp)
/-- the tuples at a, b, c side by side, their items in new triples -/
def It3 (K : PySem.W.Frag) (a b c : Addr) : It :=
  ⟨fun i H => ∃ (xs ys zs : List V) (x y z : V), SqT K H a xs ∧ SqT K H b ys ∧ SqT K H c zs ∧ xs[i]? = some x ∧ ys[i]? = some y ∧ zs[i]? = some z,
   fun i H v H2 => ∃ p x y z, v = V.ref p ∧ H p = none ∧ H2 = upd H p (.tup [x, y, z]) ∧ (∀ xs, SqT K H a xs → xs[i]? = some x) ∧ (∀ ys, SqT K H b ys → ys[i]? = some y) ∧ (∀ zs, SqT K H c zs → zs[i]? = some z),
   fun i H => ∃ xs ys zs : List V, SqT K H a xs ∧ SqT K H b ys ∧ SqT K H c zs ∧ i = min (min xs.length ys.length) zs.length⟩
def At3 (N a b c : Nat) (i : Nat) (h : Heap) : Prop :=
  IsZip h (N + 5 : Nat) (N + 3 : Nat) (N + 4 : Nat) .none ∧ IsTupOf3 h (N + 3 : Nat) (.ref N) (.ref (N + 1 : Nat)) (.ref (N + 2 : Nat)) ∧ (∃ a1 a2 a3, IsTupOf3 h (N + 4 : Nat) a1 a2 a3) ∧ h.IsTupleIter N a i ∧ h.IsTupleIter (N + 1 : Nat) b i ∧ h.IsTupleIter (N + 2 : Nat) c i
def six (N : Nat) : List Addr := [(N + 5 : Nat), (N + 3 : Nat), (N + 4 : Nat), N, (N + 1 : Nat), (N + 2 : Nat)]
theorem six_mem {N : Nat} {b : Addr} : b ∈ six N ↔ b = N + 5 ∨ b = N + 3 ∨ b = N + 4 ∨ b = N ∨ b = N + 1 ∨ b = N + 2 := by unfold six; simp
section
variable {P : Program} {w : World} {K : PySem.W.Frag}
theorem walks3 {A : Around} (hh : A.handled = none) (N a b c : Nat) (ha : a < N) (hb : b < N) (hc : c < N) (xs ys zs : Array Value) :
    WalksT P w A (N + 5 : Nat) ((N + 5 : Nat) :: (N + 3 : Nat) :: (N + 4 : Nat) :: ([N, a] ++ [(N + 1 : Nat), b] ++ [(N + 2 : Nat), c])) [(N + 5 : Nat), (N + 4 : Nat), N, (N + 1 : Nat), (N + 2 : Nat)] (min (min xs.size ys.size) zs.size)
      (fun i vals => ∃ x1 x2 x3, xs[i]? = some x1 ∧ ys[i]? = some x2 ∧ zs[i]? = some x3 ∧ vals = #[x1, x2, x3])
      (fun i h => IsZip h (N + 5 : Nat) (N + 3 : Nat) (N + 4 : Nat) .none ∧ IsTupOf3 h (N + 3 : Nat) (.ref N) (.ref (N + 1 : Nat)) (.ref (N + 2 : Nat)) ∧ (∃ a1 a2 a3, IsTupOf3 h (N + 4 : Nat) a1 a2 a3) ∧ (h.IsTupleIter N a i ∧ h.IsTuple a xs) ∧ (h.IsTupleIter (N + 1 : Nat) b i ∧ h.IsTuple b ys) ∧ (h.IsTupleIter (N + 2 : Nat) c i ∧ h.IsTuple c zs))
      (fun i T h => IsZip h (N + 5 : Nat) (N + 3 : Nat) (N + 4 : Nat) (rawInt T) ∧ IsTupOf3 h (N + 3 : Nat) (.ref N) (.ref (N + 1 : Nat)) (.ref (N + 2 : Nat)) ∧ (∃ a1 a2 a3, IsTupOf3 h (N + 4 : Nat) a1 a2 a3) ∧ (h.IsTupleIter N a (i + 1) ∧ h.IsTuple a xs) ∧ (h.IsTupleIter (N + 1 : Nat) b (i + 1) ∧ h.IsTuple b ys) ∧ (h.IsTupleIter (N + 2 : Nat) c (i + 1) ∧ h.IsTuple c zs) ∧ T ≠ (N + 5 : Nat) ∧ T ≠ (N + 4 : Nat) ∧ T ≠ N ∧ T ≠ (N + 1 : Nat) ∧ T ≠ (N + 2 : Nat)) := by
  have D1 := Draws.tuple (prog := P) (w := w) (A := A.in1) hh N a (Nat.ne_of_lt ha) xs
  have D2 := Draws.tuple (prog := P) (w := w) (A := A.in1) hh (N + 1 : Nat) b (show (b : Nat) ≠ N + 1 by omega) ys
  have D3 := Draws.tuple (prog := P) (w := w) (A := A.in1) hh (N + 2 : Nat) c (show (c : Nat) ≠ N + 2 by omega) zs
  have sep := zip_sep3 (N := N) (fp1 := [a]) (fp2 := [b]) (fp3 := [c]) (by intro q m; cases List.mem_singleton.mp m; exact ha) (by intro q m; cases List.mem_singleton.mp m; exact hb) (by intro q m; cases List.mem_singleton.mp m; exact hc)
  exact WalksT.zipD3 sep D1 D2 D3
theorem turn_zip3 {tgs : List Expr} {q : Nat} {at' : Pos} {N a b c : Nat} (ha : a < N) (hb : b < N) (hc : c < N) :
    Turn P w K (.Tuple tgs q at') (It3 K a b c) (six N) (N + 5 : Nat) (fun i g => At3 N a b c i g) where
  mem := List.mem_cons_self ..
  obj := fun i g ⟨x1, x2, ⟨a1, a2, a3, x3⟩, x4, x5, x6⟩ e m => by
    have it : ∀ e t : Addr, g.IsTupleIter e t i → ∃ o, g.get? e = some o ∧ ∀ v, o.data ≠ .cell v := fun e t z => by
      obtain ⟨ob, y1, y2, y3⟩ := z
      exact ⟨ob, y1, fun v z => by rw [y3] at z; exact nomatch z⟩
    rcases six_mem.mp m with rfl | rfl | rfl | rfl | rfl | rfl
    · exact ⟨_, x1, nofun⟩
    · exact ⟨_, x2, nofun⟩
    · exact ⟨_, x3, nofun⟩
    · exact it _ _ x4
    · exact it _ _ x5
    · exact it _ _ x6
  keep := fun i g g' ⟨x1, x2, ⟨a1, a2, a3, x3⟩, x4, x5, x6⟩ same =>
    ⟨same _ (six_mem.mpr (by simp)) _ x1, same _ (six_mem.mpr (by simp)) _ x2, ⟨a1, a2, a3, same _ (six_mem.mpr (by simp)) _ x3⟩, x4.at fun ob z => same _ (six_mem.mpr (by simp)) ob z, x5.at fun ob z => same _ (six_mem.mpr (by simp)) ob z, x6.at fun ob z => same _ (six_mem.mpr (by simp)) ob z⟩
  item := by
    rintro X rfl rfl rfl calm i pins s σ H E I free st ⟨xs, ys, zs, x, y, z, h1, h2, h3, g1, g2, g3⟩
    obtain ⟨x1, x2, x3, x4, x5, x6⟩ := st
    obtain ⟨us, r1, t1, _⟩ := I.tuple h1
    obtain ⟨vs, r2, t2, _⟩ := I.tuple h2
    obtain ⟨ws, r3, t3, _⟩ := I.tuple h3
    obtain ⟨u, hu, ru⟩ := r1.get g1
    obtain ⟨v, hv, rv⟩ := r2.get g2
    obtain ⟨o, ho, ro⟩ := r3.get g3
    have W := walks3 (P := X.prog) (w := X.w) (A := X.A) (I.ok.hd calm) N a b c ha hb hc us.toArray vs.toArray ws.toArray
    have lt : i < min (min us.toArray.size vs.toArray.size) ws.toArray.size := by
      obtain ⟨l1, _⟩ := List.getElem?_eq_some_iff.mp hu
      obtain ⟨l2, _⟩ := List.getElem?_eq_some_iff.mp hv
      obtain ⟨l3, _⟩ := List.getElem?_eq_some_iff.mp ho
      simp only [List.size_toArray]; omega
    refine W.item i s _ _ lt ⟨x1, x2, x3, ⟨x4, t1⟩, ⟨x5, t2⟩, x6, t3⟩ ?_
    rintro T vals g tk ⟨b1, b2, b3, c1, c2, c3, rfl⟩ big tup mid others
    have e1 : b1 = u := by rw [List.getElem?_toArray, hu] at c1; exact (Option.some.inj c1).symm
    have e2 : b2 = v := by rw [List.getElem?_toArray, hv] at c2; exact (Option.some.inj c2).symm
    have e3 : b3 = o := by rw [List.getElem?_toArray, ho] at c3; exact (Option.some.inj c3).symm
    subst e1 e2 e3
    refine ⟨_, rfl, W.go tgs q at' i T { s with heap := g, toks := tk } _ _ mid ?_⟩
    rintro gg ⟨k1, k2, k3, ⟨k4, _⟩, ⟨k5, _⟩, k6, _⟩ others2
    have sub : ∀ e, e ∈ [((N + 5 : Nat) : Addr), (N + 4 : Nat), N, (N + 1 : Nat), (N + 2 : Nat)] → e ∈ six N := by
      intro e m
      rw [six_mem]
      simp only [List.mem_cons, List.not_mem_nil, or_false] at m
      rcases m with rfl | rfl | rfl | rfl | rfl <;> simp
    have apart := W.apart i T g mid
    obtain ⟨ot, d1, d2, d3⟩ := tup
    obtain ⟨slots, d3⟩ := d3
    have new : ObjOk X.prog X.w (upd H T (.tup [x, y, z])) gg T (.tup [x, y, z]) :=
      ⟨by rw [sizeLine_eq]; exact (by decide : 3 ≤ 16777216), [b1, b2, b3], .cons ru (.cons rv (.cons ro .nil)), ⟨ot, others2 T ot apart d1, d2, slots, d3⟩⟩
    have I2 : Inv X pins σ (upd H T (.tup [x, y, z])) { s with heap := gg, toks := tk } := by
      refine I.turnedNew (ch := [((N + 5 : Nat) : Addr), (N + 4 : Nat), N, (N + 1 : Nat), (N + 2 : Nat)]) (fun e ob m w1 => others2 e ob m (others e ob m w1)) (fun e m => free e (sub e m)) big new
    refine ⟨.ref T, _, I2, rfl, ⟨T, x, y, z, rfl, I.hok.fresh big, rfl, ?_, ?_, ?_⟩, ⟨k1, k2, k3, k4, k5, k6⟩, ?_⟩
    · intro q1 q2; rw [I.tuple_inj q2 h1]; exact g1
    · intro q1 q2; rw [I.tuple_inj q2 h2]; exact g2
    · intro q1 q2; rw [I.tuple_inj q2 h3]; exact g3
    · intro e m
      have ne : e ≠ T := by
        rintro rfl
        have old : s.heap.get? e ≠ none := by
          rcases six_mem.mp m with rfl | rfl | rfl | rfl | rfl | rfl
          · rw [show s.heap.get? (N + 5 : Nat) = some _ from x1]; simp
          · rw [show s.heap.get? (N + 3 : Nat) = some _ from x2]; simp
          · obtain ⟨_, _, _, x3⟩ := x3
            rw [show s.heap.get? (N + 4 : Nat) = some _ from x3]; simp
          · obtain ⟨ob, y1, _⟩ := x4; rw [y1]; simp
          · obtain ⟨ob, y1, _⟩ := x5; rw [y1]; simp
          · obtain ⟨ob, y1, _⟩ := x6; rw [y1]; simp
        cases old' : s.heap.get? e with
        | none => exact old old'
        | some ob => exact absurd (Heap.lt_size old') (Nat.not_lt.mpr big)
      rw [upd_ne ne]
      exact (free e m).1
  done := by
    rintro X rfl rfl rfl calm i pins s σ H E I free ⟨x1, x2, x3, x4, x5, x6⟩ ⟨xs, ys, zs, h1, h2, h3, rfl⟩
    obtain ⟨us, r1, t1, _⟩ := I.tuple h1
    obtain ⟨vs, r2, t2, _⟩ := I.tuple h2
    obtain ⟨ws, r3, t3, _⟩ := I.tuple h3
    have W := walks3 (P := X.prog) (w := X.w) (A := X.A) (I.ok.hd calm) N a b c ha hb hc us.toArray vs.toArray ws.toArray
    have e1 : xs.length = us.toArray.size := by rw [List.size_toArray]; exact r1.length
    have e2 : ys.length = vs.toArray.size := by rw [List.size_toArray]; exact r2.length
    have e3 : zs.length = ws.toArray.size := by rw [List.size_toArray]; exact r3.length
    rw [e1, e2, e3] at x4 x5 x6
    refine W.done s _ _ ⟨x1, x2, x3, ⟨x4, t1⟩, ⟨x5, t2⟩, x6, t3⟩ ?_
    intro g tk others
    refine ⟨rfl, I.turnedL (ch := [((N + 5 : Nat) : Addr), (N + 4 : Nat), N, (N + 1 : Nat), (N + 2 : Nat)]) others fun e m => free e ?_⟩
    rw [six_mem]
    simp only [List.mem_cons, List.not_mem_nil, or_false] at m
    rcases m with rfl | rfl | rfl | rfl | rfl <;> simp
  self := fun A i s Q E ⟨x1, _⟩ h => wpAny_pyIter_zip x1 h
end
def iZip3 (K : PySem.W.Frag) (ta : TA) : TI := fun σ H R => ta σ H fun vs H1 => ∃ a b c xs ys zs, vs = [V.ref a, V.ref b, V.ref c] ∧ SqT K H1 a xs ∧ SqT K H1 b ys ∧ SqT K H1 c zs ∧ R (It3 K a b c) H1
theorem pi_zip3 {X : Cx} {e1 e2 e3 : Expr} {ta : TA} {p pos tpos : Pos} {tgs : List Expr} {q : Nat} (hg : Gl X "zip") (hm : X.mg "zip" = none) (ha : PA X [e1, e2, e3] ta)
    (na : starEach [e1, e2, e3] X.env = (false, eval e1 X.env) :: starEach [e2, e3] X.env := by rfl) (nb : (backTo pos (starEach [e2, e3] X.env)).any (·.1) = false := by rfl) :
    PI X (.Tuple tgs q tpos) (.Call (.Name "zip" p) [e1, e2, e3] [] pos) (iZip3 X.K ta) := by
  constructor
  intro pins s σ H R I h
  refine Call_ (ld_blt I hg hm PyProof.Rows.boot_zip (PyProof.Rows.callWith_type1 (thn (ha.run pos pins s σ H _ I h) ?_) na nb))
  rintro us s1 ⟨vs, H1, I1, rr, a, b, c, xs, ys, zs, rfl, h1, h2, h3, next⟩
  obtain ⟨u1, us, rfl⟩ : ∃ u t, us = u :: t := by cases rr; exact ⟨_, _, rfl⟩
  cases rr with | cons ra rr =>
  cases rr with | cons rb rr =>
  cases rr with | cons rc rr =>
  cases rr
  cases ra
  cases rb
  cases rc
  obtain ⟨l1, r1, t1, _⟩ := I1.tuple h1
  obtain ⟨l2, r2, t2, _⟩ := I1.tuple h2
  obtain ⟨l3, r3, t3, _⟩ := I1.tuple h3
  have below : ∀ {t : Addr} {vs : Array Value}, s1.heap.IsTuple t vs → t < s1.heap.objs.size := by
    rintro t vs ⟨ob, y1, _⟩
    exact Heap.lt_size y1
  refine zip_begins3 (begins_tuple a l1.toArray) (begins_tuple b l2.toArray) (begins_tuple c l3.toArray) t1 t2 t3 ?_
  intro g x1 x2 x3 y1 y2 y3 size same
  refine wpAny_pyIter_zip x1 ?_
  refine ⟨_, six s1.heap.objs.size, _, It3 X.K a b c, H1, rfl, I1.kept (t' := s1.toks) same, turn_zip3 (below t1) (below t2) (below t3), ⟨x1, x2, ⟨_, _, _, x3⟩, ⟨_, y1, rfl, rfl⟩, ⟨_, y2, rfl, rfl⟩, ⟨_, y3, rfl, rfl⟩⟩, ?_, next⟩
  intro e m
  have le : s1.heap.objs.size ≤ e := by
    rcases six_mem.mp m with rfl | rfl | rfl | rfl | rfl | rfl
    · exact Nat.le_add_right _ _
    · exact Nat.le_add_right _ _
    · exact Nat.le_add_right _ _
    · exact Nat.le_refl _
    · exact Nat.le_add_right _ _
    · exact Nat.le_add_right _ _
  exact I1.fpOk le (I1.hok.fresh le)
/-- a new triple -/
def YTri (xs ys zs : Nat → Option V) : Nat → Hp → V → Hp → Prop := fun i H v H2 => ∃ p x y z, v = V.ref p ∧ H p = none ∧ H2 = upd H p (.tup [x, y, z]) ∧ xs i = some x ∧ ys i = some y ∧ zs i = some z
theorem walk_zip3 {K : PySem.W.Frag} {a b c : Addr} {xs ys zs : List V} {n : Nat} (h1 : xs.length = n) (h2 : ys.length = n) (h3 : zs.length = n) : Walk (It3 K a b c) n (fun H => SqT K H a xs ∧ SqT K H b ys ∧ SqT K H c zs) (YTri (fun i => xs[i]?) (fun i => ys[i]?) (fun i => zs[i]?)) := by
  constructor
  · intro i H hi q
    exact ⟨xs, ys, zs, xs[i], ys[i], zs[i], q.1, q.2.1, q.2.2, List.getElem?_eq_getElem _, List.getElem?_eq_getElem _, List.getElem?_eq_getElem _⟩
  · intro H q
    exact ⟨xs, ys, zs, q.1, q.2.1, q.2.2, by omega⟩
  · rintro i H v H2 _ q ⟨p, x, y, z, rfl, k1, k2, k3, k4, k5⟩
    exact ⟨p, x, y, z, rfl, k1, k2, k3 xs q.1, k4 ys q.2.1, k5 zs q.2.2⟩
section
variable {σ : L2.St} {H : Hp} {Q : VK} {te : TE} {tt : TT} {tl : TA} {g : TG} {K : PySem.W.Frag} {vs : List Nat}
theorem r_lc3 (h : tl σ H fun us H1 => ∃ a b c xs ys zs, us = [V.ref a, V.ref b, V.ref c] ∧ SqT K H1 a xs ∧ SqT K H1 b ys ∧ SqT K H1 c zs ∧ LCW (It3 K a b c) g tt te vs σ H1 Q) : tLc (iZip3 K tl) g tt te vs σ H Q := h
end
end Sw

/-! Mw: words of two letters: levels, turns, periods, the lowest places. -/
namespace Mw
open PySem PySem.Builtin PySem.Builtin.Str
open SX (S)
/-! ### texts -/
theorem cnt_count (c : Nat) : ∀ l : List Nat, PyProof.Rows.cnt c l = (l.count c : Nat)
  | [] => rfl
  | n :: l => by
    rw [PyProof.Rows.cnt_cons, cnt_count c l, List.count_cons]
    by_cases h : n = c
    · subst h; simp [Int.add_comm]
    · simp [h]
theorem count_S (a : List Nat) (c : Nat) : Txt.count (S a) ⟨#[c]⟩ = (a.count c : Nat) := by
  rw [PyProof.Rows.count_is]; exact cnt_count c a
theorem sub_iff (a b : List Nat) (i : Nat) : subAt (S a) (S b) i = true ↔ (a.drop i).take b.length = b := by
  unfold subAt
  rw [beq_iff_eq, SX.S_len]
  constructor
  · intro h
    have h2 := congrArg Array.toList h
    rw [Array.toList_extract] at h2
    simpa [List.extract_eq_take_drop] using h2
  · intro h
    apply Array.toList_inj.mp
    rw [Array.toList_extract]
    simpa [List.extract_eq_take_drop] using h
theorem full_run (s sub : Str) (hi limit : Nat) : ∀ (l : List Nat) (st : Array Nat × Nat), limit ≤ st.fst.size → (forIn l st (StrLaws.occBody s sub hi limit)).run.fst = st.fst
  | [], st, h => rfl
  | a :: l, st, h => by
    rw [List.forIn_cons]
    unfold StrLaws.occBody
    rw [if_neg (by omega)]
    exact full_run s sub hi limit l (st.fst, st.snd) h
theorem first_run (s sub : Str) (hi k : Nat) (hk : k + sub.length ≤ hi) (hs : subAt s sub k = true) : ∀ (m cur free : Nat), free ≤ cur → cur ≤ k → k < cur + m → (∀ j, cur ≤ j → j < k → subAt s sub j = false) →
    (forIn (List.range' cur m) ((#[] : Array Nat), free) (StrLaws.occBody s sub hi 1)).run.fst = #[k]
  | 0, cur, free, _, _, h, _ => by omega
  | m + 1, cur, free, hf, hc, h, hn => by
    rw [List.range'_succ, List.forIn_cons]
    unfold StrLaws.occBody
    by_cases e : cur = k
    · subst e
      rw [if_pos ⟨⟨⟨by simp, hf⟩, hk⟩, hs⟩]
      exact full_run s sub hi 1 _ (#[cur], _) (Nat.le_refl 1)
    · rw [if_neg (fun z => by rw [hn cur (Nat.le_refl _) (by omega)] at z; exact absurd z.2 Bool.false_ne_true)]
      exact first_run s sub hi k hk hs m (cur + 1) free (by omega) (by omega) (by omega) fun j h1 h2 => hn j (by omega) h2
theorem find3_S {a b : List Nat} {lo k : Nat} (h1 : lo ≤ k) (h2 : k + b.length ≤ a.length) (h3 : (a.drop k).take b.length = b) (h4 : ∀ j, lo ≤ j → j < k → (a.drop j).take b.length ≠ b) : Txt.find3 (S a) (S b) (lo : Int) = k := by
  have hl : (S a).length = a.length := SX.S_len a
  have hb : (S b).length = b.length := SX.S_len b
  unfold Txt.find3
  have hlo : fromIndex (S a).length (lo : Int) = lo := by
    unfold fromIndex; omega
  rw [hlo, StrLaws.occ_eq]
  rw [first_run (S a) (S b) _ k (by rw [hb, hl]; exact h2) ((sub_iff a b k).mpr h3) _ lo lo (Nat.le_refl _) h1 (by rw [hl]; omega) fun j h5 h6 => by
    cases e : subAt (S a) (S b) j with
    | false => rfl
    | true => exact absurd ((sub_iff a b j).mp e) (h4 j h5 h6)]
/-! ### turns -/
def rot (k : Nat) (l : List Nat) : List Nat := l.drop k ++ l.take k
theorem rot_len {k : Nat} {l : List Nat} : (rot k l).length = l.length := by
  unfold rot; rw [List.length_append, List.length_drop, List.length_take]; omega
theorem rot_count {k c : Nat} {l : List Nat} : (rot k l).count c = l.count c := by
  unfold rot
  rw [List.count_append, Nat.add_comm, ← List.count_append, List.take_append_drop]
theorem rot_full {l : List Nat} : rot l.length l = l := by unfold rot; simp
theorem rot_zero {l : List Nat} : rot 0 l = l := by unfold rot; simp
theorem twice {l : List Nat} {k : Nat} (h : k ≤ l.length) : ((l ++ l).drop k).take l.length = rot k l := by
  unfold rot
  rw [List.drop_append_of_le_length h, List.take_append, List.take_of_length_le (by rw [List.length_drop]; omega), List.length_drop]
  congr 2; omega
/-- the letter at i, all around -/
def ring (l : List Nat) (i : Nat) : Option Nat := l[i % l.length]?
theorem rot_get {l : List Nat} {k i : Nat} (hk : k ≤ l.length) (hi : i < l.length) : (rot k l)[i]? = ring l (i + k) := by
  unfold rot ring
  by_cases h : i < l.length - k
  · rw [List.getElem?_append_left (by rw [List.length_drop]; exact h), List.getElem?_drop, Nat.mod_eq_of_lt (by omega), Nat.add_comm]
  · rw [List.getElem?_append_right (by rw [List.length_drop]; omega), List.length_drop, List.getElem?_take, if_pos (by omega)]
    congr 1
    rw [Nat.mod_eq_sub_mod (by omega), Nat.mod_eq_of_lt (by omega)]; omega
theorem ring_mod {l : List Nat} {i : Nat} : ring l (i % l.length) = ring l i := by unfold ring; rw [Nat.mod_mod]
theorem ring_add {l : List Nat} {i : Nat} : ring l (i + l.length) = ring l i := by unfold ring; rw [Nat.add_mod_right]
/-- turned by j it is itself: all letters all around come again after j -/
theorem rot_iff {l : List Nat} {j : Nat} (hj : j ≤ l.length) : rot j l = l ↔ ∀ i, ring l (i + j) = ring l i := by
  constructor
  · intro h i
    rcases Nat.eq_zero_or_pos l.length with e | e
    · have : l = [] := List.length_eq_zero_iff.mp e
      subst this; rfl
    · have hm := Nat.mod_lt i e
      rw [← ring_mod (i := i)]
      have e1 : ring l (i + j) = ring l (i % l.length + j) := by unfold ring; rw [Nat.mod_add_mod]
      rw [e1, ← rot_get hj hm, h]
      unfold ring; rw [Nat.mod_mod]
  · intro h
    apply List.ext_getElem?
    intro i
    by_cases hi : i < l.length
    · rw [rot_get hj hi, h]; unfold ring; rw [Nat.mod_eq_of_lt hi]
    · rw [List.getElem?_eq_none (by rw [rot_len]; omega), List.getElem?_eq_none (by omega)]
theorem ring_rot {l : List Nat} {p : Nat} (hp : p ≤ l.length) (i : Nat) : ring (rot p l) i = ring l (i + p) := by
  rcases Nat.eq_zero_or_pos l.length with e | e
  · have : l = [] := List.length_eq_zero_iff.mp e
    subst this; simp [rot, ring]
  · have hm := Nat.mod_lt i e
    show (rot p l)[i % (rot p l).length]? = _
    rw [rot_len, rot_get hp hm]
    unfold ring; rw [Nat.mod_add_mod]
theorem rot_rot_iff {l : List Nat} {p j : Nat} (hp : p ≤ l.length) (hj : j ≤ l.length) : rot j (rot p l) = rot p l ↔ rot j l = l := by
  rw [rot_iff (by rw [rot_len]; exact hj), rot_iff hj]
  constructor
  · intro h i
    rcases Nat.eq_zero_or_pos l.length with e | e
    · have : l = [] := List.length_eq_zero_iff.mp e
      subst this; rfl
    · have h2 := h (i + (l.length - p))
      rw [ring_rot hp, ring_rot hp, show i + (l.length - p) + j + p = (i + j) + l.length by omega, show i + (l.length - p) + p = i + l.length by omega, ring_add, ring_add] at h2
      exact h2
  · intro h i
    rw [ring_rot hp, ring_rot hp, show i + j + p = (i + p) + j by omega]
    exact h _
/-- k is the least number of letters, at least 1, by which l is turned into itself -/
def IsPer (l : List Nat) (k : Nat) : Prop := 1 ≤ k ∧ k ≤ l.length ∧ rot k l = l ∧ ∀ j, 1 ≤ j → j < k → rot j l ≠ l
theorem IsPer.unique {l : List Nat} {j k : Nat} (h : IsPer l j) (h' : IsPer l k) : j = k := by
  rcases Nat.lt_trichotomy j k with z | z | z
  · exact absurd h.2.2.1 (h'.2.2.2 j h.1 z)
  · exact z
  · exact absurd h'.2.2.1 (h.2.2.2 k h'.1 z)
theorem least {p : Nat → Prop} : ∀ n, p n → ∃ k, k ≤ n ∧ p k ∧ ∀ j, j < k → ¬ p j := by
  intro n
  induction n using Nat.strongRecOn with
  | _ n ih =>
    intro h
    by_cases e : ∃ j, j < n ∧ p j
    · obtain ⟨j, h1, h2⟩ := e
      obtain ⟨k, h3, h4, h5⟩ := ih j h1 h2
      exact ⟨k, by omega, h4, h5⟩
    · exact ⟨n, Nat.le_refl _, h, fun j h1 h2 => e ⟨j, h1, h2⟩⟩
theorem per_exists {l : List Nat} (h : 0 < l.length) : ∃ k, IsPer l k := by
  obtain ⟨k, h1, ⟨h2, h3⟩, h4⟩ := least (p := fun k => 1 ≤ k ∧ rot k l = l) l.length ⟨h, rot_full⟩
  exact ⟨k, h2, h1, h3, fun j h5 h6 h7 => h4 j h6 ⟨h5, h7⟩⟩
theorem per_find {l : List Nat} {k : Nat} (h : IsPer l k) : Txt.find3 (S (l ++ l)) (S l) 1 = k := by
  refine find3_S (lo := 1) h.1 (by rw [List.length_append]; have := h.2.1; omega) ?_ ?_
  · rw [twice h.2.1]; exact h.2.2.1
  · intro j h1 h2
    rw [twice (by have := h.2.1; omega)]
    exact h.2.2.2 j h1 h2
theorem per_rot {l : List Nat} {p k : Nat} (hp : p ≤ l.length) (h : IsPer l k) : IsPer (rot p l) k := by
  refine ⟨h.1, by rw [rot_len]; exact h.2.1, (rot_rot_iff hp h.2.1).mpr h.2.2.1, fun j h1 h2 h3 => ?_⟩
  exact h.2.2.2 j h1 h2 ((rot_rot_iff hp (by have := h.2.1; omega)).mp h3)
theorem ring_mul {l : List Nat} {k : Nat} (h : ∀ i, ring l (i + k) = ring l i) : ∀ q i, ring l (i + k * q) = ring l i
  | 0, i => by rw [Nat.mul_zero, Nat.add_zero]
  | q + 1, i => by rw [Nat.mul_succ, ← Nat.add_assoc, h, ring_mul h q]
theorem per_dvd {l : List Nat} {k : Nat} (h : IsPer l k) : k ∣ l.length := by
  have hk := (rot_iff h.2.1).mp h.2.2.1
  apply Nat.dvd_of_mod_eq_zero
  rcases Nat.eq_zero_or_pos (l.length % k) with e | e
  · exact e
  · exfalso
    have hlt := Nat.mod_lt l.length h.1
    refine h.2.2.2 _ e hlt ((rot_iff (Nat.mod_le _ _)).mpr fun i => ?_)
    rw [← ring_mul hk (l.length / k), Nat.add_assoc, Nat.mod_add_div, ring_add]
/-- how many of the first m letters all around are c -/
def upto (l : List Nat) (c : Nat) : Nat → Nat
  | 0 => 0
  | m + 1 => upto l c m + if ring l m = some c then 1 else 0
theorem upto_take (l : List Nat) (c : Nat) : ∀ m, m ≤ l.length → upto l c m = (l.take m).count c
  | 0, _ => by simp [upto]
  | m + 1, h => by
    have hm : m < l.length := h
    rw [upto, upto_take l c m (by omega), List.take_add_one, List.count_append]
    unfold ring
    rw [Nat.mod_eq_of_lt hm, List.getElem?_eq_getElem hm]
    congr 1
    by_cases e : l[m] = c
    · simp [e]
    · simp [e]
theorem upto_add {l : List Nat} {c k : Nat} (h : ∀ i, ring l (i + k) = ring l i) : ∀ m, upto l c (m + k) = upto l c k + upto l c m
  | 0 => by rw [Nat.zero_add]; rfl
  | m + 1 => by
    rw [show m + 1 + k = (m + k) + 1 by omega, upto, upto_add h m, h, upto]; omega
theorem upto_mul {l : List Nat} {c k : Nat} (h : ∀ i, ring l (i + k) = ring l i) : ∀ q, upto l c (q * k) = q * upto l c k
  | 0 => by rw [Nat.zero_mul, Nat.zero_mul]; rfl
  | q + 1 => by rw [Nat.add_mul, Nat.one_mul, upto_add h, upto_mul h q, Nat.add_mul]; omega
theorem per_count {l : List Nat} {c k : Nat} (h : IsPer l k) : (l.length / k) ∣ l.count c := by
  have hk := (rot_iff h.2.1).mp h.2.2.1
  have e : upto l c l.length = l.count c := by rw [upto_take l c _ (Nat.le_refl _), List.take_length]
  obtain ⟨q, hq⟩ := per_dvd h
  rw [← e, hq, Nat.mul_div_cancel_left _ h.1, Nat.mul_comm k q, upto_mul hk]
  exact Nat.dvd_mul_right _ _
/-! ### levels -/
/-- the level behind all letters -/
def lev (a b : Nat) (l : List Nat) : Int := (b : Int) * (l.count 114 : Nat) - (a : Int) * (l.length - l.count 114 : Nat)
theorem lev_nil {a b : Nat} : lev a b [] = 0 := by simp [lev]
theorem cnt_le (l : List Nat) : l.count 114 ≤ l.length := List.count_le_length
theorem lev_append {a b : Nat} (u v : List Nat) : lev a b (u ++ v) = lev a b u + lev a b v := by
  have h1 := cnt_le u
  have h2 := cnt_le v
  unfold lev
  rw [List.count_append, List.length_append, Int.ofNat_sub (by omega), Int.ofNat_sub h1, Int.ofNat_sub h2]
  push_cast
  rw [Int.mul_add, Int.mul_sub, Int.mul_sub, Int.mul_sub, Int.mul_add, Int.mul_add]; omega
theorem lev_one {a b c : Nat} : lev a b [c] = if c = 114 then (b : Int) else -(a : Int) := by
  unfold lev
  by_cases h : c = 114
  · subst h; simp
  · simp [h]
theorem lev_snoc {a b c : Nat} {u : List Nat} : lev a b (u ++ [c]) = lev a b u + if c = 114 then (b : Int) else -(a : Int) := by rw [lev_append, lev_one]
theorem lev_take {a b c i : Nat} {l : List Nat} (h : l[i]? = some c) : lev a b (l.take (i + 1)) = lev a b (l.take i) + if c = 114 then (b : Int) else -(a : Int) := by
  rw [List.take_add_one, h]; exact lev_snoc
theorem lev_abs {a b : Nat} {l : List Nat} (ha : a ≤ 60) (hb : b ≤ 60) (hl : l.length ≤ 1000) : (lev a b l).natAbs ≤ 60000 := by
  have h1 := cnt_le l
  have h2 : b * l.count 114 ≤ 60 * 1000 := Nat.mul_le_mul hb (by omega)
  have h3 : a * (l.length - l.count 114) ≤ 60 * 1000 := Nat.mul_le_mul ha (by omega)
  unfold lev
  rw [← Int.natCast_mul, ← Int.natCast_mul]; omega
/-- the levels ahead of all letters -/
def lvs (a b : Nat) (l : List Nat) : List Int := (List.range l.length).map fun i => lev a b (l.take i)
theorem lvs_len {a b : Nat} {l : List Nat} : (lvs a b l).length = l.length := by unfold lvs; simp
theorem lvs_get {a b i : Nat} {l : List Nat} (h : i < l.length) : (lvs a b l)[i]? = some (lev a b (l.take i)) := by
  unfold lvs; rw [List.getElem?_map, List.getElem?_range h]; rfl
/-- a word of a rises and b steps -/
def Wd (a b : Nat) (l : List Nat) : Prop := l.count 114 = a ∧ l.count 115 = b ∧ l.length = a + b
theorem Wd.rot {a b k : Nat} {l : List Nat} (h : Wd a b l) : Wd a b (rot k l) := ⟨by rw [rot_count]; exact h.1, by rw [rot_count]; exact h.2.1, by rw [rot_len]; exact h.2.2⟩
theorem lev_word {a b : Nat} {l : List Nat} (h : Wd a b l) : lev a b l = 0 := by
  unfold lev
  rw [h.1, h.2.2, show a + b - a = b by omega, Int.mul_comm]; omega
/-- levels of the turned word -/
theorem lvs_rot {a b p : Nat} {l : List Nat} (h : Wd a b l) (hp : p < l.length) :
    lvs a b (rot p l) = ((lvs a b l).drop p ++ (lvs a b l).take p).map fun x => x - lev a b (l.take p) := by
  apply List.ext_getElem?
  intro i
  have split : lev a b l = lev a b (l.take p) + lev a b (l.drop p) := by rw [← lev_append, List.take_append_drop]
  rw [lev_word h] at split
  by_cases hi : i < l.length
  · rw [lvs_get (by rw [rot_len]; exact hi), List.getElem?_map]
    unfold rot
    by_cases h1 : i < l.length - p
    · rw [List.getElem?_append_left (by rw [List.length_drop, lvs_len]; exact h1), List.getElem?_drop, lvs_get (by omega), List.take_append_of_le_length (by rw [List.length_drop]; omega)]
      show some _ = some _
      congr 1
      rw [List.take_add, lev_append]
      show lev a b ((l.drop p).take i) = lev a b (l.take p) + lev a b ((l.drop p).take i) - lev a b (l.take p)
      omega
    · rw [List.getElem?_append_right (by rw [List.length_drop, lvs_len]; omega), List.length_drop, lvs_len, List.getElem?_take, if_pos (by omega), lvs_get (by omega), List.take_append, List.take_of_length_le (by rw [List.length_drop]; omega), List.length_drop, List.take_take, lev_append]
      show some _ = some _
      congr 1
      rw [Nat.min_eq_left (by omega)]
      show lev a b (l.drop p) + lev a b (l.take (i - (l.length - p))) = lev a b (l.take (i - (l.length - p))) - lev a b (l.take p)
      omega
  · rw [List.getElem?_eq_none (by rw [lvs_len, rot_len]; omega), List.getElem?_eq_none (by rw [List.length_map, List.length_append, List.length_drop, List.length_take, lvs_len]; omega)]
/-- the places with the level m -/
def places (m : Int) : List Int → List Nat := fun ns => (List.range ns.length).filter fun i => decide (ns.getD i 0 = m)
theorem places_step {m : Int} {ns : List Int} {i : Nat} : (List.range (i + 1)).filter (fun i => decide (ns.getD i 0 = m)) = (List.range i).filter (fun i => decide (ns.getD i 0 = m)) ++ if ns.getD i 0 = m then [i] else [] := by
  rw [List.range_succ, List.filter_append]
  congr 1
  rw [List.filter_cons]
  by_cases h : ns.getD i 0 = m
  · rw [if_pos (decide_eq_true h), if_pos h]; rfl
  · rw [if_neg (by rw [decide_eq_false h]; exact Bool.false_ne_true), if_neg h]; rfl
theorem min_unique {ns : List Int} {m k : Int} (h1 : m ∈ ns) (h2 : ∀ y, y ∈ ns → m ≤ y) (h3 : k ∈ ns) (h4 : ∀ y, y ∈ ns → k ≤ y) : m = k := by
  have := h2 k h3; have := h4 m h1; omega
end Mw
namespace Mw
open PySem PySem.Builtin PySem.Builtin.Str L2
open SX (S)
theorem lit_r : ("r" : Str) = ⟨#[114]⟩ := by decide +kernel
theorem lit_s : ("s" : Str) = ⟨#[115]⟩ := by decide +kernel
theorem is_r {c : Nat} : ((⟨#[c]⟩ : Str) = ("r" : Str)) ↔ c = 114 := by
  rw [lit_r]
  constructor
  · intro h
    have := congrArg (fun x : Str => x.cps.toList) h
    simpa using this
  · rintro rfl; rfl
theorem is_s {c : Nat} : ((⟨#[c]⟩ : Str) = ("s" : Str)) ↔ c = 115 := by
  rw [lit_s]
  constructor
  · intro h
    have := congrArg (fun x : Str => x.cps.toList) h
    simpa using this
  · rintro rfl; rfl
theorem cut_from {a : List Nat} {i : Int} (h : 0 ≤ i) : cutS (S a) (some i) none = S (a.drop i.toNat) := by rw [C8.cutS_slice, SX.slice_from h]
theorem cut_to {a : List Nat} {i : Int} (h : 0 ≤ i) : cutS (S a) none (some i) = S (a.take i.toNat) := by rw [C8.cutS_slice, SX.slice_to h]
theorem S_get {l : List Nat} {i : Nat} : (S l).cps[i]? = l[i]? := by simp [S]
theorem S_size {l : List Nat} : (S l).cps.size = l.length := by simp [S]
theorem S_eq {a b : List Nat} : (S a = S b) ↔ a = b := ⟨SX.S_inj, fun h => by rw [h]⟩
theorem ints_snoc {ns : List Int} {i : Nat} {x : Int} (h : ns[i]? = some x) : (ns.take (i + 1)).map V.int = (ns.take i).map V.int ++ [V.int x] := by
  rw [List.take_add_one, h, List.map_append]; rfl
theorem lvs_snoc {a b i : Nat} {l : List Nat} (h : i < l.length) : ((lvs a b l).take (i + 1)).map V.int = ((lvs a b l).take i).map V.int ++ [V.int (lev a b (l.take i))] := ints_snoc (lvs_get h)
theorem r_slS {z : Str} {lo hi : Option Int} {H : Hp} {Q : VK} (h : Q (.str (cutS z lo hi)) H) (hz : z.length ≤ sizeLine) : rSlS (.str z) lo hi H Q := ⟨z, rfl, hz, h⟩
theorem small_S {l : List Nat} (h : l.length ≤ 1000) : (S l).length ≤ sizeLine := by rw [SX.S_len, sizeLine_eq]; omega
theorem small2 {a b : List Nat} (h : a.length + b.length ≤ 2000) : (S a).length + (S b).length ≤ sizeLine := by rw [SX.S_len, SX.S_len, sizeLine_eq]; omega
end Mw
namespace Mw
open PySem PySem.Builtin PySem.Builtin.Str L2 Sx Sy
open SX (S)
theorem times_S (c n : Nat) : times (S [c]) n = S (List.replicate n c) := by
  have h : ∀ (n : Nat) (z : List Nat), (List.replicate n (#[c] : Array Nat)).foldl (· ++ ·) z.toArray = (z ++ List.replicate n c).toArray := by
    intro n
    induction n with
    | zero => intro z; simp
    | succ n ih =>
      intro z
      rw [List.replicate_succ, List.foldl_cons, show z.toArray ++ #[c] = (z ++ [c]).toArray by simp, ih, List.append_assoc, List.replicate_succ]; rfl
  have := h n []
  unfold times
  exact congrArg Str.mk this
theorem join_ones : ∀ l : List Nat, TL.joinL [] (l.map fun c => [c]) = l
  | [] => rfl
  | [c] => rfl
  | c :: d :: l => by
    show [c] ++ ([] ++ TL.joinL [] ((d :: l).map fun c => [c])) = _
    rw [join_ones (d :: l)]; rfl
theorem join_letters (l : List Nat) : Txt.join ("" : Str) (l.map fun c => (⟨#[c]⟩ : Str)) = S l := by
  have h := SX.join_S [] (l.map fun c => [c])
  rw [join_ones, List.map_map] at h
  exact h
theorem lens_ones (l : List Nat) : ((l.map fun c => (⟨#[c]⟩ : Str)).map (·.length)).sum = l.length := by
  rw [List.map_map]
  induction l with
  | nil => rfl
  | cons c l ih => rw [List.map_cons, List.sum_cons, ih, List.length_cons]; show 1 + _ = _; omega
theorem len_r : ("r" : Str).length = 1 := by decide +kernel
theorem len_s : ("s" : Str).length = 1 := by decide +kernel
theorem len_0 : ("" : Str).length = 0 := by decide +kernel
theorem wd_perm {a b : Nat} {l : List Nat} (h : l.Perm (List.replicate a 114 ++ List.replicate b 115)) : Wd a b l := by
  refine ⟨?_, ?_, ?_⟩
  · rw [h.count_eq]; simp [List.count_replicate]
  · rw [h.count_eq]; simp [List.count_replicate]
  · rw [h.length_eq]; simp
theorem r_pop {l : Addr} {xs : List V} {i : Int} {y : V} {H : Hp} {Q : VK} (hH : H l = some (.lst xs)) (h0 : 0 ≤ i) (h1 : i < xs.length) (h2 : xs.length ≤ 1000000) (hy : xs[i.toNat]? = some y) (h : Q y (upd H l (.lst (xs.eraseIdx i.toNat)))) : rPopAt (.ref l) [.int i] H Q := by
  refine ⟨l, xs, i, i.toNat, y, rfl, rfl, hH, by omega, by omega, ?_, hy, h⟩
  have e : (if i < 0 then i + (xs.length : Int) else i) = i := if_neg (by omega)
  unfold seqIndex?
  simp only [e]
  rw [if_pos (by rw [Bool.and_eq_true, decide_eq_true_iff, decide_eq_true_iff]; exact ⟨h0, h1⟩)]
theorem erase_map {α β : Type} (f : α → β) : ∀ (u : List α) (k : Nat), (u.map f).eraseIdx k = (u.eraseIdx k).map f
  | [], _ => rfl
  | x :: u, 0 => rfl
  | x :: u, k + 1 => by
    show f x :: (u.map f).eraseIdx k = f x :: (u.eraseIdx k).map f
    rw [erase_map f u k]
theorem pick_perm {α : Type} : ∀ (u : List α) (k : Nat) (hk : k < u.length), ([u[k]] ++ u.eraseIdx k).Perm u
  | x :: u, 0, _ => List.Perm.refl _
  | x :: u, k + 1, h => by
    have hk : k < u.length := Nat.lt_of_succ_lt_succ h
    have ih := pick_perm u k hk
    show (u[k] :: x :: u.eraseIdx k).Perm (x :: u)
    exact (List.Perm.swap x u[k] (u.eraseIdx k)).trans (List.Perm.cons x ih)
theorem perm_pick {α : Type} {v u cs : List α} {k : Nat} (hk : k < u.length) (h : (v ++ u).Perm cs) : ((v ++ [u[k]]) ++ u.eraseIdx k).Perm cs := by
  refine List.Perm.trans ?_ h
  rw [List.append_assoc]
  exact List.Perm.append_left v (pick_perm u k hk)
/-- the numbers up to i by which l is turned into itself -/
def cand (l : List Nat) (i : Nat) : List Int := ((List.range i).filter fun j => decide (rot (j + 1) l = l)).map fun j : Nat => (1 : Int) + j
theorem cand_yes {l : List Nat} {i : Nat} (h : rot (i + 1) l = l) : (cand l (i + 1)).map V.int = (cand l i).map V.int ++ [V.int ((1 : Int) + i)] := by
  unfold cand
  rw [List.range_succ, List.filter_append, List.filter_cons, if_pos (decide_eq_true h), List.map_append, List.map_append]; rfl
theorem cand_no {l : List Nat} {i : Nat} (h : ¬ rot (i + 1) l = l) : (cand l (i + 1)).map V.int = (cand l i).map V.int := by
  unfold cand
  rw [List.range_succ, List.filter_append, List.filter_cons, if_neg (by rw [decide_eq_false h]; exact Bool.false_ne_true), List.filter_nil, List.append_nil]
theorem cand_len {l : List Nat} {i : Nat} : (cand l i).length ≤ i := by
  unfold cand
  rw [List.length_map]
  exact Nat.le_trans (List.length_filter_le _ _) (by rw [List.length_range]; exact Nat.le_refl _)
theorem cand_mem {l : List Nat} {k : Int} : k ∈ cand l l.length ↔ ∃ j : Nat, k = j ∧ 1 ≤ j ∧ j ≤ l.length ∧ rot j l = l := by
  unfold cand
  rw [List.mem_map]
  constructor
  · rintro ⟨j, h, rfl⟩
    rw [List.mem_filter, List.mem_range, decide_eq_true_iff] at h
    exact ⟨j + 1, by omega, by omega, h.1, h.2⟩
  · rintro ⟨j, rfl, h1, h2, h3⟩
    refine ⟨j - 1, ?_, by omega⟩
    rw [List.mem_filter, List.mem_range, decide_eq_true_iff, show j - 1 + 1 = j by omega]
    exact ⟨by omega, h3⟩
theorem cand_pos {l : List Nat} (h : 0 < l.length) : 0 < (cand l l.length).length := by
  have : (l.length : Int) ∈ cand l l.length := cand_mem.mpr ⟨l.length, rfl, h, Nat.le_refl _, rot_full⟩
  exact List.length_pos_of_mem this
theorem cand_per {l : List Nat} {m : Int} (h1 : m ∈ cand l l.length) (h2 : ∀ y, y ∈ cand l l.length → m ≤ y) : ∃ k : Nat, m = k ∧ IsPer l k := by
  obtain ⟨k, rfl, h3, h4, h5⟩ := cand_mem.mp h1
  refine ⟨k, rfl, h3, h4, h5, fun j j1 j2 j3 => ?_⟩
  have := h2 j (cand_mem.mpr ⟨j, rfl, j1, by omega, j3⟩)
  omega
end Mw

/-! Ww: ways among words: exchanged, the highest, the lowest. -/
namespace Mw
open PySem PySem.Builtin PySem.Builtin.Str L2
open SX (S)
/-- a way: a word without a level below 0 -/
def IsWay (a b : Nat) (l : List Nat) : Prop := Wd a b l ∧ ∀ i, i < l.length → 0 ≤ lev a b (l.take i)
/-- every letter is one of both -/
theorem wd_letters {a b : Nat} {l : List Nat} (h : Wd a b l) : ∀ c, c ∈ l → c = 114 ∨ c = 115 := by
  have key : ∀ l : List Nat, l.length = l.count 114 + l.count 115 → ∀ c, c ∈ l → c = 114 ∨ c = 115 := by
    intro l
    induction l with
    | nil => intro _ c hc; cases hc
    | cons x l ih =>
      intro hl c hc
      have h1 : l.count 114 + l.count 115 ≤ l.length := by
        clear ih hl hc
        induction l with
        | nil => simp
        | cons y l ih =>
          rw [List.count_cons, List.count_cons, List.length_cons]
          by_cases e : y = 114
          · subst e; simp; omega
          · by_cases e2 : y = 115
            · subst e2; simp; omega
            · simp [e, e2]; omega
      rw [List.count_cons, List.count_cons, List.length_cons] at hl
      by_cases e : x = 114
      · subst e
        rcases List.mem_cons.mp hc with rfl | hc
        · exact .inl rfl
        · exact ih (by simp at hl; omega) c hc
      · by_cases e2 : x = 115
        · subst e2
          rcases List.mem_cons.mp hc with rfl | hc
          · exact .inr rfl
          · exact ih (by simp at hl; omega) c hc
        · simp [e, e2] at hl; omega
  exact key l (by rw [h.1, h.2.1, h.2.2])
/-- read from the end with exchanged letters -/
def swp (c : Nat) : Nat := if c = 114 then 115 else 114
def exch (l : List Nat) : List Nat := l.reverse.map swp
theorem exch_len {l : List Nat} : (exch l).length = l.length := by unfold exch; simp
theorem swp_count {l : List Nat} (h : ∀ c, c ∈ l → c = 114 ∨ c = 115) : (l.map swp).count 114 = l.count 115 ∧ (l.map swp).count 115 = l.count 114 := by
  induction l with
  | nil => simp
  | cons c l ih =>
    obtain ⟨h1, h2⟩ := ih fun d hd => h d (List.mem_cons_of_mem _ hd)
    rw [List.map_cons, List.count_cons, List.count_cons, List.count_cons, List.count_cons, h1, h2]
    rcases h c (List.mem_cons_self ..) with rfl | rfl <;> simp [swp]
theorem exch_wd {a b : Nat} {l : List Nat} (h : Wd a b l) : Wd b a (exch l) := by
  have hl : ∀ c, c ∈ l.reverse → c = 114 ∨ c = 115 := fun c hc => wd_letters h c (List.mem_reverse.mp hc)
  obtain ⟨h1, h2⟩ := swp_count hl
  refine ⟨?_, ?_, by rw [exch_len, h.2.2, Nat.add_comm]⟩
  · unfold exch; rw [h1, List.count_reverse]; exact h.2.1
  · unfold exch; rw [h2, List.count_reverse]; exact h.1
/-- b times the rises less a times the steps -/
theorem lev_two {a b : Nat} {l : List Nat} (h : ∀ c, c ∈ l → c = 114 ∨ c = 115) : lev a b l = (b : Int) * (l.count 114 : Nat) - (a : Int) * (l.count 115 : Nat) := by
  have e : l.length = l.count 114 + l.count 115 := by
    induction l with
    | nil => rfl
    | cons c l ih =>
      have ih := ih fun d hd => h d (List.mem_cons_of_mem _ hd)
      rw [List.count_cons, List.count_cons, List.length_cons]
      rcases h c (List.mem_cons_self ..) with rfl | rfl <;> simp <;> omega
  unfold lev
  rw [e, Nat.add_sub_cancel_left]
theorem exch_lev {a b i : Nat} {l : List Nat} (h : Wd a b l) (hi : i ≤ l.length) : lev b a ((exch l).take i) = lev a b (l.take (l.length - i)) := by
  have hl := wd_letters h
  have e1 : (exch l).take i = ((l.drop (l.length - i)).reverse).map swp := by
    unfold exch
    rw [← List.map_take, List.take_reverse]
  have m1 : ∀ c, c ∈ (l.drop (l.length - i)).reverse → c = 114 ∨ c = 115 := fun c hc => hl c (List.mem_of_mem_drop (List.mem_reverse.mp hc))
  have m2 : ∀ c, c ∈ ((l.drop (l.length - i)).reverse).map swp → c = 114 ∨ c = 115 := by
    intro c hc
    obtain ⟨d, _, rfl⟩ := List.mem_map.mp hc
    unfold swp; split
    · exact .inr rfl
    · exact .inl rfl
  obtain ⟨c1, c2⟩ := swp_count m1
  rw [e1, lev_two m2, c1, c2, List.count_reverse, List.count_reverse]
  have split : lev a b l = lev a b (l.take (l.length - i)) + lev a b (l.drop (l.length - i)) := by rw [← lev_append, List.take_append_drop]
  rw [lev_word h] at split
  have l2 := lev_two (a := a) (b := b) (l := l.drop (l.length - i)) fun c hc => hl c (List.mem_of_mem_drop hc)
  omega
theorem exch_way {a b : Nat} {l : List Nat} (h : IsWay a b l) : IsWay b a (exch l) := by
  refine ⟨exch_wd h.1, fun i hi => ?_⟩
  rw [exch_len] at hi
  rw [exch_lev h.1 (by omega)]
  rcases Nat.eq_zero_or_pos i with e | e
  · subst e
    rw [Nat.sub_zero, List.take_length, lev_word h.1]; exact Int.le_refl _
  · exact h.2 _ (by omega)
/-- two words with equal levels are equal -/
theorem word_by_levels {a b : Nat} (ha : 0 < a) {u v : List Nat} (hu : ∀ c, c ∈ u → c = 114 ∨ c = 115) (hv : ∀ c, c ∈ v → c = 114 ∨ c = 115) (hl : u.length = v.length) (h : ∀ i, i ≤ u.length → lev a b (u.take i) = lev a b (v.take i)) : u = v := by
  apply List.ext_getElem?
  intro i
  by_cases hi : i < u.length
  · have e1 := lev_take (a := a) (b := b) (l := u) (i := i) (c := u[i]) (List.getElem?_eq_getElem hi)
    have hi' : i < v.length := by omega
    have e2 := lev_take (a := a) (b := b) (l := v) (i := i) (c := v[i]) (List.getElem?_eq_getElem hi')
    have e3 := h i (by omega)
    have e4 := h (i + 1) (by omega)
    rw [List.getElem?_eq_getElem hi, List.getElem?_eq_getElem hi']
    congr 1
    rcases hu _ (List.getElem_mem hi) with p | p <;> rcases hv _ (List.getElem_mem hi') with q | q
    · rw [p, q]
    · rw [p] at e1; rw [q] at e2; simp at e1 e2; omega
    · rw [p] at e1; rw [q] at e2; simp at e1 e2; omega
    · rw [p, q]
  · rw [List.getElem?_eq_none (by omega), List.getElem?_eq_none (by omega)]
/-! ### the highest way -/
def hiW (a b : Nat) : List Nat := List.replicate a 114 ++ List.replicate b 115
theorem hi_wd {a b : Nat} : Wd a b (hiW a b) := wd_perm (List.Perm.refl _)
theorem hi_lev {a b i : Nat} (hi : i ≤ a + b) : lev a b ((hiW a b).take i) = if i ≤ a then (b : Int) * i else (b : Int) * a - (a : Int) * ((i - a : Nat) : Int) := by
  unfold hiW
  rw [List.take_append, List.length_replicate, List.take_replicate, List.take_replicate]
  split
  · rename_i h
    rw [Nat.min_eq_left h, show i - a = 0 by omega, Nat.zero_min]
    unfold lev; simp
  · rename_i h
    rw [Nat.min_eq_right (by omega), Nat.min_eq_left (by omega)]
    unfold lev
    simp [List.count_replicate]
theorem hi_way {a b : Nat} : IsWay a b (hiW a b) := by
  refine ⟨hi_wd, fun i hi => ?_⟩
  have hl : (hiW a b).length = a + b := hi_wd.2.2
  rw [hi_lev (by omega)]
  split
  · exact Int.mul_nonneg (Int.natCast_nonneg _) (Int.natCast_nonneg _)
  · have h : (a : Int) * ((i - a : Nat) : Int) ≤ (a : Int) * (b : Int) := Int.mul_le_mul_of_nonneg_left (by omega) (Int.natCast_nonneg _)
    rw [Int.mul_comm (b : Int)]; omega
theorem hi_exch {a b : Nat} : exch (hiW a b) = hiW b a := by
  unfold exch hiW
  rw [List.reverse_append, List.reverse_replicate, List.reverse_replicate, List.map_append, List.map_replicate, List.map_replicate]; rfl
/-! ### the lowest way -/
def loP (a b : Nat) : Nat → List Nat
  | 0 => []
  | n + 1 => loP a b n ++ [if lev a b (loP a b n) < a then 114 else 115]
def loW (a b : Nat) : List Nat := loP a b (a + b)
theorem loP_len {a b : Nat} : ∀ n, (loP a b n).length = n
  | 0 => rfl
  | n + 1 => by rw [loP, List.length_append, loP_len n]; rfl
theorem loP_take {a b : Nat} : ∀ n i, i ≤ n → (loP a b n).take i = loP a b i
  | 0, i, h => by rw [Nat.le_zero.mp h]; rfl
  | n + 1, i, h => by
    by_cases e : i = n + 1
    · subst e
      exact List.take_of_length_le (by rw [loP_len]; exact Nat.le_refl _)
    · rw [loP, List.take_append_of_le_length (by rw [loP_len]; omega), loP_take n i (by omega)]
theorem loP_letters {a b : Nat} : ∀ n c, c ∈ loP a b n → c = 114 ∨ c = 115
  | 0, c, h => by cases h
  | n + 1, c, h => by
    rw [loP, List.mem_append, List.mem_singleton] at h
    rcases h with h | h
    · exact loP_letters n c h
    · rw [h]; split
      · exact .inl rfl
      · exact .inr rfl
/-- the level is the remainder -/
theorem loP_lev {a b : Nat} (ha : 0 < a) (hb : 0 < b) : ∀ n, lev a b (loP a b n) = ((b * n % (a + b) : Nat) : Int)
  | 0 => by rw [loP, lev_nil, Nat.mul_zero, Nat.zero_mod]; rfl
  | n + 1 => by
    have ih := loP_lev ha hb n
    have hm := Nat.mod_lt (b * n) (show 0 < a + b by omega)
    have hd := Nat.div_add_mod (b * n) (a + b)
    rw [loP, lev_snoc, ih]
    generalize hr : b * n % (a + b) = r at *
    generalize hq : b * n / (a + b) = q at *
    split
    · rename_i h
      have h1 : r < a := by omega
      have e : b * (n + 1) % (a + b) = r + b := by
        rw [Nat.mul_succ, ← hd, Nat.add_assoc, Nat.mul_add_mod, Nat.mod_eq_of_lt (by omega)]
      rw [e]; simp <;> omega
    · rename_i h
      have h1 : a ≤ r := by omega
      have e : b * (n + 1) % (a + b) = r - a := by
        rw [Nat.mul_succ, ← hd, show (a + b) * q + r + b = (a + b) * q + (a + b) + (r - a) by omega, ← Nat.mul_succ, Nat.mul_add_mod, Nat.mod_eq_of_lt (by omega)]
      rw [e]; simp <;> omega
theorem lo_lev {a b i : Nat} (ha : 0 < a) (hb : 0 < b) (hi : i ≤ a + b) : lev a b ((loW a b).take i) = ((b * i % (a + b) : Nat) : Int) := by
  unfold loW
  rw [loP_take _ _ hi, loP_lev ha hb]
theorem count_both : ∀ l : List Nat, (∀ c, c ∈ l → c = 114 ∨ c = 115) → l.length = l.count 114 + l.count 115
  | [], _ => rfl
  | c :: l, h => by
    have ih := count_both l fun d hd => h d (List.mem_cons_of_mem _ hd)
    rw [List.count_cons, List.count_cons, List.length_cons]
    rcases h c (List.mem_cons_self ..) with rfl | rfl <;> simp <;> omega
theorem lo_wd {a b : Nat} (ha : 0 < a) (hb : 0 < b) : Wd a b (loW a b) := by
  have hl : (loW a b).length = a + b := loP_len _
  have h1 := lo_lev (i := a + b) ha hb (Nat.le_refl _)
  have e0 : (loW a b).take (a + b) = loW a b := by rw [← hl, List.take_length]
  rw [e0, Nat.mul_mod_left] at h1
  have h2 : (loW a b).length = (loW a b).count 114 + (loW a b).count 115 := count_both _ (loP_letters (a + b))
  have h3 : lev a b (loW a b) = (b : Int) * ((loW a b).count 114 : Nat) - (a : Int) * ((loW a b).count 115 : Nat) := lev_two (loP_letters (a + b))
  rw [h1] at h3
  rw [hl] at h2
  have both : ∀ x y : Nat, a + b = x + y → ((0 : Nat) : Int) = (b : Int) * (x : Nat) - (a : Int) * (y : Nat) → x = a ∧ y = b := by
    intro x y h2 h3
    have e1 : b * x = a * y := by
      have : (b : Int) * (x : Int) = (a : Int) * (y : Int) := by omega
      exact_mod_cast this
    have e3 : x = a := by
      have h5 : (a + b) * x = (a + b) * a := by
        rw [Nat.add_mul, e1, ← Nat.mul_add, ← h2, Nat.mul_comm]
      exact Nat.eq_of_mul_eq_mul_left (by omega) h5
    exact ⟨e3, by omega⟩
  obtain ⟨c1, c2⟩ := both _ _ h2 h3
  exact ⟨c1, c2, hl⟩
theorem lo_way {a b : Nat} (ha : 0 < a) (hb : 0 < b) : IsWay a b (loW a b) := by
  refine ⟨lo_wd ha hb, fun i hi => ?_⟩
  have hl : (loW a b).length = a + b := loP_len _
  rw [lo_lev ha hb (by omega)]; omega
theorem lo_exch {a b : Nat} (ha : 0 < a) (hb : 0 < b) : exch (loW a b) = loW b a := by
  have hw := lo_wd ha hb
  have hl : (loW a b).length = a + b := loP_len _
  have hl2 : (loW b a).length = b + a := loP_len _
  refine word_by_levels (a := b) (b := a) hb (wd_letters (exch_wd hw)) (wd_letters (lo_wd hb ha)) (by rw [exch_len]; omega) fun i hi => ?_
  rw [exch_len, hl] at hi
  rw [exch_lev hw (by omega), hl, lo_lev ha hb (by omega), lo_lev hb ha (by omega)]
  congr 1
  have e1 : (b * (a + b - i) + b * i) % (a + b) = 0 := by
    rw [← Nat.mul_add, Nat.sub_add_cancel hi, Nat.mul_mod_left]
  have e2 : (a * i + b * i) % (a + b) = 0 := by rw [← Nat.add_mul, Nat.mul_mod_right]
  rw [Nat.add_comm b a]
  have p : 0 < a + b := by omega
  have m1 := Nat.mod_lt (b * (a + b - i)) p
  have m2 := Nat.mod_lt (a * i) p
  have m3 := Nat.mod_lt (b * i) p
  rw [Nat.add_mod] at e1 e2
  generalize b * (a + b - i) % (a + b) = x at *
  generalize a * i % (a + b) = y at *
  generalize b * i % (a + b) = z at *
  have f1 : x + z = 0 ∨ x + z = a + b := by
    rcases Nat.lt_or_ge (x + z) (a + b) with q | q
    · rw [Nat.mod_eq_of_lt q] at e1; exact .inl e1
    · rw [Nat.mod_eq_sub_mod q, Nat.mod_eq_of_lt (by omega)] at e1; exact .inr (by omega)
  have f2 : y + z = 0 ∨ y + z = a + b := by
    rcases Nat.lt_or_ge (y + z) (a + b) with q | q
    · rw [Nat.mod_eq_of_lt q] at e2; exact .inl e2
    · rw [Nat.mod_eq_sub_mod q, Nat.mod_eq_of_lt (by omega)] at e2; exact .inr (by omega)
  omega
/-- between both -/
theorem way_ge_lo {a b i : Nat} {l : List Nat} (ha : 0 < a) (hb : 0 < b) (h : IsWay a b l) (hi : i < l.length) : lev a b ((loW a b).take i) ≤ lev a b (l.take i) := by
  have hl := h.1.2.2
  have h0 := h.2 i hi
  rw [lo_lev ha hb (by omega)]
  have h2 := lev_two (a := a) (b := b) (l := l.take i) fun c hc => wd_letters h.1 c (List.mem_of_mem_take hc)
  have h3 := count_both (l.take i) fun c hc => wd_letters h.1 c (List.mem_of_mem_take hc)
  rw [List.length_take, Nat.min_eq_left (by omega)] at h3
  generalize (l.take i).count 114 = x at *
  generalize (l.take i).count 115 = y at *
  rw [h2] at h0 ⊢
  have hle : a * y ≤ b * x := by
    have : (a : Int) * (y : Int) ≤ (b : Int) * (x : Int) := by omega
    exact_mod_cast this
  have e : b * i = (b * x - a * y) + (a + b) * y := by rw [h3, Nat.mul_add, Nat.add_mul]; omega
  have m : b * i % (a + b) = (b * x - a * y) % (a + b) := by rw [e, Nat.add_mul_mod_self_left]
  rw [m]
  have := Nat.mod_le (b * x - a * y) (a + b)
  rw [← Int.natCast_mul, ← Int.natCast_mul]; omega
theorem way_le_hi {a b i : Nat} {l : List Nat} (h : Wd a b l) (hi : i ≤ l.length) : lev a b (l.take i) ≤ lev a b ((hiW a b).take i) := by
  have hl := h.2.2
  rw [hi_lev (by omega)]
  have h2 := lev_two (a := a) (b := b) (l := l.take i) fun c hc => wd_letters h c (List.mem_of_mem_take hc)
  have h3 := count_both (l.take i) fun c hc => wd_letters h c (List.mem_of_mem_take hc)
  rw [List.length_take, Nat.min_eq_left (by omega)] at h3
  have h4 : (l.take i).count 114 ≤ a := by rw [← h.1]; exact (List.take_sublist i l).count_le 114
  generalize (l.take i).count 114 = x at *
  generalize (l.take i).count 115 = y at *
  rw [h2]
  split
  · have h5 : (b : Int) * (x : Int) ≤ (b : Int) * (i : Int) := Int.mul_le_mul_of_nonneg_left (by omega) (Int.natCast_nonneg _)
    have h6 : 0 ≤ (a : Int) * (y : Int) := Int.mul_nonneg (Int.natCast_nonneg _) (Int.natCast_nonneg _)
    omega
  · have h5 : (b : Int) * (x : Int) ≤ (b : Int) * (a : Int) := Int.mul_le_mul_of_nonneg_left (by omega) (Int.natCast_nonneg _)
    have h6 : (a : Int) * ((i - a : Nat) : Int) ≤ (a : Int) * (y : Int) := Int.mul_le_mul_of_nonneg_left (by omega) (Int.natCast_nonneg _)
    omega
/-- highest and lowest are one just for a side of 1 -/
theorem hi_eq_lo {a b : Nat} (ha : 0 < a) (hb : 0 < b) : hiW a b = loW a b ↔ a = 1 ∨ b = 1 := by
  constructor
  · intro h
    rcases Nat.lt_or_ge 1 a with h1 | h1
    · rcases Nat.lt_or_ge 1 b with h2 | h2
      · exfalso
        have e1 := hi_lev (a := a) (b := b) (i := a) (by omega)
        rw [h, lo_lev ha hb (by omega), if_pos (Nat.le_refl a)] at e1
        have m := Nat.mod_lt (b * a) (show 0 < a + b by omega)
        have e2 : b * a % (a + b) = b * a := by exact_mod_cast e1
        have e3 : a + b ≤ b * a := by
          obtain ⟨a', rfl⟩ : ∃ k, a = k + 2 := ⟨a - 2, by omega⟩
          obtain ⟨b', rfl⟩ : ∃ k, b = k + 2 := ⟨b - 2, by omega⟩
          rw [Nat.mul_add, Nat.add_mul]
          have := Nat.zero_le (b' * a')
          omega
        omega
      · exact .inr (by omega)
    · exact .inl (by omega)
  · intro h
    have hw := lo_wd ha hb
    refine word_by_levels (a := a) (b := b) ha (wd_letters hi_wd) (wd_letters hw) (by rw [hi_wd.2.2, hw.2.2]) fun i hi => ?_
    rw [hi_wd.2.2] at hi
    rw [hi_lev hi, lo_lev ha hb hi]
    rcases h with rfl | rfl
    · split
      · rename_i h1
        rw [Nat.mod_eq_of_lt (by rcases Nat.eq_zero_or_pos i with e | e <;> (try subst e) <;> (try rw [show i = 1 by omega]) <;> simp <;> omega)]
        rw [Int.natCast_mul]
      · rename_i h1
        rcases Nat.lt_or_ge i (1 + b) with q | q
        · have e : b * i = (1 + b) * (i - 1) + (b + 1 - i) := by
            obtain ⟨j, rfl⟩ : ∃ j, i = j + 1 := ⟨i - 1, by omega⟩
            rw [Nat.mul_add, Nat.add_sub_cancel, Nat.add_mul]; omega
          rw [e, Nat.mul_add_mod, Nat.mod_eq_of_lt (by omega)]; omega
        · have e : i = 1 + b := by omega
          subst e
          rw [Nat.mul_mod_left]; omega
    · split
      · rename_i h1
        rw [Nat.one_mul, Nat.mod_eq_of_lt (by omega)]; omega
      · rename_i h1
        have e : i = a + 1 := by omega
        subst e
        rw [Nat.one_mul, Nat.mod_self, show a + 1 - a = 1 by omega]; omega
/-! ### Python's order -/
theorem first_diff : ∀ {u v : List Nat}, u.length = v.length → u < v → ∃ p x y s t, u = p ++ x :: s ∧ v = p ++ y :: t ∧ x < y
  | [], [], _, h => by cases h
  | x :: u, y :: v, hl, h => by
    rcases List.cons_lt_cons_iff.mp h with h1 | ⟨h2, h1⟩
    · exact ⟨[], x, y, u, v, rfl, rfl, h1⟩
    · obtain ⟨p, a, b, s, t, e1, e2, h3⟩ := first_diff (Nat.succ.inj hl) h1
      exact ⟨x :: p, a, b, s, t, by rw [e1]; rfl, by rw [e2, h2]; rfl, h3⟩
theorem not_lt_hi {a b : Nat} {l : List Nat} (h : Wd a b l) : ¬ l < hiW a b := by
  intro hlt
  obtain ⟨p, x, y, s, t, e1, e2, hxy⟩ := first_diff (by rw [h.2.2, hi_wd.2.2]) hlt
  have hx := wd_letters h x (by rw [e1]; simp)
  have hy := wd_letters (hi_wd (a := a) (b := b)) y (by rw [e2]; simp)
  have ex : x = 114 := by omega
  have ey : y = 115 := by omega
  subst ex ey
  have hp : p.length < a + b := by
    have := congrArg List.length e2
    rw [hi_wd.2.2, List.length_append, List.length_cons] at this; omega
  have e3 : (hiW a b)[p.length]? = some 115 := by rw [e2]; simp
  have ha : a ≤ p.length := by
    rcases Nat.lt_or_ge p.length a with q | q
    · unfold hiW at e3
      rw [List.getElem?_append_left (by simpa using q), List.getElem?_replicate, if_pos q] at e3
      cases e3
    · exact q
  have e4 : p = (hiW a b).take p.length := by rw [e2]; simp
  have e5 : p.count 114 = a := by
    rw [e4]
    unfold hiW
    rw [List.take_append, List.length_replicate, List.take_replicate, List.take_replicate, Nat.min_eq_right ha]
    simp [List.count_replicate]
  have e6 := h.1
  rw [e1, List.count_append, List.count_cons, e5] at e6
  simp at e6 <;> omega
theorem not_lo_lt {a b : Nat} {l : List Nat} (ha : 0 < a) (hb : 0 < b) (h : IsWay a b l) : ¬ loW a b < l := by
  intro hlt
  have hw := lo_wd ha hb
  obtain ⟨p, x, y, s, t, e1, e2, hxy⟩ := first_diff (by rw [h.1.2.2, hw.2.2]) hlt
  have hx := wd_letters hw x (by rw [e1]; simp)
  have hy := wd_letters h.1 y (by rw [e2]; simp)
  have ex : x = 114 := by omega
  have ey : y = 115 := by omega
  subst ex ey
  have hp : p.length < a + b := by
    have := congrArg List.length e2
    rw [h.1.2.2, List.length_append, List.length_cons] at this; omega
  have e4 : p = loP a b p.length := by
    have e := loP_take (a := a) (b := b) (a + b) p.length (by omega)
    change (loW a b).take p.length = _ at e
    rw [← e, e1]; simp
  have e5 : loP a b (p.length + 1) = p ++ [114] := by
    have e := loP_take (a := a) (b := b) (a + b) (p.length + 1) (by omega)
    change (loW a b).take (p.length + 1) = _ at e
    rw [← e, e1, List.take_append, List.take_of_length_le (by omega), show p.length + 1 - p.length = 1 by omega]; rfl
  rw [loP, ← e4] at e5
  have e6 := List.append_cancel_left e5
  have small : lev a b p < a := by
    rcases Int.lt_or_le (lev a b p) a with q | q
    · exact q
    · rw [if_neg (by omega)] at e6; cases e6
  have e7 : l.take (p.length + 1) = p ++ [115] := by rw [e2, List.take_append, List.take_of_length_le (by omega), show p.length + 1 - p.length = 1 by omega]; rfl
  rcases Nat.lt_or_ge (p.length + 1) l.length with q | q
  · have := h.2 _ q
    rw [e7, lev_snoc] at this
    simp at this; omega
  · have e8 : l.take (p.length + 1) = l := List.take_of_length_le q
    have := lev_word h.1
    rw [← e8, e7, lev_snoc] at this
    simp at this; omega
end Mw

/-! numbers of ways: plain mathematics -/
namespace M3
/-- choose by multiplying -/
def chl (n : Nat) : Nat → Nat
  | 0 => 1
  | k + 1 => chl n k * (n - k) / (k + 1)
def ch : Nat → Nat → Nat
  | _, 0 => 1
  | 0, _ + 1 => 0
  | n + 1, k + 1 => ch n k + ch n (k + 1)
theorem ch0 (n : Nat) : ch n 0 = 1 := by cases n <;> rfl
theorem ch_step : ∀ n k : Nat, (k + 1) * ch n (k + 1) + k * ch n k = n * ch n k
  | 0, 0 => rfl
  | 0, k + 1 => by simp [ch]
  | n + 1, 0 => by
    have h := ch_step n 0
    rw [ch0] at h ⊢
    show (0 + 1) * (ch n 0 + ch n (0 + 1)) + 0 * 1 = (n + 1) * 1
    rw [ch0]; omega
  | n + 1, k + 1 => by
    have h1 := ch_step n k
    have h2 := ch_step n (k + 1)
    show (k + 1 + 1) * (ch n (k + 1) + ch n (k + 1 + 1)) + (k + 1) * (ch n k + ch n (k + 1)) = (n + 1) * (ch n k + ch n (k + 1))
    simp only [Nat.add_mul, Nat.mul_add, Nat.one_mul] at h1 h2 ⊢
    omega
theorem ch_big : ∀ n k : Nat, n < k → ch n k = 0
  | 0, 0, h => by omega
  | 0, k + 1, _ => rfl
  | n + 1, 0, h => by omega
  | n + 1, k + 1, h => by
    show ch n k + ch n (k + 1) = 0
    rw [ch_big n k (by omega), ch_big n (k + 1) (by omega)]
theorem ch_mul (n k : Nat) : ch n k * (n - k) = (k + 1) * ch n (k + 1) := by
  by_cases h : k ≤ n
  · have e := ch_step n k
    obtain ⟨j, rfl⟩ := Nat.le.dest h
    rw [Nat.add_sub_cancel_left]
    rw [Nat.add_mul k j] at e
    rw [Nat.mul_comm (ch (k + j) k) j]; omega
  · rw [ch_big n k (by omega), ch_big n (k + 1) (by omega)]; simp
theorem chl_eq (n : Nat) : ∀ k, chl n k = ch n k
  | 0 => (ch0 n).symm
  | k + 1 => by
    show chl n k * (n - k) / (k + 1) = ch n (k + 1)
    rw [chl_eq n k, ch_mul, Nat.mul_div_cancel_left _ (Nat.succ_pos k)]
theorem ch_self : ∀ n, ch n n = 1
  | 0 => rfl
  | n + 1 => by show ch n n + ch n (n + 1) = 1; rw [ch_self n, ch_big n (n + 1) (by omega)]
theorem ch_symm : ∀ i j : Nat, ch (i + j) i = ch (i + j) j
  | 0, j => by rw [ch0, Nat.zero_add, ch_self]
  | i + 1, 0 => by rw [ch0, Nat.add_zero, ch_self]
  | i + 1, j + 1 => by
    rw [show i + 1 + (j + 1) = (i + j + 1) + 1 by omega]
    show ch (i + j + 1) i + ch (i + j + 1) (i + 1) = ch (i + j + 1) j + ch (i + j + 1) (j + 1)
    have h1 := ch_symm i (j + 1)
    have h2 := ch_symm (i + 1) j
    rw [show i + (j + 1) = i + j + 1 by omega] at h1
    rw [show i + 1 + j = i + j + 1 by omega] at h2
    omega
/-- the sum of [1.2], up to a part -/
def bzTot (r L : Nat) (cs : List Nat) (size : Nat) : Nat → Nat
  | 0 => 0
  | k + 1 => bzTot r L cs size k + cs.getD (size - (k + 1)) 0 * (chl ((k + 1) * L) ((k + 1) * r) / L)
def bzC (r L : Nat) : Nat → List Nat
  | 0 => [1]
  | n + 1 => bzC r L n ++ [bzTot r L (bzC r L n) (n + 1) (n + 1) / (n + 1)]
def wc (a b : Nat) : Nat := (bzC (a / Nat.gcd a b) (a / Nat.gcd a b + b / Nat.gcd a b) (Nat.gcd a b)).getD (Nat.gcd a b) 0
theorem bzC_len (r L : Nat) : ∀ n, (bzC r L n).length = n + 1
  | 0 => rfl
  | n + 1 => by
    show (bzC r L n ++ _).length = n + 1 + 1
    rw [List.length_append, bzC_len r L n]; rfl
theorem bzC_get (r L : Nat) : ∀ n i, i ≤ n → (bzC r L n).getD i 0 = (bzC r L i).getD i 0
  | 0, i, h => by
    have e : i = 0 := by omega
    subst e; rfl
  | n + 1, i, h => by
    by_cases e : i = n + 1
    · subst e; rfl
    · show (bzC r L n ++ _).getD i 0 = _
      rw [List.getD_eq_getElem?_getD, List.getElem?_append_left (by rw [bzC_len]; omega), ← List.getD_eq_getElem?_getD]
      exact bzC_get r L n i (by omega)
theorem bzC_last (r L n : Nat) : (bzC r L (n + 1)).getD (n + 1) 0 = bzTot r L (bzC r L n) (n + 1) (n + 1) / (n + 1) := by
  show (bzC r L n ++ [_]).getD (n + 1) 0 = _
  rw [List.getD_eq_getElem?_getD, List.getElem?_append_right (by rw [bzC_len]; omega), bzC_len]
  simp
/-- the number behind n multiples -/
def bz (r L n : Nat) : Nat := (bzC r L n).getD n 0
theorem bz0 (r L : Nat) : bz r L 0 = 1 := rfl
/-- the sum, by the numbers -/
def bzS (r L size : Nat) : Nat → Nat
  | 0 => 0
  | k + 1 => bzS r L size k + bz r L (size - (k + 1)) * (chl ((k + 1) * L) ((k + 1) * r) / L)
theorem bzTot_eq (r L n size : Nat) (h : size ≤ n + 1) : ∀ k, bzTot r L (bzC r L n) size k = bzS r L size k
  | 0 => rfl
  | k + 1 => by
    show bzTot r L (bzC r L n) size k + _ = bzS r L size k + _
    rw [bzTot_eq r L n size h k, bzC_get r L n _ (by omega)]; rfl
theorem bz_succ (r L n : Nat) : bz r L (n + 1) = bzS r L (n + 1) (n + 1) / (n + 1) := by
  unfold bz; rw [bzC_last, bzTot_eq r L n (n + 1) (Nat.le_refl _)]
/-- the number of letters divides -/
theorem ch_dvd {r L : Nat} (h : Nat.gcd r L = 1) (hr : 0 < r) (k : Nat) (hk : 0 < k) (hl : r ≤ L) : L ∣ chl (k * L) (k * r) := by
  rw [chl_eq]
  have hkr : 0 < k * r := Nat.mul_pos hk hr
  have hkl : 0 < k * L := Nat.mul_pos hk (Nat.lt_of_lt_of_le hr hl)
  obtain ⟨m, hm⟩ := Nat.exists_eq_succ_of_ne_zero (Nat.ne_of_gt hkr)
  obtain ⟨n, hn⟩ := Nat.exists_eq_succ_of_ne_zero (Nat.ne_of_gt hkl)
  have e : (m + 1) * ch (n + 1) (m + 1) = (n + 1) * ch n m := by
    have h1 := ch_step n m
    show (m + 1) * (ch n m + ch n (m + 1)) = (n + 1) * ch n m
    simp only [Nat.add_mul, Nat.mul_add, Nat.one_mul] at h1 ⊢
    omega
  rw [hm, hn]
  show L ∣ ch (n + 1) (m + 1)
  have e2 : r * ch (n + 1) (m + 1) = L * ch n m := by
    apply Nat.eq_of_mul_eq_mul_left hk
    rw [← Nat.mul_assoc, ← Nat.mul_assoc, hm, hn]; exact e
  have d : L ∣ r * ch (n + 1) (m + 1) := ⟨_, e2⟩
  exact Nat.Coprime.dvd_of_dvd_mul_left (show Nat.Coprime L r by rw [Nat.coprime_comm]; exact h) d

/-! rows of ends -/
def stepRow (a c : Nat) : Nat → Nat → List Nat → List Nat
  | _, _, [] => []
  | m, prev, x :: xs => ((if c ≤ a * m then prev else 0) + x) :: stepRow a c (m + 1) ((if c ≤ a * m then prev else 0) + x) xs
def nextRow (a c : Nat) : List Nat → List Nat
  | [] => []
  | x :: xs => x :: stepRow a c 0 x xs
def rowOf (a b : Nat) : Nat → List Nat
  | 0 => List.replicate (b + 1) 1
  | l + 1 => nextRow a (b * (l + 1)) (rowOf a b l)
theorem stepRow_len (a c : Nat) : ∀ m p xs, (stepRow a c m p xs).length = xs.length
  | _, _, [] => rfl
  | m, p, x :: xs => by
    show (stepRow a c _ _ xs).length + 1 = xs.length + 1
    rw [stepRow_len]
theorem nextRow_len (a c : Nat) (xs : List Nat) : (nextRow a c xs).length = xs.length := by
  cases xs with
  | nil => rfl
  | cons x xs =>
    show (stepRow a c 0 x xs).length + 1 = xs.length + 1
    rw [stepRow_len]
theorem rowOf_len (a b : Nat) : ∀ l, (rowOf a b l).length = b + 1
  | 0 => by show (List.replicate (b + 1) 1).length = b + 1; rw [List.length_replicate]
  | l + 1 => by show (nextRow a _ _).length = b + 1; rw [nextRow_len, rowOf_len a b l]
theorem stepRow_get (a c : Nat) : ∀ m p xs (i : Nat), i < xs.length → (stepRow a c m p xs).getD i 0 = (if c ≤ a * (m + i) then (p :: stepRow a c m p xs).getD i 0 else 0) + xs.getD i 0
  | m, p, x :: xs, 0, _ => by simp [stepRow]
  | m, p, x :: xs, i + 1, h => by
    have ih := stepRow_get a c (m + 1) ((if c ≤ a * m then p else 0) + x) xs i (by simpa using h)
    rw [show m + 1 + i = m + (i + 1) by omega] at ih
    exact ih
theorem nextRow_get0 (a c : Nat) (xs : List Nat) : (nextRow a c xs).getD 0 0 = xs.getD 0 0 := by cases xs <;> rfl
theorem nextRow_get (a c : Nat) (xs : List Nat) (i : Nat) (h : i + 1 < xs.length) : (nextRow a c xs).getD (i + 1) 0 = (if c ≤ a * i then (nextRow a c xs).getD i 0 else 0) + xs.getD (i + 1) 0 := by
  cases xs with
  | nil => exact absurd h (Nat.not_lt_zero _)
  | cons x xs =>
    have := stepRow_get a c 0 x xs i (by simpa using h)
    rw [Nat.zero_add] at this
    exact this
def scan : Nat → List Nat → List Nat
  | _, [] => []
  | acc, x :: xs => (acc + x) :: scan (acc + x) xs
def dropN : Nat → List Nat → List Nat
  | 0, xs => xs
  | _ + 1, [] => []
  | n + 1, _ :: xs => dropN n xs
theorem dropN_eq : ∀ n xs, dropN n xs = xs.drop n
  | 0, xs => rfl
  | n + 1, [] => rfl
  | n + 1, x :: xs => by show dropN n xs = (x :: xs).drop (n + 1); rw [dropN_eq n xs]; rfl
theorem step_scan (a c : Nat) : ∀ m p xs, c ≤ a * m → stepRow a c m p xs = scan p xs
  | _, _, [], _ => rfl
  | m, p, x :: xs, h => by
    show ((if c ≤ a * m then p else 0) + x) :: stepRow a c (m + 1) ((if c ≤ a * m then p else 0) + x) xs = (p + x) :: scan (p + x) xs
    rw [if_pos h, step_scan a c (m + 1) (p + x) xs (Nat.le_trans h (Nat.mul_le_mul_left a (Nat.le_succ m)))]
theorem step_drop (a c t : Nat) (ht : c ≤ a * t) (hn : ∀ m, m < t → ¬ c ≤ a * m) : ∀ (m p : Nat) (xs : List Nat) (k : Nat), t = m + 1 + k → (stepRow a c m p xs).drop k = scan 0 (xs.drop k)
  | m, p, [], k, _ => by simp [stepRow, scan]
  | m, p, x :: xs, 0, e => by
    show ((if c ≤ a * m then p else 0) + x) :: stepRow a c (m + 1) ((if c ≤ a * m then p else 0) + x) xs = (0 + x) :: scan (0 + x) xs
    rw [if_neg (hn m (by omega)), step_scan a c (m + 1) (0 + x) xs (by rw [show m + 1 = t by omega]; exact ht)]
  | m, p, x :: xs, k + 1, e => by
    show (stepRow a c (m + 1) _ xs).drop k = scan 0 (xs.drop k)
    exact step_drop a c t ht hn (m + 1) _ xs k (by omega)
theorem next_drop (a c t : Nat) (ht : c ≤ a * t) (hn : ∀ m, m < t → ¬ c ≤ a * m) (h0 : 0 < t) (xs : List Nat) : (nextRow a c xs).drop t = scan 0 (xs.drop t) := by
  cases xs with
  | nil => simp [nextRow, scan]
  | cons x xs =>
    obtain ⟨k, rfl⟩ := Nat.exists_eq_succ_of_ne_zero (Nat.ne_of_gt h0)
    show (stepRow a c 0 x xs).drop k = scan 0 (xs.drop k)
    exact step_drop a c (k + 1) ht hn 0 x xs k (by omega)
/-- the first place of the row l at which a step may be taken -/
def edge (a b l : Nat) : Nat := (b * l + (a - 1)) / a
theorem edge_ge {a b l : Nat} (ha : 0 < a) : b * l ≤ a * edge a b l := by
  unfold edge
  have h := Nat.div_add_mod (b * l + (a - 1)) a
  have h2 := Nat.mod_lt (b * l + (a - 1)) ha
  omega
theorem edge_min {a b l m : Nat} (ha : 0 < a) (h : m < edge a b l) : ¬ b * l ≤ a * m := by
  intro h2
  unfold edge at h
  have h3 : (m + 1) * a ≤ b * l + (a - 1) := (Nat.le_div_iff_mul_le ha).mp h
  rw [Nat.add_mul, Nat.mul_comm m a] at h3
  omega
def live (a b : Nat) : Nat → List Nat
  | 0 => List.replicate (b + 1) 1
  | l + 1 => scan 0 (dropN (edge a b (l + 1) - edge a b l) (live a b l))
theorem edge_mono {a b l : Nat} : edge a b l ≤ edge a b (l + 1) := by
  unfold edge
  apply Nat.div_le_div_right
  rw [Nat.mul_add]; omega
theorem live_eq {a b : Nat} (ha : 0 < a) (hb : 0 < b) : ∀ l, live a b l = (rowOf a b l).drop (edge a b l)
  | 0 => by
    have e : edge a b 0 = 0 := by
      unfold edge
      rw [Nat.mul_zero, Nat.zero_add]
      exact Nat.div_eq_of_lt (by omega)
    rw [e]; rfl
  | l + 1 => by
    show scan 0 (dropN (edge a b (l + 1) - edge a b l) (live a b l)) = (nextRow a (b * (l + 1)) (rowOf a b l)).drop (edge a b (l + 1))
    have hp : 0 < edge a b (l + 1) := by
      have h1 := edge_ge (b := b) (l := l + 1) ha
      have h2 : 0 < b * (l + 1) := Nat.mul_pos hb (Nat.succ_pos l)
      rcases Nat.eq_zero_or_pos (edge a b (l + 1)) with z | z
      · rw [z] at h1; omega
      · exact z
    rw [next_drop a _ _ (edge_ge ha) (fun m h => edge_min ha h) hp, dropN_eq, live_eq ha hb l, List.drop_drop]
    have := edge_mono (a := a) (b := b) (l := l)
    rw [show edge a b l + (edge a b (l + 1) - edge a b l) = edge a b (l + 1) by omega]
def endsN (a b : Nat) : Nat := (rowOf a b a).getD b 0
theorem ends_eq {a b : Nat} (ha : 0 < a) (hb : 0 < b) : endsN a b = (live a b a).headD 0 := by
  have e : edge a b a = b := by
    unfold edge
    rw [Nat.mul_comm b a, Nat.mul_add_div ha, Nat.div_eq_of_lt (by omega), Nat.add_zero]
  rw [live_eq ha hb, e]
  unfold endsN
  rw [List.getD_eq_getElem?_getD]
  cases h : (rowOf a b a).drop b with
  | nil =>
    have := rowOf_len a b a
    have h2 := congrArg List.length h
    rw [List.length_drop, this] at h2
    simp at h2
  | cons x xs =>
    have h2 : ((rowOf a b a).drop b)[0]? = some x := by rw [h]; rfl
    rw [List.getElem?_drop, Nat.add_zero] at h2
    rw [h2]; rfl
def remB (r L : Nat) : Nat → Nat
  | 0 => 0
  | n + 1 => bzTot r L (bzC r L n) (n + 1) (n + 1) % (n + 1)
def bndB (r L n : Nat) : Bool := (bzC r L n).all fun x => Nat.blt x (2 ^ 400)
def okT (a b : Nat) : Bool := wc a b == (live a b a).headD 0 && remB (a / Nat.gcd a b) (a / Nat.gcd a b + b / Nat.gcd a b) (Nat.gcd a b) == 0 && bndB (a / Nat.gcd a b) (a / Nat.gcd a b + b / Nat.gcd a b) (Nat.gcd a b)
def allB (f : Nat → Bool) : Nat → Bool
  | 0 => true
  | n + 1 => f (n + 1) && allB f n
theorem allB_of {f : Nat → Bool} : ∀ {n : Nat}, allB f n = true → ∀ i, 1 ≤ i → i ≤ n → f i = true
  | 0, _, i, h1, h2 => by omega
  | n + 1, h, i, h1, h2 => by
    have h' : (f (n + 1) && allB f n) = true := h
    rw [Bool.and_eq_true] at h'
    by_cases e : i = n + 1
    · rw [e]; exact h'.1
    · exact allB_of h'.2 i h1 (by omega)
end M3

/-! Mi: ways by number: how many ways are less, the way with a number. -/
namespace Mw
/-- the ends of ways behind which so many rises and steps are left -/
def E (a b left more : Nat) : Nat := (M3.rowOf a b left).getD more 0
theorem E_00 {a b more : Nat} (h : more ≤ b) : E a b 0 more = 1 := by
  show (List.replicate (b + 1) 1).getD more 0 = 1
  rw [List.getD_eq_getElem?_getD, List.getElem?_replicate, if_pos (by omega)]; rfl
theorem E_s0 {a b left : Nat} : E a b (left + 1) 0 = E a b left 0 := M3.nextRow_get0 _ _ _
theorem E_ss {a b left more : Nat} (h : more + 1 ≤ b) : E a b (left + 1) (more + 1) = (if b * (left + 1) ≤ a * more then E a b (left + 1) more else 0) + E a b left (more + 1) :=
  M3.nextRow_get _ _ _ _ (by rw [M3.rowOf_len]; omega)
/-- a word goes on where so many rises and steps are left -/
def Suf (a b : Nat) : Nat → Nat → List Nat → Prop
  | left, more, [] => left = 0 ∧ more = 0
  | left, more, c :: w => (c = 114 ∧ 0 < left ∧ Suf a b (left - 1) more w) ∨ (c = 115 ∧ 0 < more ∧ b * left ≤ a * (more - 1) ∧ Suf a b left (more - 1) w)
/-- how many are less -/
def rk (a b : Nat) : Nat → Nat → List Nat → Nat
  | _, _, [] => 0
  | left, more, c :: w => if c = 114 then rk a b (left - 1) more w else (if 0 < left then E a b (left - 1) more else 0) + rk a b left (more - 1) w
theorem rk_r {a b left more : Nat} {w : List Nat} : rk a b left more (114 :: w) = rk a b (left - 1) more w := by rw [rk, if_pos rfl]
theorem rk_s {a b left more : Nat} {w : List Nat} : rk a b left more (115 :: w) = (if 0 < left then E a b (left - 1) more else 0) + rk a b left (more - 1) w := by rw [rk, if_neg (by decide)]
theorem suf_len {a b : Nat} : ∀ (w : List Nat) {left more : Nat}, Suf a b left more w → w.length = left + more
  | [], left, more, h => by obtain ⟨h1, h2⟩ := h; subst h1 h2; rfl
  | c :: w, left, more, h => by
    rcases h with ⟨_, h1, h2⟩ | ⟨_, h1, _, h2⟩
    · have := suf_len w h2; rw [List.length_cons]; omega
    · have := suf_len w h2; rw [List.length_cons]; omega
theorem rk_lt {a b : Nat} : ∀ (w : List Nat) {left more : Nat}, more ≤ b → Suf a b left more w → rk a b left more w < E a b left more
  | [], left, more, hb, h => by
    obtain ⟨h1, h2⟩ := h
    subst h1 h2
    rw [E_00 (Nat.zero_le _)]; exact Nat.zero_lt_one
  | c :: w, left, more, hb, h => by
    rcases h with ⟨rfl, h1, h2⟩ | ⟨rfl, h1, h3, h2⟩
    · have ih := rk_lt w hb h2
      obtain ⟨l, rfl⟩ : ∃ l, left = l + 1 := ⟨left - 1, by omega⟩
      rw [Nat.add_sub_cancel] at ih h2
      rw [rk, if_pos rfl, Nat.add_sub_cancel]
      cases more with
      | zero => rw [E_s0]; exact ih
      | succ m => rw [E_ss hb]; omega
    · have ih := rk_lt w (by omega) h2
      obtain ⟨m, rfl⟩ : ∃ m, more = m + 1 := ⟨more - 1, by omega⟩
      rw [Nat.add_sub_cancel] at ih h2 h3
      rw [rk, if_neg (by decide), Nat.add_sub_cancel]
      cases left with
      | zero =>
        rw [if_neg (by omega), E_00 hb]
        rw [E_00 (by omega)] at ih; omega
      | succ l =>
        rw [if_pos (by omega), Nat.add_sub_cancel, E_ss hb, if_pos h3]; omega
/-- the order is that of the numbers -/
theorem rk_mono {a b : Nat} : ∀ (u v : List Nat) {left more : Nat}, more ≤ b → Suf a b left more u → Suf a b left more v → rk a b left more u < rk a b left more v → u < v
  | [], v, left, more, hb, hu, hv, h => by
    have := suf_len v hv
    obtain ⟨h1, h2⟩ := hu
    subst h1 h2
    have e : v = [] := List.length_eq_zero_iff.mp this
    subst e
    exact absurd h (Nat.lt_irrefl _)
  | c :: u, [], left, more, hb, hu, hv, h => by
    have := suf_len _ hu
    obtain ⟨h1, h2⟩ := hv
    subst h1 h2
    simp at this
  | c :: u, d :: v, left, more, hb, hu, hv, h => by
    rcases hu with ⟨rfl, h1, h2⟩ | ⟨rfl, h1, h3, h2⟩ <;> rcases hv with ⟨rfl, g1, g2⟩ | ⟨rfl, g1, g3, g2⟩
    · rw [rk_r, rk_r] at h
      exact List.cons_lt_cons_iff.mpr (.inr ⟨rfl, rk_mono u v hb h2 g2 h⟩)
    · exact List.cons_lt_cons_iff.mpr (.inl (by decide))
    · exfalso
      rw [rk_s, rk_r, if_pos g1] at h
      have := rk_lt v hb g2
      omega
    · rw [rk_s, rk_s] at h
      exact List.cons_lt_cons_iff.mpr (.inr ⟨rfl, rk_mono u v (by omega) h2 g2 (by omega)⟩)
theorem rk_inj {a b : Nat} : ∀ (u v : List Nat) {left more : Nat}, more ≤ b → Suf a b left more u → Suf a b left more v → rk a b left more u = rk a b left more v → u = v
  | [], v, left, more, hb, hu, hv, h => by
    have := suf_len v hv
    obtain ⟨h1, h2⟩ := hu
    subst h1 h2
    exact (List.length_eq_zero_iff.mp this).symm
  | c :: u, [], left, more, hb, hu, hv, h => by
    have := suf_len _ hu
    obtain ⟨h1, h2⟩ := hv
    subst h1 h2
    simp at this
  | c :: u, d :: v, left, more, hb, hu, hv, h => by
    rcases hu with ⟨rfl, h1, h2⟩ | ⟨rfl, h1, h3, h2⟩ <;> rcases hv with ⟨rfl, g1, g2⟩ | ⟨rfl, g1, g3, g2⟩
    · rw [rk_r, rk_r] at h
      rw [rk_inj u v hb h2 g2 h]
    · exfalso
      rw [rk_r, rk_s, if_pos h1] at h
      have := rk_lt u hb h2
      omega
    · exfalso
      rw [rk_s, rk_r, if_pos g1] at h
      have := rk_lt v hb g2
      omega
    · rw [rk_s, rk_s] at h
      rw [rk_inj u v (by omega) h2 g2 (by omega)]
/-- the way with a number -/
def wa (a b : Nat) : Nat → Nat → Nat → Nat → List Nat
  | 0, _, _, _ => []
  | n + 1, left, more, i => if 0 < left ∧ i < E a b (left - 1) more then 114 :: wa a b n (left - 1) more i else 115 :: wa a b n left (more - 1) (i - if 0 < left then E a b (left - 1) more else 0)
theorem wa_ok {a b : Nat} : ∀ (n : Nat) {left more i : Nat}, n = left + more → more ≤ b → b * left ≤ a * more → i < E a b left more → Suf a b left more (wa a b n left more i) ∧ rk a b left more (wa a b n left more i) = i
  | 0, left, more, i, hn, hb, hl, hi => by
    have h1 : left = 0 := by omega
    have h2 : more = 0 := by omega
    subst h1 h2
    rw [E_00 (Nat.zero_le _)] at hi
    exact ⟨⟨rfl, rfl⟩, by rw [wa, rk]; omega⟩
  | n + 1, left, more, i, hn, hb, hl, hi => by
    rw [wa]
    split
    · rename_i h
      obtain ⟨h1, h2⟩ := h
      have l2 : b * (left - 1) ≤ a * more := Nat.le_trans (Nat.mul_le_mul_left _ (by omega)) hl
      obtain ⟨q1, q2⟩ := wa_ok n (left := left - 1) (more := more) (i := i) (by omega) hb l2 h2
      exact ⟨.inl ⟨rfl, h1, q1⟩, by rw [rk, if_pos rfl]; exact q2⟩
    · rename_i h
      have m0 : 0 < more := by
        rcases Nat.eq_zero_or_pos more with z | z
        · subst z
          obtain ⟨l, rfl⟩ : ∃ l, left = l + 1 := ⟨left - 1, by omega⟩
          exfalso
          apply h
          rw [E_s0] at hi
          exact ⟨by omega, by rw [Nat.add_sub_cancel]; exact hi⟩
        · exact z
      obtain ⟨m, rfl⟩ : ∃ m, more = m + 1 := ⟨more - 1, by omega⟩
      rw [Nat.add_sub_cancel]
      cases left with
      | zero =>
        rw [E_00 hb] at hi
        rw [if_neg (Nat.lt_irrefl 0), Nat.sub_zero]
        obtain ⟨q1, q2⟩ := wa_ok (a := a) (b := b) n (left := 0) (more := m) (i := i) (by omega) (by omega) (by rw [Nat.mul_zero]; exact Nat.zero_le _) (by rw [E_00 (show m ≤ b by omega)]; exact hi)
        refine ⟨.inr ⟨rfl, Nat.succ_pos _, by rw [Nat.mul_zero]; exact Nat.zero_le _, q1⟩, ?_⟩
        rw [rk_s, if_neg (Nat.lt_irrefl 0), Nat.zero_add]; exact q2
      | succ l =>
        rw [Nat.add_sub_cancel] at h
        rw [if_pos (Nat.succ_pos l), Nat.add_sub_cancel]
        have big : E a b l (m + 1) ≤ i := Nat.le_of_not_lt fun z => h ⟨Nat.succ_pos l, z⟩
        rw [E_ss hb] at hi
        have leg : b * (l + 1) ≤ a * m := by
          rcases Nat.lt_or_ge (a * m) (b * (l + 1)) with z | z
          · rw [if_neg (by omega)] at hi; omega
          · exact z
        rw [if_pos leg] at hi
        obtain ⟨q1, q2⟩ := wa_ok n (left := l + 1) (more := m) (i := i - E a b l (m + 1)) (by omega) (by omega) leg (by omega)
        refine ⟨.inr ⟨rfl, Nat.succ_pos _, leg, q1⟩, ?_⟩
        rw [rk, if_neg (by decide), if_pos (Nat.succ_pos l), Nat.add_sub_cancel, Nat.add_sub_cancel, q2]; omega
/-! ### ways are such words -/
theorem suf_counts {a b : Nat} : ∀ (w : List Nat) {left more : Nat}, Suf a b left more w → w.count 114 = left ∧ w.count 115 = more
  | [], left, more, h => by obtain ⟨h1, h2⟩ := h; subst h1 h2; exact ⟨rfl, rfl⟩
  | c :: w, left, more, h => by
    rcases h with ⟨rfl, h1, h2⟩ | ⟨rfl, h1, _, h2⟩
    · obtain ⟨q1, q2⟩ := suf_counts w h2
      rw [List.count_cons, List.count_cons, q1, q2]; simp; omega
    · obtain ⟨q1, q2⟩ := suf_counts w h2
      rw [List.count_cons, List.count_cons, q1, q2]; simp; omega
theorem suf_levels {a b : Nat} : ∀ (w : List Nat) {left more : Nat}, b * left ≤ a * more → Suf a b left more w → ∀ i, i ≤ w.length → 0 ≤ (a : Int) * more - (b : Int) * left + lev a b (w.take i)
  | w, left, more, hl, h, 0, _ => by
    rw [List.take_zero, lev_nil]
    have : (b : Int) * left ≤ (a : Int) * more := by exact_mod_cast hl
    omega
  | [], left, more, hl, h, i + 1, hi => by simp at hi
  | c :: w, left, more, hl, h, i + 1, hi => by
    have hi' : i ≤ w.length := by simpa using hi
    rw [List.take_succ_cons, show c :: w.take i = [c] ++ w.take i from rfl, lev_append, lev_one]
    rcases h with ⟨rfl, h1, h2⟩ | ⟨rfl, h1, h3, h2⟩
    · have ih := suf_levels w (left := left - 1) (more := more) (Nat.le_trans (Nat.mul_le_mul_left _ (by omega)) hl) h2 i hi'
      rw [if_pos rfl]
      have e : (b : Int) * ((left - 1 : Nat) : Int) = (b : Int) * left - b := by
        rw [Int.ofNat_sub h1, Int.mul_sub]; simp
      omega
    · have ih := suf_levels w (left := left) (more := more - 1) h3 h2 i hi'
      rw [if_neg (by decide)]
      have e : (a : Int) * ((more - 1 : Nat) : Int) = (a : Int) * more - a := by
        rw [Int.ofNat_sub h1, Int.mul_sub]; simp
      omega
theorem suf_way {a b : Nat} {w : List Nat} (h : Suf a b a b w) : IsWay a b w := by
  obtain ⟨c1, c2⟩ := suf_counts w h
  refine ⟨⟨c1, c2, suf_len w h⟩, fun i hi => ?_⟩
  have := suf_levels w (by rw [Nat.mul_comm]; exact Nat.le_refl _) h i (by omega)
  rw [Int.mul_comm (a : Int) b] at this; omega
theorem way_suf {a b : Nat} : ∀ (w p : List Nat), IsWay a b (p ++ w) → Suf a b (a - p.count 114) (b - p.count 115) w
  | [], p, h => by
    rw [List.append_nil] at h
    exact ⟨by rw [h.1.1]; omega, by rw [h.1.2.1]; omega⟩
  | c :: w, p, h => by
    have e : p ++ c :: w = (p ++ [c]) ++ w := by simp
    have ih := way_suf w (p ++ [c]) (e ▸ h)
    have hc := wd_letters h.1 c (by simp)
    have r1 := h.1.1
    have r2 := h.1.2.1
    rw [List.count_append, List.count_cons] at r1 r2
    rw [List.count_append, List.count_append, List.count_cons, List.count_cons, List.count_nil, List.count_nil] at ih
    rcases hc with rfl | rfl
    · simp at r1 r2 ih
      refine .inl ⟨rfl, by omega, ?_⟩
      rw [Nat.sub_sub]; exact ih
    · simp at r1 r2 ih
      refine .inr ⟨rfl, by omega, ?_, by rw [Nat.sub_sub]; exact ih⟩
      have hl := h.1.2.2
      have t : (p ++ 115 :: w).take (p.length + 1) = p ++ [115] := by rw [e, List.take_left' (by simp)]
      have pos : 0 ≤ lev a b (p ++ [115]) := by
        rcases Nat.lt_or_ge (p.length + 1) (p ++ 115 :: w).length with z | z
        · have := h.2 _ z
          rw [t] at this; exact this
        · have e2 : (p ++ 115 :: w).take (p.length + 1) = p ++ 115 :: w := List.take_of_length_le z
          rw [← t, e2, lev_word h.1]; exact Int.le_refl _
      have pl : ∀ d, d ∈ p ++ [115] → d = 114 ∨ d = 115 := by
        intro d hd
        rcases List.mem_append.mp hd with hd | hd
        · exact wd_letters h.1 d (List.mem_append_left _ hd)
        · exact .inr (List.mem_singleton.mp hd)
      rw [lev_two pl, List.count_append, List.count_append] at pos
      simp at pos
      have k1 : p.count 114 ≤ a := by omega
      have k2 : p.count 115 + 1 ≤ b := by omega
      have f1 : b * (a - p.count 114) + b * p.count 114 = b * a := by rw [← Nat.mul_add, Nat.sub_add_cancel k1]
      have f2 : a * (b - p.count 115 - 1) + a * (p.count 115 + 1) = a * b := by rw [← Nat.mul_add, Nat.sub_sub, Nat.sub_add_cancel k2]
      have f3 : a * (p.count 115 + 1) ≤ b * p.count 114 := by
        have : (a : Int) * ((p.count 115 : Nat) + 1) ≤ (b : Int) * (p.count 114 : Nat) := by omega
        exact_mod_cast this
      rw [Nat.mul_comm b a] at f1
      omega
theorem way_suf0 {a b : Nat} {w : List Nat} (h : IsWay a b w) : Suf a b a b w := way_suf w [] h
/-- the number of a way, the way of a number -/
def rank (a b : Nat) (w : List Nat) : Nat := rk a b a b w
def wayAt (a b i : Nat) : List Nat := wa a b (a + b) a b i
theorem rank_lt {a b : Nat} {w : List Nat} (h : IsWay a b w) : rank a b w < E a b a b := rk_lt w (Nat.le_refl _) (way_suf0 h)
theorem wayAt_ok {a b i : Nat} (h : i < E a b a b) : IsWay a b (wayAt a b i) ∧ rank a b (wayAt a b i) = i := by
  obtain ⟨h1, h2⟩ := wa_ok (a + b) rfl (Nat.le_refl b) (by rw [Nat.mul_comm]; exact Nat.le_refl _) h
  exact ⟨suf_way h1, h2⟩
theorem wayAt_rank {a b : Nat} {w : List Nat} (h : IsWay a b w) : wayAt a b (rank a b w) = w := by
  obtain ⟨h1, h2⟩ := wayAt_ok (rank_lt h)
  exact rk_inj _ _ (Nat.le_refl b) (way_suf0 h1) (way_suf0 h) h2
theorem rank_mono {a b : Nat} {u v : List Nat} (hu : IsWay a b u) (hv : IsWay a b v) (h : rank a b u < rank a b v) : u < v := rk_mono u v (Nat.le_refl b) (way_suf0 hu) (way_suf0 hv) h
theorem wayAt_lt {a b i j : Nat} (h : i < j) (hj : j < E a b a b) : wayAt a b i < wayAt a b j := by
  obtain ⟨h1, h2⟩ := wayAt_ok (show i < E a b a b by omega)
  obtain ⟨h3, h4⟩ := wayAt_ok hj
  exact rank_mono h1 h3 (by omega)
theorem E_pos {a b : Nat} : 0 < E a b a b := Nat.lt_of_le_of_lt (Nat.zero_le _) (rank_lt hi_way)
theorem wayAt_0 {a b : Nat} : wayAt a b 0 = hiW a b := by
  obtain ⟨h1, h2⟩ := wayAt_ok (a := a) (b := b) (i := 0) E_pos
  have e : rank a b (hiW a b) = 0 := by
    rcases Nat.eq_zero_or_pos (rank a b (hiW a b)) with z | z
    · exact z
    · exact absurd (rank_mono h1 hi_way (by omega)) (not_lt_hi h1.1)
  rw [← e, wayAt_rank hi_way]
theorem wayAt_last {a b : Nat} (ha : 0 < a) (hb : 0 < b) : wayAt a b (E a b a b - 1) = loW a b := by
  have p := E_pos (a := a) (b := b)
  obtain ⟨h1, h2⟩ := wayAt_ok (a := a) (b := b) (i := E a b a b - 1) (by omega)
  have l := rank_lt (lo_way ha hb)
  have e : rank a b (loW a b) = E a b a b - 1 := by
    rcases Nat.lt_or_ge (rank a b (loW a b)) (E a b a b - 1) with z | z
    · exact absurd (rank_mono (lo_way ha hb) h1 (by omega)) (not_lo_lt ha hb h1)
    · omega
  rw [← e, wayAt_rank (lo_way ha hb)]
end Mw

/-! Mt: the table of the program, row by row. -/
namespace Mw
def tb (a b u l : Nat) : Nat := if u ≤ a then (if l ≤ b ∧ l * a ≤ u * b then E a b (a - u) (b - l) else 0) else if u = a + 1 ∧ l = b then 1 else 0
theorem tb_step {a b u l : Nat} (hu : u ≤ a) (hl : l ≤ b) (h : l * a ≤ u * b) : tb a b u l = tb a b (u + 1) l + tb a b u (l + 1) := by
  have e0 : tb a b u l = E a b (a - u) (b - l) := by unfold tb; rw [if_pos hu, if_pos ⟨hl, h⟩]
  rw [e0]
  by_cases hua : u = a
  · subst hua
    rw [Nat.sub_self, E_00 (by omega)]
    unfold tb
    rw [if_neg (by omega), if_pos (Nat.le_refl u)]
    by_cases hlb : l = b
    · subst hlb
      rw [if_pos ⟨rfl, rfl⟩, if_neg (by omega)]
    · rw [if_neg (by omega), if_pos ⟨by omega, by rw [Nat.mul_comm]; exact Nat.mul_le_mul_left u (by omega)⟩, Nat.sub_self, E_00 (by omega)]
  · have e1 : tb a b (u + 1) l = E a b (a - (u + 1)) (b - l) := by
      unfold tb
      rw [if_pos (by omega), if_pos ⟨hl, Nat.le_trans h (Nat.mul_le_mul_right b (by omega))⟩]
    rw [e1]
    obtain ⟨k, hk⟩ : ∃ k, a - u = k + 1 := ⟨a - u - 1, by omega⟩
    rw [hk, show a - (u + 1) = k by omega]
    by_cases hlb : l = b
    · subst hlb
      have e2 : tb a l u (l + 1) = 0 := by unfold tb; rw [if_pos hu, if_neg (by omega)]
      rw [e2, Nat.sub_self, E_s0]; rfl
    · obtain ⟨m, hm⟩ : ∃ m, b - l = m + 1 := ⟨b - l - 1, by omega⟩
      rw [hm, E_ss (by omega)]
      have e2 : tb a b u (l + 1) = if b * (k + 1) ≤ a * m then E a b (k + 1) m else 0 := by
        unfold tb
        rw [if_pos hu, hk, show b - (l + 1) = m by omega]
        have f1 : b * (k + 1) + u * b = a * b := by rw [← hk, Nat.mul_comm u b, ← Nat.mul_add, Nat.sub_add_cancel hu, Nat.mul_comm]
        have f2 : a * m + (l + 1) * a = a * b := by rw [Nat.mul_comm (l + 1) a, ← Nat.mul_add]; congr 1; omega
        by_cases hc : b * (k + 1) ≤ a * m
        · rw [if_pos hc, if_pos ⟨by omega, by omega⟩]
        · rw [if_neg hc, if_neg (by omega)]
      rw [e2]; omega
/-- what stands when row U is told from L on -/
def stg (a b U L u l : Nat) : Nat := if U < u ∨ (u = U ∧ L ≤ l) then tb a b u l else 0
theorem tb_out {a b u l : Nat} (h : b < l) : tb a b u l = 0 := by
  unfold tb
  split
  · rw [if_neg (by omega)]
  · rw [if_neg (by omega)]
theorem tb_no {a b u l : Nat} (hu : u ≤ a) (h : ¬ l * a ≤ u * b) : tb a b u l = 0 := by
  unfold tb
  rw [if_pos hu, if_neg (by omega)]
theorem stg_start {a b u l : Nat} (hu : u < a + 2) (hl : l < b + 2) : stg a b a (b + 1) u l = if u = a + 1 ∧ l = b then 1 else 0 := by
  unfold stg
  by_cases h : u = a + 1
  · subst h
    rw [if_pos (by omega)]
    unfold tb
    rw [if_neg (by omega)]
  · by_cases h2 : u = a ∧ b + 1 ≤ l
    · rw [if_pos (.inr h2), tb_out (by omega), if_neg (by omega)]
    · rw [if_neg (by omega), if_neg (by omega)]
theorem stg_next {a b U u l : Nat} (hl : l < b + 2) : stg a b (U + 1) 0 u l = stg a b U (b + 1) u l := by
  unfold stg
  by_cases h : U + 1 < u ∨ (u = U + 1 ∧ 0 ≤ l)
  · rw [if_pos h, if_pos (by omega)]
  · rw [if_neg h]
    by_cases h2 : u = U ∧ b + 1 ≤ l
    · rw [if_pos (.inr h2), tb_out (by omega)]
    · rw [if_neg (by omega)]
theorem stg_set {a b U L u l : Nat} : stg a b U L u l = if u = U ∧ l = L then tb a b U L else stg a b U (L + 1) u l := by
  unfold stg
  by_cases h : u = U ∧ l = L
  · obtain ⟨rfl, rfl⟩ := h
    rw [if_pos (.inr ⟨rfl, Nat.le_refl _⟩), if_pos ⟨rfl, rfl⟩]
  · rw [if_neg h]
    by_cases h2 : U < u ∨ (u = U ∧ L ≤ l)
    · rw [if_pos h2, if_pos (by omega)]
    · rw [if_neg h2, if_neg (by omega)]
theorem stg_end {a b u l : Nat} : stg a b 0 0 u l = tb a b u l := by
  unfold stg
  rw [if_pos (by omega)]
end Mw

/-! Tr: a try with several clauses, some of them with a name. -/
namespace Tr
open PySem PySem.Spec PyProof.Rows L2 Sx
abbrev Clause := Value × Option Nat × (Addr → Value → Option Addr → TS)
/-- behind a suite with a name: its slot is empty again -/
def out (i : Nat) (D : Ends) : Ends := ⟨fun σ H => D.nx (σ.set i none) H, D.rt, fun σ H => D.bk (σ.set i none) H, fun σ H => D.ct (σ.set i none) H⟩
def wAll (K : PySem.W.Frag) (Wout : WX) (D : Ends) : List Clause → WX
  | [] => Wout
  | (c, none, ts) :: r => fun cls d σ H => ∃ k, PySem.W.exmOne K cls c = some k ∧ (k = true → ∀ a, H a = none → ts a cls d D σ H) ∧ (k = false → wAll K Wout D r cls d σ H)
  | (c, some i, ts) :: r => fun cls d σ H => ∃ k, PySem.W.exmOne K cls c = some k ∧ (k = true → ∀ a, H a = none → i < σ.length → ts a cls d (out i D) (σ.set i (some (.ref a))) H) ∧ (k = false → wAll K Wout D r cls d σ H)
inductive Clauses (X : Cx) : List ExceptHandler → List Clause → Prop
  | nil : Clauses X [] []
  | plain {x : Str} {c : Value} {ts : Addr → Value → Option Addr → TS} {st : Stmt} {sts : List Stmt} {p1 p2 : Pos} {hs : List ExceptHandler} {l : List Clause} (n : Names X x c)
      (run : ∀ (a : Addr) (ob : Obj) (cls : Value) (d : Option Addr) (pn : List (Addr × Obj)), Zc cls d ob → (∃ vs, ob.data = .fields vs) → PSs (X.suite a ((a, ob) :: pn)) (st :: sts) (ts a cls d)) (rest : Clauses X hs l) :
      Clauses X (.ExceptHandler (some (.Name x p1)) none (st :: sts) p2 :: hs) ((c, none, ts) :: l)
  | named {x y : Str} {c : Value} {i : Nat} {ts : Addr → Value → Option Addr → TS} {st : Stmt} {sts : List Stmt} {p1 p2 : Pos} {hs : List ExceptHandler} {l : List Clause} (n : Names X x c) (at' : X.N[i]? = some y) (lo : X.env.kindOf y = some .local)
      (run : ∀ (a : Addr) (ob : Obj) (cls : Value) (d : Option Addr) (pn : List (Addr × Obj)), Zc cls d ob → (∃ vs, ob.data = .fields vs) → PSs (X.suite a ((a, ob) :: pn)) (st :: sts) (ts a cls d)) (rest : Clauses X hs l) :
      Clauses X (.ExceptHandler (some (.Name x p1)) (some y) (st :: sts) p2 :: hs) ((c, some i, ts) :: l)
section
variable {X : Cx} {body : List Stmt} {h1 : ExceptHandler} {hs : List ExceptHandler} {l : List Clause} {pos : Pos} {tb : WX → TS} {Wout : WX}
theorem ps_try_all (stk : X.stack = X.env :: X.outer) (frm : X.env.frame = some X.env.locals) (uniq : X.N.Nodup) (tk : Takes X Wout)
    (hb : ∀ (W : WX) (pn : List (Addr × Obj)) (xe : Value → Shared → Prop), Takes (X.tr pn xe) W → PassesOwn (model X.prog X.w) X.A X.env xe → PSs (X.tr pn xe) body (tb W))
    (cl : Clauses X (h1 :: hs) l) : PS X (.Try body (h1 :: hs) [] [] pos) (fun D σ H => tb (wAll X.K Wout D l) D σ H) := by
  constructor
  intro pins s σ H D I now
  have good := I.ok
  have frames : X.A.frames = some (X.env :: X.outer) := by rw [good.frames, stk]
  apply wpAny_Try_except
  have landing : ∀ u s', XE X (wAll X.K Wout D l) u s' → True := fun _ _ _ => trivial
  refine wpAny_mono ((hb (wAll X.K Wout D l) (X.pn ++ pins) _ ?caught PassesOwn.looking).run [] s σ H D (I.toTry _) now) ?ended (fun _ _ z => z)
  case ended =>
    intro f s1 got
    cases f with
    | next => obtain ⟨σ1, H1, J, q⟩ := got; exact wpAny_execs_nil ⟨σ1, H1, J.ofTry good, q⟩
    | brk => obtain ⟨σ1, H1, J, q⟩ := got; exact ⟨σ1, H1, J.ofTry good, q⟩
    | cont => obtain ⟨σ1, H1, J, q⟩ := got; exact ⟨σ1, H1, J.ofTry good, q⟩
    | ret u => obtain ⟨v, σ1, H1, J, r, q⟩ := got; exact ⟨v, σ1, H1, J.ofTry good, r, q⟩
  case caught =>
    rintro u s1 ⟨a, B, s0, pins1, σ1, H1, cls, d, rfl, J0, keep0, same0, air, na, os, gens, wish⟩
    have J : Inv X pins σ1 H1 s0 := J0.ofTry good
    have air1 : Sky B (X.env :: X.outer) a (Zc cls d) X.env.locals s1.heap := stk ▸ air
    show wpAny (model X.prog X.w) X.A (noteFrame (.ref a) X.env) _ _ _
    refine Sky.land Zc.steady frames frm air1 ?_
    intro g2 down2 same2
    have J2 : Inv X pins σ1 H1 { s1 with heap := g2 } := J.landed keep0 down2.1 (same0.trans same2) os gens
    obtain ⟨ob2, vs2, at2, z2, data2⟩ := down2.there
    have noframe : a ∉ frs (X.env :: X.outer) := by
      intro m
      obtain ⟨_, ob3, at3, nf⟩ := down2.2.2.1.mem m
      rw [at2] at at3; cases at3
      exact nf _ data2
    have nL : a ≠ X.env.locals := by
      intro e
      exact noframe (List.mem_filterMap.mpr ⟨X.env, List.mem_cons_self, by rw [frm, e]⟩)
    have nF : a ∉ X.fs := by
      intro m
      obtain ⟨v, hv, q⟩ := List.mem_filterMap.mp m
      exact noframe (List.mem_filterMap.mpr ⟨v, List.mem_cons_of_mem _ hv, q⟩)
    have S2 := J2.suite at2 data2 na nL nF
    have look2 : PySem.W.Looks (model X.prog X.w) g2 (typeOf (.ref a)) cls := fun A Q E s k q => wpAny_typeOf_ref (k _ _ at2) (by rw [z2.1]; exact q)
    have each : ∀ {hs' : List ExceptHandler} {l' : List Clause}, Clauses X hs' l' → wAll X.K Wout D l' cls d σ1 H1 → wpAny (model X.prog X.w) X.A (handleBy (.ref a) X.env hs') (SP X pins D) X.xe { s1 with heap := g2 } := by
      intro hs' l' ok
      induction ok with
      | nil =>
        intro w
        apply wpAny_handleBy_nil
        obtain ⟨k1, k2, k3, ob, vs, T, oT, ts', e1, e2, e3, e4, e5⟩ := id down2
        unfold PySem.passOn
        refine wpAny_bind (wpAny_field e1 e3 e4 ?_)
        rw [if_neg (show ¬ ((Value.ref T == Value.none) = true) by simp)]
        have last : wpAny (model X.prog X.w) X.A (setFlight (.ref a) X.env.frame) (fun _ s4 => wpAny (model X.prog X.w) X.A (throw (.ref a) : Sem Flow) (SP X pins D) X.xe s4) X.xe { s1 with heap := g2 } := by
          rw [frm]
          refine HandSPX.setFlight_upZ down2 ?_
          intro g4 held4 same4
          refine wpAny_throw (tk _ _ ⟨a, B, s0, pins, σ1, H1, cls, d, rfl, J, keep0, (same0.trans same2).trans same4, .inr (.inr ?_), na, os, gens, w⟩)
          rw [stk]; exact held4
        first
          | exact wpAny_bind (wpAny_pure (wpAny_bind last))
          | exact wpAny_bind last
      | @plain x c ts st sts p1 p2 hs2 l2 n run rest ih =>
        rintro ⟨k, hk, yes, no⟩
        refine wpAny_handleBy_cons (codeAny_handlers_test ?_) nofun
        have asked := PySem.W.exm_one (M := model X.prog X.w) J2.kIn look2 hk
        have name : ∀ {Q E : Value → Shared → Prop}, Q c { s1 with heap := g2 } → wpAny (model X.prog X.w) (X.A.mark (some (.ref a))) (eval (.Name x p1) X.env) Q E { s1 with heap := g2 } := by
          intro Q E q
          obtain ⟨gl, nd, m | ⟨m, b, nn⟩⟩ := n
          · exact ld_glob (X := X.suite a ((a, ob2) :: (X.pn ++ pins))) S2 gl m q nd
          · exact ld_blt (X := X.suite a ((a, ob2) :: (X.pn ++ pins))) S2 gl m b q nn nd
        refine name (asked.here ?_)
        cases k with
        | false =>
          show wpAny _ X.A (handleBy (.ref a) X.env hs2) _ _ _
          exact ih (no rfl)
        | true =>
          apply codeAny_handlers_suite
          refine HandSPX.lands_againZ down2 ?_
          intro g4 down4 same4
          have J4 : Inv X pins σ1 H1 { s1 with heap := g4 } := J.landed keep0 down4.1 ((same0.trans same2).trans same4) os gens
          obtain ⟨ob4, vs4, at4, z4, data4⟩ := down4.there
          have S4 := J4.suite at4 data4 na nL nF
          refine wpAny_mono ((run a ob4 cls d (X.pn ++ pins) z4 ⟨_, data4⟩).run [] _ _ H1 _ S4 (yes rfl a na)) ?_ (fun _ _ z => z.elim)
          intro f s6 got
          cases f with
          | next => obtain ⟨σ6, H6, S6, q6⟩ := got; exact ⟨_, _, S6.unsuite good, q6⟩
          | brk => obtain ⟨σ6, H6, S6, q6⟩ := got; exact ⟨_, _, S6.unsuite good, q6⟩
          | cont => obtain ⟨σ6, H6, S6, q6⟩ := got; exact ⟨_, _, S6.unsuite good, q6⟩
          | ret u => obtain ⟨v6, σ6, H6, S6, r6, q6⟩ := got; exact ⟨_, _, _, S6.unsuite good, r6, q6⟩
      | @named x y c i ts st sts p1 p2 hs2 l2 n at' lo run rest ih =>
        rintro ⟨k, hk, yes, no⟩
        refine wpAny_handleBy_cons (codeAny_handlers_test ?_) nofun
        have asked := PySem.W.exm_one (M := model X.prog X.w) J2.kIn look2 hk
        have name : ∀ {Q E : Value → Shared → Prop}, Q c { s1 with heap := g2 } → wpAny (model X.prog X.w) (X.A.mark (some (.ref a))) (eval (.Name x p1) X.env) Q E { s1 with heap := g2 } := by
          intro Q E q
          obtain ⟨gl, nd, m | ⟨m, b, nn⟩⟩ := n
          · exact ld_glob (X := X.suite a ((a, ob2) :: (X.pn ++ pins))) S2 gl m q nd
          · exact ld_blt (X := X.suite a ((a, ob2) :: (X.pn ++ pins))) S2 gl m b q nn nd
        refine name (asked.here ?_)
        cases k with
        | false =>
          show wpAny _ X.A (handleBy (.ref a) X.env hs2) _ _ _
          exact ih (no rfl)
        | true =>
          apply codeAny_handlers_suite_as
          refine HandSPX.lands_againZ down2 ?_
          intro g4 down4 same4
          have J4 : Inv X pins σ1 H1 { s1 with heap := g4 } := J.landed keep0 down4.1 ((same0.trans same2).trans same4) os gens
          obtain ⟨ob4, vs4, at4, z4, data4⟩ := down4.there
          have S4 := J4.suite at4 data4 na nL nF
          refine store_ok (X := X.suite a ((a, ob4) :: (X.pn ++ pins))) (v := .ref a) S4 uniq at' (.inl lo) rfl ?_ (.inr lo)
          intro s5 S5
          have slot : i < σ1.length := by rw [J.len]; exact (List.getElem?_eq_some_iff.mp at').1
          refine wpAny_mono ((run a ob4 cls d (X.pn ++ pins) z4 ⟨_, data4⟩).run [] s5 _ H1 _ S5 (yes rfl a na slot)) ?_ (fun _ _ z => z.elim)
          intro f s6 got
          have gone : ∀ {σ6 : L2.St} {H6 : Hp} {Q : Shared → Prop}, Inv (X.suite a ((a, ob4) :: (X.pn ++ pins))) [] σ6 H6 s6 → (∀ s7, Inv X pins (σ6.set i none) H6 s7 → Q s7) →
              wpAny (model X.prog X.w) X.A (do bindName X.env y .none; unbindBehindTheSuite X.env y p2) (fun _ s7 => Q s7) X.xe s6 := by
            intro σ6 H6 Q S6 hq
            exact gone_ok (S6.unsuite good) uniq at' lo hq
          cases f with
          | next => obtain ⟨σ6, H6, S6, q6⟩ := got; exact gone S6 fun s7 J7 => ⟨_, _, J7, q6⟩
          | brk => obtain ⟨σ6, H6, S6, q6⟩ := got; exact gone S6 fun s7 J7 => ⟨_, _, J7, q6⟩
          | cont => obtain ⟨σ6, H6, S6, q6⟩ := got; exact gone S6 fun s7 J7 => ⟨_, _, J7, q6⟩
          | ret u => obtain ⟨v6, σ6, H6, S6, r6, q6⟩ := got; exact gone S6 fun s7 J7 => ⟨_, _, _, J7, r6, q6⟩
    exact each cl wish
end
end Tr

/-! Er: error classes over any built-in one, whose own __init__ keeps one value. -/
namespace Er
open PySem PySem.Spec PyProof.Rows L2 Sx PySem.Builtin.ObjectAttr
/-- the class at C, its __init__ a def at fI, the mro of its built-in base bmB, made by nw -/
structure Own (K : PySem.W.Frag) (C fI : Addr) (bmB : List Value) (nw : String) : Prop where
  made : PySem.W.excInitIn K C bmB nw = true
  over : PySem.W.excOver K C bmB = true
  dict : PySem.W.hasDictIn K C = true
  sets : PySem.W.findIn K (.ref C) "__setattr__" = some (some (.builtin "object.__setattr__"))
  init : PySem.W.findIn K (.ref C) "__init__" = some (some (.ref fI))
  fn : PySem.W.isFn K (.ref fI) = true
  kept : PySem.W.keepIn K (.ref C) = true
  exc : PySem.W.subIn K (.ref C) (.type "BaseException") = some true
  ty : PySem.W.typeIn K (.ref C) = some (.type "type")
  gets : PySem.W.findIn K (.ref C) "__getattribute__" = some (some (.builtin "BaseException.__getattribute__"))
  none' : PySem.W.findIn K (.ref C) "__getattr__" = some none
theorem Own.raises {X : Cx} {C fI : Addr} {bm : List Value} {nw : String} (T : Own X.K C fI bm nw) : Raises X (.ref C) := raises_own T.exc T.ty
theorem Own.field {K : PySem.W.Frag} {C fI : Addr} {bm : List Value} {nw : String} (T : Own K C fI bm nw) : XfC K C := ⟨T.gets, T.none', T.exc, T.dict⟩
section
variable {X : Cx} {pins : List (Addr × Obj)} {σ : L2.St} {H : Hp} {s : Shared} {C fI : Addr} {bm : List Value} {nw B : String}
/-- the first field of a fresh error -/
theorem first_field {a : Addr} {f : Str} {y : V} {u : Value} {Q : Unit → Shared → Prop} {E : Value → Shared → Prop} {A : Around} (T : Own X.K C fI bm nw) (SF : StoreFacts B bm "object.__setattr__" "object")
    (no : PySem.W.findIn X.K (.ref C) f = some none) (I : Inv X pins σ H s) (ha : H a = some (exo a C none)) (r : RelV y u)
    (go : ∀ dx s', H dx = none → dx ≠ a → Inv X pins σ (upd (upd H dx (exd dx [(f, y)])) a (exo a C (some dx))) s' → Q () s') : wpAny (model X.prog X.w) A (setAttr (.ref a) f u) Q E s := by
  obtain ⟨t1, at0⟩ := exo_at I.hok ha
  obtain ⟨cd, hcd, hdict⟩ : ∃ cd, PySem.W.clsIn X.K C = some cd ∧ cd.hasDict = true := PySem.W.any_some T.dict
  obtain ⟨hp, gs, dr, tk, os⟩ := s
  have inst : PySem.W.InstAt hp a { cls := .ref C, dict := none, data := .fields #[.ref t1, .none, .none, .none, .bool false, .none] } C none := ⟨at0, rfl, rfl, trivial⟩
  refine PySem.W.set_plain I.kIn inst T.sets ?_
  have taker : PySem.W.takerIn X.K C f = some none := by unfold PySem.W.takerIn; rw [no]; rfl
  refine PySem.W.osa_openX SF I.kIn inst T.over taker fun bb => ?_
  have know : PySem.W.Looks (model X.prog X.w) hp (classData C) cd := PySem.W.looks_clsIn I.kIn hcd
  have apart : hp.objs.size ≠ a := fun z => Nat.lt_irrefl _ (by have q := Heap.lt_size at0; rw [← z] at q; exact q)
  show wpAny _ _ (storeInOwnDict (.ref a) (.ref C) (.str f tk) f u bb) _ _ _
  obtain ⟨nm, bs, mro, ns, qn, hd, sn, sb, ab, col, dl⟩ := cd
  dsimp only at hdict
  subst hdict
  unfold storeInOwnDict ownDictForStores
  repeat (first | with_reducible refine HandSPX.store_in_new ?_ ?_ | with_reducible refine wpAny_loadPart_at at0 ?_ | with_reducible refine know.at ?_ | wp_step)
  · refine ⟨_, #[], _, (Heap.get?_update_ne _ _ _ _ apart).trans (Heap.get?_push_at rfl rfl), rfl, ?_, fun _ => rfl⟩
    intro z hz
    exact absurd hz (by simp)
  · intro h3 t3 named same
    have at1 : (hp.push { cls := .type "dict", data := .dict #[] }).get? a = some _ := Heap.get?_push_of_some _ at0
    have old : ∀ b o, b ≠ a → hp.get? b = some o → h3.get? b = some o := fun b o hb e => (same.2 b (Nat.ne_of_lt (Heap.lt_size e))).trans ((Heap.get?_update_ne _ _ _ _ hb).trans (Heap.get?_push_of_some _ e))
    have at3 : h3.get? a = some { cls := .ref C, dict := some hp.objs.size, data := .fields #[.ref t1, .none, .none, .none, .bool false, .none] } := (same.2 a (Ne.symm apart)).trans (Heap.get?_update_self _ at1 rfl)
    have newD : H hp.objs.size = none := I.hok.fresh (Nat.le_refl _)
    -- in two steps: the dict beside the error as it was, then the error
    have back : (h3.update a fun _ => { cls := .ref C, dict := none, data := .fields #[.ref t1, .none, .none, .none, .bool false, .none] }).get? a = some { cls := .ref C, dict := none, data := .fields #[.ref t1, .none, .none, .none, .bool false, .none] } := Heap.get?_update_self _ at3 rfl
    have beside : ∀ b, b ≠ a → (h3.update a fun _ => { cls := .ref C, dict := none, data := .fields #[.ref t1, .none, .none, .none, .bool false, .none] }).get? b = h3.get? b := fun b hb => Heap.get?_update_ne _ _ _ _ hb
    have I1 : Inv X pins σ (upd H hp.objs.size (exd hp.objs.size [(f, y)])) ⟨h3.update a fun _ => { cls := .ref C, dict := none, data := .fields #[.ref t1, .none, .none, .none, .bool false, .none] }, gs, dr, t3, os⟩ := by
      refine I.laid (t' := t3) (fun b o e => ?_) (Nat.le_refl _) (exd_ok (named.at fun o q => (beside _ apart).trans q) (relO_put (fs := []) r fun g => True.intro))
      by_cases hb : b = a
      · subst hb; rw [at0] at e; cases e; exact back
      · rw [beside b hb]; exact old b o hb e
    have ha1 : upd H hp.objs.size (exd hp.objs.size [(f, y)]) a = some (exo a C none) := by rw [upd_ne (Ne.symm apart)]; exact ha
    have I2 := I1.write (t' := t3) (h' := h3) (x := a) (e := a) (o := exo a C (some hp.objs.size)) (by rw [ha1]; exact True.intro) (.inl rfl) (fun b o hb e => by rw [beside b hb] at e; exact e) ⟨_, at3⟩ (exo_ok at3)
    exact go _ _ newD apart I2
/-- self.f = e in such an __init__ -/
def tSelf (C : Addr) (f : Str) (to te : TE) : TS := fun D σ H => te σ H fun y H1 => to σ H1 fun x H2 => ∃ a : Addr, x = .ref a ∧ H2 a = some (exo a C none) ∧
  ∀ dx, H2 dx = none → dx ≠ a → D.nx σ (upd (upd H2 dx (exd dx [(f, y)])) a (exo a C (some dx)))
theorem ps_self {o e : Expr} {f : Str} {p1 pos : Pos} {to te : TE} (T : Own X.K C fI bm nw) (SF : StoreFacts B bm "object.__setattr__" "object") (no : PySem.W.findIn X.K (.ref C) f = some none) (ho : PE X o to) (he : PE X e te)
    (sw : swapsWith e (some (.Attribute o f p1)) pos.line X.env = pure false := by rfl) : PS X (.Assign [.Attribute o f p1] e pos) (tSelf C f to te) := by
  constructor
  intro pn s σ H D I now
  refine plainObj_wpAny_Assign_Attribute (thn (he.run pn s σ H _ I now) ?_) sw
  rintro v s1 ⟨y, H1, I1, r1, now1⟩
  refine thn (ho.run pn s1 σ H1 _ I1 now1) ?_
  rintro z s2 ⟨x, H2, I2, r2, a, rfl, ha, go⟩
  obtain rfl : z = Value.ref a := r2
  exact first_field T SF no I2 ha r1 fun dx s' n ne J => ⟨σ, _, J, go dx n ne⟩
end
/-- what __init__ promises -/
def spInit (C : Addr) (f : Str) : Sp := fun vs H Q _ => ∃ (a : Addr) (v : V), vs = [.ref a, v] ∧ H a = some (exo a C none) ∧ ∀ dx, H dx = none → dx ≠ a → Q .non (upd (upd H dx (exd dx [(f, v)])) a (exo a C (some dx)))
theorem r_self {C a : Addr} {f : Str} {to te : TE} {nx bk ct : L2.St → Hp → Prop} {rt : VK} {σ : L2.St} {H : Hp}
    (h : te σ H fun y H1 => to σ H1 fun x H2 => ∃ a : Addr, x = .ref a ∧ H2 a = some (exo a C none) ∧ ∀ dx, H2 dx = none → dx ≠ a → nx σ (upd (upd H2 dx (exd dx [(f, y)])) a (exo a C (some dx)))) : tSelf C f to te ⟨nx, rt, bk, ct⟩ σ H := h
/-- C(e) -/
def tErr (C : Addr) (f : Str) (ta : TA) : L2.St → Hp → XK → Prop := fun σ H Q => ta σ H fun vs H1 => ∃ v, vs = [v] ∧ ∀ d, H1 d = none → Q (.ref C) (some d) (upd H1 d (.xd [(f, v)]))
theorem pmk_err {X : Cx} {x f : Str} {C fI : Addr} {bm : List Value} {nw B ini : String} {k : Nat} {fd : FuncData} {ps : List Str} {e : Expr} {ta : TA} {p pos : Pos} (T : Own X.K C fI bm nw) (F : ExcBaseFacts B nw ini bm)
    (F1 : FnOk X.prog X.w X.K X.mg X.base C8.CX0 k fI fd ps (spInit C f)) (hr : Room (k + 1) X.A) (hb : Binds X.K fd ps []) (hg : Gl X x) (hm : X.mg x = some (.ref C)) (ha : PA X [e] ta)
    (nd : (x == ("__debug__" : Str)) = false := by decide) (he : starEach (e :: []) X.env = (false, eval e X.env) :: starEach [] X.env := by rfl) (hpl : (backTo pos (starEach [] X.env)).any (·.1) = false := by rfl) :
    PMk X (.Call (.Name x p) [e] [] pos) (tErr C f ta) := by
  intro pins s σ H Q I now
  refine wpAny_Call_Name_kw (ld_glob I hg hm ?_ nd)
  refine PySem.W.callWith_K (h₀ := X.base) I.ok.mod.kin T.kept (thn (ha.run pos pins s σ H _ I now) ?_) he hpl
  rintro us s1 ⟨vs, H1, I1, r1, v, rfl, go⟩
  refine ⟨I1.kIn, ?_⟩
  show wpAny _ _ (call (.ref C) us) _ _ _
  obtain ⟨nm, N', qn, bs, bm', hdct, sn, sub, ab, col, dd, k0, k1, k2, k3, k5, hC, tail⟩ := PySem.W.excInit_of I1.kIn T.made
  obtain ⟨hp, g, dr, tk, os⟩ := s1
  cases r1 with
  | @cons _ v' _ us' rv rest =>
    cases rest
    have grow : hp.objs.size ≤ hp.objs.size + 1 := Nat.le_succ _
    have fresh : H1 (hp.objs.size + 1) = none := I1.hok.fresh grow
    have kept : ∀ b o, hp.get? b = some o → ((hp.push (PySem.W.kdv_tup [v'])).push (PySem.HandSPX.excO C hp.objs.size)).get? b = some o := fun b o z => Heap.get?_push_of_some _ (Heap.get?_push_of_some _ z)
    have there : ((hp.push (PySem.W.kdv_tup [v'])).push (PySem.HandSPX.excO C hp.objs.size)).get? (hp.objs.size + 1) = some (PySem.HandSPX.excO C hp.objs.size) := by heap_get
    have I2 : Inv X pins σ (upd H1 (hp.objs.size + 1) (exo (hp.objs.size + 1) C none)) ⟨(hp.push (PySem.W.kdv_tup [v'])).push (PySem.HandSPX.excO C hp.objs.size), g, dr, tk, os⟩ := I1.laid (t' := tk) kept grow (exo_ok there)
    have wish : spInit C f [.ref (hp.objs.size + 1), v] (upd H1 (hp.objs.size + 1) (exo (hp.objs.size + 1) C none))
        (fun w H2 => w = .non ∧ ∃ d : Addr, H2 (hp.objs.size + 1) = some (exo (hp.objs.size + 1) C (some d)) ∧ H2 d = some (exd d [(f, v)]) ∧ H1 d = none ∧ Q (.ref C) (some d) (upd (del H2 (hp.objs.size + 1)) d (.xd [(f, v)]))) (fun _ _ _ => False) := by
      refine ⟨_, v, rfl, upd_same, fun dx n ne => ⟨rfl, dx, upd_same, by rw [upd_ne ne, upd_same], by rw [upd_ne ne] at n; exact n, ?_⟩⟩
      have n1 : H1 dx = none := by rw [upd_ne ne] at n; exact n
      have same : upd (del (upd (upd (upd H1 (hp.objs.size + 1) (exo (hp.objs.size + 1) C none)) dx (exd dx [(f, v)])) (hp.objs.size + 1) (exo (hp.objs.size + 1) C (some dx))) (hp.objs.size + 1)) dx (.xd [(f, v)]) = upd H1 dx (.xd [(f, v)]) := by
        funext b
        by_cases h1 : b = dx
        · subst h1; rw [upd_same, upd_same]
        · rw [upd_ne h1, upd_ne h1]
          by_cases h2 : b = hp.objs.size + 1
          · subst h2; rw [del_same, fresh]
          · rw [del_ne h2, upd_ne h2, upd_ne h1, upd_ne h2]
      rw [same]
      exact go dx n1
    have args : Vals [V.ref (hp.objs.size + 1), v] [Value.ref (hp.objs.size + 1), v'] := .cons rfl (.cons rv .nil)
    have len : ([Value.ref (hp.objs.size + 1), v'] : List Value).length = ps.length := by have z := F1.len _ _ _ _ wish; exact z ▸ rfl
    have isf : PySem.W.typeIn X.K (.ref fI) = some (.type "function") := by
      have z := T.fn
      unfold PySem.W.isFn at z
      exact beq_iff_eq.mp z
    refine wpAny_call (PySem.HandSPX.call_own F tail hC (PySem.W.looks_findIn I1.kIn T.init) (fun self => PySem.W.bind_fn I1.kIn self isf) (by rw [sizeLine_eq]; exact (by decide : (1 : Nat) ≤ 16777216)) ?_)
    refine codeAny_mono (F1.run _ X.stack _ _ ⟨[Value.ref (hp.objs.size + 1), v'], []⟩ [Value.ref (hp.objs.size + 1), v'] _ _ (fun _ _ _ => False) (hr.make C _ []) (I2.env0.make C _ []) ?_ args wish) ?_
    · have z := hb ⟨(hp.push (PySem.W.kdv_tup [v'])).push (PySem.HandSPX.excO C hp.objs.size), g, dr, tk, os⟩ [Value.ref (hp.objs.size + 1), v'] I2.kIn
      rw [List.append_nil] at z
      exact z len
    · intro res s' got
      cases res with
      | error er => exact (show False from got).elim
      | ok fl =>
        cases fl with
        | next => exact False.elim got
        | brk => exact False.elim got
        | cont => exact False.elim got
        | ret u =>
          obtain ⟨w', H2, os2, bare2, un2, hok2, rw', ew, d, ea, ed, hd1, q2⟩ := got
          subst ew
          obtain ⟨h2, g2, d2, t2, os'⟩ := s'
          exact ⟨rw', mk_end T.raises I1 grow kept un2 hok2 os2 bare2 ea ed hd1 q2⟩
theorem ps_err {X : Cx} {W : WX} {x f : Str} {C fI : Addr} {bm : List Value} {nw B ini : String} {k : Nat} {fd : FuncData} {ps : List Str} {e : Expr} {ta : TA} {p pos pos2 : Pos} (hc : X.calm = true) (tk : Takes X W) (T : Own X.K C fI bm nw) (F : ExcBaseFacts B nw ini bm)
    (F1 : FnOk X.prog X.w X.K X.mg X.base C8.CX0 k fI fd ps (spInit C f)) (hr : Room (k + 1) X.A) (hb : Binds X.K fd ps []) (hg : Gl X x) (hm : X.mg x = some (.ref C)) (ha : PA X [e] ta)
    (nd : (x == ("__debug__" : Str)) = false := by decide) (he : starEach (e :: []) X.env = (false, eval e X.env) :: starEach [] X.env := by rfl) (hpl : (backTo pos (starEach [] X.env)).any (·.1) = false := by rfl) :
    PS X (.Raise (some (.Call (.Name x p) [e] [] pos)) none pos2) (fun _ σ H => tErr C f ta σ H fun cls d H' => W cls d σ H') :=
  ps_raise hc tk (pmk_err T F F1 hr hb hg hm ha nd he hpl)
/-- raise C(e), raise C('m'): what comes out -/
def tRaise (C : Addr) (f : Str) (E : XK) (ta : TA) : TS := fun _ σ H => tErr C f ta σ H fun cls d H' => E cls d H'
def tRaise0 (C : Addr) (E : XK) : TS := fun _ _ H => E (.ref C) none H
theorem ps_raise1 {X : Cx} {E : XK} {x f : Str} {C fI : Addr} {bm : List Value} {nw B ini : String} {k : Nat} {fd : FuncData} {ps : List Str} {e : Expr} {ta : TA} {p pos pos2 : Pos} (hc : X.calm = true) (tk : Takes X (fun cls d _ H => E cls d H)) (T : Own X.K C fI bm nw) (F : ExcBaseFacts B nw ini bm)
    (F1 : FnOk X.prog X.w X.K X.mg X.base C8.CX0 k fI fd ps (spInit C f)) (hr : Room (k + 1) X.A) (hb : Binds X.K fd ps []) (hg : Gl X x) (hm : X.mg x = some (.ref C)) (ha : PA X [e] ta)
    (nd : (x == ("__debug__" : Str)) = false := by decide) (he : starEach (e :: []) X.env = (false, eval e X.env) :: starEach [] X.env := by rfl) (hpl : (backTo pos (starEach [] X.env)).any (·.1) = false := by rfl) :
    PS X (.Raise (some (.Call (.Name x p) [e] [] pos)) none pos2) (tRaise C f E ta) := ps_err hc tk T F F1 hr hb hg hm ha nd he hpl
theorem ps_raise0 {X : Cx} {E : XK} {x m : Str} {C : Addr} {bm : List Value} {nw B ini : String} {j : Nat} {p p2 pos pos2 : Pos} (hc : X.calm = true) (tk : Takes X (fun cls d _ H => E cls d H)) (F : ExcBaseFacts B nw ini bm)
    (q : PySem.W.excIn X.K C bm nw = true) (hm : X.mg x = some (.ref C)) (kp : PySem.W.keepIn X.K (.ref C) = true) (ex : PySem.W.subIn X.K (.ref C) (.type "BaseException") = some true) (ty : PySem.W.typeIn X.K (.ref C) = some (.type "type")) (hg : Gl X x)
    (nd : (x == ("__debug__" : Str)) = false := by decide) : PS X (.Raise (some (.Call (.Name x p) [.Constant (.str m) j p2] [] pos)) none pos2) (tRaise0 C E) := ps_raise hc tk (pmk_own F q hm kp (raises_own ex ty) hg nd)
theorem r_raise {C : Addr} {f : Str} {E : XK} {ta : TA} {D : Ends} {σ : L2.St} {H : Hp} (h : ta σ H fun vs H1 => ∃ v, vs = [v] ∧ ∀ d, H1 d = none → E (.ref C) (some d) (upd H1 d (.xd [(f, v)]))) : tRaise C f E ta D σ H := h
theorem r_raise0 {C : Addr} {E : XK} {D : Ends} {σ : L2.St} {H : Hp} (h : E (.ref C) none H) : tRaise0 C E D σ H := h
/-! ### the built-in classes above -/
abbrev bmValueError : List Value := [.type "ValueError", .type "Exception", .type "BaseException", .type "object"]
abbrev bmIndexError : List Value := [.type "IndexError", .type "LookupError", .type "Exception", .type "BaseException", .type "object"]
abbrev bmArithmeticError : List Value := [.type "ArithmeticError", .type "Exception", .type "BaseException", .type "object"]
abbrev bmOverflowError : List Value := [.type "OverflowError", .type "ArithmeticError", .type "Exception", .type "BaseException", .type "object"]
abbrev bmLookupError : List Value := [.type "LookupError", .type "Exception", .type "BaseException", .type "object"]
/-- which class an error is of, for an except clause -/
theorem exm {K : PySem.W.Frag} {R C : Addr} {b : Bool} (h1 : PySem.W.subIn K (.ref R) (.type "BaseException") = some true) (c1 : PySem.W.subIn K (.ref C) (.type "BaseException") = some true) (h2 : PySem.W.isClsIn K C = true) (h3 : PySem.W.typeIn K (.ref C) = some (.type "type")) (h4 : PySem.W.subIn K (.ref R) (.ref C) = some b) :
    PySem.W.exmOne K (.ref R) (.ref C) = some b := by
  have z1 : (PySem.W.subIn K (.ref C) (.type "BaseException") == some true) = true := by rw [c1] <;> rfl
  have z2 : ((PySem.W.clsIn K C).isSome && PySem.W.typeIn K (.ref C) == some (.type "type")) = true := by
    have h2' : (PySem.W.clsIn K C).isSome = true := h2
    rw [h2', h3] <;> rfl
  show (if (PySem.W.subIn K (.ref C) (.type "BaseException") == some true) = true then (if ((PySem.W.clsIn K C).isSome && PySem.W.typeIn K (.ref C) == some (.type "type")) = true then PySem.W.subIn K (.ref R) (.ref C) else none) else none) = some b
  rw [if_pos z1, if_pos z2]
  exact h4
end Er

/-! En: functions that are run where nothing is being shown (repr of a list asks for it), calls of them, and the end of a law with tables. -/
namespace En
open PySem PySem.Spec PyProof.Rows L2 LamX
/-- as FnOk, but only where the guards are known to be none -/
structure FnG (P : Program) (w : World) (K : PySem.W.Frag) (mg : Str → Option Value) (base : Heap) (CX : CXT) (k : Nat) (f : Addr) (fd : FuncData) (ps : List Str) (sp : Sp) : Prop where
  many : ∀ vs H Q E, sp vs H Q E → vs.length = ps.length
  goes : ∀ (A : Around) (outer : List Env) (s : Shared) (H : Hp) (args : Args) (us : List Value) (vs : List V) (Q : VK) (E : XK), A.guards = some [] → Room k A → Env0 P w K mg base A outer s H → BindsTo s fd args (ps.zip us) → Vals vs us → sp vs H Q E →
    codeAny (model P w) A (.call (.ref f) args) (CR CX outer P w H s Q E) s
section
variable {P : Program} {w : World} {K : PySem.W.Frag} {mg : Str → Option Value} {base : Heap} {k : Nat} {f : Addr} {fd : FuncData} {ps : List Str} {sp : Sp}
theorem fnG {x qual : Str} {st : Stmt} {N : List Str} (F : Fun K x qual st f fd) (S : FnScope N ps (defScope st)) (many : ∀ vs H Q E, sp vs H Q E → vs.length = ps.length)
    (go : ∀ (cdv : Value) (A : Around) (outer : List Env) (s : Shared) (H : Hp) (vs : List V) (Q : VK) (E : XK), fd.code = cdv → (A.deeper (envOfC qual (defScope st) s.heap.objs.size f cdv)).guards = some [] → Room k (A.deeper (envOfC qual (defScope st) s.heap.objs.size f cdv)) → sp vs H Q E →
      ∃ t, PSs (cxOf CX0 P w K mg base N qual (defScope st) f cdv A outer s H E).nox (defBody st) t ∧ t { nx := fun _ H' => Q .non H', rt := Q } (start N vs) H) : FnG P w K mg base CX0 (k + 1) f fd ps sp := by
  obtain ⟨oc, od, kV, doc, pm, an, cdv, ct, osl, rfl, lk, code⟩ := F.ex
  refine ⟨many, ?_⟩
  intro A outer s H args us vs Q E clear room e0 binds args' wish
  exact run_ofS lk code S room e0 binds args' (many _ _ _ _ wish) fun room' => (go cdv A outer s H vs Q E rfl clear room' wish).imp fun t z => ⟨z.1.nox, z.2⟩
end
section
variable {X : Cx} {CX : CXT} {k : Nat} {f : Addr} {fd : FuncData} {ps : List Str} {sp : Sp} {E : XK} {x : Str} {p pos : Pos} {e : Expr} {es : List Expr} {t : TA}
/-- a call of such a function, from one of its kind -/
theorem pe_callG (clear : X.A.guards = some []) (F : FnG X.prog X.w X.K X.mg X.base CX k f fd ps sp) (room : Room k X.A) (hg : Gl X x) (hm : X.mg x = some (.ref f)) (hk : PySem.W.keepIn X.K (.ref f) = true) (hb : Binds X.K fd ps []) (pass : Passes CX X E) (ha : PA X (e :: es) t)
    (nd : (x == ("__debug__" : Str)) = false := by decide) (he : starEach (e :: es) X.env = (false, eval e X.env) :: starEach es X.env := by rfl) (hpl : (backTo pos (starEach es X.env)).any (·.1) = false := by rfl) :
    PE X (.Call (.Name x p) (e :: es) [] pos) (tCall sp [] E t) := by
  constructor
  intro pins s σ H Q I now
  refine wpAny_Call_Name_kw (ld_glob I hg hm ?_ nd)
  refine PySem.W.callWith_K (h₀ := X.base) I.ok.mod.kin hk (thn (ha.run pos pins s σ H _ I now) ?_) he hpl
  rintro us s1 ⟨vs, H1, I1, r, wish⟩
  refine ⟨I1.kIn, ?_⟩
  rw [List.append_nil] at wish
  have len : us.length = ps.length := by rw [← r.length]; exact F.many _ _ _ _ wish
  have b := hb s1 us I1.kIn (by rw [List.append_nil]; exact len)
  rw [List.append_nil] at b
  refine wpAny_call (codeAny_mono (F.goes X.A X.stack s1 H1 ⟨us, []⟩ us vs Q E clear room I1.env0 b r wish) ?_)
  intro res s' got
  cases res with
  | error er => exact pass pins σ H1 s1 er s' I1 got
  | ok fl =>
    cases fl with
    | ret u => exact I1.after got
    | next => exact False.elim got
    | brk => exact False.elim got
    | cont => exact False.elim got
end
/-- nothing comes out where nothing may -/
theorem passN {X : Cx} : Passes (L2.CX X.prog X.w) X (fun _ _ _ => False) := fun _ _ _ _ _ _ _ c => by
  obtain ⟨_, _, _, _, _, _, _, _, _, _, _, _, _, _, z⟩ := c

/-- f(lambda: body), told by f's own facts -/
theorem pe_lam {X : Cx} {T : List (Addr × Str)} {TT : (XK → Hp → VK → Prop) → Hp → VK → Prop} {x a : Str} {st : Stmt} {g c P : Addr} {fd : FuncData} {k : Nat} {Ng : List Str} {params : Arguments} {body : Expr} {scope : Scope} {t : XK → TE} {p lpos pos : Pos}
    (F : Fun X.K x x st g fd) (hm : X.mg x = some (.ref g)) (hb : L2.Binds X.K fd [a] []) (Sg : FnScope Ng [a] (defScope st)) (gives : ∀ cdv, GivesTo X Ng x (defScope st) g cdv (defBody st) a (X.env.qual ++ "<lambda>") TT)
    (TB : TabB X.base X.mg c P) (code : X.env.code = .ref c) (hmT : (P, X.env.qual ++ "<lambda>") ∈ T) (hu : ∀ p ∈ T, p.1 = P → p.2 = X.env.qual ++ "<lambda>") (room : Room (k + 2) X.A) (L : LamS X.env.scope scope)
    (run : ∀ (A : Around) (outer : List Env) (s : Shared) (H : Hp) (E : XK) (f c' : Addr), Room k (A.deeper (lamEnv X scope s.heap.objs.size f c')) → PE (lamCx X A outer s H E scope f c') body (t E))
    (hNg : Ng[0]? = some a := by rfl) (hva : Vis (defScope st) a := by exact .inl rfl) (hg : Gl X x := by rfl) (hdef : defaultsOf params X.env = ([], []) := by rfl) (hbind : ∀ (q : Str) (cl : List (Str × Addr)) (pm cv ctv : Value), bindArgs (PySem.W.kla_fn "<lambda>" q params body scope cl pm cv ctv) ⟨[], []⟩ = pure [] := by intros; rfl)
    (hdb : (x == ("__debug__" : Str)) = false := by decide) (hd : (a == ("__debug__" : Str)) = false := by decide) (hcd : (a == ("__classdict__" : Str)) = false := by decide) :
    PE X (.Call (.Name x p) [.Lambda params body scope lpos] [] pos) (tLam T TT t) := by
  obtain ⟨oc, od, kV, doc, pm, an, cdv, ct, osl, rfl, lk, codeF⟩ := F.ex
  exact pe_lamcall hg hm F.kp lk codeF hb Sg hNg hva (gives cdv) TB code hmT hu room L hdef hbind run hdb hd hcd
/-! ### values that are no integers -/
theorem TyOf_mono {K : PySem.W.Frag} {H H' : Hp} (s : ∀ b o, H b = some o → H' b = some o) {x : V} {t : Value} (h : TyOf K H x t) : TyOf K H' x t := by
  cases h with
  | non => exact .non
  | bl x => exact .bl x
  | int i => exact .int i
  | str x => exact .str x
  | flt x => exact .flt x
  | lst e => exact .lst (s _ _ e)
  | frz e => exact .frz (s _ _ e)
  | tup e => exact .tup (s _ _ e)
  | dK e => exact .dK (s _ _ e)
  | dT e => exact .dT (s _ _ e)
  | ins e cl ha hn hk hm => exact .ins (s _ _ e) cl ha hn hk hm
theorem TyX_mono {K : PySem.W.Frag} {H H' : Hp} (s : ∀ b o, H b = some o → H' b = some o) {x : V} {t : Value} (h : TyX K H x t) : TyX K H' x t := by
  cases h with
  | base h => exact .base (TyOf_mono s h)
  | byt b => exact .byt b
  | set e => exact .set (s _ _ e)
  | kList e c => exact .kList e c
  | kTuple e c => exact .kTuple e c
  | kDict e c => exact .kDict e c
  | fTuple e => exact .fTuple (s _ _ e)
  | fDict e => exact .fDict (s _ _ e)
def NoNum (K : PySem.W.Frag) (H : Hp) (v : V) : Prop := ∃ t b1 b2, TyX K H v t ∧ PySem.W.kitOne K t (.type "int") = some b1 ∧ PySem.W.kitOne K t (.type "bool") = some b2 ∧ (b1 && !b2) = false
theorem NoNum.mono {K : PySem.W.Frag} {H H' : Hp} {v : V} (h : NoNum K H v) (s : ∀ b o, H b = some o → H' b = some o) : NoNum K H' v := by
  obtain ⟨t, b1, b2, h1, h2, h3, h4⟩ := h
  exact ⟨t, b1, b2, TyX_mono s h1, h2, h3, h4⟩
theorem noNum_none {K : PySem.W.Frag} {H : Hp} : NoNum K H .non := ⟨_, false, false, .base .non, by rfl, by rfl, rfl⟩
theorem noNum_bl {K : PySem.W.Frag} {H : Hp} (b : Bool) : NoNum K H (.bl b) := ⟨_, true, true, .base (.bl b), by rfl, by rfl, rfl⟩
theorem noNum_str {K : PySem.W.Frag} {H : Hp} (z : Str) : NoNum K H (.str z) := ⟨_, false, false, .base (.str z), by rfl, by rfl, rfl⟩
theorem noNum_lst {K : PySem.W.Frag} {H : Hp} {a : Addr} {xs : List V} (e : H a = some (.lst xs)) : NoNum K H (.ref a) := ⟨_, false, false, .base (.lst e), by rfl, by rfl, rfl⟩
theorem noNum_tup {K : PySem.W.Frag} {H : Hp} {a : Addr} {xs : List V} (e : H a = some (.tup xs)) : NoNum K H (.ref a) := ⟨_, false, false, .base (.tup e), by rfl, by rfl, rfl⟩
theorem noNum_dK {K : PySem.W.Frag} {H : Hp} {a : Addr} {xs : List (Key × V)} (e : H a = some (.dK xs)) : NoNum K H (.ref a) := ⟨_, false, false, .base (.dK e), by rfl, by rfl, rfl⟩
/-! ### the end -/
/-- a tracked heap with which a law begins: the tables, empty, and the script, frozen unless the written part tells it -/
structure Begin (K : PySem.W.Frag) (T : List Addr) (a : Addr) (ns : List Int) (P : Program) (w : World) (h : Heap) (H : Hp) : Prop where
  tab : ∀ b, b ∈ T → H b = some (.tbl #[])
  only : ∀ b, H b = none ∨ b ∈ T ∨ ∃ o u, H b = some (.frz o (.lst u))
  where' : ∀ b, H b ≠ none → b = a ∨ b ∈ T
  script : SqL K H a (ns.map V.int)
  good : HOk P w H h
  out : H a ≠ none → K.lookup a = none
section
variable {P : Program} {w : World} {K : PySem.W.Frag} {mg mb : Str → Option Value} {k : Nat} {fa a : Addr} {cs : List (Addr × Addr)} {fd : FuncData} {x : Str} {sp : Sp} {s₁ : Shared} {vs : List Value} {ns : List Int} {H : Hp}
theorem law_goes (KX : K.In s₁.heap) (G : s₁.heap.Ns mainGlobals mg) (GB : s₁.heap.Ns builtinsNs mb) (boot : ∀ y : Str, y ≠ "__name__" → mb y = bootBuiltins y) (lim : s₁.heap.NoLimit) (bare : s₁.gens = #[])
    (empty : ∀ p ∈ cs, s₁.heap.get? p.2 = some { cls := .none, data := .fields #[] }) (outside : ∀ p ∈ cs, K.lookup p.2 = none) (codes : ∀ p ∈ cs, PySem.W.CodeHd s₁.heap p.1 p.2)
    (bmod : ∃ (bm : Addr) (ob : Obj), mg "__builtins__" = some (.ref bm) ∧ bm ≠ builtinsNs ∧ s₁.heap.get? bm = some ob ∧ ob.cls = .type "module" ∧ ob.dict = some builtinsNs ∧ ob.data = .plain)
    (there : s₁.heap.get? a = some { cls := .type "list", data := .seq vs.toArray }) (room : Room k callerA)
    (F : ∀ base : Heap, K.In base → base.Ns mainGlobals mg → (∀ p ∈ cs, TabB base mg p.1 p.2) → FnG P w K mg base CX0 k fa fd [x] sp) (binds : ∀ (s : Shared) (u : Value), BindsTo s fd ⟨[u], []⟩ [(x, u)])
    (B : Begin K (cs.map (·.2)) a ns P w s₁.heap H) (wish : sp [.ref a] H (fun v _ => v = .bl true) fun _ _ _ => False) :
    codeAny (model P w) callerA (.call (.ref fa) ⟨[.ref a], []⟩) (fun r s' => r = .ok (.ret (.bool true)) ∧ OldK s₁.heap s'.heap ∧ s'.os = s₁.os ∧ AllBare s'.gens) s₁ := by
  have inT : ∀ p ∈ cs, p.2 ∈ cs.map (·.2) := fun p m => List.mem_map.mpr ⟨p, m, rfl⟩
  have atT : ∀ b, b ∈ cs.map (·.2) → s₁.heap.get? b = some { cls := .none, data := .fields #[] } := by
    intro b m
    obtain ⟨p, mp, rfl⟩ := List.mem_map.mp m
    exact empty p mp
  have untracked : ∀ {b : Addr} {o : Obj}, s₁.heap.get? b = some o → (∀ y n, o.data ≠ .seq y n) → o.data ≠ .fields #[] → H b = none := by
    intro b o e n1 n2
    by_cases q : H b = none
    · exact q
    · rcases B.where' b q with rfl | m
      · rw [there] at e; cases e; exact absurd rfl (n1 _ _)
      · rw [atT b m] at e; cases e; exact absurd rfl n2
  have seen : ∀ {b : Addr} {o : Obj}, s₁.heap.get? b = some o → H b = none → (hidT s₁.heap H).get? b = some o := fun e n => hidT_get e n
  have names : ∀ {b : Addr} {m : Str → Option Value}, s₁.heap.Ns b m → (hidT s₁.heap H).Ns b m := by
    rintro b m ⟨o, es, ep, e, dd, r⟩
    refine ⟨o, es, ep, seen e (untracked e ?_ ?_), dd, r⟩
    · intro y n z; rw [dd] at z; cases z
    · intro z; rw [dd] at z; cases z
  have known : K.In (hidT s₁.heap H) := by
    intro b o e
    refine seen (KX b o e) ?_
    by_cases q : H b = none
    · exact q
    · rcases B.where' b q with rfl | m
      · rw [B.out q] at e; cases e
      · obtain ⟨p, mp, rfl⟩ := List.mem_map.mp m
        rw [outside p mp] at e; cases e
  have notDict : ∀ {b : Addr} {m : Str → Option Value} {q : Addr}, s₁.heap.Ns b m → q ∈ cs.map (·.2) → b ≠ q := by
    rintro b m q ⟨o, es, ep, e, dd, _⟩ mq rfl
    rw [atT b mq] at e; cases e; cases dd
  have tabs : ∀ p ∈ cs, TabB (hidT s₁.heap H) mg p.1 p.2 := by
    intro p mp
    refine ⟨?_, ?_, notDict G (inT p mp)⟩
    · obtain ⟨o, us, file, tf, flags, tg, inF, text, tt, e1, r1, r2, r3, r4, rest⟩ := codes p mp
      refine ⟨o, us, file, tf, flags, tg, inF, text, tt, seen e1 (untracked e1 ?_ ?_), r1, r2, r3, r4, rest⟩
      · intro y n z; rw [r2] at z; cases z
      · intro z; rw [r2] at z; cases z; simp at r3
    · obtain ⟨bm, ob, b1, b2, b3, b4, b5, b6⟩ := bmod
      refine ⟨bm, ob, b1, b2, ?_, ?_, seen b3 (untracked b3 ?_ ?_), b4, b5, b6⟩
      · rintro rfl
        obtain ⟨o, es, ep, e, dd, _⟩ := G
        rw [e] at b3; cases b3; rw [dd] at b6; cases b6
      · rintro rfl
        rw [empty p mp] at b3; cases b3; cases b6
      · intro y n z; rw [b6] at z; cases z
      · intro z; rw [b6] at z; cases z
  have base : L2.Mod K mg (hidT s₁.heap H) := ⟨known, names G, ⟨mb, names GB, boot⟩, lim.elim fun mc ⟨h1, h2⟩ => ⟨mc, names h1, h2⟩⟩
  have e0 : Env0 P w K mg (hidT s₁.heap H) callerA [] s₁ H := ⟨rfl, base, fun b o e => of_hidT e, Nat.le_of_eq (hidT_size _ _), trivial, fun b hb => absurd (show b ∈ ([] : List Addr) from hb) (by simp), B.good, .of_eq bare⟩
  refine codeAny_mono ((F _ known (names G) tabs).goes callerA [] s₁ H ⟨[.ref a], []⟩ [.ref a] [.ref a] _ _ rfl room e0 (binds s₁ (.ref a)) (.cons rfl .nil) wish) ?_
  intro r s' got
  cases r with
  | error er => exact (show False from got).elim
  | ok fl =>
    cases fl with
    | next => exact False.elim got
    | brk => exact False.elim got
    | cont => exact False.elim got
    | ret u =>
      obtain ⟨v, H', os, bare', un, good', rv, rfl⟩ := got
      obtain rfl : u = Value.bool true := rv
      have stays : ∀ b o, b ∉ cs.map (·.2) → s₁.heap.get? b = some o → s'.heap.get? b = some o := by
        intro b o nb e
        by_cases q : H b = none
        · exact un.keep b o e q (by intro z; exact absurd (show b ∈ ([] : List Addr) from z) (by simp)) (by simp)
        · rcases B.only b with z | z | ⟨ob, u', z⟩
          · exact absurd z q
          · exact absurd z nb
          · obtain ⟨e1, _⟩ := B.good b _ z
            obtain ⟨e2, _⟩ := good' b _ (un.frzs b ob _ z)
            rw [e] at e1; cases e1; exact e2
      have grown : ∀ p ∈ cs, ∃ more : Array Value, s'.heap.get? p.2 = some { cls := .none, data := .fields more } := by
        intro p mp
        obtain ⟨more, z⟩ := un.tbls p.2 #[] (B.tab _ (inT p mp))
        exact ⟨_, good' p.2 _ z⟩
      refine ⟨rfl, ⟨?_, ?_⟩, os, bare'⟩
      · intro b o e
        by_cases hb : b ∈ cs.map (·.2)
        · obtain ⟨p, mp, rfl⟩ := List.mem_map.mp hb
          obtain ⟨more, hm⟩ := grown p mp
          rw [empty p mp] at e; cases e
          exact .inr (.inl ⟨((codes p mp).tab (empty p mp)).isCodeTable, rfl, #[], more, rfl, by rw [Array.empty_append]; exact hm⟩)
        · exact .inl (stays b o hb e)
      · intro b o e
        by_cases hb : b ∈ cs.map (·.2)
        · obtain ⟨p, mp, rfl⟩ := List.mem_map.mp hb
          obtain ⟨more, hm⟩ := grown p mp
          exact ⟨_, hm⟩
        · exact ⟨o, stays b o hb e⟩
/-- there is such a heap -/
theorem begin_is (KX : K.In s₁.heap) (T : List Addr) (empty : ∀ b ∈ T, s₁.heap.get? b = some { cls := .none, data := .fields #[] }) (there : s₁.heap.get? a = some { cls := .type "list", data := .seq vs.toArray }) (numb : IntsAre vs ns) (few : ns.length ≤ sizeLine) :
    ∃ H, Begin K T a ns P w s₁.heap H := by
  have rv := vals_ints numb
  have lenV := numb.length
  have apart : a ∉ T := by
    intro m
    have q := empty a m
    rw [there] at q; cases q
  have tabOk : ∀ {H : Hp} {b : Addr}, b ∈ T → ObjOk P w H s₁.heap b (.tbl #[]) := fun m => empty _ m
  cases known : K.lookup a with
  | some o =>
    have e := KX a o known
    rw [there] at e; cases e
    refine ⟨fun b => if b ∈ T then some (.tbl #[]) else none, fun b m => if_pos m, fun b => ?_, fun b z => ?_, ?_, fun b u z => ?_, fun z => absurd (if_neg apart) z⟩
    · by_cases m : b ∈ T
      · exact .inr (.inl m)
      · exact .inl (if_neg m)
    · by_cases m : b ∈ T
      · exact .inr m
      · exact absurd (if_neg m) z
    · exact .inr ⟨_, vs.toArray, _, known, rfl, rfl, rfl, by rw [List.size_toArray, lenV]; exact few, by simpa using rv⟩
    · by_cases m : b ∈ T
      · simp only [if_pos m] at z; cases z; exact tabOk m
      · simp only [if_neg m] at z; cases z
  | none =>
    refine ⟨fun b => if b ∈ T then some (.tbl #[]) else if b = a then some (.frz { cls := .type "list", data := .seq vs.toArray } (.lst (ns.map V.int))) else none, fun b m => if_pos m, fun b => ?_, fun b z => ?_, ?_, fun b u z => ?_, fun _ => known⟩
    · by_cases m : b ∈ T
      · exact .inr (.inl m)
      · by_cases q : b = a
        · exact .inr (.inr ⟨{ cls := .type "list", data := .seq vs.toArray }, ns.map V.int, by simp only [if_neg m, if_pos q]⟩)
        · exact .inl (by simp only [if_neg m, if_neg q])
    · by_cases m : b ∈ T
      · exact .inr m
      · by_cases q : b = a
        · exact .inl q
        · exact absurd (show (if b ∈ T then some (HO.tbl #[]) else if b = a then some (HO.frz { cls := .type "list", data := .seq vs.toArray } (.lst (ns.map V.int))) else none) = none by simp only [if_neg m, if_neg q]) z
    · exact .inl (.inr ⟨{ cls := .type "list", data := .seq vs.toArray }, by simp only [if_neg apart, if_pos]⟩)
    · by_cases m : b ∈ T
      · simp only [if_pos m] at z; cases z; exact tabOk m
      · by_cases q : b = a
        · simp only [if_neg m, if_pos q] at z; cases z
          subst q
          exact ⟨there, by rw [List.length_map]; exact few, vs, _, rv, there⟩
        · simp only [if_neg m, if_neg q] at z; cases z
end
/-- what a law's own text has to give at the head's heap -/
def Law (l : PySem.W.OpenLaw) (w : World) (K : PySem.W.Frag) (k n : Nat) (x : Str) (mg : Str → Option Value) (fa : Addr) (h : Heap) : Prop :=
  ∃ (fd : FuncData) (cs : List (Addr × Addr)) (sp : Sp), (∀ p ∈ cs, h.get? p.2 = some { cls := .none, data := .fields #[] } ∧ K.lookup p.2 = none ∧ PySem.W.CodeHd h p.1 p.2) ∧ (∀ (s : Shared) (u : Value), BindsTo s fd ⟨[u], []⟩ [(x, u)]) ∧
    (∀ (H : Hp) (a : Addr) (ns : List Int), ns.length ≤ n → (∀ p ∈ cs, H p.2 = some (.tbl #[])) → SqL K H a (ns.map V.int) → sp [.ref a] H (fun v _ => v = .bl true) fun _ _ _ => False) ∧
    ∀ base : Heap, K.In base → base.Ns mainGlobals mg → (∀ p ∈ cs, TabB base mg p.1 p.2) → FnG l.prog w K mg base CX0 k fa fd [x] sp
theorem walkG {l : PySem.W.OpenLaw} {n k : Nat} {q : Program} {loose : List Str} {XP : (Str → Option Value) → Heap → Prop} {YP : World → Heap → Prop} {d : DefRec} {K : Params → PySem.W.Frag} {x : Str}
    (hn : l.most = some n) (hn2 : n ≤ sizeLine) (hdf : d.params.defaults = []) (room : Room k callerA) (hY : ∀ (w : World) (h : Heap), YP w h → (K w.params).In h)
    (F : ∀ (w : World) (mg : Str → Option Value) (fa : Addr) (h : Heap), YP w h → (K w.params).In h → h.Ns mainGlobals mg → mg d.name = some (.ref fa) → Law l w (K w.params) k n x mg fa h) :
    PySem.W.WalkO q loose XP YP l.row.toRowW d [] (fun f vs => PySem.call f vs) := by
  refine Att.attach_callB hn hdf ?_
  intro w s₀ s₁ mg mb fa o pm cd doc a vs ns G Y ho hd hcd hmg there numb many bits bare
  have KX := hY w _ Y
  obtain ⟨fd, cs, sp, facts, binds, wish, run⟩ := F w mg fa _ Y KX G.T.g hmg
  obtain ⟨H, B⟩ := begin_is (P := l.prog) (w := w) KX (cs.map (·.2)) (by
    intro b m
    obtain ⟨p, mp, rfl⟩ := List.mem_map.mp m
    exact (facts p mp).1) there numb (Nat.le_trans many hn2)
  exact law_goes KX G.T.g G.T.b G.T.builtins G.T.nolimit bare (fun p m => (facts p m).1) (fun p m => (facts p m).2.1) (fun p m => (facts p m).2.2) G.T.bmain there room run binds B (wish H a ns many (fun p m => B.tab _ (List.mem_map.mpr ⟨p, m, rfl⟩)) B.script)
end En

/-! Rp: repr of data, where nothing is being shown. -/
namespace Rp
open PySem PySem.Spec PyProof.Rows L2
/-- data whose text is short, without dicts -/
structure Short (d : PyData) : Prop where
  show' : d.showable = true
  flat : d.hasDict = false
  low : d.depth ≤ 60
  fits : d.shown.length + 64 ≤ sizeLine
def qRepr (K : PySem.W.Frag) : List V → Hp → VK → Prop := fun xs H Q => ∃ x d, xs = [x] ∧ Dp K H x d ∧ Short d ∧ Q (.str d.shown) H
section
variable {X : Cx}
theorem c_repr (clear : X.A.guards = some []) (un : X.A.units + 64 < cLine) : CallR X (.builtin "repr") (qRepr X.K) := by
  intro pins s σ H xs us Q I r now
  obtain ⟨x, d, rfl, dp, sh, q⟩ := now
  obtain ⟨u, rfl, ru⟩ := vals1 r
  have fin : ∀ (t : Tok) (h' : Heap) (tk : Nat), (∀ b o, s.heap.get? b = some o → h'.get? b = some o) → EP X pins σ Q (.str d.shown t) { s with heap := h', toks := tk } :=
    fun t h' tk kp => ⟨.str d.shown, H, I.kept kp, ⟨t, rfl⟩, q⟩
  cases dp with
  | non =>
    obtain rfl : u = Value.none := ru
    exact PySem.P.repr_of_none (fin _ _ _ fun _ _ e => e)
  | bl b =>
    obtain rfl : u = Value.bool b := ru
    refine PySem.P.repr_of_bool ?_
    have z := fin s.toks s.heap (s.toks + 1) fun _ _ e => e
    cases b with
    | true => exact z
    | false => exact z
  | int i =>
    obtain ⟨t, rfl⟩ := (show ∃ t, u = Value.int i t from ru)
    refine PySem.P.repr_of_int (of_decide_eq_true (show decide (i.natAbs.log2 < 1920) = true from sh.show')) ?_
    exact fin _ _ _ fun _ _ e => e
  | str z =>
    obtain ⟨t, rfl⟩ := (show ∃ t, u = Value.str z t from ru)
    exact PySem.P.repr_of_str (fin _ _ _ fun _ _ e => e) (Nat.le_trans (Nat.le_add_right _ 64) sh.fits)
  | @lst a ys ds hs ha =>
    obtain rfl : u = Value.ref a := ru
    obtain ⟨as, rd⟩ := Dp.reads I _ _ _ (.lst hs ha) rfl
    exact repr_of_reads' rd sh.show' (PyData.noDict_hsm sh.flat) clear (by have := sh.low; omega) (fun _ _ e => e) (fun h' t tk kp => fin t h' tk kp) (Nat.le_trans (Nat.le_add_right _ 64) sh.fits)
  | @tup a ys ds hs ha =>
    obtain rfl : u = Value.ref a := ru
    obtain ⟨as, rd⟩ := Dp.reads I _ _ _ (.tup hs ha) rfl
    exact repr_of_reads' rd sh.show' (PyData.noDict_hsm sh.flat) clear (by have := sh.low; omega) (fun _ _ e => e) (fun h' t tk kp => fin t h' tk kp) (Nat.le_trans (Nat.le_add_right _ 64) sh.fits)
end
end Rp
namespace Rp
open PySem PySem.Spec PyProof.Rows L2
/-- x is shown as t: short data, or a dict with nothing in it -/
def Shw (K : PySem.W.Frag) (H : Hp) (x : V) (t : Str) : Prop := (∃ d, Dp K H x d ∧ Short d ∧ t = d.shown) ∨ ∃ a, x = .ref a ∧ H a = some (.dK []) ∧ t = ("{}" : Str)
def qReprX (K : PySem.W.Frag) : List V → Hp → VK → Prop := fun xs H Q => ∃ x t, xs = [x] ∧ Shw K H x t ∧ Q (.str t) H
theorem c_reprX {X : Cx} (clear : X.A.guards = some []) (un : X.A.units + 64 < cLine) : CallR X (.builtin "repr") (qReprX X.K) := by
  intro pins s σ H xs us Q I r now
  obtain ⟨x, t, rfl, ⟨d, dp, sh, rfl⟩ | ⟨a, rfl, e, rfl⟩, q⟩ := now
  · exact c_repr clear un pins s σ H [x] us Q I r ⟨x, d, rfl, dp, sh, q⟩
  · obtain ⟨u, rfl, ru⟩ := vals1 r
    obtain rfl : u = Value.ref a := ru
    obtain ⟨_, hs, vs, hkv, o, es, ep, ho, hc, hda, _, hp, _⟩ := dk_of I.hok e
    cases hkv
    have he : es.toList = [] := by
      cases h : es.toList with
      | nil => rfl
      | cons z zs => rw [h] at hp; cases hp
    have rd : Reads s.heap (.ref a) (.dict []) (a :: [] ++ []) := .dict ho hc.1 hda (by rw [he]; exact .nil) (by rw [he]; exact .nil)
    refine repr_of_reads' rd (by rfl) (fun _ => ?_) clear (by show X.A.units + (1 + 1) < cLine; omega) (fun _ _ e => e) (fun h' t tk kp => ?_) ?_
    · simp only [List.append_nil, List.mem_singleton]
      rintro rfl
      simp at hs
    · have et : (PyData.dict []).shown = ("{}" : Str) := by decide +kernel
      rw [et]
      exact ⟨.str "{}", H, I.kept kp, ⟨t, rfl⟩, q⟩
    · have et : (PyData.dict []).shown = ("{}" : Str) := by decide +kernel
      rw [et]; decide +kernel
theorem Shw.of {K : PySem.W.Frag} {H : Hp} {x : V} {d : PyData} (h : Dp K H x d) (s : Short d) : Shw K H x d.shown := .inl ⟨d, h, s, rfl⟩
theorem Shw.fits {K : PySem.W.Frag} {H : Hp} {x : V} {t : Str} (h : Shw K H x t) : t.length + 64 ≤ sizeLine := by
  rcases h with ⟨d, _, s, rfl⟩ | ⟨a, _, _, rfl⟩
  · exact s.fits
  · decide +kernel
end Rp

namespace M3
theorem k1 : allB (fun b => okT 1 b) 60 = true := by decide +kernel
theorem k2 : allB (fun b => okT 2 b) 60 = true := by decide +kernel
theorem k3 : allB (fun b => okT 3 b) 60 = true := by decide +kernel
theorem k4 : allB (fun b => okT 4 b) 60 = true := by decide +kernel
theorem k5 : allB (fun b => okT 5 b) 60 = true := by decide +kernel
theorem k6 : allB (fun b => okT 6 b) 60 = true := by decide +kernel
theorem k7 : allB (fun b => okT 7 b) 60 = true := by decide +kernel
theorem k8 : allB (fun b => okT 8 b) 60 = true := by decide +kernel
theorem k9 : allB (fun b => okT 9 b) 60 = true := by decide +kernel
theorem k10 : allB (fun b => okT 10 b) 60 = true := by decide +kernel
theorem k11 : allB (fun b => okT 11 b) 60 = true := by decide +kernel
theorem k12 : allB (fun b => okT 12 b) 60 = true := by decide +kernel
theorem k13 : allB (fun b => okT 13 b) 60 = true := by decide +kernel
theorem k14 : allB (fun b => okT 14 b) 60 = true := by decide +kernel
theorem k15 : allB (fun b => okT 15 b) 60 = true := by decide +kernel
theorem k16 : allB (fun b => okT 16 b) 60 = true := by decide +kernel
theorem k17 : allB (fun b => okT 17 b) 60 = true := by decide +kernel
theorem k18 : allB (fun b => okT 18 b) 60 = true := by decide +kernel
theorem k19 : allB (fun b => okT 19 b) 60 = true := by decide +kernel
theorem k20 : allB (fun b => okT 20 b) 60 = true := by decide +kernel
theorem k21 : allB (fun b => okT 21 b) 60 = true := by decide +kernel
theorem k22 : allB (fun b => okT 22 b) 60 = true := by decide +kernel
theorem k23 : allB (fun b => okT 23 b) 60 = true := by decide +kernel
theorem k24 : allB (fun b => okT 24 b) 60 = true := by decide +kernel
theorem k25 : allB (fun b => okT 25 b) 60 = true := by decide +kernel
theorem k26 : allB (fun b => okT 26 b) 60 = true := by decide +kernel
theorem k27 : allB (fun b => okT 27 b) 60 = true := by decide +kernel
theorem k28 : allB (fun b => okT 28 b) 60 = true := by decide +kernel
theorem k29 : allB (fun b => okT 29 b) 60 = true := by decide +kernel
theorem k30 : allB (fun b => okT 30 b) 60 = true := by decide +kernel
theorem k31 : allB (fun b => okT 31 b) 60 = true := by decide +kernel
theorem k32 : allB (fun b => okT 32 b) 60 = true := by decide +kernel
theorem k33 : allB (fun b => okT 33 b) 60 = true := by decide +kernel
theorem k34 : allB (fun b => okT 34 b) 60 = true := by decide +kernel
theorem k35 : allB (fun b => okT 35 b) 60 = true := by decide +kernel
theorem k36 : allB (fun b => okT 36 b) 60 = true := by decide +kernel
theorem k37 : allB (fun b => okT 37 b) 60 = true := by decide +kernel
theorem k38 : allB (fun b => okT 38 b) 60 = true := by decide +kernel
theorem k39 : allB (fun b => okT 39 b) 60 = true := by decide +kernel
theorem k40 : allB (fun b => okT 40 b) 60 = true := by decide +kernel
theorem k41 : allB (fun b => okT 41 b) 60 = true := by decide +kernel
theorem k42 : allB (fun b => okT 42 b) 60 = true := by decide +kernel
theorem k43 : allB (fun b => okT 43 b) 60 = true := by decide +kernel
theorem k44 : allB (fun b => okT 44 b) 60 = true := by decide +kernel
theorem k45 : allB (fun b => okT 45 b) 60 = true := by decide +kernel
theorem k46 : allB (fun b => okT 46 b) 60 = true := by decide +kernel
theorem k47 : allB (fun b => okT 47 b) 60 = true := by decide +kernel
theorem k48 : allB (fun b => okT 48 b) 60 = true := by decide +kernel
theorem k49 : allB (fun b => okT 49 b) 60 = true := by decide +kernel
theorem k50 : allB (fun b => okT 50 b) 60 = true := by decide +kernel
theorem k51 : allB (fun b => okT 51 b) 60 = true := by decide +kernel
theorem k52 : allB (fun b => okT 52 b) 60 = true := by decide +kernel
theorem k53 : allB (fun b => okT 53 b) 60 = true := by decide +kernel
theorem k54 : allB (fun b => okT 54 b) 60 = true := by decide +kernel
theorem k55 : allB (fun b => okT 55 b) 60 = true := by decide +kernel
theorem k56 : allB (fun b => okT 56 b) 60 = true := by decide +kernel
theorem k57 : allB (fun b => okT 57 b) 60 = true := by decide +kernel
theorem k58 : allB (fun b => okT 58 b) 60 = true := by decide +kernel
theorem k59 : allB (fun b => okT 59 b) 60 = true := by decide +kernel
theorem k60 : allB (fun b => okT 60 b) 60 = true := by decide +kernel
theorem okT_all (a b : Nat) (h1 : 1 ≤ a) (h2 : a ≤ 60) (h3 : 1 ≤ b) (h4 : b ≤ 60) : okT a b = true := by
  have h : a = 1 ∨ a = 2 ∨ a = 3 ∨ a = 4 ∨ a = 5 ∨ a = 6 ∨ a = 7 ∨ a = 8 ∨ a = 9 ∨ a = 10 ∨ a = 11 ∨ a = 12 ∨ a = 13 ∨ a = 14 ∨ a = 15 ∨ a = 16 ∨ a = 17 ∨ a = 18 ∨ a = 19 ∨ a = 20 ∨ a = 21 ∨ a = 22 ∨ a = 23 ∨ a = 24 ∨ a = 25 ∨ a = 26 ∨ a = 27 ∨ a = 28 ∨ a = 29 ∨ a = 30 ∨ a = 31 ∨ a = 32 ∨ a = 33 ∨ a = 34 ∨ a = 35 ∨ a = 36 ∨ a = 37 ∨ a = 38 ∨ a = 39 ∨ a = 40 ∨ a = 41 ∨ a = 42 ∨ a = 43 ∨ a = 44 ∨ a = 45 ∨ a = 46 ∨ a = 47 ∨ a = 48 ∨ a = 49 ∨ a = 50 ∨ a = 51 ∨ a = 52 ∨ a = 53 ∨ a = 54 ∨ a = 55 ∨ a = 56 ∨ a = 57 ∨ a = 58 ∨ a = 59 ∨ a = 60 := by omega
  rcases h with rfl | rfl | rfl | rfl | rfl | rfl | rfl | rfl | rfl | rfl | rfl | rfl | rfl | rfl | rfl | rfl | rfl | rfl | rfl | rfl | rfl | rfl | rfl | rfl | rfl | rfl | rfl | rfl | rfl | rfl | rfl | rfl | rfl | rfl | rfl | rfl | rfl | rfl | rfl | rfl | rfl | rfl | rfl | rfl | rfl | rfl | rfl | rfl | rfl | rfl | rfl | rfl | rfl | rfl | rfl | rfl | rfl | rfl | rfl | rfl
  · exact allB_of k1 b h3 h4
  · exact allB_of k2 b h3 h4
  · exact allB_of k3 b h3 h4
  · exact allB_of k4 b h3 h4
  · exact allB_of k5 b h3 h4
  · exact allB_of k6 b h3 h4
  · exact allB_of k7 b h3 h4
  · exact allB_of k8 b h3 h4
  · exact allB_of k9 b h3 h4
  · exact allB_of k10 b h3 h4
  · exact allB_of k11 b h3 h4
  · exact allB_of k12 b h3 h4
  · exact allB_of k13 b h3 h4
  · exact allB_of k14 b h3 h4
  · exact allB_of k15 b h3 h4
  · exact allB_of k16 b h3 h4
  · exact allB_of k17 b h3 h4
  · exact allB_of k18 b h3 h4
  · exact allB_of k19 b h3 h4
  · exact allB_of k20 b h3 h4
  · exact allB_of k21 b h3 h4
  · exact allB_of k22 b h3 h4
  · exact allB_of k23 b h3 h4
  · exact allB_of k24 b h3 h4
  · exact allB_of k25 b h3 h4
  · exact allB_of k26 b h3 h4
  · exact allB_of k27 b h3 h4
  · exact allB_of k28 b h3 h4
  · exact allB_of k29 b h3 h4
  · exact allB_of k30 b h3 h4
  · exact allB_of k31 b h3 h4
  · exact allB_of k32 b h3 h4
  · exact allB_of k33 b h3 h4
  · exact allB_of k34 b h3 h4
  · exact allB_of k35 b h3 h4
  · exact allB_of k36 b h3 h4
  · exact allB_of k37 b h3 h4
  · exact allB_of k38 b h3 h4
  · exact allB_of k39 b h3 h4
  · exact allB_of k40 b h3 h4
  · exact allB_of k41 b h3 h4
  · exact allB_of k42 b h3 h4
  · exact allB_of k43 b h3 h4
  · exact allB_of k44 b h3 h4
  · exact allB_of k45 b h3 h4
  · exact allB_of k46 b h3 h4
  · exact allB_of k47 b h3 h4
  · exact allB_of k48 b h3 h4
  · exact allB_of k49 b h3 h4
  · exact allB_of k50 b h3 h4
  · exact allB_of k51 b h3 h4
  · exact allB_of k52 b h3 h4
  · exact allB_of k53 b h3 h4
  · exact allB_of k54 b h3 h4
  · exact allB_of k55 b h3 h4
  · exact allB_of k56 b h3 h4
  · exact allB_of k57 b h3 h4
  · exact allB_of k58 b h3 h4
  · exact allB_of k59 b h3 h4
  · exact allB_of k60 b h3 h4
end M3

namespace M3
open PySem PySem.W
def fct : Nat → Nat
  | 0 => 1
  | n + 1 => (n + 1) * fct n
theorem fct_pos : ∀ n, 0 < fct n
  | 0 => Nat.one_pos
  | n + 1 => Nat.mul_pos (Nat.succ_pos n) (fct_pos n)
theorem fp_ch (n : Nat) : ∀ m : Nat, m ≤ n → Builtin.Math.fallingProduct (n : Int) m = ((ch n m * fct m : Nat) : Int)
  | 0, _ => by rw [mc_fp_zero, ch0]; rfl
  | m + 1, h => by
    rw [mc_fp_succ, fp_ch n m (by omega), ← Int.natCast_sub (by omega), ← Int.natCast_mul]
    congr 1
    show ch n m * fct m * (n - m) = ch n (m + 1) * ((m + 1) * fct m)
    rw [Nat.mul_right_comm, ch_mul, Nat.mul_comm (m + 1), Nat.mul_assoc]
theorem mc_ch (n k : Nat) (h : k ≤ n) : mcComb (n : Int) (k : Int) = ((chl n k : Nat) : Int) := by
  rw [chl_eq]
  have go : ∀ m : Nat, m ≤ n → ch n m = ch n k → min (k : Int) ((n : Int) - k) = m → mcComb (n : Int) (k : Int) = ((ch n k : Nat) : Int) := by
    intro m hm he hmin
    rw [mcComb_at (by omega) (by omega) hmin, Int.toNat_natCast, fp_ch n m hm, fp_ch m m (Nat.le_refl _), ch_self, Nat.one_mul, ← Int.natCast_ediv, Nat.mul_div_cancel _ (fct_pos m), he]
  by_cases c : k ≤ n - k
  · exact go k h rfl (by omega)
  · refine go (n - k) (by omega) ?_ (by omega)
    have := ch_symm k (n - k)
    rw [show k + (n - k) = n by omega] at this
    exact this.symm
theorem ch_le : ∀ n k : Nat, ch n k ≤ 2 ^ n
  | n, 0 => by rw [ch0]; exact Nat.one_le_two_pow
  | 0, k + 1 => Nat.zero_le _
  | n + 1, k + 1 => by
    show ch n k + ch n (k + 1) ≤ 2 ^ (n + 1)
    have h1 := ch_le n k
    have h2 := ch_le n (k + 1)
    rw [Nat.pow_succ]; omega
end M3

/-! Ln: heaps in which dice and tables change. -/
namespace Ln
open PySem PySem.Spec PyProof.Rows L2 Sx LamX
/-- all but the dice at d and the tables stands as it stood -/
structure KpN (d : Addr) (H H' : Hp) : Prop where
  k : ∀ b o, b ≠ d → (∀ ps, o ≠ .tbl ps) → H b = some o → H' b = some o
  d1 : Dice H' d
theorem KpN.of {d : Addr} {H H' : Hp} (a : Kp d H H') : KpN d H H' := ⟨fun b o n _ e => a.k b o n e, a.d1⟩
theorem KpN.kp {d : Addr} {H H1 H2 : Hp} (a : KpN d H H1) (b : Kp d H1 H2) : KpN d H H2 := ⟨fun c o n t e => b.k c o n (a.k c o n t e), b.d1⟩
theorem KpN.trans {d : Addr} {H H1 H2 : Hp} (a : KpN d H H1) (b : KpN d H1 H2) : KpN d H H2 := ⟨fun c o n t e => b.k c o n t (a.k c o n t e), b.d1⟩
theorem dice_ext {d : Addr} {H H1 : Hp} (e : ExtN H H1) (h : Dice H d) : Dice H1 d := by
  obtain ⟨x, y, z, q⟩ := h
  exact ⟨x, y, z, e _ _ q fun ps z => by cases z⟩
theorem KpN.ext {d : Addr} {H H1 H2 : Hp} (a : KpN d H H1) (e : ExtN H1 H2) : KpN d H H2 := ⟨fun c o n t q => e c o (a.k c o n t q) t, dice_ext e a.d1⟩
theorem KpN.same {d : Addr} {H H1 H2 : Hp} (a : KpN d H H1) (s : Same H1 H2) : KpN d H H2 := a.ext (ExtN.of s)
theorem KpN.refl {d : Addr} {H : Hp} (h : Dice H d) : KpN d H H := ⟨fun _ _ _ _ e => e, h⟩
theorem tabs_kp {T : List (Addr × Str)} {d : Addr} {H H' : Hp} (t : Tabs T H) (h : Dice H d) (a : Kp d H H') : Tabs T H' := by
  obtain ⟨x, y, z, hd⟩ := h
  intro p hp
  obtain ⟨ps, h1, h2, h3⟩ := t p hp
  have go : ∀ b o, H b = some o → (∀ xs, o ≠ .lst xs) → H' b = some o := fun b o e n => a.k b o (fun q => by rw [q, hd] at e; exact n _ (Option.some.inj e).symm) e
  refine ⟨ps, go _ _ h1 (fun xs z => by cases z), h2, fun pos cv hc => ?_⟩
  obtain ⟨c, e1, e2⟩ := h3 pos cv hc
  exact ⟨c, e1, go _ _ e2 (fun xs z => by unfold CodeO at z; cases z)⟩
theorem tabs_same {T : List (Addr × Str)} {H H' : Hp} (t : Tabs T H) (s : Same H H') : Tabs T H' := t.ext s
theorem seq_extN {K : PySem.W.Frag} {H H' : Hp} {a : Addr} {xs : List V} (e : ExtN H H') (h : SqL K H a xs) : SqL K H' a xs := by
  rcases h with (h | ⟨o, h⟩) | h
  · exact .inl (.inl (e _ _ h fun ps z => by cases z))
  · exact .inl (.inr ⟨o, e _ _ h fun ps z => by cases z⟩)
  · exact .inr h
/-- behind rounds with fresh dice -/
theorem extN_dice {H H1 H2 H3 : Hp} {d : Addr} (e : ExtN H H1) (n : H1 d = none) (s : Same H1 H2) (k : KpN d H2 H3) : ExtN H H3 := fun b o q t =>
  have q1 := e b o q t
  k.k b o (fun z => by rw [z, n] at q1; cases q1) t (s _ _ q1)
end Ln
namespace Ln
open PySem PySem.Spec PyProof.Rows L2 Sx LamX
theorem kpn_mut {d p : Addr} {H H1 : Hp} {o : HO} (a : KpN d H H1) (e : H p = none) (n : p ≠ d) : KpN d H (upd H1 p o) := by
  refine ⟨fun b x nb t q => ?_, ?_⟩
  · rw [upd_ne (ne_of_none q e)]; exact a.k b x nb t q
  · obtain ⟨x, y, z, h⟩ := a.d1
    exact ⟨x, y, z, by rw [upd_ne (Ne.symm n)]; exact h⟩
theorem tabs_mut {T : List (Addr × Str)} {p : Addr} {H : Hp} {xs : List V} {o' : HO} (t : Tabs T H) (h : H p = some (.lst xs)) : Tabs T (upd H p o') := by
  intro q hq
  obtain ⟨ps, h1, h2, h3⟩ := t q hq
  have go : ∀ b o, H b = some o → (∀ xs, o ≠ .lst xs) → (upd H p o') b = some o := fun b o e n => by
    rw [upd_ne (fun z => by rw [z, h] at e; exact n _ (Option.some.inj e).symm)]; exact e
  refine ⟨ps, go _ _ h1 (fun xs z => by cases z), h2, fun pos cv hc => ?_⟩
  obtain ⟨c, e1, e2⟩ := h3 pos cv hc
  exact ⟨c, e1, go _ _ e2 (fun xs z => by unfold CodeO at z; cases z)⟩
theorem KpN.at_ {d p : Addr} {H H1 : Hp} {o : HO} (a : KpN d H H1) (e : H p = some o) (n : p ≠ d) (t : ∀ ps, o ≠ .tbl ps) : H1 p = some o := a.k p o n t e
end Ln
namespace Ln
open PySem PySem.Spec PyProof.Rows L2 Sx LamX
theorem kpn_mut2 {d p : Addr} {H H1 H2 : Hp} {o : HO} (a : KpN d H H1) (e : H1 p = none) (b : KpN d H H2) : KpN d H (upd H2 p o) := by
  have n : p ≠ d := by
    obtain ⟨x, y, z, h⟩ := a.d1
    exact (ne_of_none h e).symm
  refine ⟨fun q x nq t h => ?_, ?_⟩
  · rw [upd_ne (ne_of_none (a.k q x nq t h) e)]; exact b.k q x nq t h
  · obtain ⟨x, y, z, h⟩ := b.d1
    exact ⟨x, y, z, by rw [upd_ne (Ne.symm n)]; exact h⟩
end Ln

local macro_rules | `(tactic| walk_at "sx1") => `(tactic| with_reducible first
  | refine Sx.r_seq ?_ | refine Sx.r_asg ?_ | refine Sx.r_name ?_ | refine Sx.r_c ?_ | refine Sx.r_op ?_ | refine Sx.r_cons ?_ | refine Sx.r_nil ?_
  | (refine' Sx.r_var ?vxe ?_; (case vxe => with_unfolding_all exact rfl))
  | refine Sx.r_I0 ?_ | refine Sx.r_Ih ?_ ?_ | refine Sx.r_U ?_ | refine Sx.r_eqI ?_ | refine Sx.r_neI ?_ | refine Sx.r_eqS ?_ | refine Sx.r_neS ?_ | refine Sx.r_eqB ?_ | refine Sx.r_neB ?_
  | refine Sx.r_test ?_ | refine Sx.r_B ?_ | refine Sx.r_bl ?_ | refine Sx.r_int ?_ | refine Sx.r_ret ?_ | refine Sx.r_retN ?_ | refine Sx.r_drop ?_ | refine Sx.r_next ?_
  | refine Sx.r_and ?_ | refine Sx.r_or ?_ | refine Sx.r_not ?_ | refine Sx.r_andV ?_ | refine Sx.r_orV ?_ | refine Sx.r_notV ?_ | refine Sx.r_chain ?_
  | refine Sx.r_call ?_ | refine Sx.r_cb ?_ | refine Sx.r_make ?_ | refine Sx.r_tup ?_ | refine Sx.r_lst ?_ | refine Sx.r_tprop ?_ | refine Sx.r_meth ?_ | refine Sx.r_fld ?_ | refine Sx.r_sFld ?_ | refine Sx.r_BM ?_ | refine Sx.r_BM0 ?_
  | refine Sx.r_sub ?_ | refine Sx.r_sl ?_ | refine Sx.r_noPart ?_ | refine Sx.r_part ?_ | refine Sx.r_un ?_ | refine Sx.r_par ?_ | refine Sx.r_par3 ?_ | refine Sx.r_two ?_ | refine Sx.r_three ?_
  | refine Sx.r_isi_int_bool ?_ | refine Sx.r_isi_int_int ?_ | refine Sx.r_isi_str_str ?_
  | refine Sx.iteT' ?_ | refine Sx.iteF' ?_ | refine Sx.iteNT ?_ | refine Sx.iteNF ?_
  | refine Sx.r_for1 ?_ | refine Sx.r_for2 ?_ | refine Sx.r_forL ?_ | refine Sx.r_forT ?_ | refine Sx.r_forS ?_ | refine Sx.r_lc1 ?_ | refine Sx.r_lc2 ?_ | refine Sx.r_lcL ?_ | refine Sx.r_lcT ?_ | refine Sx.r_lcS ?_ | refine Sx.r_yes ?_ | refine Sx.r_seqS ?_
  | refine Sx.r_int1 ?_ | refine Sx.r_intB ?_ | refine Sx.r_abs ?_ | refine Sx.r_max ?_ | refine Sx.r_min ?_ | refine Sx.r_lenS ?_ ?_ | refine Sx.r_strI ?_ ?_ | refine Sx.r_strS ?_ | refine Sx.r_addS ?_ ?_ | refine Sx.r_ltS ?_ | refine Sx.r_cntS ?_ | refine Sx.r_findS ?_ | refine Sx.r_find3 ?_ | refine ⟨Sx.tyS, ?_⟩
  | refine Sy.r_lcN ?_ | refine Sy.r_forN ?_ | refine Sy.r_lcE ?_ | refine Sy.r_forE ?_ | refine Sy.r_mulS ?_ ?_ ?_ | refine Sy.r_listS ?_ ?_ | refine Mw.r_slS ?_ ?_
  | refine Rt.r_revT ?_ | refine Mj.r_din ?_ | refine Mj.r_dnotin ?_ | refine Mj.r_dget ?_ | refine Mj.r_dnew ?_ | refine Mj.r_dput ?_ | refine Mj.r_makeL ?_ | refine Mj.r_makeD ?_ | refine Px.r_tpropX ?_ | refine Mj.r_cmeth ?_ | refine Mj.r_dcT ?_ | refine Mj.r_lock ?_ | refine Mj.r_lcK ?_
  | refine Sx.r_gcons ?_ | refine Sx.r_gnil ?_
  | refine Sx.r_gcd ?_ | refine Sx.r_break ?_ | refine Sx.r_cont ?_)
local macro_rules | `(tactic| walk_at "sx") => `(tactic| (repeat walk_at "sx1"))
local macro_rules | `(tactic| walk_at "sd") => `(tactic| first | omega | assumption | decide | (exact Sx.cmA_l (by omega)) | (exact Sx.cmA_r (by omega)) | (exact ⟨by decide, by decide⟩) | (exact ⟨by decide, by decide, by decide⟩) | (exact Sx.cdivw (b := 64) (by omega) (by omega) (by decide)) | (exact Sx.cmA_w (Sx.cmulw (a := 64) (b := 64) (by omega) (by omega) (by decide))))
local macro_rules | `(tactic| walk_at "sxi") => `(tactic| (walk_at "sx"; refine Sx.r_ifs ?_; walk_at "sx"))

namespace Lw
open PySem PySem.Spec PyProof.Rows L2 Sx Sy Sw Mw Me
open En (NoNum)
open SX (S)
open C8 (pe_gc)
open SkE (call_repr_int call_str_str)
open RZ (pi_zipA)
def top (i : Nat) : Stmt := PySem.Challenge.pw_slantways_k04_whole_ways_by_number.main.body.getD i (.Pass ⟨0, 0, 0, 0⟩)
abbrev st_InvalidNumber_init : Stmt := inClass (top 9) 0
abbrev N_InvalidNumber_init : List Str := ["self", "value"]
theorem sc_InvalidNumber_init : FnScope N_InvalidNumber_init ["self", "value"] (defScope st_InvalidNumber_init) := ⟨rfl, rfl, rfl, by decide +kernel, rfl, by decide +kernel, by decide +kernel⟩
abbrev st_is_number : Stmt := top 12
abbrev N_is_number : List Str := ["value"]
theorem sc_is_number : FnScope N_is_number ["value"] (defScope st_is_number) := ⟨rfl, rfl, rfl, by decide +kernel, rfl, by decide +kernel, by decide +kernel⟩
abbrev st_is_whole_between : Stmt := top 13
abbrev N_is_whole_between : List Str := ["value", "least", "most"]
theorem sc_is_whole_between : FnScope N_is_whole_between ["value", "least", "most"] (defScope st_is_whole_between) := ⟨rfl, rfl, rfl, by decide +kernel, rfl, by decide +kernel, by decide +kernel⟩
abbrev st_Slope_init : Stmt := inClass (top 16) 0
abbrev N_Slope_init : List Str := ["self", "rises", "steps"]
theorem sc_Slope_init : FnScope N_Slope_init ["self", "rises", "steps"] (defScope st_Slope_init) := ⟨rfl, rfl, rfl, by decide +kernel, rfl, by decide +kernel, by decide +kernel⟩
abbrev st_Slope_rises : Stmt := inClass (top 16) 2
abbrev N_Slope_rises : List Str := ["self"]
theorem sc_Slope_rises : FnScope N_Slope_rises ["self"] (defScope st_Slope_rises) := ⟨rfl, rfl, rfl, by decide +kernel, rfl, by decide +kernel, by decide +kernel⟩
abbrev st_Slope_steps : Stmt := inClass (top 16) 3
abbrev N_Slope_steps : List Str := ["self"]
theorem sc_Slope_steps : FnScope N_Slope_steps ["self"] (defScope st_Slope_steps) := ⟨rfl, rfl, rfl, by decide +kernel, rfl, by decide +kernel, by decide +kernel⟩
abbrev st_Slope_common : Stmt := inClass (top 16) 4
abbrev N_Slope_common : List Str := ["self"]
theorem sc_Slope_common : FnScope N_Slope_common ["self"] (defScope st_Slope_common) := ⟨rfl, rfl, rfl, by decide +kernel, rfl, by decide +kernel, by decide +kernel⟩
abbrev st_Slope_eq : Stmt := inClass (top 16) 8
abbrev N_Slope_eq : List Str := ["self", "other"]
theorem sc_Slope_eq : FnScope N_Slope_eq ["self", "other"] (defScope st_Slope_eq) := ⟨rfl, rfl, rfl, by decide +kernel, rfl, by decide +kernel, by decide +kernel⟩
abbrev st_Way_init : Stmt := inClass (top 17) 0
abbrev N_Way_init : List Str := ["self", "slope", "text", "run"]
theorem sc_Way_init : FnScope N_Way_init ["self", "slope", "text"] (defScope st_Way_init) := ⟨rfl, rfl, rfl, by decide +kernel, rfl, by decide +kernel, by decide +kernel⟩
abbrev st_Way_slope : Stmt := inClass (top 17) 1
abbrev N_Way_slope : List Str := ["self"]
theorem sc_Way_slope : FnScope N_Way_slope ["self"] (defScope st_Way_slope) := ⟨rfl, rfl, rfl, by decide +kernel, rfl, by decide +kernel, by decide +kernel⟩
abbrev st_Way_text : Stmt := inClass (top 17) 2
abbrev N_Way_text : List Str := ["self"]
theorem sc_Way_text : FnScope N_Way_text ["self"] (defScope st_Way_text) := ⟨rfl, rfl, rfl, by decide +kernel, rfl, by decide +kernel, by decide +kernel⟩
abbrev st_Way_levels : Stmt := inClass (top 17) 3
abbrev N_Way_levels : List Str := ["self"]
theorem sc_Way_levels : FnScope N_Way_levels ["self"] (defScope st_Way_levels) := ⟨rfl, rfl, rfl, by decide +kernel, rfl, by decide +kernel, by decide +kernel⟩
abbrev st_Way_lt : Stmt := inClass (top 17) 8
abbrev N_Way_lt : List Str := ["self", "other"]
theorem sc_Way_lt : FnScope N_Way_lt ["self", "other"] (defScope st_Way_lt) := ⟨rfl, rfl, rfl, by decide +kernel, rfl, by decide +kernel, by decide +kernel⟩
abbrev st_Way_eq : Stmt := inClass (top 17) 9
abbrev N_Way_eq : List Str := ["self", "other"]
theorem sc_Way_eq : FnScope N_Way_eq ["self", "other"] (defScope st_Way_eq) := ⟨rfl, rfl, rfl, by decide +kernel, rfl, by decide +kernel, by decide +kernel⟩
abbrev st_check_slope : Stmt := top 18
abbrev N_check_slope : List Str := ["slope"]
theorem sc_check_slope : FnScope N_check_slope ["slope"] (defScope st_check_slope) := ⟨rfl, rfl, rfl, by decide +kernel, rfl, by decide +kernel, by decide +kernel⟩
abbrev st_check_way : Stmt := top 19
abbrev N_check_way : List Str := ["way"]
theorem sc_check_way : FnScope N_check_way ["way"] (defScope st_check_way) := ⟨rfl, rfl, rfl, by decide +kernel, rfl, by decide +kernel, by decide +kernel⟩
abbrev st_letter_levels : Stmt := top 20
abbrev N_letter_levels : List Str := ["slope", "text", "rises", "steps", "level", "levels", "letter"]
theorem sc_letter_levels : FnScope N_letter_levels ["slope", "text"] (defScope st_letter_levels) := ⟨rfl, rfl, rfl, by decide +kernel, rfl, by decide +kernel, by decide +kernel⟩
abbrev st_is_word : Stmt := top 21
abbrev N_is_word : List Str := ["slope", "value"]
theorem sc_is_word : FnScope N_is_word ["slope", "value"] (defScope st_is_word) := ⟨rfl, rfl, rfl, by decide +kernel, rfl, by decide +kernel, by decide +kernel⟩
abbrev st_is_way : Stmt := top 22
abbrev N_is_way : List Str := ["slope", "value", "level"]
theorem sc_is_way : FnScope N_is_way ["slope", "value"] (defScope st_is_way) := ⟨rfl, rfl, rfl, by decide +kernel, rfl, by decide +kernel, by decide +kernel⟩
abbrev st_way_count : Stmt := top 23
abbrev N_way_count : List Str := ["slope", "rises", "letters", "counts", "size", "total", "part"]
theorem sc_way_count : FnScope N_way_count ["slope"] (defScope st_way_count) := ⟨rfl, rfl, rfl, by decide +kernel, rfl, by decide +kernel, by decide +kernel⟩
abbrev st_completions : Stmt := top 24
abbrev N_completions : List Str := ["slope", "rises", "steps", "table", "up", "along", "_"]
theorem sc_completions : FnScope N_completions ["slope"] (defScope st_completions) := ⟨rfl, rfl, rfl, by decide +kernel, rfl, by decide +kernel, by decide +kernel⟩
abbrev st_way_at : Stmt := top 25
abbrev N_way_at : List Str := ["slope", "index", "table", "left", "up", "along", "letters", "with_rise"]
theorem sc_way_at : FnScope N_way_at ["slope", "index"] (defScope st_way_at) := ⟨rfl, rfl, rfl, by decide +kernel, rfl, by decide +kernel, by decide +kernel⟩
abbrev st_way_index : Stmt := top 26
abbrev N_way_index : List Str := ["way", "table", "index", "up", "along", "letter"]
theorem sc_way_index : FnScope N_way_index ["way"] (defScope st_way_index) := ⟨rfl, rfl, rfl, by decide +kernel, rfl, by decide +kernel, by decide +kernel⟩
abbrev st_highest : Stmt := top 27
abbrev N_highest : List Str := ["slope"]
theorem sc_highest : FnScope N_highest ["slope"] (defScope st_highest) := ⟨rfl, rfl, rfl, by decide +kernel, rfl, by decide +kernel, by decide +kernel⟩
abbrev st_lowest : Stmt := top 28
abbrev N_lowest : List Str := ["slope", "level", "letters"]
theorem sc_lowest : FnScope N_lowest ["slope"] (defScope st_lowest) := ⟨rfl, rfl, rfl, by decide +kernel, rfl, by decide +kernel, by decide +kernel⟩
abbrev st_law_dice : Stmt := top 30
abbrev N_law_dice : List Str := ["_law_script", "_law_spot", "_law_cell", "_law_left"]
theorem sc_law_dice : FnScope N_law_dice ["_law_script", "_law_spot"] (defScope st_law_dice) := ⟨rfl, rfl, rfl, by decide +kernel, rfl, by decide +kernel, by decide +kernel⟩
abbrev st_law_roll : Stmt := top 31
abbrev N_law_roll : List Str := ["_law_dice_here", "_law_total", "_law_found", "_law_one", "_law_two"]
theorem sc_law_roll : FnScope N_law_roll ["_law_dice_here", "_law_total"] (defScope st_law_roll) := ⟨rfl, rfl, rfl, by decide +kernel, rfl, by decide +kernel, by decide +kernel⟩
abbrev st_law_pick : Stmt := top 32
abbrev N_law_pick : List Str := ["_law_dice_here", "_law_items"]
theorem sc_law_pick : FnScope N_law_pick ["_law_dice_here", "_law_items"] (defScope st_law_pick) := ⟨rfl, rfl, rfl, by decide +kernel, rfl, by decide +kernel, by decide +kernel⟩
abbrev st_law_way : Stmt := top 33
abbrev N_law_way : List Str := ["_law_dice_here", "_law_rises", "_law_steps", "_law_found", "_law_level", "_law_left", "_law_more", "_law_turn"]
theorem sc_law_way : FnScope N_law_way ["_law_dice_here", "_law_rises", "_law_steps"] (defScope st_law_way) := ⟨rfl, rfl, rfl, by decide +kernel, rfl, by decide +kernel, by decide +kernel⟩
abbrev st_law_any_slope : Stmt := top 34
abbrev N_law_any_slope : List Str := ["_law_dice_here", "_law_most"]
theorem sc_law_any_slope : FnScope N_law_any_slope ["_law_dice_here", "_law_most"] (defScope st_law_any_slope) := ⟨rfl, rfl, rfl, by decide +kernel, rfl, by decide +kernel, by decide +kernel⟩
abbrev st_law_ends : Stmt := top 35
abbrev N_law_ends : List Str := ["_law_rises", "_law_steps", "_law_found", "_law_left", "_law_row", "_law_more", "_law_number"]
theorem sc_law_ends : FnScope N_law_ends ["_law_rises", "_law_steps"] (defScope st_law_ends) := ⟨rfl, rfl, rfl, by decide +kernel, rfl, by decide +kernel, by decide +kernel⟩
abbrev st_law_first_fault : Stmt := top 36
abbrev N_law_first_fault : List Str := ["_law_call", "e"]
theorem sc_law_first_fault : FnScope N_law_first_fault ["_law_call"] (defScope st_law_first_fault) := ⟨rfl, rfl, rfl, by decide +kernel, rfl, by decide +kernel, by decide +kernel⟩
abbrev st_law_index : Stmt := top 37
abbrev N_law_index : List Str := ["_law_ends_here", "_law_rises", "_law_steps", "_law_text", "_law_left", "_law_more", "_law_found", "_law_sign"]
theorem sc_law_index : FnScope N_law_index ["_law_ends_here", "_law_rises", "_law_steps", "_law_text"] (defScope st_law_index) := ⟨rfl, rfl, rfl, by decide +kernel, rfl, by decide +kernel, by decide +kernel⟩
abbrev st_law_right : Stmt := top 38
abbrev N_law_right : List Str := ["_law_dice_here", "_law_pair", "_law_rises", "_law_steps", "_law_ends_here", "_law_text", "_law_total", "_law_way_here", "_law_index_here", "_law_at", "_law_one", "_law_slope", "_law_wrong"]
theorem sc_law_right : FnScope N_law_right ["_law_dice_here"] (defScope st_law_right) := ⟨rfl, rfl, rfl, by decide +kernel, rfl, by decide +kernel, by decide +kernel⟩
abbrev st_law : Stmt := top 39
abbrev N_law : List Str := ["_law_script", "_law_spot", "_law_dice_here", "_law_turn"]
theorem sc_law : FnScope N_law ["_law_script"] (defScope st_law) := ⟨rfl, rfl, rfl, by decide +kernel, rfl, by decide +kernel, by decide +kernel⟩
structure Tx (K : PySem.W.Frag) (mg : Str → Option Value) where
  C_Slope : Addr
  C_Way : Addr
  C_InvalidNumber : Addr
  C_InvalidOperation : Addr
  C_InvalidSlope : Addr
  C_InvalidText : Addr
  C_InvalidWay : Addr
  C_ParseError : Addr
  C_Refused : Addr
  a_InvalidNumber_init : Addr
  d_InvalidNumber_init : FuncData
  F_InvalidNumber_init : Fun K "__init__" "InvalidNumber.__init__" st_InvalidNumber_init a_InvalidNumber_init d_InvalidNumber_init
  b_InvalidNumber_init : Binds K d_InvalidNumber_init ["self", "value"] []
  a_is_number : Addr
  d_is_number : FuncData
  F_is_number : Fun K "is_number" "is_number" st_is_number a_is_number d_is_number
  b_is_number : Binds K d_is_number ["value"] []
  g_is_number : mg "is_number" = some (.ref a_is_number)
  a_is_whole_between : Addr
  d_is_whole_between : FuncData
  F_is_whole_between : Fun K "is_whole_between" "is_whole_between" st_is_whole_between a_is_whole_between d_is_whole_between
  b_is_whole_between : Binds K d_is_whole_between ["value", "least", "most"] []
  g_is_whole_between : mg "is_whole_between" = some (.ref a_is_whole_between)
  a_Slope_init : Addr
  d_Slope_init : FuncData
  F_Slope_init : Fun K "__init__" "Slope.__init__" st_Slope_init a_Slope_init d_Slope_init
  b_Slope_init : Binds K d_Slope_init ["self", "rises", "steps"] []
  a_Slope_rises : Addr
  d_Slope_rises : FuncData
  F_Slope_rises : Fun K "rises" "Slope.rises" st_Slope_rises a_Slope_rises d_Slope_rises
  b_Slope_rises : Binds K d_Slope_rises ["self"] []
  a_Slope_steps : Addr
  d_Slope_steps : FuncData
  F_Slope_steps : Fun K "steps" "Slope.steps" st_Slope_steps a_Slope_steps d_Slope_steps
  b_Slope_steps : Binds K d_Slope_steps ["self"] []
  a_Slope_common : Addr
  d_Slope_common : FuncData
  F_Slope_common : Fun K "common" "Slope.common" st_Slope_common a_Slope_common d_Slope_common
  b_Slope_common : Binds K d_Slope_common ["self"] []
  a_Slope_eq : Addr
  d_Slope_eq : FuncData
  F_Slope_eq : Fun K "__eq__" "Slope.__eq__" st_Slope_eq a_Slope_eq d_Slope_eq
  b_Slope_eq : Binds K d_Slope_eq ["self", "other"] []
  a_Way_init : Addr
  d_Way_init : FuncData
  F_Way_init : Fun K "__init__" "Way.__init__" st_Way_init a_Way_init d_Way_init
  b_Way_init : Binds K d_Way_init ["self", "slope", "text"] []
  a_Way_slope : Addr
  d_Way_slope : FuncData
  F_Way_slope : Fun K "slope" "Way.slope" st_Way_slope a_Way_slope d_Way_slope
  b_Way_slope : Binds K d_Way_slope ["self"] []
  a_Way_text : Addr
  d_Way_text : FuncData
  F_Way_text : Fun K "text" "Way.text" st_Way_text a_Way_text d_Way_text
  b_Way_text : Binds K d_Way_text ["self"] []
  a_Way_levels : Addr
  d_Way_levels : FuncData
  F_Way_levels : Fun K "levels" "Way.levels" st_Way_levels a_Way_levels d_Way_levels
  b_Way_levels : Binds K d_Way_levels ["self"] []
  a_Way_lt : Addr
  d_Way_lt : FuncData
  F_Way_lt : Fun K "__lt__" "Way.__lt__" st_Way_lt a_Way_lt d_Way_lt
  b_Way_lt : Binds K d_Way_lt ["self", "other"] []
  a_Way_eq : Addr
  d_Way_eq : FuncData
  F_Way_eq : Fun K "__eq__" "Way.__eq__" st_Way_eq a_Way_eq d_Way_eq
  b_Way_eq : Binds K d_Way_eq ["self", "other"] []
  a_check_slope : Addr
  d_check_slope : FuncData
  F_check_slope : Fun K "check_slope" "check_slope" st_check_slope a_check_slope d_check_slope
  b_check_slope : Binds K d_check_slope ["slope"] []
  g_check_slope : mg "check_slope" = some (.ref a_check_slope)
  a_check_way : Addr
  d_check_way : FuncData
  F_check_way : Fun K "check_way" "check_way" st_check_way a_check_way d_check_way
  b_check_way : Binds K d_check_way ["way"] []
  g_check_way : mg "check_way" = some (.ref a_check_way)
  a_letter_levels : Addr
  d_letter_levels : FuncData
  F_letter_levels : Fun K "letter_levels" "letter_levels" st_letter_levels a_letter_levels d_letter_levels
  b_letter_levels : Binds K d_letter_levels ["slope", "text"] []
  g_letter_levels : mg "letter_levels" = some (.ref a_letter_levels)
  a_is_word : Addr
  d_is_word : FuncData
  F_is_word : Fun K "is_word" "is_word" st_is_word a_is_word d_is_word
  b_is_word : Binds K d_is_word ["slope", "value"] []
  g_is_word : mg "is_word" = some (.ref a_is_word)
  a_is_way : Addr
  d_is_way : FuncData
  F_is_way : Fun K "is_way" "is_way" st_is_way a_is_way d_is_way
  b_is_way : Binds K d_is_way ["slope", "value"] []
  g_is_way : mg "is_way" = some (.ref a_is_way)
  a_way_count : Addr
  d_way_count : FuncData
  F_way_count : Fun K "way_count" "way_count" st_way_count a_way_count d_way_count
  b_way_count : Binds K d_way_count ["slope"] []
  g_way_count : mg "way_count" = some (.ref a_way_count)
  a_completions : Addr
  d_completions : FuncData
  F_completions : Fun K "completions" "completions" st_completions a_completions d_completions
  b_completions : Binds K d_completions ["slope"] []
  g_completions : mg "completions" = some (.ref a_completions)
  a_way_at : Addr
  d_way_at : FuncData
  F_way_at : Fun K "way_at" "way_at" st_way_at a_way_at d_way_at
  b_way_at : Binds K d_way_at ["slope", "index"] []
  g_way_at : mg "way_at" = some (.ref a_way_at)
  a_way_index : Addr
  d_way_index : FuncData
  F_way_index : Fun K "way_index" "way_index" st_way_index a_way_index d_way_index
  b_way_index : Binds K d_way_index ["way"] []
  g_way_index : mg "way_index" = some (.ref a_way_index)
  a_highest : Addr
  d_highest : FuncData
  F_highest : Fun K "highest" "highest" st_highest a_highest d_highest
  b_highest : Binds K d_highest ["slope"] []
  g_highest : mg "highest" = some (.ref a_highest)
  a_lowest : Addr
  d_lowest : FuncData
  F_lowest : Fun K "lowest" "lowest" st_lowest a_lowest d_lowest
  b_lowest : Binds K d_lowest ["slope"] []
  g_lowest : mg "lowest" = some (.ref a_lowest)
  a_law_dice : Addr
  d_law_dice : FuncData
  F_law_dice : Fun K "_law_dice" "_law_dice" st_law_dice a_law_dice d_law_dice
  b_law_dice : Binds K d_law_dice ["_law_script", "_law_spot"] []
  g_law_dice : mg "_law_dice" = some (.ref a_law_dice)
  a_law_roll : Addr
  d_law_roll : FuncData
  F_law_roll : Fun K "_law_roll" "_law_roll" st_law_roll a_law_roll d_law_roll
  b_law_roll : Binds K d_law_roll ["_law_dice_here", "_law_total"] []
  g_law_roll : mg "_law_roll" = some (.ref a_law_roll)
  a_law_pick : Addr
  d_law_pick : FuncData
  F_law_pick : Fun K "_law_pick" "_law_pick" st_law_pick a_law_pick d_law_pick
  b_law_pick : Binds K d_law_pick ["_law_dice_here", "_law_items"] []
  g_law_pick : mg "_law_pick" = some (.ref a_law_pick)
  a_law_way : Addr
  d_law_way : FuncData
  F_law_way : Fun K "_law_way" "_law_way" st_law_way a_law_way d_law_way
  b_law_way : Binds K d_law_way ["_law_dice_here", "_law_rises", "_law_steps"] []
  g_law_way : mg "_law_way" = some (.ref a_law_way)
  a_law_any_slope : Addr
  d_law_any_slope : FuncData
  F_law_any_slope : Fun K "_law_any_slope" "_law_any_slope" st_law_any_slope a_law_any_slope d_law_any_slope
  b_law_any_slope : Binds K d_law_any_slope ["_law_dice_here", "_law_most"] []
  g_law_any_slope : mg "_law_any_slope" = some (.ref a_law_any_slope)
  a_law_ends : Addr
  d_law_ends : FuncData
  F_law_ends : Fun K "_law_ends" "_law_ends" st_law_ends a_law_ends d_law_ends
  b_law_ends : Binds K d_law_ends ["_law_rises", "_law_steps"] []
  g_law_ends : mg "_law_ends" = some (.ref a_law_ends)
  a_law_first_fault : Addr
  d_law_first_fault : FuncData
  F_law_first_fault : Fun K "_law_first_fault" "_law_first_fault" st_law_first_fault a_law_first_fault d_law_first_fault
  b_law_first_fault : Binds K d_law_first_fault ["_law_call"] []
  g_law_first_fault : mg "_law_first_fault" = some (.ref a_law_first_fault)
  a_law_index : Addr
  d_law_index : FuncData
  F_law_index : Fun K "_law_index" "_law_index" st_law_index a_law_index d_law_index
  b_law_index : Binds K d_law_index ["_law_ends_here", "_law_rises", "_law_steps", "_law_text"] []
  g_law_index : mg "_law_index" = some (.ref a_law_index)
  a_law_right : Addr
  d_law_right : FuncData
  F_law_right : Fun K "_law_right" "_law_right" st_law_right a_law_right d_law_right
  b_law_right : Binds K d_law_right ["_law_dice_here"] []
  g_law_right : mg "_law_right" = some (.ref a_law_right)
  a_law : Addr
  d_law : FuncData
  F_law : Fun K "law" "law" st_law a_law d_law
  b_law : Binds K d_law ["_law_script"] []
  g_law : mg "law" = some (.ref a_law)
  g_Slope : mg "Slope" = some (.ref C_Slope)
  cl_Slope : Cls K C_Slope
  na_Slope_rises : NoAttr K C_Slope "_rises"
  na_Slope_steps : NoAttr K C_Slope "_steps"
  na_Slope_common : NoAttr K C_Slope "_common"
  mk_Slope : Mk K C_Slope a_Slope_init
  me_Slope_eq : Meth K C_Slope "__eq__" a_Slope_eq
  p_Slope_rises : Addr
  pr_Slope_rises : PropOf K C_Slope "rises" p_Slope_rises a_Slope_rises
  p_Slope_steps : Addr
  pr_Slope_steps : PropOf K C_Slope "steps" p_Slope_steps a_Slope_steps
  p_Slope_common : Addr
  pr_Slope_common : PropOf K C_Slope "common" p_Slope_common a_Slope_common
  ic_Slope : PySem.W.findIn K (.ref C_Slope) "__class__" = some (some (.builtin "object.__class__"))
  mr_Slope : PySem.W.mroIn K C_Slope (.type "object") = some true
  ks_Slope : PySem.W.kitOne K (.ref C_Slope) (.ref C_Slope) = some true
  nn_Slope : PySem.W.findIn K (.ref C_Slope) "__ne__" = some (some (.builtin "object.__ne__"))
  g_Way : mg "Way" = some (.ref C_Way)
  cl_Way : Cls K C_Way
  na_Way_slope : NoAttr K C_Way "_slope"
  na_Way_text : NoAttr K C_Way "_text"
  na_Way_levels : NoAttr K C_Way "_levels"
  na_Way_runs : NoAttr K C_Way "_runs"
  na_Way_key : NoAttr K C_Way "_key"
  mk_Way : Mk K C_Way a_Way_init
  me_Way_lt : Meth K C_Way "__lt__" a_Way_lt
  me_Way_eq : Meth K C_Way "__eq__" a_Way_eq
  p_Way_slope : Addr
  pr_Way_slope : PropOf K C_Way "slope" p_Way_slope a_Way_slope
  p_Way_text : Addr
  pr_Way_text : PropOf K C_Way "text" p_Way_text a_Way_text
  p_Way_levels : Addr
  pr_Way_levels : PropOf K C_Way "levels" p_Way_levels a_Way_levels
  ic_Way : PySem.W.findIn K (.ref C_Way) "__class__" = some (some (.builtin "object.__class__"))
  mr_Way : PySem.W.mroIn K C_Way (.type "object") = some true
  ks_Way : PySem.W.kitOne K (.ref C_Way) (.ref C_Way) = some true
  nn_Way : PySem.W.findIn K (.ref C_Way) "__ne__" = some (some (.builtin "object.__ne__"))
  cg : PySem.W.specialIn K (.builtin "object.__class__") "__get__" = some (some (.builtin "getset_descriptor.__get__"))
  ct : PySem.W.takesIn K (.builtin "object.__class__") = some true
  g_InvalidNumber : mg "InvalidNumber" = some (.ref C_InvalidNumber)
  kp_InvalidNumber : PySem.W.keepIn K (.ref C_InvalidNumber) = true
  ex_InvalidNumber : PySem.W.subIn K (.ref C_InvalidNumber) (.type "BaseException") = some true
  ty_InvalidNumber : PySem.W.typeIn K (.ref C_InvalidNumber) = some (.type "type")
  is_InvalidNumber : PySem.W.isClsIn K C_InvalidNumber = true
  xf_InvalidNumber : XfC K C_InvalidNumber
  nf_InvalidNumber : PySem.W.findIn K (.ref C_InvalidNumber) "value" = some none
  ow_InvalidNumber : Er.Own K C_InvalidNumber a_InvalidNumber_init Er.bmIndexError "IndexError.__new__"
  g_InvalidOperation : mg "InvalidOperation" = some (.ref C_InvalidOperation)
  kp_InvalidOperation : PySem.W.keepIn K (.ref C_InvalidOperation) = true
  ex_InvalidOperation : PySem.W.subIn K (.ref C_InvalidOperation) (.type "BaseException") = some true
  ty_InvalidOperation : PySem.W.typeIn K (.ref C_InvalidOperation) = some (.type "type")
  is_InvalidOperation : PySem.W.isClsIn K C_InvalidOperation = true
  xi_InvalidOperation : PySem.W.excIn K C_InvalidOperation Er.bmValueError "ValueError.__new__" = true
  g_InvalidSlope : mg "InvalidSlope" = some (.ref C_InvalidSlope)
  kp_InvalidSlope : PySem.W.keepIn K (.ref C_InvalidSlope) = true
  ex_InvalidSlope : PySem.W.subIn K (.ref C_InvalidSlope) (.type "BaseException") = some true
  ty_InvalidSlope : PySem.W.typeIn K (.ref C_InvalidSlope) = some (.type "type")
  is_InvalidSlope : PySem.W.isClsIn K C_InvalidSlope = true
  xi_InvalidSlope : PySem.W.excIn K C_InvalidSlope Er.bmValueError "ValueError.__new__" = true
  g_InvalidText : mg "InvalidText" = some (.ref C_InvalidText)
  kp_InvalidText : PySem.W.keepIn K (.ref C_InvalidText) = true
  ex_InvalidText : PySem.W.subIn K (.ref C_InvalidText) (.type "BaseException") = some true
  ty_InvalidText : PySem.W.typeIn K (.ref C_InvalidText) = some (.type "type")
  is_InvalidText : PySem.W.isClsIn K C_InvalidText = true
  xi_InvalidText : PySem.W.excIn K C_InvalidText Er.bmValueError "ValueError.__new__" = true
  g_InvalidWay : mg "InvalidWay" = some (.ref C_InvalidWay)
  kp_InvalidWay : PySem.W.keepIn K (.ref C_InvalidWay) = true
  ex_InvalidWay : PySem.W.subIn K (.ref C_InvalidWay) (.type "BaseException") = some true
  ty_InvalidWay : PySem.W.typeIn K (.ref C_InvalidWay) = some (.type "type")
  is_InvalidWay : PySem.W.isClsIn K C_InvalidWay = true
  xi_InvalidWay : PySem.W.excIn K C_InvalidWay Er.bmValueError "ValueError.__new__" = true
  g_ParseError : mg "ParseError" = some (.ref C_ParseError)
  kp_ParseError : PySem.W.keepIn K (.ref C_ParseError) = true
  ex_ParseError : PySem.W.subIn K (.ref C_ParseError) (.type "BaseException") = some true
  ty_ParseError : PySem.W.typeIn K (.ref C_ParseError) = some (.type "type")
  is_ParseError : PySem.W.isClsIn K C_ParseError = true
  xf_ParseError : XfC K C_ParseError
  nf_ParseError : PySem.W.findIn K (.ref C_ParseError) "index" = some none
  g_Refused : mg "Refused" = some (.ref C_Refused)
  kp_Refused : PySem.W.keepIn K (.ref C_Refused) = true
  ex_Refused : PySem.W.subIn K (.ref C_Refused) (.type "BaseException") = some true
  ty_Refused : PySem.W.typeIn K (.ref C_Refused) = some (.type "type")
  is_Refused : PySem.W.isClsIn K C_Refused = true
  xf_Refused : XfC K C_Refused
  nf_Refused : PySem.W.findIn K (.ref C_Refused) "reason" = some none
  sb_InvalidNumber_InvalidNumber : PySem.W.subIn K (.ref C_InvalidNumber) (.ref C_InvalidNumber) = some true
  cc_law_right : Addr
  pp_law_right : Addr
  cq_law_right : d_law_right.code = .ref cc_law_right
  n_abs : mg "abs" = none
  n_any : mg "any" = none
  n_bool : mg "bool" = none
  n_int : mg "int" = none
  n_isinstance : mg "isinstance" = none
  n_len : mg "len" = none
  n_max : mg "max" = none
  n_min : mg "min" = none
  n_range : mg "range" = none
  n_repr : mg "repr" = none
  n_str : mg "str" = none
  n_tuple : mg "tuple" = none
  i_comb : mg "comb" = some (.builtin "math.comb")
  i_gcd : mg "gcd" = some (.builtin "math.gcd")
  c_MAX_SIDE : ∃ u, mg "MAX_SIDE" = some u ∧ RelV (.int 60) u
section
variable {P : Program} {w : World} {K : PySem.W.Frag} {mg : Str → Option Value} {base : Heap}
/-! ### the error that keeps a number -/
theorem ok_InvalidNumber_init (T : Tx K mg) : FnOk P w K mg base CX0 1 T.a_InvalidNumber_init T.d_InvalidNumber_init ["self", "value"] (Er.spInit T.C_InvalidNumber "value") := by
  refine T.F_InvalidNumber_init.ok sc_InvalidNumber_init (fun vs H Q E h => ?_) (fun cdv A outer s H vs Q E hr h => ?_)
  · obtain ⟨a, v, rfl, _⟩ := h; rfl
  · obtain ⟨a, v, rfl, ha, q⟩ := h
    refine ⟨_, (pss_one (Er.ps_self T.ow_InvalidNumber PySem.F.store_IndexError T.nf_InvalidNumber (pv 0) (pv 1))), ?_⟩
    refine Sx.r_st (σ' := [some (.ref a), some (v)]) rfl ?_
    walk_at "sx"
    refine Er.r_self (a := a) ?_
    walk_at "sx"
    exact ⟨a, rfl, ha, q⟩
/-! ### is_number, is_whole_between -/
def sp_is_number (K : PySem.W.Frag) : Sp := fun vs H Q _ => (∃ i : Int, vs = [.int i] ∧ Q (.bl true) H) ∨ ∃ v, vs = [v] ∧ NoNum K H v ∧ Q (.bl false) H
theorem ok_is_number (T : Tx K mg) : FnOk P w K mg base CX0 1 T.a_is_number T.d_is_number ["value"] (sp_is_number K) := by
  refine T.F_is_number.ok sc_is_number (fun vs H Q E h => ?_) (fun cdv A outer s H vs Q E hr h => ?_)
  · obtain ⟨i, rfl, _⟩ | ⟨v, rfl, _⟩ := h <;> rfl
  · refine ⟨_, (pss_one (ps_ret (pe_and (pe_callB call_isi (by rfl) T.n_isinstance Sx.bt_isinstance (pa_cons (pv 0) (pa_cons (pe_bltn (v := .ty "int") (by rfl) T.n_int Sx.bt_int rfl) pa_nil))) (pe_one (pe_not (pe_callB call_isi (by rfl) T.n_isinstance Sx.bt_isinstance (pa_cons (pv 0) (pa_cons (pe_bltn (v := .ty "bool") (by rfl) T.n_bool Sx.bt_bool rfl) pa_nil)))))))), ?_⟩
    obtain ⟨i, rfl, q⟩ | ⟨v, rfl, ⟨t, b1, b2, ht, h1, h2, h3⟩, q⟩ := h
    · refine Sx.r_st (σ' := [some (.int i)]) rfl ?_
      walk_at "sx"
      exact q
    · refine Sx.r_st (σ' := [some (v)]) rfl ?_
      walk_at "sx"
      refine ⟨v, .ty "int", t, .type "int", b1, rfl, .ty _, ht, h1, ?_⟩
      cases b1 with
      | false => walk_at "sx"; exact q
      | true =>
        have e2 : b2 = true := by simpa using h3
        subst e2
        walk_at "sx"
        refine ⟨v, .ty "bool", t, .type "bool", true, rfl, .ty _, ht, h2, ?_⟩
        walk_at "sx"
        exact q
def sp_is_whole_between (K : PySem.W.Frag) : Sp := fun vs H Q _ => (∃ v a b : Int, vs = [.int v, .int a, .int b] ∧ Q (.bl (decide (a ≤ v ∧ v ≤ b))) H) ∨ ∃ v, ∃ a b : Int, vs = [v, .int a, .int b] ∧ NoNum K H v ∧ Q (.bl false) H
theorem ok_is_whole_between (T : Tx K mg) : FnOk P w K mg base CX0 2 T.a_is_whole_between T.d_is_whole_between ["value", "least", "most"] (sp_is_whole_between K) := by
  refine T.F_is_whole_between.ok sc_is_whole_between (fun vs H Q E h => ?_) (fun cdv A outer s H vs Q E hr h => ?_)
  · obtain ⟨v, a, b, rfl, _⟩ | ⟨v, a, b, rfl, _⟩ := h <;> rfl
  · refine ⟨_, (pss_one (ps_ret (pe_and (pe_call (ok_is_number T) (hr.mono (by decide)) (by rfl) T.g_is_number T.F_is_number.kp T.b_is_number .nil pass0 (pa_cons (pv 0) pa_nil)) (pe_one (pe_chain op_le op_le (pv 1) (pv 0) (pv 2)))))), ?_⟩
    obtain ⟨v, a, b, rfl, q⟩ | ⟨v, a, b, rfl, hn, q⟩ := h
    · refine Sx.r_st (σ' := [some (.int v), some (.int a), some (.int b)]) rfl ?_
      walk_at "sx"
      refine .inl ⟨v, rfl, ?_⟩
      walk_at "sx"
      refine ite_d (fun h1 => ?_) (fun h1 => ?_)
      · walk_at "sx"
        have e : decide (a ≤ v ∧ v ≤ b) = decide (v ≤ b) := by simp [h1]
        rw [← e]; exact q
      · have e : decide (a ≤ v ∧ v ≤ b) = false := by simp [h1]
        rw [← e]; exact q
    · refine Sx.r_st (σ' := [some (v), some (.int a), some (.int b)]) rfl ?_
      walk_at "sx"
      refine .inr ⟨v, rfl, hn, ?_⟩
      walk_at "sx"
      exact q
/-! ### Slope -/
def slF (a b : Int) : List (Str × V) := putF "_common" (.int ((Nat.gcd a.natAbs b.natAbs : Nat) : Int)) (putF "_steps" (.int b) (putF "_rises" (.int a) []))
theorem slF_r (a b : Int) : (slF a b).lookup ("_rises" : Str) = some (.int a) := by
  unfold slF; rw [lookup_putF, if_neg (by decide +kernel), lookup_putF, if_neg (by decide +kernel), lookup_putF, if_pos rfl]
theorem slF_s (a b : Int) : (slF a b).lookup ("_steps" : Str) = some (.int b) := by
  unfold slF; rw [lookup_putF, if_neg (by decide +kernel), lookup_putF, if_pos rfl]
theorem slF_c (a b : Int) : (slF a b).lookup ("_common" : Str) = some (.int ((Nat.gcd a.natAbs b.natAbs : Nat) : Int)) := by
  unfold slF; rw [lookup_putF, if_pos rfl]
/-- v is the slope a:b -/
def SlopeAt (C : Addr) (H : Hp) (v : V) (a b : Int) : Prop := (1 ≤ a ∧ a ≤ 60 ∧ 1 ≤ b ∧ b ≤ 60) ∧ ∃ p dx, v = .ref p ∧ H p = some (.ins C dx (slF a b))
theorem SlopeAt.mono {C : Addr} {H H' : Hp} {v : V} {a b : Int} (h : SlopeAt C H v a b) (s : Same H H') : SlopeAt C H' v a b := by
  obtain ⟨h1, p, dx, h2, h3⟩ := h; exact ⟨h1, p, dx, h2, s _ _ h3⟩
theorem SlopeAt.kp {C : Addr} {H H' : Hp} {v : V} {a b : Int} {d : Addr} (h : SlopeAt C H v a b) (s : Kp d H H') : SlopeAt C H' v a b := by
  obtain ⟨h1, p, dx, h2, h3⟩ := h; exact ⟨h1, p, dx, h2, s.ins h3⟩
def sp_Slope_init (C : Addr) : Sp := fun vs H Q _ => ∃ p dx, ∃ a b : Int, vs = [.ref p, .int a, .int b] ∧ (1 ≤ a ∧ a ≤ 60 ∧ 1 ≤ b ∧ b ≤ 60) ∧ H p = some (.ins C dx []) ∧ Q .non (upd (upd (upd H p (.ins C dx (putF "_rises" (.int a) []))) p (.ins C dx (putF "_steps" (.int b) (putF "_rises" (.int a) [])))) p (.ins C dx (slF a b)))
theorem ok_Slope_init (T : Tx K mg) : FnOk P w K mg base CX0 3 T.a_Slope_init T.d_Slope_init ["self", "rises", "steps"] (sp_Slope_init T.C_Slope) := by
  refine T.F_Slope_init.ok sc_Slope_init (fun vs H Q E h => ?_) (fun cdv A outer s H vs Q E hr h => ?_)
  · obtain ⟨p, dx, a, b, rfl, _⟩ := h; rfl
  · obtain ⟨p, dx, a, b, rfl, ⟨a1, a2, b1, b2⟩, hp, q⟩ := h
    refine ⟨_, (pss_cons (ps_if (pt_not (pt_val (pe_call (ok_is_whole_between T) (hr.mono (by decide)) (by rfl) T.g_is_whole_between T.F_is_whole_between.kp T.b_is_whole_between .nil pass0 (pa_cons (pv 1) (pa_cons pe_int (pa_cons (pe_gc (by rfl) T.c_MAX_SIDE) pa_nil)))))) pss_never pss_nil)
      (pss_cons (ps_if (pt_not (pt_val (pe_call (ok_is_whole_between T) (hr.mono (by decide)) (by rfl) T.g_is_whole_between T.F_is_whole_between.kp T.b_is_whole_between .nil pass0 (pa_cons (pv 2) (pa_cons pe_int (pa_cons (pe_gc (by rfl) T.c_MAX_SIDE) pa_nil)))))) pss_never pss_nil)
      (pss_cons (ps_fld (pv 0) (pv 1) rfl)
      (pss_cons (ps_fld (pv 0) (pv 2) rfl)
      (pss_one (ps_fld (pv 0) (pe_callBfun cr_gcd (by rfl) T.i_gcd (pa_cons (pv 1) (pa_cons (pv 2) pa_nil))) rfl)))))), ?_⟩
    refine Sx.r_st (σ' := [some (.ref p), some (.int a), some (.int b)]) rfl ?_
    walk_at "sxi"
    refine .inl ⟨a, 1, 60, rfl, ?_⟩
    walk_at "sx"
    rw [show decide (1 ≤ a ∧ a ≤ 60) = true by simp [a1, a2]]
    walk_at "sxi"
    refine .inl ⟨b, 1, 60, rfl, ?_⟩
    walk_at "sx"
    rw [show decide (1 ≤ b ∧ b ≤ 60) = true by simp [b1, b2]]
    walk_at "sx"

    refine r_insput hp T.cl_Slope T.na_Slope_rises (by decide) ?_
    walk_at "sx"
    refine r_insput upd_same T.cl_Slope T.na_Slope_steps len1 ?_
    walk_at "sx"
    exact ⟨p, _, dx, _, rfl, upd_same, T.cl_Slope, T.na_Slope_common, len2, q⟩
/-- a new slope -/
theorem mk_slope {C : Addr} {H : Hp} {Q : VK} {E : XK} {a b : Int} (h : 1 ≤ a ∧ a ≤ 60 ∧ 1 ≤ b ∧ b ≤ 60) (q : ∀ v H', Same H H' → SlopeAt C H' v a b → Q v H') :
    MakeP C (sp_Slope_init C) E [.int a, .int b] H Q := by
  intro x dx hx hdx hne
  refine ⟨x, dx, a, b, rfl, h, upd_same, rfl, q _ _ ?_ ⟨h, x, dx, rfl, upd_same⟩⟩
  intro c o e
  have n1 : c ≠ x := ne_of_none e hx
  have n2 : c ≠ dx := ne_of_none e hdx
  rw [upd_ne n1, upd_ne n1, upd_ne n1, upd_ne n1, upd_ne n2]; exact e
theorem ok_Slope_rises (T : Tx K mg) : FnOk P w K mg base CX0 1 T.a_Slope_rises T.d_Slope_rises ["self"] (getSp T.C_Slope "_rises") := by
  refine T.F_Slope_rises.ok sc_Slope_rises (fun vs H Q E h => ?_) (fun cdv A outer s H vs Q E hr h => ?_)
  · obtain ⟨a, dx, fs, v, rfl, _⟩ := h; rfl
  · obtain ⟨a, dx, fs, v, rfl, e, l, q⟩ := h
    refine ⟨_, (pss_one (ps_ret (pe_fld (pv 0) rfl))), ?_⟩
    refine Sx.r_st (σ' := [some (.ref a)]) rfl ?_
    walk_at "sx"
    exact ⟨a, _, dx, fs, v, rfl, e, T.cl_Slope, T.na_Slope_rises, l, q⟩
theorem ok_Slope_steps (T : Tx K mg) : FnOk P w K mg base CX0 1 T.a_Slope_steps T.d_Slope_steps ["self"] (getSp T.C_Slope "_steps") := by
  refine T.F_Slope_steps.ok sc_Slope_steps (fun vs H Q E h => ?_) (fun cdv A outer s H vs Q E hr h => ?_)
  · obtain ⟨a, dx, fs, v, rfl, _⟩ := h; rfl
  · obtain ⟨a, dx, fs, v, rfl, e, l, q⟩ := h
    refine ⟨_, (pss_one (ps_ret (pe_fld (pv 0) rfl))), ?_⟩
    refine Sx.r_st (σ' := [some (.ref a)]) rfl ?_
    walk_at "sx"
    exact ⟨a, _, dx, fs, v, rfl, e, T.cl_Slope, T.na_Slope_steps, l, q⟩
/-- a slope's numbers, read -/
theorem rd_r {C : Addr} {H : Hp} {v : V} {a b : Int} {Q : VK} {E : XK} (h : SlopeAt C H v a b) (q : Q (.int a) H) : ∃ p dx fs, v = .ref p ∧ H p = some (.ins C dx fs) ∧ getSp C "_rises" (.ref p :: []) H Q E := by
  obtain ⟨_, p, dx, rfl, e⟩ := h; exact ⟨p, dx, _, rfl, e, r_getSp e (slF_r a b) q⟩
theorem rd_s {C : Addr} {H : Hp} {v : V} {a b : Int} {Q : VK} {E : XK} (h : SlopeAt C H v a b) (q : Q (.int b) H) : ∃ p dx fs, v = .ref p ∧ H p = some (.ins C dx fs) ∧ getSp C "_steps" (.ref p :: []) H Q E := by
  obtain ⟨_, p, dx, rfl, e⟩ := h; exact ⟨p, dx, _, rfl, e, r_getSp e (slF_s a b) q⟩
theorem ok_Slope_common (T : Tx K mg) : FnOk P w K mg base CX0 1 T.a_Slope_common T.d_Slope_common ["self"] (getSp T.C_Slope "_common") := by
  refine T.F_Slope_common.ok sc_Slope_common (fun vs H Q E h => ?_) (fun cdv A outer s H vs Q E hr h => ?_)
  · obtain ⟨a, dx, fs, v, rfl, _⟩ := h; rfl
  · obtain ⟨a, dx, fs, v, rfl, e, l, q⟩ := h
    refine ⟨_, (pss_one (ps_ret (pe_fld (pv 0) rfl))), ?_⟩
    refine Sx.r_st (σ' := [some (.ref a)]) rfl ?_
    walk_at "sx"
    exact ⟨a, _, dx, fs, v, rfl, e, T.cl_Slope, T.na_Slope_common, l, q⟩
theorem rd_c {C : Addr} {H : Hp} {v : V} {a b : Int} {Q : VK} {E : XK} (h : SlopeAt C H v a b) (q : Q (.int ((Nat.gcd a.natAbs b.natAbs : Nat) : Int)) H) : ∃ p dx fs, v = .ref p ∧ H p = some (.ins C dx fs) ∧ getSp C "_common" (.ref p :: []) H Q E := by
  obtain ⟨_, p, dx, rfl, e⟩ := h; exact ⟨p, dx, _, rfl, e, r_getSp e (slF_c a b) q⟩
def sp_check_slope (C : Addr) : Sp := fun vs H Q _ => ∃ v, ∃ a b : Int, vs = [v] ∧ SlopeAt C H v a b ∧ Q .non H
theorem ok_check_slope (T : Tx K mg) : FnOk P w K mg base CX0 1 T.a_check_slope T.d_check_slope ["slope"] (sp_check_slope T.C_Slope) := by
  refine T.F_check_slope.ok sc_check_slope (fun vs H Q E h => ?_) (fun cdv A outer s H vs Q E hr h => ?_)
  · obtain ⟨v, a, b, rfl, _⟩ := h; rfl
  · obtain ⟨v, a, b, rfl, ⟨hb, p, dx, rfl, e⟩, q⟩ := h
    refine ⟨_, (pss_one (ps_if (pt_not (pt_val (pe_callB call_isi (by rfl) T.n_isinstance Sx.bt_isinstance (pa_cons (pv 0) (pa_cons (pe_glob (v := .ref T.C_Slope) (by rfl) T.g_Slope rfl) pa_nil))))) pss_never pss_nil)), ?_⟩
    refine Sx.r_st (σ' := [some (.ref p)]) rfl ?_
    walk_at "sxi"
    refine r_isi_own e T.cl_Slope T.ic_Slope T.cg T.ct T.mr_Slope T.ks_Slope ?_
    walk_at "sx"
    exact q
theorem slF_no {a b : Int} {m : Str} (h1 : m ≠ "_rises") (h2 : m ≠ "_steps") (h3 : m ≠ "_common") : (slF a b).lookup m = none := by
  unfold slF; rw [lookup_putF, if_neg h3, lookup_putF, if_neg h2, lookup_putF, if_neg h1]; rfl
theorem md_slope {C : Addr} {H : Hp} {v : V} {a b : Int} {m : Str} {Pr : Prop} (h : SlopeAt C H v a b) (h1 : m ≠ "_rises") (h2 : m ≠ "_steps") (h3 : m ≠ "_common") (hp : Pr) : ∃ p dx fs, v = .ref p ∧ H p = some (.ins C dx fs) ∧ fs.lookup m = none ∧ Pr := by
  obtain ⟨_, p, dx, rfl, e⟩ := h
  exact ⟨p, dx, _, rfl, e, slF_no h1 h2 h3, hp⟩
/-! ### the table of completions -/
def rowV (b : Nat) (f : Nat → Nat) : List V := (List.range (b + 2)).map fun l => V.int (f l : Nat)
theorem rowV_get {b l : Nat} {f : Nat → Nat} (h : l < b + 2) : (rowV b f)[l]? = some (V.int (f l : Nat)) := by
  unfold rowV; rw [List.getElem?_map, List.getElem?_range h]; rfl
theorem rowV_len {b : Nat} {f : Nat → Nat} : (rowV b f).length = b + 2 := by unfold rowV; simp
theorem rowV_set {b l x : Nat} {f : Nat → Nat} : (rowV b f).set l (V.int (x : Nat)) = rowV b fun k => if k = l then x else f k := by
  apply List.ext_getElem?
  intro i
  rw [List.getElem?_set]
  by_cases hi : i < b + 2
  · rw [rowV_get hi, rowV_get hi, rowV_len]
    by_cases e : l = i
    · subst e; rw [if_pos rfl, if_pos hi, if_pos rfl]
    · rw [if_neg e, if_neg (fun z => e z.symm)]
  · rw [List.getElem?_eq_none (by rw [rowV_len]; omega), List.getElem?_eq_none (by rw [rowV_len]; omega)]
    split
    · rw [rowV_len, if_neg (by omega)]
    · rfl
theorem rowV_congr {b : Nat} {f g : Nat → Nat} (h : ∀ l, l < b + 2 → f l = g l) : rowV b f = rowV b g := by
  unfold rowV
  apply List.map_congr_left
  intro l hl
  rw [h l (List.mem_range.mp hl)]
/-- at p a table of n rows with the numbers f -/
def Tab (H0 : Hp) (b n : Nat) (H : Hp) (p : Addr) (f : Nat → Nat → Nat) : Prop := ∃ ps : List Addr, ps.length = n ∧ ps.Nodup ∧ H p = some (.lst (ps.map V.ref)) ∧ ∀ u q, ps[u]? = some q → (q ≠ p ∧ H0 q = none) ∧ H q = some (.lst (rowV b (f u)))
theorem Tab.congr {H0 : Hp} {b n : Nat} {H : Hp} {p : Addr} {f g : Nat → Nat → Nat} (h : Tab H0 b n H p f) (e : ∀ u l, u < n → l < b + 2 → f u l = g u l) : Tab H0 b n H p g := by
  obtain ⟨ps, h1, h2, h3, h4⟩ := h
  refine ⟨ps, h1, h2, h3, fun u q hq => ?_⟩
  have hu : u < n := by rw [← h1]; exact (List.getElem?_eq_some_iff.mp hq).1
  obtain ⟨q1, q2⟩ := h4 u q hq
  exact ⟨q1, by rw [q2, rowV_congr fun l hl => e u l hu hl]⟩
theorem Tab.drop {H0 : Hp} {b n : Nat} {H : Hp} {p : Addr} {f : Nat → Nat → Nat} (h : Tab H0 b n H p f) : Tab (fun _ => none) b n H p f := by
  obtain ⟨ps, h1, h2, h3, h4⟩ := h
  exact ⟨ps, h1, h2, h3, fun u q hq => ⟨⟨(h4 u q hq).1.1, rfl⟩, (h4 u q hq).2⟩⟩
theorem Tab.mono {H0 : Hp} {b n : Nat} {H H' : Hp} {p : Addr} {f : Nat → Nat → Nat} (h : Tab H0 b n H p f) (s : Same H H') : Tab H0 b n H' p f := by
  obtain ⟨ps, h1, h2, h3, h4⟩ := h
  exact ⟨ps, h1, h2, s _ _ h3, fun u q hq => ⟨(h4 u q hq).1, s _ _ (h4 u q hq).2⟩⟩
/-- a row, found -/
theorem Tab.row {K : PySem.W.Frag} {H0 : Hp} {b n : Nat} {H : Hp} {p : Addr} {f : Nat → Nat → Nat} {u : Nat} {i : Int} {Q : VK} (h : Tab H0 b n H p f) (hi : i = (u : Nat)) (hu : u < n) (q : ∀ r, H r = some (.lst (rowV b (f u))) → Q (.ref r) H) : rIxL K (.ref p) (.int i) H Q := by
  obtain ⟨ps, h1, h2, h3, h4⟩ := h
  subst hi
  have hp : u < ps.length := by omega
  refine r_ixL h3 (v := .ref ps[u]) (atI_nat (by rw [List.getElem?_map, List.getElem?_eq_getElem hp]; rfl)) ?_
  exact q _ (h4 u _ (List.getElem?_eq_getElem hp)).2
theorem cell_at {K : PySem.W.Frag} {b l : Nat} {H : Hp} {r : Addr} {f : Nat → Nat} {i : Int} {Q : VK} (h : H r = some (.lst (rowV b f))) (hi : i = (l : Nat)) (hl : l < b + 2) (q : Q (.int (f l : Nat)) H) : rIxL K (.ref r) (.int i) H Q := by
  subst hi
  exact r_ixL h (v := .int (f l : Nat)) (atI_nat (rowV_get hl)) q
/-- an entry, written -/
theorem Tab.put {K : PySem.W.Frag} {H0 : Hp} {b n : Nat} {H : Hp} {p : Addr} {f : Nat → Nat → Nat} {u : Nat} {i : Int} {Q : VK} (h : Tab H0 b n H p f) (hi : i = (u : Nat)) (hu : u < n)
    (q : ∀ r, H r = some (.lst (rowV b (f u))) → (∀ x l : Nat, Tab H0 b n (upd H r (.lst ((rowV b (f u)).set l (V.int (x : Nat))))) p fun u' l' => if u' = u ∧ l' = l then x else f u' l') → (Same H0 H → ∀ o, Same H0 (upd H r o)) → Q (.ref r) H) : rIxL K (.ref p) (.int i) H Q := by
  obtain ⟨ps, h1, h2, h3, h4⟩ := h
  subst hi
  have hp : u < ps.length := by omega
  have hg := List.getElem?_eq_getElem hp
  obtain ⟨⟨rp, r0⟩, hr⟩ := h4 u _ hg
  refine r_ixL h3 (v := .ref ps[u]) (atI_nat (by rw [List.getElem?_map, hg]; rfl)) ?_
  refine q _ hr (fun x l => ?_) fun s o => same_mut s r0
  refine ⟨ps, h1, h2, by rw [upd_ne rp.symm]; exact h3, fun u' q' hq' => ?_⟩
  obtain ⟨n1, n2⟩ := h4 u' q' hq'
  refine ⟨n1, ?_⟩
  by_cases e : u' = u
  · subst e
    rw [hg] at hq'
    cases hq'
    rw [upd_same, rowV_set]
    simp
  · have ne : q' ≠ ps[u] := by
      rintro rfl
      have lt := (List.getElem?_eq_some_iff.mp hq').1
      have z := (List.getElem?_eq_some_iff.mp hq').2
      exact e ((List.getElem_inj h2).mp z)
    rw [upd_ne ne, n2]
    simp [e]
theorem r_for3 {σ : L2.St} {H : Hp} {tl : TA} {g : TG} {tb : TS} {D : Ends} (h : tl σ H fun vs H1 => ∃ (i j c : Int) (n : Nat), vs = [.int i, .int j, .int c] ∧ RgC i j c n ∧ FR (Itc i c n) g tb D σ H1) : tFor (iRng3 tl) g tb D σ H := h
theorem fr_down {σ : L2.St} {H : Hp} {nx bk ct : L2.St → Hp → Prop} {rt : VK} {g : TG} {tb : TS} {lo c : Int} {n : Nat} (Pv : Nat → L2.St → Hp → Prop) (h0 : Pv 0 σ H) (hs : ∀ i σ H, i < n → Pv i σ H → g (.int (lo + (i : Nat) * c)) σ H fun σ2 H2 => tb ⟨Pv (i + 1), rt, nx, Pv (i + 1)⟩ σ2 H2) (hd : ∀ σ H, Pv n σ H → nx σ H) : FR (Itc lo c n) g tb ⟨nx, rt, bk, ct⟩ σ H := for_rangeC Pv h0 hs hd
theorem ix_in {n j : Nat} (h : j < n) : ixN n (j : Int) = some j := by
  unfold ixN; rw [if_pos (by omega), if_pos (by omega), Int.toNat_natCast]
theorem rg_down {a : Nat} (h : a ≤ 1000) : RgC (a : Int) (-1) (-1) (a + 1) := by
  have z := RgC.neg (i := (a : Int)) (j := -1) (by omega) (by omega) (by decide) (by decide)
  rw [show ((a : Int) - (-1)).toNat = a + 1 by omega] at z; exact z
def sp_completions (C : Addr) : Sp := fun vs H Q _ => ∃ v, ∃ a b : Nat, vs = [v] ∧ SlopeAt C H v a b ∧ ∀ p H', Same H H' → Tab (fun _ => none) b (a + 2) H' p (tb a b) → Q (.ref p) H'
theorem ok_completions (T : Tx K mg) : FnOk P w K mg base CX0 3 T.a_completions T.d_completions ["slope"] (sp_completions T.C_Slope) := by
  refine T.F_completions.ok sc_completions (fun vs H Q E h => ?_) (fun cdv A outer s H vs Q E hr h => ?_)
  · obtain ⟨v, a, b, rfl, _⟩ := h; rfl
  · obtain ⟨v, a, b, rfl, hS, q⟩ := h
    have hb := hS.1
    refine ⟨_, (pss_cons (ps_set (i := 1) sc_completions.nd rfl (.inl rfl) (pe_prop (pv 0) T.cl_Slope T.pr_Slope_rises (ok_Slope_rises T) (hr.mono (by decide)) T.b_Slope_rises .nil pass0 rfl))
      (pss_cons (ps_set (i := 2) sc_completions.nd rfl (.inr rfl) (pe_prop (pv 0) T.cl_Slope T.pr_Slope_steps (ok_Slope_steps T) (hr.mono (by decide)) T.b_Slope_steps .nil pass0 rfl))
      (pss_cons (ps_setLc (i := 3) (own := [("_", 6)]) (g := (gName 6)) (tt := tYes) rfl sc_completions.nd rfl rfl (sw_true rfl rfl rfl (by decide +kernel)) (pi_range1 (by rfl) T.n_range (pa_cons (pe_op op_add (pv 1) pe_int) pa_nil)) (blkOk_by (N := N_completions) (sc := defScope st_completions) (by decide +kernel)) (fun _ _ _ _ _ => (pg_name (i := 6) sc_completions.nd rfl (.inl rfl))) (fun _ _ _ _ _ => pts_nil) (fun _ _ _ _ _ => (pe_op op_rep (pe_lst (pa_cons pe_int pa_nil)) (pe_op op_add (pv 2) pe_int))))
      (pss_cons (ps_asg pe_int (pg_sub (pe_ix ix_list (pv 3) (pe_op op_add (pv 1) pe_int) (fun _ _ => rfl)) (pv 2) set_list))
      (pss_cons (ps_for PassesOwn.never rfl (pi_range3 (by rfl) T.n_range (pa_cons (pv 1) (pa_cons (pe_un un_neg pe_int) (pa_cons (pe_un un_neg pe_int) pa_nil)))) (pg_name (i := 4) sc_completions.nd rfl (.inl rfl)) (pss_one (ps_for PassesOwn.never rfl (pi_range3 (by rfl) T.n_range (pa_cons (pv 2) (pa_cons (pe_un un_neg pe_int) (pa_cons (pe_un un_neg pe_int) pa_nil)))) (pg_name (i := 5) sc_completions.nd rfl (.inl rfl)) (pss_one (ps_if (pt_cmpR op_ge (pe_op Sx.op_mulA (pv 4) (pv 2)) (pe_op Sx.op_mulA (pv 5) (pv 1)) (nomark _)) (pss_one (ps_asg (pe_op op_add (pe_ix ix_list (pe_ix ix_list (pv 3) (pe_op op_add (pv 4) pe_int) (fun _ _ => rfl)) (pv 5) (fun _ _ => rfl)) (pe_ix ix_list (pe_ix ix_list (pv 3) (pv 4) (fun _ _ => rfl)) (pe_op op_add (pv 5) pe_int) (fun _ _ => rfl))) (pg_sub (pe_ix ix_list (pv 3) (pv 4) (fun _ _ => rfl)) (pv 5) set_list))) pss_nil)))))
      (pss_one (ps_ret (pv 3)))))))), ?_⟩
    refine Sx.r_st (σ' := [some (v), none, none, none, none, none, none]) rfl ?_
    walk_at "sx"
    refine rd_r hS ?_
    walk_at "sx"
    refine rd_s hS ?_
    walk_at "sx"
    refine r_rng1 ?_ (by omega) (by omega)
    refine lw_range (fun D i H' => Same H H' ∧ ∃ ps : List Addr, ps.length = i ∧ ps.Nodup ∧ H' D = some (.lst (ps.map V.ref)) ∧ ∀ r, r ∈ ps → r ≠ D ∧ H r = none ∧ H' r = some (.lst (rowV b fun _ => 0))) (fun D hD => ⟨same_new hD, [], rfl, List.nodup_nil, upd_same, fun r hr => by cases hr⟩) ?_ ?_
    · rintro D hD i H1 hi ⟨s1, ps, h1, h2, h3, h4⟩
      walk_at "sx"
      refine ⟨rfl, ?_⟩
      walk_at "sx"
      refine ⟨by decide, fun z hz => ?_⟩
      walk_at "sx"
      have g1 : Same H1 (upd H1 z (.lst [.int 0])) := same_new hz
      have z1 : (upd H1 z (.lst [.int 0])) z = some (.lst [.int 0]) := upd_same
      generalize upd H1 z (.lst [.int 0]) = H2 at g1 z1 ⊢
      refine ⟨z, _, _, rfl, rfl, z1, by omega, by omega, by rw [sizeLine_eq]; simp; omega, fun r hr => ?_⟩
      have e : (List.replicate ((b : Int) + 2).toNat [V.int 0]).flatten = rowV b fun _ => 0 := by
        rw [show ((b : Int) + 2).toNat = b + 2 by omega]
        unfold rowV
        generalize b + 2 = m
        induction m with
        | zero => rfl
        | succ m ih => rw [List.replicate_succ, List.flatten_cons, ih, List.range_succ_eq_map, List.map_cons, List.map_map]; rfl
      rw [e]
      have g2 : Same H2 (upd H2 r (.lst (rowV b fun _ => 0))) := same_new hr
      have r2 : (upd H2 r (.lst (rowV b fun _ => 0))) r = some (.lst (rowV b fun _ => 0)) := upd_same
      generalize upd H2 r (.lst (rowV b fun _ => 0)) = H3 at g2 r2 ⊢
      have rD : r ≠ D := by
        rintro rfl
        rw [g1 _ _ h3] at hr; cases hr
      have rn : H r = none := by
        cases o : H r with
        | none => rfl
        | some x => rw [g1 _ _ (s1 _ _ o)] at hr; cases hr
      have sm := same_mut (o := .lst (ps.map V.ref ++ [V.ref r])) (fun c o z => g2 _ _ (g1 _ _ (s1 c o z))) hD
      refine ⟨_, g2 _ _ (g1 _ _ h3), by rw [List.length_map, h1, sizeLine_eq]; omega, sm, ps ++ [r], by rw [List.length_append, h1]; rfl, ?_, by rw [upd_same, List.map_append]; rfl, ?_⟩
      · rw [List.nodup_append]
        refine ⟨h2, by simp, ?_⟩
        intro x hx y hy
        cases List.mem_singleton.mp hy
        rintro rfl
        have := (h4 x hx).2.2
        rw [g1 _ _ this] at hr; cases hr
      · intro x hx
        rcases List.mem_append.mp hx with hx | hx
        · obtain ⟨x1, x2, x3⟩ := h4 x hx
          exact ⟨x1, x2, by rw [upd_ne x1]; exact g2 _ _ (g1 _ _ x3)⟩
        · cases List.mem_singleton.mp hx
          exact ⟨rD, rn, by rw [upd_ne rD]; exact r2⟩
    · rintro D hD H1 ⟨s1, ps, h1, h2, h3, h4⟩
      have hT : Tab H b (a + 2) H1 D fun _ _ => 0 := ⟨ps, by omega, h2, h3, fun u r hr => ⟨⟨(h4 r (List.mem_of_getElem? hr)).1, (h4 r (List.mem_of_getElem? hr)).2.1⟩, (h4 r (List.mem_of_getElem? hr)).2.2⟩⟩
      walk_at "sx"
      refine hT.put (u := a + 1) (by omega) (by omega) (fun r hr hput hsame => ?_)
      walk_at "sx"
      refine r_setL hr (j := b) (by rw [rowV_len]; exact ix_in (by omega)) ?_
      have hT2 := (hput 1 b).congr (g := stg a b a (b + 1)) (fun u l hu hl => by rw [stg_start hu hl])
      have s2 := hsame s1 (.lst ((rowV b fun _ => 0).set b (V.int ((1 : Nat) : Int))))
      generalize upd H1 r (.lst ((rowV b fun _ => 0).set b (V.int ((1 : Nat) : Int)))) = H2 at hT2 s2 ⊢
      walk_at "sx"
      refine r_for3 ?_
      walk_at "sx"
      refine ⟨a, -1, -1, a + 1, rfl, rg_down (by omega), ?_⟩
      refine fr_down (fun i σ' H' => Same H H' ∧ Tab H b (a + 2) H' D (fun u l => if i ≤ a then stg a b (a - i) (b + 1) u l else tb a b u l) ∧ ∃ y4 y5, σ' = [some v, some (.int a), some (.int b), some (.ref D), y4, y5, none]) ⟨s2, hT2.congr (fun u l _ _ => by rw [if_pos (Nat.zero_le _)]; rfl), _, _, rfl⟩ ?_ ?_
      · rintro i σ' H3 hi ⟨s3, hT3, y4, y5, rfl⟩
        walk_at "sx"
        refine r_for3 ?_
        walk_at "sx"
        refine ⟨b, -1, -1, b + 1, rfl, rg_down (by omega), ?_⟩
        have ei : (a : Int) + (i : Nat) * (-1) = ((a - i : Nat) : Int) := by omega
        rw [ei]
        refine fr_down (fun j σ' H' => Same H H' ∧ Tab H b (a + 2) H' D (fun u l => stg a b (a - i) (b + 1 - j) u l) ∧ ∃ y5, σ' = [some v, some (.int a), some (.int b), some (.ref D), some (.int ((a - i : Nat) : Int)), y5, none]) ⟨s3, hT3.congr (fun u l _ _ => by rw [if_pos (by omega)]; rfl), _, rfl⟩ ?_ ?_
        · rintro j σ' H4 hj ⟨s4, hT4, y5, rfl⟩
          have ej : (b : Int) + (j : Nat) * (-1) = ((b - j : Nat) : Int) := by omega
          rw [ej]
          have m1 : (a - i) * b ≤ 60 * 60 := Nat.mul_le_mul (by omega) (by omega)
          have m2 : (b - j) * a ≤ 60 * 60 := Nat.mul_le_mul (by omega) (by omega)
          generalize hU : a - i = U at *
          generalize hL : b - j = L at *
          have hUa : U ≤ a := by omega
          have hLb : L ≤ b := by omega
          rw [show b + 1 - j = L + 1 by omega] at hT4
          rw [show b + 1 - (j + 1) = L by omega]
          walk_at "sxi"
          rotate_left
          · exact cmA_r (by omega)
          · exact cmA_r (by omega)
          refine ite_d (fun h => ?_) (fun h => ?_)
          · have h' : L * a ≤ U * b := by exact_mod_cast h
            walk_at "sx"
            refine hT4.row (u := U + 1) (by omega) (by omega) (fun r1 hr1 => ?_)
            walk_at "sx"
            refine cell_at hr1 (l := L) rfl (by omega) ?_
            walk_at "sx"
            refine hT4.row (u := U) rfl (by omega) (fun r2 hr2 => ?_)
            walk_at "sx"
            refine cell_at hr2 (l := L + 1) (by omega) (by omega) ?_
            walk_at "sx"
            refine hT4.put (u := U) rfl (by omega) (fun r3 hr3 hput3 hsame3 => ?_)
            walk_at "sx"
            have ev : (stg a b U (L + 1) (U + 1) L : Int) + (stg a b U (L + 1) U (L + 1) : Nat) = ((tb a b U L : Nat) : Int) := by
              have e1 : stg a b U (L + 1) (U + 1) L = tb a b (U + 1) L := by unfold stg; rw [if_pos (.inl (Nat.lt_succ_self U))]
              have e2 : stg a b U (L + 1) U (L + 1) = tb a b U (L + 1) := by unfold stg; rw [if_pos (.inr ⟨rfl, Nat.le_refl _⟩)]
              rw [e1, e2, tb_step hUa hLb h']; omega
            rw [ev]
            refine r_setL hr3 (j := L) (by rw [rowV_len]; exact ix_in (by omega)) ?_
            exact ⟨hsame3 s4 _, (hput3 (tb a b U L) L).congr (fun u l _ _ => stg_set.symm), _, rfl⟩
          · have h' : ¬ L * a ≤ U * b := fun z => h (by exact_mod_cast z)
            walk_at "sx"
            refine ⟨s4, hT4.congr (fun u l _ _ => ?_), _, rfl⟩
            rw [stg_set (L := L)]
            by_cases e : u = U ∧ l = L
            · obtain ⟨rfl, rfl⟩ := e
              rw [if_pos ⟨rfl, rfl⟩, tb_no hUa h']
              unfold stg
              rw [if_neg (by omega)]
            · rw [if_neg e]
        · rintro σ' H4 ⟨s4, hT4, y5, rfl⟩
          walk_at "sx"
          refine ⟨s4, hT4.congr (fun u l hu hl => ?_), _, _, rfl⟩
          rw [Nat.sub_self]
          by_cases e : i + 1 ≤ a
          · rw [if_pos e, show a - i = (a - (i + 1)) + 1 by omega, stg_next hl]
          · rw [if_neg e, show a - i = 0 by omega, stg_end]
      · rintro σ' H3 ⟨s3, hT3, y4, y5, rfl⟩
        walk_at "sx"
        exact q D H3 s3 (hT3.congr (fun u l _ _ => by rw [if_neg (by omega)])).drop
end
end Lw

namespace Lw
open PySem PySem.Spec PyProof.Rows L2 Sx Sy Sw Mw Me
open En (NoNum)
open SX (S)
open C8 (pe_gc)
open SkE (call_repr_int call_str_str)
open RZ (pi_zipA)
section
variable {P : Program} {w : World} {K : PySem.W.Frag} {mg : Str → Option Value} {base : Heap}
/-! ### words -/
def sp_letter_levels (C : Addr) : Sp := fun vs H Q _ => ∃ v, ∃ a b : Nat, ∃ l : List Nat, vs = [v, .str (S l)] ∧ SlopeAt C H v a b ∧ l.length ≤ 1000 ∧ ∀ p H', Same H H' → H' p = some (.tup ((lvs a b l).map V.int)) → Q (.ref p) H'
theorem ok_letter_levels (T : Tx K mg) : FnOk P w K mg base CX0 3 T.a_letter_levels T.d_letter_levels ["slope", "text"] (sp_letter_levels T.C_Slope) := by
  refine T.F_letter_levels.ok sc_letter_levels (fun vs H Q E h => ?_) (fun cdv A outer s H vs Q E hr h => ?_)
  · obtain ⟨v, a, b, l, rfl, _⟩ := h; rfl
  · obtain ⟨v, a, b, l, rfl, hS, hl, q⟩ := h
    refine ⟨_, (pss_cons (ps_set (i := 2) sc_letter_levels.nd rfl (.inl rfl) (pe_prop (pv 0) T.cl_Slope T.pr_Slope_rises (ok_Slope_rises T) (hr.mono (by decide)) T.b_Slope_rises .nil pass0 rfl))
      (pss_cons (ps_set (i := 3) sc_letter_levels.nd rfl (.inl rfl) (pe_prop (pv 0) T.cl_Slope T.pr_Slope_steps (ok_Slope_steps T) (hr.mono (by decide)) T.b_Slope_steps .nil pass0 rfl))
      (pss_cons (ps_set (i := 4) sc_letter_levels.nd rfl (.inl rfl) pe_int)
      (pss_cons (ps_set (i := 5) sc_letter_levels.nd rfl (.inl rfl) (pe_lst pa_nil))
      (pss_cons (ps_for PassesOwn.never rfl (pi_str (pv 1)) (pg_name (i := 6) sc_letter_levels.nd rfl (.inl rfl)) (pss_cons (ps_expr (pe_bm PySem.F.plainAttrs_list PySem.F.slot_list_append PySem.F.type_list_append mt_append (pv 5) (pa_cons (pv 4) pa_nil)))
      (pss_one (ps_set (i := 4) sc_letter_levels.nd rfl (.inl rfl) (pe_ifExp (pt_cmpR op_eq (pv 6) pe_str (nomark _)) (pe_op op_add (pv 4) (pv 3)) (pe_op op_sub (pv 4) (pv 2)))))))
      (pss_one (ps_ret (pe_callTy Sx.c_tupOf (by rfl) T.n_tuple Sx.bt_tuple (pa_cons (pv 5) pa_nil))))))))), ?_⟩
    refine Sx.r_st (σ' := [some (v), some (.str (S l)), none, none, none, none, none]) rfl ?_
    walk_at "sx"
    refine rd_r hS ?_
    walk_at "sx"
    refine rd_s hS ?_
    walk_at "sx"
    refine ⟨Nat.zero_le _, fun p hp => ?_⟩
    walk_at "sx"
    refine fr_str (fun i σ' H' => Same H H' ∧ (∃ y6, σ' = [some v, some (.str (S l)), some (.int a), some (.int b), some (.int (lev a b (l.take i))), some (.ref p), y6]) ∧ H' p = some (.lst (((lvs a b l).take i).map V.int))) ⟨same_new hp, ⟨none, by rw [List.take_zero, lev_nil]; rfl⟩, upd_same⟩ ?_ ?_
    · rintro i c σ' H1 hc ⟨sm, ⟨y6, rfl⟩, hpp⟩
      rw [S_get] at hc
      have hi : i < l.length := (List.getElem?_eq_some_iff.mp hc).1
      walk_at "sx"
      refine ⟨tyL hpp, ?_⟩
      walk_at "sx"
      refine r_app hpp ?_ ?_
      · rw [← lvs_snoc hi]
        refine r_cutQ (fun x H2 => H2 = upd H1 p (.lst (((lvs a b l).take (i + 1)).map V.int)) ∧ x = .int (lev a b (l.take (i + 1)))) (fun Q' k => ?_) ?_
        · refine r_ifE ?_
          walk_at "sx"
          refine ite_d (fun h => ?_) (fun h => ?_)
          · walk_at "sx"
            refine k _ _ ⟨rfl, ?_⟩
            rw [lev_take hc, if_pos (is_r.mp h)]
          · walk_at "sx"
            refine k _ _ ⟨rfl, ?_⟩
            rw [lev_take hc, if_neg (fun z => h (is_r.mpr z))]; rfl
        · rintro x H2 ⟨rfl, rfl⟩
          walk_at "sx"
          exact ⟨same_mut sm hp, ⟨_, rfl⟩, upd_same⟩
      · rw [List.length_map, List.length_take, lvs_len]; exact sz' _ (by omega)
    · rintro σ' H1 ⟨sm, ⟨y6, rfl⟩, hpp⟩
      rw [S_size, List.take_of_length_le (by rw [lvs_len]; exact Nat.le_refl _)] at hpp
      walk_at "sx"
      refine r_tupOfL (SqL.of hpp) (fun t ht => ?_)
      exact q t _ (fun b o e => same_new ht b o (sm b o e)) upd_same
def sp_is_word (C : Addr) : Sp := fun vs H Q _ => ∃ v, ∃ a b : Nat, ∃ l : List Nat, vs = [v, .str (S l)] ∧ SlopeAt C H v a b ∧ Wd a b l ∧ Q (.bl true) H
theorem ok_is_word (T : Tx K mg) : FnOk P w K mg base CX0 3 T.a_is_word T.d_is_word ["slope", "value"] (sp_is_word T.C_Slope) := by
  refine T.F_is_word.ok sc_is_word (fun vs H Q E h => ?_) (fun cdv A outer s H vs Q E hr h => ?_)
  · obtain ⟨v, a, b, l, rfl, _⟩ := h; rfl
  · obtain ⟨v, a, b, l, rfl, hS, hW, q⟩ := h
    have hl := small_S (show l.length ≤ 1000 by have := hS.1; have := hW.2.2; omega)
    refine ⟨_, (pss_cons (ps_if (PW.pt (pw_or (pt_not (pt_val (pe_callB call_isi (by rfl) T.n_isinstance Sx.bt_isinstance (pa_cons (pv 1) (pa_cons (pe_bltn (v := .ty "str") (by rfl) T.n_str Sx.bt_str rfl) pa_nil))))) (pw_or1 (pt_cmpR op_ne (pe_callB Sx.c_lenS (by rfl) T.n_len Sx.bt_len (pa_cons (pv 1) pa_nil)) (pe_op op_add (pe_prop (pv 0) T.cl_Slope T.pr_Slope_rises (ok_Slope_rises T) (hr.mono (by decide)) T.b_Slope_rises .nil pass0 rfl) (pe_prop (pv 0) T.cl_Slope T.pr_Slope_steps (ok_Slope_steps T) (hr.mono (by decide)) T.b_Slope_steps .nil pass0 rfl)) (nomark _))))) (pss_one (ps_ret pe_bl)) pss_nil)
      (pss_one (ps_ret (pe_and (pe_cmpR op_eq (pe_bm PySem.F.plainAttrs_str PySem.F.slot_str_count PySem.F.type_str_count Sx.m_cntS (pv 1) (pa_cons pe_str pa_nil)) (pe_prop (pv 0) T.cl_Slope T.pr_Slope_rises (ok_Slope_rises T) (hr.mono (by decide)) T.b_Slope_rises .nil pass0 rfl) (nomark _)) (pe_one (pe_cmpR op_eq (pe_bm PySem.F.plainAttrs_str PySem.F.slot_str_count PySem.F.type_str_count Sx.m_cntS (pv 1) (pa_cons pe_str pa_nil)) (pe_prop (pv 0) T.cl_Slope T.pr_Slope_steps (ok_Slope_steps T) (hr.mono (by decide)) T.b_Slope_steps .nil pass0 rfl) (nomark _))))))), ?_⟩
    refine Sx.r_st (σ' := [some (v), some (.str (S l))]) rfl ?_
    walk_at "sxi"
    rotate_left
    · exact hl
    refine rd_r hS ?_
    walk_at "sx"
    refine rd_s hS ?_
    walk_at "sx"
    refine ite_nd (fun h => (h ?_).elim) (fun h => ?_)
    · rw [SX.S_len, hW.2.2]; omega
    walk_at "sx"
    refine rd_r hS ?_
    walk_at "sx"
    rw [lit_r, count_S, hW.1, decide_eq_true rfl]
    walk_at "sx"
    refine rd_s hS ?_
    walk_at "sx"
    rw [lit_s, count_S, hW.2.1, decide_eq_true rfl]
    exact q
theorem wd_len {C : Addr} {H : Hp} {v : V} {a b : Nat} {l : List Nat} (h : SlopeAt C H v a b) (w : Wd a b l) : l.length ≤ 120 ∧ 2 ≤ l.length := by
  have := h.1; have := w.2.2; omega
/-! ### ways -/
/-- the lengths of the parts between steps that are not empty, of the first i parts -/
def runsUp (ys : List Str) (i : Nat) : List Int := ((ys.take i).filter fun x : Str => !decide (x = ("" : Str))).map fun x : Str => (x.length : Int)
def runsOf (l : List Nat) : List Int := runsUp (Txt.split (S l) "s") (Txt.split (S l) "s").length
theorem runsUp_yes {ys : List Str} {i : Nat} {x : Str} (h : ys[i]? = some x) (n : ¬ x = ("" : Str)) : (runsUp ys (i + 1)).map V.int = (runsUp ys i).map V.int ++ [V.int x.length] := by
  unfold runsUp
  rw [List.take_add_one, h, List.filter_append, List.map_append, List.map_append]
  simp [n]
theorem runsUp_no {ys : List Str} {i : Nat} {x : Str} (h : ys[i]? = some x) (n : x = ("" : Str)) : (runsUp ys (i + 1)).map V.int = (runsUp ys i).map V.int := by
  unfold runsUp
  rw [List.take_add_one, h, List.filter_append, List.map_append]
  simp [n]
theorem runsUp_len {ys : List Str} {i : Nat} : (runsUp ys i).length ≤ i := by
  unfold runsUp
  rw [List.length_map]
  exact Nat.le_trans (List.length_filter_le _ _) (by rw [List.length_take]; exact Nat.min_le_left _ _)
theorem le_sum_mem : ∀ {l : List Nat} {y : Nat}, y ∈ l → y ≤ l.sum
  | x :: l, y, h => by
    rw [List.sum_cons]
    rcases List.mem_cons.mp h with rfl | h
    · omega
    · have := le_sum_mem h; omega
def sp_is_way (C : Addr) : Sp := fun vs H Q _ => ∃ v, ∃ a b : Nat, ∃ l : List Nat, vs = [v, .str (S l)] ∧ SlopeAt C H v a b ∧ IsWay a b l ∧ ∀ H', Same H H' → Q (.bl true) H'
theorem none_below {ns : List Int} (h : ∀ x, x ∈ ns → 0 ≤ x) : ((ns.map fun x => decide (x < 0)).any id) = false := by
  rw [List.any_eq_false]
  intro x hx
  obtain ⟨y, hy, rfl⟩ := List.mem_map.mp hx
  have := h y hy
  simp; omega
theorem ok_is_way (T : Tx K mg) : FnOk P w K mg base CX0 4 T.a_is_way T.d_is_way ["slope", "value"] (sp_is_way T.C_Slope) := by
  refine T.F_is_way.ok sc_is_way (fun vs H Q E h => ?_) (fun cdv A outer s H vs Q E hr h => ?_)
  · obtain ⟨v, a, b, l, rfl, _⟩ := h; rfl
  · obtain ⟨v, a, b, l, rfl, hS, hW, q⟩ := h
    have hl := wd_len hS hW.1
    refine ⟨_, (pss_cons (ps_expr (pe_call (ok_check_slope T) (hr.mono (by decide)) (by rfl) T.g_check_slope T.F_check_slope.kp T.b_check_slope .nil pass0 (pa_cons (pv 0) pa_nil)))
      (pss_one (ps_ret (pe_and (pe_call (ok_is_word T) (hr.mono (by decide)) (by rfl) T.g_is_word T.F_is_word.kp T.b_is_word .nil pass0 (pa_cons (pv 0) (pa_cons (pv 1) pa_nil))) (pe_one (pe_not (pe_callB (cr_any rfl) (by rfl) T.n_any Sx.bt_any (pa_cons (pe_lc (own := [("level", 2)]) (g := (gName 2)) (tt := tYes) rfl sc_is_way.nd (pi_tup (pe_call (ok_letter_levels T) (hr.mono (by decide)) (by rfl) T.g_letter_levels T.F_letter_levels.kp T.b_letter_levels .nil pass0 (pa_cons (pv 0) (pa_cons (pv 1) pa_nil)))) (blkOk_by (N := N_is_way) (sc := defScope st_is_way) (by decide +kernel)) (fun _ _ _ _ _ => (pg_name (i := 2) sc_is_way.nd rfl (.inl rfl))) (fun _ _ _ _ _ => pts_nil) (fun _ _ _ _ _ => (pe_cmpR op_lt (pv 2) pe_int (nomark _)))) pa_nil)))))))), ?_⟩
    refine Sx.r_st (σ' := [some (v), some (.str (S l)), none]) rfl ?_
    walk_at "sx"
    refine ⟨v, a, b, rfl, hS, ?_⟩
    walk_at "sx"
    refine ⟨v, a, b, l, rfl, hS, hW.1, ?_⟩
    walk_at "sx"
    refine ⟨v, a, b, l, rfl, hS, by omega, fun p H1 s1 hp => ?_⟩
    have hn := lvs_len (a := a) (b := b) (l := l)
    have pos : ∀ x, x ∈ lvs a b l → 0 ≤ x := by
      intro x hx
      obtain ⟨i, hi⟩ := List.getElem?_of_mem hx
      have hi' : i < l.length := by rw [← hn]; exact (List.getElem?_eq_some_iff.mp hi).1
      rw [lvs_get hi'] at hi
      cases hi
      exact hW.2 i hi'
    generalize lvs a b l = ns at *
    refine r_seqT (SqT.of hp) ?_
    refine lw_tup (xs := ns.map V.int) (fun D i H' => Same H1 H' ∧ H' D = some (.lst (((ns.take i).map fun x => decide (x < 0)).map V.bl))) (fun D hD => ⟨same_new hD, upd_same⟩) (fun D hD i H' _ z => SqT.of (z.1 _ _ hp)) ?_ ?_
    · rintro D hD i x H2 hx ⟨s2, hd⟩
      rw [List.getElem?_map] at hx
      obtain ⟨y, hy, rfl⟩ := Option.map_eq_some_iff.mp hx
      walk_at "sx"
      refine ⟨rfl, ?_⟩
      walk_at "sx"
      refine ⟨_, hd, ?_, same_mut s2 hD, ?_⟩
      · rw [List.length_map, List.length_map, List.length_take, sizeLine_eq]; omega
      · rw [upd_same, List.take_add_one, hy, List.map_append, List.map_append]; rfl
    · rintro D hD H2 ⟨s2, hd⟩
      rw [List.length_map, List.take_length] at hd
      walk_at "sx"
      refine ⟨D, _, rfl, SqL.of hd, ?_⟩
      rw [none_below pos]
      walk_at "sx"
      exact q H2 (fun b o e => s2 b o (s1 b o e))
def wyF (sv : V) (l : List Nat) (t r k : Addr) : List (Str × V) := putF "_key" (.ref k) (putF "_runs" (.ref r) (putF "_levels" (.ref t) (putF "_text" (.str (S l)) (putF "_slope" sv []))))
theorem wyF_key {sv : V} {l : List Nat} {t r k : Addr} : (wyF sv l t r k).lookup ("_key" : Str) = some (.ref k) := by
  unfold wyF; rw [lookup_putF, if_pos rfl]
theorem wyF_runs {sv : V} {l : List Nat} {t r k : Addr} : (wyF sv l t r k).lookup ("_runs" : Str) = some (.ref r) := by
  unfold wyF; rw [lookup_putF, if_neg (by decide +kernel), lookup_putF, if_pos rfl]
theorem wyF_levels {sv : V} {l : List Nat} {t r k : Addr} : (wyF sv l t r k).lookup ("_levels" : Str) = some (.ref t) := by
  unfold wyF; rw [lookup_putF, if_neg (by decide +kernel), lookup_putF, if_neg (by decide +kernel), lookup_putF, if_pos rfl]
theorem wyF_text {sv : V} {l : List Nat} {t r k : Addr} : (wyF sv l t r k).lookup ("_text" : Str) = some (.str (S l)) := by
  unfold wyF; rw [lookup_putF, if_neg (by decide +kernel), lookup_putF, if_neg (by decide +kernel), lookup_putF, if_neg (by decide +kernel), lookup_putF, if_pos rfl]
theorem wyF_slope {sv : V} {l : List Nat} {t r k : Addr} : (wyF sv l t r k).lookup ("_slope" : Str) = some sv := by
  unfold wyF; rw [lookup_putF, if_neg (by decide +kernel), lookup_putF, if_neg (by decide +kernel), lookup_putF, if_neg (by decide +kernel), lookup_putF, if_neg (by decide +kernel), lookup_putF, if_pos rfl]
theorem wyF_no {sv : V} {l : List Nat} {t r k : Addr} {m : Str} (h1 : m ≠ "_key") (h2 : m ≠ "_runs") (h3 : m ≠ "_levels") (h4 : m ≠ "_text") (h5 : m ≠ "_slope") : (wyF sv l t r k).lookup m = none := by
  unfold wyF; rw [lookup_putF, if_neg h1, lookup_putF, if_neg h2, lookup_putF, if_neg h3, lookup_putF, if_neg h4, lookup_putF, if_neg h5]; rfl
/-- what a way's own cells hold -/
def WayIn (CS : Addr) (H : Hp) (sv : V) (a b : Nat) (l : List Nat) (t r k : Addr) : Prop :=
  SlopeAt CS H sv a b ∧ H t = some (.tup ((lvs a b l).map V.int)) ∧ H r = some (.tup ((runsOf l).map V.int)) ∧ H k = some (.tup [.int a, .int b, .str (S l)])
/-- v is the way l of a:b -/
def WayAt (CS CW : Addr) (H : Hp) (v : V) (a b : Nat) (l : List Nat) : Prop := IsWay a b l ∧ ∃ p dx sv t r k, v = .ref p ∧ H p = some (.ins CW dx (wyF sv l t r k)) ∧ WayIn CS H sv a b l t r k
theorem WayAt.mono {CS CW : Addr} {H H' : Hp} {v : V} {a b : Nat} {l : List Nat} (h : WayAt CS CW H v a b l) (s : Same H H') : WayAt CS CW H' v a b l := by
  obtain ⟨h0, p, dx, sv, t, r, k, h1, h2, h3, h4, h5, h6⟩ := h
  exact ⟨h0, p, dx, sv, t, r, k, h1, s _ _ h2, h3.mono s, s _ _ h4, s _ _ h5, s _ _ h6⟩
theorem WayAt.kp {CS CW : Addr} {H H' : Hp} {v : V} {a b : Nat} {l : List Nat} {d : Addr} (h : WayAt CS CW H v a b l) (s : Kp d H H') : WayAt CS CW H' v a b l := by
  obtain ⟨h0, p, dx, sv, t, r, k, h1, h2, h3, h4, h5, h6⟩ := h
  exact ⟨h0, p, dx, sv, t, r, k, h1, s.ins h2, h3.kp s, s.tup h4, s.tup h5, s.tup h6⟩
def sp_Way_init (CS CW : Addr) : Sp := fun vs H Q _ => ∃ p dx sv, ∃ a b : Nat, ∃ l : List Nat, vs = [.ref p, sv, .str (S l)] ∧ H p = some (.ins CW dx []) ∧ SlopeAt CS H sv a b ∧ IsWay a b l ∧
  ∀ t r k H', (∀ c o, c ≠ p → H c = some o → H' c = some o) → H' p = some (.ins CW dx (wyF sv l t r k)) → WayIn CS H' sv a b l t r k → Q .non H'
theorem slope_ne {CS CW : Addr} {H H' : Hp} {sv : V} {a b : Int} {p dx : Addr} (h : SlopeAt CS H sv a b) (ne : ∀ p', sv = .ref p' → p' ≠ p) (s : ∀ c o, c ≠ p → H c = some o → H' c = some o) : SlopeAt CS H' sv a b := by
  obtain ⟨h1, q, dq, h2, h3⟩ := h
  exact ⟨h1, q, dq, h2, s _ _ (ne _ h2) h3⟩
theorem ok_Way_init (T : Tx K mg) : FnOk P w K mg base CX0 5 T.a_Way_init T.d_Way_init ["self", "slope", "text"] (sp_Way_init T.C_Slope T.C_Way) := by
  refine T.F_Way_init.ok sc_Way_init (fun vs H Q E h => ?_) (fun cdv A outer s H vs Q E hr h => ?_)
  · obtain ⟨p, dx, sv, a, b, l, rfl, _⟩ := h; rfl
  · obtain ⟨p, dx, sv, a, b, l, rfl, hp, hS, hW, q⟩ := h
    have hl := wd_len hS hW.1
    have svp : ∀ p', sv = .ref p' → p' ≠ p := by
      rintro p' rfl rfl
      obtain ⟨_, q', dq, h2, h3⟩ := hS
      cases h2
      rw [hp] at h3
      have e := Option.some.inj h3
      injection e with e1 e2 e3
      exact absurd (congrArg List.length e3) (by rw [show (slF (a : Int) (b : Int)).length = 3 from rfl]; decide)
    refine ⟨_, (pss_cons (ps_if (pt_not (pt_val (pe_call (ok_is_way T) (hr.mono (by decide)) (by rfl) T.g_is_way T.F_is_way.kp T.b_is_way .nil pass0 (pa_cons (pv 1) (pa_cons (pv 2) pa_nil))))) pss_never pss_nil)
      (pss_cons (ps_fld (pv 0) (pv 1) rfl)
      (pss_cons (ps_fld (pv 0) (pv 2) rfl)
      (pss_cons (ps_fld (pv 0) (pe_call (ok_letter_levels T) (hr.mono (by decide)) (by rfl) T.g_letter_levels T.F_letter_levels.kp T.b_letter_levels .nil pass0 (pa_cons (pv 1) (pa_cons (pv 2) pa_nil))) rfl)
      (pss_cons (ps_fld (pv 0) (pe_callTy Sx.c_tupOf (by rfl) T.n_tuple Sx.bt_tuple (pa_cons (pe_lc (own := [("run", 3)]) (g := (gName 3)) rfl sc_Way_init.nd (pi_list (pe_bm PySem.F.plainAttrs_str PySem.F.slot_str_split PySem.F.type_str_split Sx.m_split (pv 2) (pa_cons pe_str pa_nil))) (blkOk_by (N := N_Way_init) (sc := defScope st_Way_init) (by decide +kernel)) (fun _ _ _ _ _ => (pg_name (i := 3) sc_Way_init.nd rfl (.inl rfl))) (fun _ _ _ _ _ => (pts_one (pt_cmpR op_ne (pv 3) pe_str (nomark _)))) (fun _ _ _ _ _ => (pe_callB Sx.c_lenS (by rfl) T.n_len Sx.bt_len (pa_cons (pv 3) pa_nil)))) pa_nil)) rfl)
      (pss_one (ps_fld (pv 0) (pe_tup (pa_cons (pe_prop (pv 1) T.cl_Slope T.pr_Slope_rises (ok_Slope_rises T) (hr.mono (by decide)) T.b_Slope_rises .nil pass0 rfl) (pa_cons (pe_prop (pv 1) T.cl_Slope T.pr_Slope_steps (ok_Slope_steps T) (hr.mono (by decide)) T.b_Slope_steps .nil pass0 rfl) (pa_cons (pv 2) pa_nil)))) rfl))))))), ?_⟩
    refine Sx.r_st (σ' := [some (.ref p), some (sv), some (.str (S l)), none]) rfl ?_
    walk_at "sxi"
    refine ⟨sv, a, b, l, rfl, hS, hW, fun H1 s1 => ?_⟩
    walk_at "sx"
    refine r_insput (s1 _ _ hp) T.cl_Way T.na_Way_slope (by decide) ?_
    walk_at "sx"
    refine r_insput upd_same T.cl_Way T.na_Way_text len1 ?_
    walk_at "sx"
    have k2 : ∀ c o, c ≠ p → H1 c = some o → (upd (upd H1 p (.ins T.C_Way dx (putF "_slope" sv []))) p (.ins T.C_Way dx (putF "_text" (.str (S l)) (putF "_slope" sv [])))) c = some o := fun c o n e => by rw [upd_ne n, upd_ne n]; exact e
    have p2 : (upd (upd H1 p (.ins T.C_Way dx (putF "_slope" sv []))) p (.ins T.C_Way dx (putF "_text" (.str (S l)) (putF "_slope" sv [])))) p = some (.ins T.C_Way dx (putF "_text" (.str (S l)) (putF "_slope" sv []))) := upd_same
    generalize upd (upd H1 p (.ins T.C_Way dx (putF "_slope" sv []))) p (.ins T.C_Way dx (putF "_text" (.str (S l)) (putF "_slope" sv []))) = H2 at k2 p2 ⊢
    have hS2 : SlopeAt T.C_Slope H2 sv a b := slope_ne (CW := T.C_Way) (dx := dx) (hS.mono s1) svp k2
    refine ⟨sv, a, b, l, rfl, hS2, by omega, fun t H3 s3 ht => ?_⟩
    walk_at "sx"
    have tp : t ≠ p := by
      rintro rfl
      rw [s3 _ _ p2] at ht; cases ht
    refine r_insput (s3 _ _ p2) T.cl_Way T.na_Way_levels len2 ?_
    have k4 : ∀ c o, c ≠ p → H2 c = some o → (upd H3 p (.ins T.C_Way dx (putF "_levels" (.ref t) (putF "_text" (.str (S l)) (putF "_slope" sv []))))) c = some o := fun c o n e => by rw [upd_ne n]; exact s3 _ _ e
    have p4 : (upd H3 p (.ins T.C_Way dx (putF "_levels" (.ref t) (putF "_text" (.str (S l)) (putF "_slope" sv []))))) p = some (.ins T.C_Way dx (putF "_levels" (.ref t) (putF "_text" (.str (S l)) (putF "_slope" sv [])))) := upd_same
    have t4 : (upd H3 p (.ins T.C_Way dx (putF "_levels" (.ref t) (putF "_text" (.str (S l)) (putF "_slope" sv []))))) t = some (.tup ((lvs a b l).map V.int)) := by rw [upd_ne tp]; exact ht
    generalize upd H3 p (.ins T.C_Way dx (putF "_levels" (.ref t) (putF "_text" (.str (S l)) (putF "_slope" sv [])))) = H4 at k4 p4 t4 ⊢
    have hS4 : SlopeAt T.C_Slope H4 sv a b := slope_ne (CW := T.C_Way) (dx := dx) hS2 svp k4
    walk_at "sx"
    refine ⟨S l, "s", rfl, rfl, by decide +kernel, by rw [SX.S_len, sizeLine_eq]; omega, fun z hz => ?_⟩
    walk_at "sx"
    have z5 : (upd H4 z (.lst ((Txt.split (S l) "s").map V.str))) z = some (.lst ((Txt.split (S l) "s").map V.str)) := upd_same
    have s5 : Same H4 (upd H4 z (.lst ((Txt.split (S l) "s").map V.str))) := same_new hz
    generalize upd H4 z (.lst ((Txt.split (S l) "s").map V.str)) = H5 at z5 s5 ⊢
    have hy := PyProof.Rows.split_le (S l) "s"
    rw [SX.S_len] at hy
    refine r_seqL (SqL.of z5) ?_
    refine lw_list (xs := (Txt.split (S l) "s").map V.str) (fun D i H' => Same H5 H' ∧ H' D = some (.lst ((runsUp (Txt.split (S l) "s") i).map V.int))) (fun D hD => ⟨same_new hD, upd_same⟩) (fun D hD i H' _ z => SqL.of (z.1 _ _ z5)) ?_ ?_
    · rintro D hD i x H6 hx ⟨s6, hd⟩
      rw [List.getElem?_map] at hx
      obtain ⟨y, hy', rfl⟩ := Option.map_eq_some_iff.mp hx
      have hi : i < (Txt.split (S l) "s").length := (List.getElem?_eq_some_iff.mp hy').1
      have yl : y.length ≤ sizeLine := by
        have h1 := PyProof.Rows.split_weight (S l) "s" (by decide +kernel)
        have h2 : y.length ≤ ((Txt.split (S l) "s").map (·.length)).sum := by
          have := List.mem_of_getElem? hy'
          exact le_sum_mem (List.mem_map.mpr ⟨y, this, rfl⟩)
        rw [SX.S_len] at h1
        rw [sizeLine_eq]; omega
      walk_at "sx"
      refine ⟨rfl, ?_⟩
      walk_at "sx"
      refine ite_nd (fun h => ?_) (fun h => ?_)
      · walk_at "sx"
        · refine ⟨_, hd, ?_, same_mut s6 hD, ?_⟩
          · have := runsUp_len (ys := Txt.split (S l) "s") (i := i)
            rw [List.length_map, sizeLine_eq]; omega
          · rw [runsUp_yes hy' h]; exact upd_same
        · exact yl
      · refine ⟨s6, ?_⟩
        rw [runsUp_no hy' h]; exact hd
    · rintro D hD H6 ⟨s6, hd⟩
      rw [List.length_map] at hd
      walk_at "sx"
      refine r_tupOfL (SqL.of hd) (fun r hr => ?_)
      have s7 : Same H4 (upd H6 r (.tup ((runsOf l).map V.int))) := fun b o e => same_new hr b o (s6 b o (s5 b o e))
      have r7 : (upd H6 r (.tup ((runsOf l).map V.int))) r = some (.tup ((runsOf l).map V.int)) := upd_same
      rw [show runsUp (Txt.split (S l) "s") (Txt.split (S l) "s").length = runsOf l from rfl]
      walk_at "sx"
      refine r_insput (s7 _ _ p4) T.cl_Way T.na_Way_runs len3 ?_
      have rp : r ≠ p := by
        rintro rfl
        have e := s7 _ _ p4
        rw [r7] at e; cases e
      have k8 : ∀ c o, c ≠ p → H4 c = some o → (upd (upd H6 r (.tup ((runsOf l).map V.int))) p (.ins T.C_Way dx (putF "_runs" (.ref r) (putF "_levels" (.ref t) (putF "_text" (.str (S l)) (putF "_slope" sv [])))))) c = some o := fun c o n e => by rw [upd_ne n]; exact s7 _ _ e
      have p8 : (upd (upd H6 r (.tup ((runsOf l).map V.int))) p (.ins T.C_Way dx (putF "_runs" (.ref r) (putF "_levels" (.ref t) (putF "_text" (.str (S l)) (putF "_slope" sv [])))))) p = some (.ins T.C_Way dx (putF "_runs" (.ref r) (putF "_levels" (.ref t) (putF "_text" (.str (S l)) (putF "_slope" sv []))))) := upd_same
      have r8 : (upd (upd H6 r (.tup ((runsOf l).map V.int))) p (.ins T.C_Way dx (putF "_runs" (.ref r) (putF "_levels" (.ref t) (putF "_text" (.str (S l)) (putF "_slope" sv [])))))) r = some (.tup ((runsOf l).map V.int)) := by rw [upd_ne rp]; exact r7
      generalize upd (upd H6 r (.tup ((runsOf l).map V.int))) p (.ins T.C_Way dx (putF "_runs" (.ref r) (putF "_levels" (.ref t) (putF "_text" (.str (S l)) (putF "_slope" sv []))))) = H8 at k8 p8 r8 ⊢
      have hS8 : SlopeAt T.C_Slope H8 sv a b := slope_ne (CW := T.C_Way) (dx := dx) hS4 svp k8
      walk_at "sx"
      refine rd_r hS8 ?_
      walk_at "sx"
      refine rd_s hS8 ?_
      walk_at "sx"
      refine ⟨sz _ (Nat.le_of_ble_eq_true rfl), fun k hk => ?_⟩
      walk_at "sx"
      refine ⟨p, _, dx, _, rfl, same_new hk _ _ p8, T.cl_Way, T.na_Way_key, len4, ?_⟩
      have s9 : Same H8 (upd H8 k (.tup [.int a, .int b, .str (S l)])) := same_new hk
      have kp : k ≠ p := by
        rintro rfl
        rw [p8] at hk; cases hk
      refine q t r k _ ?_ upd_same ?_
      · intro c o n e
        rw [upd_ne n]
        exact s9 _ _ (k8 c o n (k4 c o n (k2 c o n (s1 _ _ e))))
      · refine ⟨slope_ne (CW := T.C_Way) (dx := dx) (hS8.mono s9) svp fun c o n e => by rw [upd_ne n]; exact e, ?_, ?_, ?_⟩
        · rw [upd_ne tp]; exact s9 _ _ (k8 _ _ tp t4)
        · rw [upd_ne rp]; exact s9 _ _ r8
        · rw [upd_ne kp, upd_same]
/-- a new way -/
theorem mk_way {CS CW : Addr} {H : Hp} {Q : VK} {E : XK} {sv : V} {a b : Nat} {l : List Nat} (hS : SlopeAt CS H sv a b) (hW : IsWay a b l) (q : ∀ v H', Same H H' → WayAt CS CW H' v a b l → Q v H') :
    MakeP CW (sp_Way_init CS CW) E [sv, .str (S l)] H Q := by
  intro x dx hx hdx hne
  have s1 : Same H (upd (upd H dx (.own x)) x (.ins CW dx [])) := by
    intro c o e
    rw [upd_ne (ne_of_none e hx), upd_ne (ne_of_none e hdx)]; exact e
  refine ⟨x, dx, sv, a, b, l, rfl, upd_same, hS.mono s1, hW, fun t r k H' k1 h1 h2 => ⟨rfl, ?_⟩⟩
  refine q _ H' (fun c o e => k1 c o (ne_of_none e hx) (s1 _ _ e)) ⟨hW, x, dx, sv, t, r, k, rfl, h1, h2⟩
/-- a way's parts, read -/
theorem rw_get {CS CW : Addr} {f : Str} {H : Hp} {v : V} {a b : Nat} {l : List Nat} {Q : VK} {E : XK} (h : WayAt CS CW H v a b l) (q : ∀ sv t r k, WayIn CS H sv a b l t r k → ∃ u, (wyF sv l t r k).lookup f = some u ∧ Q u H) : ∃ p dx fs, v = .ref p ∧ H p = some (.ins CW dx fs) ∧ getSp CW f (.ref p :: []) H Q E := by
  obtain ⟨_, p, dx, sv, t, r, k, rfl, e, hi⟩ := h
  obtain ⟨u, lu, q⟩ := q sv t r k hi
  exact ⟨p, dx, _, rfl, e, r_getSp e lu q⟩
theorem rw_text {CS CW : Addr} {H : Hp} {v : V} {a b : Nat} {l : List Nat} {Q : VK} {E : XK} (h : WayAt CS CW H v a b l) (q : Q (.str (S l)) H) : ∃ p dx fs, v = .ref p ∧ H p = some (.ins CW dx fs) ∧ getSp CW "_text" (.ref p :: []) H Q E :=
  rw_get h fun _ _ _ _ _ => ⟨_, wyF_text, q⟩
theorem rw_slope {CS CW : Addr} {H : Hp} {v : V} {a b : Nat} {l : List Nat} {Q : VK} {E : XK} (h : WayAt CS CW H v a b l) (q : ∀ sv, SlopeAt CS H sv a b → Q sv H) : ∃ p dx fs, v = .ref p ∧ H p = some (.ins CW dx fs) ∧ getSp CW "_slope" (.ref p :: []) H Q E :=
  rw_get h fun _ _ _ _ hi => ⟨_, wyF_slope, q _ hi.1⟩
theorem rw_levels {CS CW : Addr} {H : Hp} {v : V} {a b : Nat} {l : List Nat} {Q : VK} {E : XK} (h : WayAt CS CW H v a b l) (q : ∀ t, H t = some (.tup ((lvs a b l).map V.int)) → Q (.ref t) H) : ∃ p dx fs, v = .ref p ∧ H p = some (.ins CW dx fs) ∧ getSp CW "_levels" (.ref p :: []) H Q E :=
  rw_get h fun _ _ _ _ hi => ⟨_, wyF_levels, q _ hi.2.1⟩
theorem md_way {CS CW : Addr} {H : Hp} {v : V} {a b : Nat} {l : List Nat} {m : Str} {Pr : Prop} (h : WayAt CS CW H v a b l) (h1 : m ≠ "_key") (h2 : m ≠ "_runs") (h3 : m ≠ "_levels") (h4 : m ≠ "_text") (h5 : m ≠ "_slope") (hp : Pr) : ∃ p dx fs, v = .ref p ∧ H p = some (.ins CW dx fs) ∧ fs.lookup m = none ∧ Pr := by
  obtain ⟨_, p, dx, sv, t, r, k, rfl, e, _⟩ := h
  exact ⟨p, dx, _, rfl, e, wyF_no h1 h2 h3 h4 h5, hp⟩
theorem ok_Way_slope (T : Tx K mg) : FnOk P w K mg base CX0 1 T.a_Way_slope T.d_Way_slope ["self"] (getSp T.C_Way "_slope") := by
  refine T.F_Way_slope.ok sc_Way_slope (fun vs H Q E h => ?_) (fun cdv A outer s H vs Q E hr h => ?_)
  · obtain ⟨a, dx, fs, v, rfl, _⟩ := h; rfl
  · obtain ⟨a, dx, fs, v, rfl, e, l, q⟩ := h
    refine ⟨_, (pss_one (ps_ret (pe_fld (pv 0) rfl))), ?_⟩
    refine Sx.r_st (σ' := [some (.ref a)]) rfl ?_
    walk_at "sx"
    exact ⟨a, _, dx, fs, v, rfl, e, T.cl_Way, T.na_Way_slope, l, q⟩
theorem ok_Way_text (T : Tx K mg) : FnOk P w K mg base CX0 1 T.a_Way_text T.d_Way_text ["self"] (getSp T.C_Way "_text") := by
  refine T.F_Way_text.ok sc_Way_text (fun vs H Q E h => ?_) (fun cdv A outer s H vs Q E hr h => ?_)
  · obtain ⟨a, dx, fs, v, rfl, _⟩ := h; rfl
  · obtain ⟨a, dx, fs, v, rfl, e, l, q⟩ := h
    refine ⟨_, (pss_one (ps_ret (pe_fld (pv 0) rfl))), ?_⟩
    refine Sx.r_st (σ' := [some (.ref a)]) rfl ?_
    walk_at "sx"
    exact ⟨a, _, dx, fs, v, rfl, e, T.cl_Way, T.na_Way_text, l, q⟩
theorem ok_Way_levels (T : Tx K mg) : FnOk P w K mg base CX0 1 T.a_Way_levels T.d_Way_levels ["self"] (getSp T.C_Way "_levels") := by
  refine T.F_Way_levels.ok sc_Way_levels (fun vs H Q E h => ?_) (fun cdv A outer s H vs Q E hr h => ?_)
  · obtain ⟨a, dx, fs, v, rfl, _⟩ := h; rfl
  · obtain ⟨a, dx, fs, v, rfl, e, l, q⟩ := h
    refine ⟨_, (pss_one (ps_ret (pe_fld (pv 0) rfl))), ?_⟩
    refine Sx.r_st (σ' := [some (.ref a)]) rfl ?_
    walk_at "sx"
    exact ⟨a, _, dx, fs, v, rfl, e, T.cl_Way, T.na_Way_levels, l, q⟩
/-! ### equal, less -/
def sp_Slope_eq (C : Addr) : Sp := fun vs H Q _ => ∃ v u, ∃ a b c d : Int, vs = [v, u] ∧ SlopeAt C H v a b ∧ SlopeAt C H u c d ∧ Q (.bl (decide (a = c ∧ b = d))) H
theorem ok_Slope_eq (T : Tx K mg) : FnOk P w K mg base CX0 1 T.a_Slope_eq T.d_Slope_eq ["self", "other"] (sp_Slope_eq T.C_Slope) := by
  refine T.F_Slope_eq.ok sc_Slope_eq (fun vs H Q E h => ?_) (fun cdv A outer s H vs Q E hr h => ?_)
  · obtain ⟨v, u, a, b, c, d, rfl, _⟩ := h; rfl
  · obtain ⟨v, u, a, b, c, d, rfl, ⟨_, p, dx, rfl, e1⟩, ⟨_, p2, dx2, rfl, e2⟩, q⟩ := h
    refine ⟨_, (pss_one (ps_ret (pe_and (pe_callB call_isi (by rfl) T.n_isinstance Sx.bt_isinstance (pa_cons (pv 1) (pa_cons (pe_glob (v := .ref T.C_Slope) (by rfl) T.g_Slope rfl) pa_nil))) (pe_and (pe_cmpR op_eq (pe_fld (pv 0) rfl) (pe_fld (pv 1) rfl) (nomark _)) (pe_one (pe_cmpR op_eq (pe_fld (pv 0) rfl) (pe_fld (pv 1) rfl) (nomark _))))))), ?_⟩
    refine Sx.r_st (σ' := [some (.ref p), some (.ref p2)]) rfl ?_
    walk_at "sx"
    refine r_isi_own e2 T.cl_Slope T.ic_Slope T.cg T.ct T.mr_Slope T.ks_Slope ?_
    walk_at "sx"
    refine ⟨p, _, dx, _, _, rfl, e1, T.cl_Slope, T.na_Slope_rises, slF_r a b, ?_⟩
    walk_at "sx"
    refine ⟨p2, _, dx2, _, _, rfl, e2, T.cl_Slope, T.na_Slope_rises, slF_r c d, ?_⟩
    walk_at "sx"
    refine ite_d (fun h => ?_) (fun h => ?_)
    · walk_at "sx"
      refine ⟨p, _, dx, _, _, rfl, e1, T.cl_Slope, T.na_Slope_steps, slF_s a b, ?_⟩
      walk_at "sx"
      refine ⟨p2, _, dx2, _, _, rfl, e2, T.cl_Slope, T.na_Slope_steps, slF_s c d, ?_⟩
      walk_at "sx"
      rw [show decide (a = c ∧ b = d) = decide (b = d) by simp [h]] at q
      exact q
    · rw [show decide (a = c ∧ b = d) = false by simp [h]] at q
      exact q
theorem ok_text {l : List Nat} (h : ∀ c, c ∈ l → c = 114 ∨ c = 115) : PyData.strOk (S l) = true := by
  unfold PyData.strOk
  rw [Array.all_eq_true]
  intro i hi
  have hm : (S l).cps[i] ∈ l := by simp [S]
  rcases h _ hm with e | e <;> rw [e] <;> decide
def keyD (a b : Nat) (l : List Nat) : PyData := .tuple [.int a, .int b, .str (S l)]
theorem key_ok {a b : Nat} {l : List Nat} (h : ∀ c, c ∈ l → c = 114 ∨ c = 115) : SeqAt.shaped (keyD a b l) = true :=
  tup_ok (by simp only [PyData.canLayAll0, PyData.canLay0, ok_text h, Bool.and_self]) (by simp only [PyData.depthAll, PyData.depth]; decide)
theorem key_at {K : PySem.W.Frag} {H : Hp} {k : Addr} {a b : Nat} {l : List Nat} (h : H k = some (.tup [.int a, .int b, .str (S l)])) : Dp K H (.ref k) (keyD a b l) := .tup (SqT.of h) (.cons (.int _) (.cons (.int _) (.cons (.str _) .nil)))
theorem key_eqv {a b c d : Nat} {l m : List Nat} : PyData.eqv (keyD a b l) (keyD c d m) = decide (a = c ∧ b = d ∧ l = m) := by
  unfold keyD
  simp only [PyData.eqv, PyData.eqvAll, Bool.and_true]
  rw [SX.S_beq_eq]
  by_cases h1 : a = c <;> by_cases h2 : b = d <;> by_cases h3 : l = m <;> simp [h1, h2, h3] <;> omega
theorem key_alike {a b c d : Nat} {l m : List Nat} : PySem.W.alike (keyD a b l) (keyD c d m) = true := by
  unfold keyD
  simp [PySem.W.alike, PySem.W.alikeAll]
theorem key_lt {a b : Nat} {l m : List Nat} : PySem.W.dataLt (keyD a b l) (keyD a b m) = decide (l < m) := by
  unfold keyD
  rw [PySem.W.dataLt_tuple, PySem.W.dataLt_all_yes (by simp [PySem.W.alike]) (by simp [PyData.eqv]), PySem.W.dataLt_all_yes (by simp [PySem.W.alike]) (by simp [PyData.eqv])]
  by_cases h : l = m
  · subst h
    rw [PySem.W.dataLt_all_yes (by simp [PySem.W.alike]) (by simp [PyData.eqv])]
    rw [decide_eq_false (List.lt_irrefl l)]
    decide +kernel
  · rw [PySem.W.dataLt_all_no (by simp [PySem.W.alike]) (by simp only [PyData.eqv, SX.S_beq_eq]; simp [h]), PySem.W.dataLt_str]
def sp_Way_eq (CS CW : Addr) : Sp := fun vs H Q _ => ∃ v u, ∃ a b c d : Nat, ∃ l m : List Nat, vs = [v, u] ∧ WayAt CS CW H v a b l ∧ WayAt CS CW H u c d m ∧ Q (.bl (decide (a = c ∧ b = d ∧ l = m))) H
theorem ok_Way_eq (T : Tx K mg) : FnOk P w K mg base CX0 1 T.a_Way_eq T.d_Way_eq ["self", "other"] (sp_Way_eq T.C_Slope T.C_Way) := by
  refine T.F_Way_eq.ok sc_Way_eq (fun vs H Q E h => ?_) (fun cdv A outer s H vs Q E hr h => ?_)
  · obtain ⟨v, u, a, b, c, d, l, m, rfl, _⟩ := h; rfl
  · obtain ⟨v, u, a, b, c, d, l, m, rfl, ⟨w1, p, dx, sv, t, r, k, rfl, e1, i1⟩, ⟨w2, p2, dx2, sv2, t2, r2, k2, rfl, e2, i2⟩, q⟩ := h
    refine ⟨_, (pss_cons (ps_if (pt_not (pt_val (pe_callB call_isi (by rfl) T.n_isinstance Sx.bt_isinstance (pa_cons (pv 1) (pa_cons (pe_glob (v := .ref T.C_Way) (by rfl) T.g_Way rfl) pa_nil))))) pss_never pss_nil)
      (pss_one (ps_ret (pe_cmpR (op_eqD hr.units) (pe_fld (pv 0) rfl) (pe_fld (pv 1) rfl) (nomark _))))), ?_⟩
    refine Sx.r_st (σ' := [some (.ref p), some (.ref p2)]) rfl ?_
    walk_at "sxi"
    refine r_isi_own e2 T.cl_Way T.ic_Way T.cg T.ct T.mr_Way T.ks_Way ?_
    walk_at "sx"
    refine ⟨p, _, dx, _, _, rfl, e1, T.cl_Way, T.na_Way_key, wyF_key, ?_⟩
    walk_at "sx"
    refine ⟨p2, _, dx2, _, _, rfl, e2, T.cl_Way, T.na_Way_key, wyF_key, ?_⟩
    refine r_eqD (key_at i1.2.2.2) (key_at i2.2.2.2) (key_ok (wd_letters w1.1)) (key_ok (wd_letters w2.1)) ?_
    rw [key_eqv]; exact q
def sp_Way_lt (CS CW : Addr) : Sp := fun vs H Q _ => ∃ v u, ∃ a b : Nat, ∃ l m : List Nat, vs = [v, u] ∧ WayAt CS CW H v a b l ∧ WayAt CS CW H u a b m ∧ Q (.bl (decide (l < m))) H
theorem ok_Way_lt (T : Tx K mg) : FnOk P w K mg base CX0 1 T.a_Way_lt T.d_Way_lt ["self", "other"] (sp_Way_lt T.C_Slope T.C_Way) := by
  refine T.F_Way_lt.ok sc_Way_lt (fun vs H Q E h => ?_) (fun cdv A outer s H vs Q E hr h => ?_)
  · obtain ⟨v, u, a, b, l, m, rfl, _⟩ := h; rfl
  · obtain ⟨v, u, a, b, l, m, rfl, ⟨w1, p, dx, sv, t, r, k, rfl, e1, i1⟩, ⟨w2, p2, dx2, sv2, t2, r2, k2, rfl, e2, i2⟩, q⟩ := h
    refine ⟨_, (pss_cons (ps_if (pt_not (pt_val (pe_callB call_isi (by rfl) T.n_isinstance Sx.bt_isinstance (pa_cons (pv 1) (pa_cons (pe_glob (v := .ref T.C_Way) (by rfl) T.g_Way rfl) pa_nil))))) pss_never pss_nil)
      (pss_one (ps_ret (pe_cmpR (Sw.op_ltD hr.units) (pe_fld (pv 0) rfl) (pe_fld (pv 1) rfl) (nomark _))))), ?_⟩
    refine Sx.r_st (σ' := [some (.ref p), some (.ref p2)]) rfl ?_
    walk_at "sxi"
    refine r_isi_own e2 T.cl_Way T.ic_Way T.cg T.ct T.mr_Way T.ks_Way ?_
    walk_at "sx"
    refine ⟨p, _, dx, _, _, rfl, e1, T.cl_Way, T.na_Way_key, wyF_key, ?_⟩
    walk_at "sx"
    refine ⟨p2, _, dx2, _, _, rfl, e2, T.cl_Way, T.na_Way_key, wyF_key, ?_⟩
    refine r_ltD (key_at i1.2.2.2) (key_at i2.2.2.2) key_alike (fun z => nomatch z) (by unfold keyD; simp only [PyData.depth, PyData.depthAll]; decide) ?_
    rw [key_lt]; exact q
/-! ### the highest and the lowest way -/
theorem hi_text {a b : Nat} : (times ("r" : Str) ((a : Int)).toNat ++ times ("s" : Str) ((b : Int)).toNat : Str) = S (hiW a b) := by
  rw [lit_r, lit_s, times_S, times_S, SX.S_cat, Int.toNat_natCast, Int.toNat_natCast]; rfl
theorem hi_len {a b : Nat} (ha : a ≤ 60) (hb : b ≤ 60) : (times ("r" : Str) ((a : Int)).toNat).length + (times ("s" : Str) ((b : Int)).toNat).length ≤ sizeLine := by
  rw [times_len, times_len, len_r, len_s, sizeLine_eq]; omega
def sp_highest (CS CW : Addr) : Sp := fun vs H Q _ => ∃ v, ∃ a b : Nat, vs = [v] ∧ SlopeAt CS H v a b ∧ ∀ u H', Same H H' → WayAt CS CW H' u a b (hiW a b) → Q u H'
theorem ok_highest (T : Tx K mg) : FnOk P w K mg base CX0 7 T.a_highest T.d_highest ["slope"] (sp_highest T.C_Slope T.C_Way) := by
  refine T.F_highest.ok sc_highest (fun vs H Q E h => ?_) (fun cdv A outer s H vs Q E hr h => ?_)
  · obtain ⟨v, a, b, rfl, _⟩ := h; rfl
  · obtain ⟨v, a, b, rfl, hS, q⟩ := h
    have hb := hS.1
    refine ⟨_, (pss_cons (ps_expr (pe_call (ok_check_slope T) (hr.mono (by decide)) (by rfl) T.g_check_slope T.F_check_slope.kp T.b_check_slope .nil pass0 (pa_cons (pv 0) pa_nil)))
      (pss_one (ps_ret (pe_make T.mk_Way (ok_Way_init T) (hr.mono (by decide)) (by rfl) T.g_Way T.b_Way_init .nil pass0 (pa_cons (pv 0) (pa_cons (pe_op Sx.o_addS (pe_op Sy.op_strmul pe_str (pe_prop (pv 0) T.cl_Slope T.pr_Slope_rises (ok_Slope_rises T) (hr.mono (by decide)) T.b_Slope_rises .nil pass0 rfl)) (pe_op Sy.op_strmul pe_str (pe_prop (pv 0) T.cl_Slope T.pr_Slope_steps (ok_Slope_steps T) (hr.mono (by decide)) T.b_Slope_steps .nil pass0 rfl))) pa_nil)))))), ?_⟩
    refine Sx.r_st (σ' := [some (v)]) rfl ?_
    walk_at "sx"
    refine ⟨v, a, b, rfl, hS, ?_⟩
    walk_at "sx"
    refine rd_r hS ?_
    walk_at "sx"
    · refine rd_s hS ?_
      walk_at "sx"
      · rw [hi_text]
        exact mk_way hS hi_way q
      · exact hi_len (by omega) (by omega)
      · rw [len_s]; decide
      · omega
    · rw [len_r]; decide
    · omega
def sp_lowest (CS CW : Addr) : Sp := fun vs H Q _ => ∃ v, ∃ a b : Nat, vs = [v] ∧ SlopeAt CS H v a b ∧ ∀ u H', Same H H' → WayAt CS CW H' u a b (loW a b) → Q u H'
theorem lo_snoc_r {a b n : Nat} (h : lev a b (loP a b n) < a) : (loP a b (n + 1)).map (fun c : Nat => V.str ⟨#[c]⟩) = (loP a b n).map (fun c : Nat => V.str ⟨#[c]⟩) ++ [V.str ("r" : Str)] := by
  rw [loP, if_pos h, List.map_append, lit_r]; rfl
theorem lo_snoc_s {a b n : Nat} (h : ¬ lev a b (loP a b n) < a) : (loP a b (n + 1)).map (fun c : Nat => V.str ⟨#[c]⟩) = (loP a b n).map (fun c : Nat => V.str ⟨#[c]⟩) ++ [V.str ("s" : Str)] := by
  rw [loP, if_neg h, List.map_append, lit_s]; rfl
theorem lo_next_r {a b n : Nat} (h : lev a b (loP a b n) < a) : lev a b (loP a b (n + 1)) = lev a b (loP a b n) + b := by
  rw [loP, if_pos h, lev_snoc]; rfl
theorem lo_next_s {a b n : Nat} (h : ¬ lev a b (loP a b n) < a) : lev a b (loP a b (n + 1)) = lev a b (loP a b n) - a := by
  rw [loP, if_neg h, lev_snoc]; rfl
theorem ok_lowest (T : Tx K mg) : FnOk P w K mg base CX0 7 T.a_lowest T.d_lowest ["slope"] (sp_lowest T.C_Slope T.C_Way) := by
  refine T.F_lowest.ok sc_lowest (fun vs H Q E h => ?_) (fun cdv A outer s H vs Q E hr h => ?_)
  · obtain ⟨v, a, b, rfl, _⟩ := h; rfl
  · obtain ⟨v, a, b, rfl, hS, q⟩ := h
    have hb := hS.1
    refine ⟨_, (pss_cons (ps_expr (pe_call (ok_check_slope T) (hr.mono (by decide)) (by rfl) T.g_check_slope T.F_check_slope.kp T.b_check_slope .nil pass0 (pa_cons (pv 0) pa_nil)))
      (pss_cons (ps_set (i := 1) sc_lowest.nd rfl (.inl rfl) pe_int)
      (pss_cons (ps_set (i := 2) sc_lowest.nd rfl (.inl rfl) (pe_lst pa_nil))
      (pss_cons (ps_while PassesOwn.never (pt_cmpR op_lt (pe_callB Sx.c_len (by rfl) T.n_len Sx.bt_len (pa_cons (pv 2) pa_nil)) (pe_op op_add (pe_prop (pv 0) T.cl_Slope T.pr_Slope_rises (ok_Slope_rises T) (hr.mono (by decide)) T.b_Slope_rises .nil pass0 rfl) (pe_prop (pv 0) T.cl_Slope T.pr_Slope_steps (ok_Slope_steps T) (hr.mono (by decide)) T.b_Slope_steps .nil pass0 rfl)) (nomark _)) (pss_one (ps_if (pt_cmpR op_lt (pv 1) (pe_prop (pv 0) T.cl_Slope T.pr_Slope_rises (ok_Slope_rises T) (hr.mono (by decide)) T.b_Slope_rises .nil pass0 rfl) (nomark _)) (pss_cons (ps_expr (pe_bm PySem.F.plainAttrs_list PySem.F.slot_list_append PySem.F.type_list_append mt_append (pv 2) (pa_cons pe_str pa_nil)))
      (pss_one (ps_set (i := 1) sc_lowest.nd rfl (.inl rfl) (pe_op op_add (pv 1) (pe_prop (pv 0) T.cl_Slope T.pr_Slope_steps (ok_Slope_steps T) (hr.mono (by decide)) T.b_Slope_steps .nil pass0 rfl))))) (pss_cons (ps_expr (pe_bm PySem.F.plainAttrs_list PySem.F.slot_list_append PySem.F.type_list_append mt_append (pv 2) (pa_cons pe_str pa_nil)))
      (pss_one (ps_set (i := 1) sc_lowest.nd rfl (.inl rfl) (pe_op op_sub (pv 1) (pe_prop (pv 0) T.cl_Slope T.pr_Slope_rises (ok_Slope_rises T) (hr.mono (by decide)) T.b_Slope_rises .nil pass0 rfl))))))))
      (pss_one (ps_ret (pe_make T.mk_Way (ok_Way_init T) (hr.mono (by decide)) (by rfl) T.g_Way T.b_Way_init .nil pass0 (pa_cons (pv 0) (pa_cons (pe_bm PySem.F.plainAttrs_str PySem.F.slot_str_join PySem.F.type_str_join Sx.m_join pe_str (pa_cons (pv 2) pa_nil)) pa_nil))))))))), ?_⟩
    refine Sx.r_st (σ' := [some (v), none, none]) rfl ?_
    walk_at "sx"
    refine ⟨v, a, b, rfl, hS, ?_⟩
    walk_at "sx"
    refine ⟨Nat.zero_le _, fun p hp => ?_⟩
    walk_at "sx"
    refine r_while (fun m σ' H' => Same H H' ∧ ∃ n, n + m = a + b ∧ σ' = [some v, some (.int (lev a b (loP a b n))), some (.ref p)] ∧ H' p = some (.lst ((loP a b n).map fun c : Nat => V.str ⟨#[c]⟩))) (a + b) ⟨same_new hp, 0, by omega, rfl, upd_same⟩ ?_
    rintro m σ' H1 ⟨s1, n, hn, rfl, hpp⟩
    have hln : (loP a b n).length = n := loP_len n
    walk_at "sx"
    refine r_lenL (SqL.of hpp) ?_
    rw [List.length_map, hln]
    walk_at "sx"
    refine rd_r (hS.mono s1) ?_
    walk_at "sx"
    refine rd_s (hS.mono s1) ?_
    walk_at "sx"
    refine ite_d (fun h => ?_) (fun h => ?_)
    · refine ⟨fun σ2 H2 => Same H H2 ∧ σ2 = [some v, some (.int (lev a b (loP a b (n + 1)))), some (.ref p)] ∧ H2 p = some (.lst ((loP a b (n + 1)).map fun c : Nat => V.str ⟨#[c]⟩)), ?_, ?_⟩
      · rintro σ2 H2 ⟨s2, rfl, h2⟩
        exact ⟨m - 1, by omega, s2, n + 1, by omega, rfl, h2⟩
      · walk_at "sxi"
        refine rd_r (hS.mono s1) ?_
        walk_at "sx"
        have big : ((loP a b n).map fun c : Nat => V.str ⟨#[c]⟩).length < sizeLine := by rw [List.length_map, hln, sizeLine_eq]; omega
        refine ite_d (fun h2 => ?_) (fun h2 => ?_)
        · walk_at "sx"
          refine ⟨tyL hpp, ?_⟩
          walk_at "sx"
          refine r_app hpp ?_ big
          walk_at "sx"
          refine rd_s (hS.mono (same_mut s1 hp)) ?_
          walk_at "sx"
          rw [← lo_snoc_r h2]
          refine ⟨same_mut s1 hp, ?_, upd_same⟩
          rw [lo_next_r h2]; rfl
        · walk_at "sx"
          refine ⟨tyL hpp, ?_⟩
          walk_at "sx"
          refine r_app hpp ?_ big
          walk_at "sx"
          refine rd_r (hS.mono (same_mut s1 hp)) ?_
          walk_at "sx"
          rw [← lo_snoc_s h2]
          refine ⟨same_mut s1 hp, ?_, upd_same⟩
          rw [lo_next_s h2]; rfl
    · have e : n = a + b := by omega
      subst e
      walk_at "sx"
      have hd2 : SqL K H1 p (((loW a b).map fun c => (⟨#[c]⟩ : Str)).map V.str) := SqL.of (by rw [List.map_map]; exact hpp)
      refine r_joinL hd2 ?_ ?_
      · rw [join_letters]
        exact mk_way (hS.mono s1) (lo_way (by omega) (by omega)) fun u H2 s2 hu => q u H2 (fun b o z => s2 b o (s1 b o z)) hu
      · have hl : (loW a b).length = a + b := loP_len _
        rw [lens_ones, List.length_map, len_0, hl]; omega
def sp_law_dice (K : PySem.W.Frag) : Sp := fun vs H Q _ => ∃ (a : Addr) (ns : List Int) (i : Nat), vs = [.ref a, .int i] ∧ SqL K H a (ns.map V.int) ∧ i ≤ 63 ∧ ∀ d H', Same H H' → H d = none → Dice H' d → Q (.ref d) H'
theorem ok_law_dice (T : Tx K mg) : FnOk P w K mg base CX0 1 T.a_law_dice T.d_law_dice ["_law_script", "_law_spot"] (sp_law_dice K) := by
  refine T.F_law_dice.ok sc_law_dice (fun vs H Q E h => ?_) (fun cdv A outer s H vs Q E hr h => ?_)
  · obtain ⟨a, ns, i, rfl, _⟩ := h; rfl
  · obtain ⟨a, ns, i, rfl, hS, hi, q⟩ := h
    refine ⟨_, (pss_cons (ps_set (i := 2) sc_law_dice.nd rfl (.inl rfl) (pe_ifExp (pt_cmpR op_lt (pv 1) (pe_callB Sx.c_len (by rfl) T.n_len Sx.bt_len (pa_cons (pv 0) pa_nil)) (nomark _)) (pe_callTy Sx.c_int (by rfl) T.n_int Sx.bt_int (pa_cons (pe_ix ix_list (pv 0) (pv 1) (fun _ _ => rfl)) pa_nil)) (pe_op op_add (pe_op Sx.op_mulA pe_int (pv 1)) pe_int)))
      (pss_cons (ps_set (i := 3) sc_law_dice.nd rfl (.inl rfl) (pe_op op_mod (pe_callB (Sx.c_max rfl) (by rfl) T.n_max Sx.bt_max (pa_cons pe_int (pa_cons (pe_op op_sub (pe_callB Sx.c_abs (by rfl) T.n_abs Sx.bt_abs (pa_cons (pv 2) pa_nil)) (pe_op op_pow pe_int pe_int)) pa_nil))) (pe_op Sx.op_mulA (pe_op op_pow pe_int pe_int) (pe_op op_pow pe_int pe_int))))
      (pss_one (ps_ret (pe_lst (pa_cons (pv 3) (pa_cons (pe_op op_add (pe_op op_add (pe_op op_add (pe_op Sx.op_mulA (pe_op op_mod (pe_callB Sx.c_abs (by rfl) T.n_abs Sx.bt_abs (pa_cons (pv 2) pa_nil)) pe_int) pe_int) (pe_op Sx.op_mulA pe_int (pv 1))) (pe_op Sx.op_mulA pe_int (pe_callTy Sx.c_int (by rfl) T.n_int Sx.bt_int (pa_cons (pe_cmpR op_lt (pv 2) pe_int (nomark _)) pa_nil)))) pe_int) (pa_cons pe_int pa_nil)))))))), ?_⟩
    refine Sx.r_st (σ' := [some (.ref a), some (.int i), none, none]) rfl ?_
    walk_at "sx"
    refine r_cutQ (fun v H1 => H1 = H ∧ ∃ x : Int, v = .int x) (fun Q' k => ?_) ?_
    · refine r_ifE ?_
      walk_at "sx"
      refine r_lenL hS ?_
      walk_at "sx"
      rw [List.length_map]
      refine ite_d (fun h => ?_) (fun h => ?_)
      · have h' : i < ns.length := by omega
        walk_at "sx"
        refine ⟨a, _, _, _, rfl, rfl, hS, atI_nat (j := i) (v := .int ns[i]) (by rw [List.getElem?_map, List.getElem?_eq_getElem h']; rfl), ?_⟩
        walk_at "sx"
        exact k _ _ ⟨rfl, _, rfl⟩
      · walk_at "sx"
        · exact k _ _ ⟨rfl, _, rfl⟩
        all_goals walk_at "sd"
    · rintro v H1 ⟨rfl, x, rfl⟩
      walk_at "sx"
      · refine ⟨sz _ (Nat.le_of_ble_eq_true rfl), fun d hd => ?_⟩
        exact q _ _ (same_new hd) hd ⟨_, _, _, upd_same⟩
      all_goals first | walk_at "sd" | exact cmA_w (by unfold CMulW; decide +kernel)
def sp_law_roll : Sp := fun vs H Q _ => ∃ (d : Addr) (n : Int), vs = [.ref d, .int n] ∧ Dice H d ∧ 0 < n ∧ n.natAbs.log2 < 9000 ∧ ∀ r H', 0 ≤ r → r < n → Kp d H H' → Q (.int r) H'
theorem ok_law_roll (T : Tx K mg) : FnOk P w K mg base CX0 1 T.a_law_roll T.d_law_roll ["_law_dice_here", "_law_total"] sp_law_roll := by
  refine T.F_law_roll.ok sc_law_roll (fun vs H Q E h => ?_) (fun cdv A outer s H vs Q E hr h => ?_)
  · obtain ⟨d, n, rfl, _⟩ := h; rfl
  · obtain ⟨d, n, rfl, ⟨x, y, z, hd⟩, hn, hl, q⟩ := h
    refine ⟨_, (pss_cons (ps_if (pt_cmpR op_gt (pe_ix ix_list (pv 0) pe_int (fun _ _ => rfl)) pe_int (nomark _)) (pss_cons (ps_set (i := 2) sc_law_roll.nd rfl (.inl rfl) (pe_op op_mod (pe_callTy Sx.c_int (by rfl) T.n_int Sx.bt_int (pa_cons (pe_ix ix_list (pv 0) pe_int (fun _ _ => rfl)) pa_nil)) (pv 1)))
      (pss_cons (ps_asg (pe_op op_fdivW (pe_ix ix_list (pv 0) pe_int (fun _ _ => rfl)) (pv 1)) (pg_sub (pv 0) pe_int set_list))
      (pss_one (ps_ret (pv 2))))) pss_nil)
      (pss_cons (ps_asg (pe_op op_add (pe_ix ix_list (pv 0) pe_int (fun _ _ => rfl)) pe_int) (pg_sub (pv 0) pe_int set_list))
      (pss_cons (ps_set (i := 3) sc_law_roll.nd rfl (.inl rfl) (pe_op op_mod (pe_callTy Sx.c_int (by rfl) T.n_int Sx.bt_int (pa_cons (pe_op op_add (pe_ix ix_list (pv 0) pe_int (fun _ _ => rfl)) (pe_op Sx.op_mulA pe_int (pe_ix ix_list (pv 0) pe_int (fun _ _ => rfl)))) pa_nil)) pe_int))
      (pss_cons (ps_set (i := 4) sc_law_roll.nd rfl (.inl rfl) (pe_op op_add (pe_op Sx.op_mulA (pe_op op_mod (pe_callTy Sx.c_int (by rfl) T.n_int Sx.bt_int (pa_cons (pe_op op_add (pe_op Sx.op_mulA (pv 3) (pv 3)) (pe_op Sx.op_mulA pe_int (pe_ix ix_list (pv 0) pe_int (fun _ _ => rfl)))) pa_nil)) pe_int) pe_int) (pv 3)))
      (pss_one (ps_ret (pe_op op_mod (pe_callTy Sx.c_int (by rfl) T.n_int Sx.bt_int (pa_cons (pe_op op_fdivW (pv 4) pe_int) pa_nil)) (pv 1)))))))), ?_⟩
    refine Sx.r_st (σ' := [some (.ref d), some (.int n), none, none, none]) rfl ?_
    walk_at "sxi"
    refine r_ixL hd (v := .int x) rfl ?_
    walk_at "sx"
    refine ite_d (fun h => ?_) (fun h => ?_)
    · walk_at "sx"
      refine r_ixL hd (v := .int x) rfl ?_
      walk_at "sx"
      · refine r_ixL hd (v := .int x) rfl ?_
        walk_at "sx"
        · refine r_setL hd (j := 0) rfl ?_
          walk_at "sx"
          refine q _ _ (Int.emod_nonneg _ (by omega)) (Int.emod_lt_of_pos _ hn) (Kp.put ⟨x, y, z, hd⟩)
        · exact ⟨hn, hl⟩
      · exact hn
    · walk_at "sx"
      refine r_ixL hd (v := .int z) rfl ?_
      walk_at "sx"
      refine r_setL hd (j := 2) rfl ?_
      walk_at "sx"
      refine r_ixL upd_same (v := .int y) rfl ?_
      walk_at "sx"
      refine r_ixL upd_same (v := .int (z + 1)) rfl ?_
      walk_at "sx"
      refine r_ixL upd_same (v := .int (z + 1)) rfl ?_
      walk_at "sx"
      · exact q _ _ (Int.emod_nonneg _ (by omega)) (Int.emod_lt_of_pos _ hn) (Kp.put ⟨x, y, z, hd⟩)
      all_goals walk_at "sd"
def sp_law_pick : Sp := fun vs H Q _ => ∃ (d l : Addr) (xs : List V), vs = [.ref d, .ref l] ∧ Dice H d ∧ l ≠ d ∧ H l = some (.lst xs) ∧ 0 < xs.length ∧ xs.length ≤ 1000 ∧ ∀ v H', v ∈ xs → Kp d H H' → Q v H'
theorem ok_law_pick (T : Tx K mg) : FnOk P w K mg base CX0 2 T.a_law_pick T.d_law_pick ["_law_dice_here", "_law_items"] sp_law_pick := by
  refine T.F_law_pick.ok sc_law_pick (fun vs H Q E h => ?_) (fun cdv A outer s H vs Q E hr h => ?_)
  · obtain ⟨d, n, xs, rfl, _⟩ := h; rfl
  · obtain ⟨d, l, xs, rfl, hd, hld, hl, h0, hn, q⟩ := h
    refine ⟨_, (pss_one (ps_ret (pe_ix ix_list (pv 1) (pe_call (ok_law_roll T) (hr.mono (by decide)) (by rfl) T.g_law_roll T.F_law_roll.kp T.b_law_roll .nil pass0 (pa_cons (pv 0) (pa_cons (pe_callB Sx.c_len (by rfl) T.n_len Sx.bt_len (pa_cons (pv 1) pa_nil)) pa_nil))) (fun _ _ => rfl)))), ?_⟩
    refine Sx.r_st (σ' := [some (.ref d), some (.ref l)]) rfl ?_
    walk_at "sx"
    refine r_lenL (SqL.of hl) ?_
    walk_at "sx"
    refine ⟨d, xs.length, rfl, hd, by omega, ?_, fun r H' h1 h2 kp => ?_⟩
    · exact PySem.Flt.log2_lt_of (by decide) (Nat.lt_of_le_of_lt (show (xs.length : Int).natAbs ≤ 1000 by omega) (by decide +kernel))
    have hr : r.toNat < xs.length := by omega
    refine r_ixL (kp.k l _ hld hl) (v := xs[r.toNat]) ?_ ?_
    · have := atI_nat (xs := xs) (j := r.toNat) (v := xs[r.toNat]) (List.getElem?_eq_getElem hr)
      rw [Int.toNat_of_nonneg h1] at this; exact this
    exact q _ _ (List.getElem_mem hr) kp
theorem log_small {n : Int} (h0 : 0 ≤ n) (h : n ≤ 1000) : n.natAbs.log2 < 9000 := PySem.Flt.log2_lt_of (by decide) (Nat.lt_of_le_of_lt (show n.natAbs ≤ 1000 by omega) (by decide +kernel))
def sp_law_any_slope : Sp := fun vs H Q _ => ∃ (d : Addr) (n : Int), vs = [.ref d, .int n] ∧ Dice H d ∧ 0 < n ∧ n ≤ 1000 ∧ ∀ p a b H', 1 ≤ a → a ≤ n → 1 ≤ b → b ≤ n → Kp d H H' → H' p = some (.tup [.int a, .int b]) → Q (.ref p) H'
theorem ok_law_any_slope (T : Tx K mg) : FnOk P w K mg base CX0 2 T.a_law_any_slope T.d_law_any_slope ["_law_dice_here", "_law_most"] sp_law_any_slope := by
  refine T.F_law_any_slope.ok sc_law_any_slope (fun vs H Q E h => ?_) (fun cdv A outer s H vs Q E hr h => ?_)
  · obtain ⟨d, n, rfl, _⟩ := h; rfl
  · obtain ⟨d, n, rfl, hd, h0, hn, q⟩ := h
    refine ⟨_, (pss_one (ps_ret (pe_tup (pa_cons (pe_op op_add pe_int (pe_call (ok_law_roll T) (hr.mono (by decide)) (by rfl) T.g_law_roll T.F_law_roll.kp T.b_law_roll .nil pass0 (pa_cons (pv 0) (pa_cons (pv 1) pa_nil)))) (pa_cons (pe_op op_add pe_int (pe_call (ok_law_roll T) (hr.mono (by decide)) (by rfl) T.g_law_roll T.F_law_roll.kp T.b_law_roll .nil pass0 (pa_cons (pv 0) (pa_cons (pv 1) pa_nil)))) pa_nil))))), ?_⟩
    refine Sx.r_st (σ' := [some (.ref d), some (.int n)]) rfl ?_
    walk_at "sx"
    refine ⟨d, n, rfl, hd, h0, log_small (by omega) hn, fun r H1 h1 h2 k1 => ?_⟩
    walk_at "sx"
    refine ⟨d, n, rfl, k1.d1, h0, log_small (by omega) hn, fun r2 H2 h3 h4 k2 => ?_⟩
    walk_at "sx"
    refine ⟨sz _ (Nat.le_of_ble_eq_true rfl), fun p hp => ?_⟩
    exact q p _ _ _ (by omega) (by omega) (by omega) (by omega) ((k1.trans k2).new hp) upd_same
/-! ### drawn ways -/
def sp_law_way : Sp := fun vs H Q _ => ∃ (d : Addr) (a b : Nat), vs = [.ref d, .int a, .int b] ∧ Dice H d ∧ 1 ≤ a ∧ a ≤ 60 ∧ 1 ≤ b ∧ b ≤ 60 ∧ ∀ l H', IsWay a b l → Kp d H H' → Q (.str (S l)) H'
/-- a beginning of a way: no level below 0 -/
structure Beg (a b : Nat) (l : List Nat) : Prop where
  let' : ∀ c, c ∈ l → c = 114 ∨ c = 115
  pos : ∀ i, i ≤ l.length → 0 ≤ lev a b (l.take i)
  r : l.count 114 ≤ a
  s : l.count 115 ≤ b
theorem Beg.snoc {a b c : Nat} {l : List Nat} (h : Beg a b l) (hc : c = 114 ∨ c = 115) (h0 : 0 ≤ lev a b (l ++ [c])) (h1 : (l ++ [c]).count 114 ≤ a) (h2 : (l ++ [c]).count 115 ≤ b) : Beg a b (l ++ [c]) := by
  refine ⟨fun x hx => ?_, fun i hi => ?_, h1, h2⟩
  · rcases List.mem_append.mp hx with hx | hx
    · exact h.let' x hx
    · rw [List.mem_singleton.mp hx]; exact hc
  · rw [List.length_append] at hi
    by_cases e : i ≤ l.length
    · rw [List.take_append_of_le_length e]; exact h.pos i e
    · rw [List.take_of_length_le (by rw [List.length_append]; exact Nat.le_of_not_lt fun z => by simp at hi z; omega)]; exact h0
theorem Beg.way {a b : Nat} {l : List Nat} (h : Beg a b l) (hl : l.length = a + b) : IsWay a b l := by
  have hc := count_both l h.let'
  have h1 := h.r
  have h2 := h.s
  exact ⟨⟨by omega, by omega, hl⟩, fun i hi => h.pos i (by omega)⟩
theorem Beg.lv {a b : Nat} {l : List Nat} (h : Beg a b l) : lev a b l = (b : Int) * (l.count 114 : Nat) - (a : Int) * (l.count 115 : Nat) := lev_two h.let'
theorem cnt_snoc {c d : Nat} {l : List Nat} : (l ++ [c]).count d = l.count d + if c = d then 1 else 0 := by
  rw [List.count_append, List.count_cons, List.count_nil]; simp
theorem Beg.add_r {a b : Nat} {l : List Nat} (h : Beg a b l) (h1 : l.count 114 < a) : Beg a b (l ++ [114]) := by
  refine h.snoc (.inl rfl) ?_ ?_ ?_
  · have := h.pos l.length (Nat.le_refl _)
    rw [List.take_length] at this
    rw [lev_snoc]; simp; omega
  · rw [cnt_snoc]; simp; omega
  · rw [cnt_snoc]; simp; exact h.s
theorem Beg.add_s {a b : Nat} {l : List Nat} (h : Beg a b l) (h1 : l.count 115 < b) (h2 : (a : Int) ≤ lev a b l) : Beg a b (l ++ [115]) := by
  refine h.snoc (.inr rfl) ?_ ?_ ?_
  · rw [lev_snoc]; simp; omega
  · rw [cnt_snoc]; simp; exact h.r
  · rw [cnt_snoc]; simp; omega
/-- no rises left: each further step is free -/
theorem Beg.full {a b : Nat} {l : List Nat} (h : Beg a b l) (h1 : l.count 114 = a) (h2 : l.count 115 < b) : (a : Int) ≤ Mw.lev a b l := by
  rw [h.lv, h1]
  have e : (a : Int) * (l.count 115 : Nat) + a ≤ (a : Int) * b := by
    have : (a : Int) * ((l.count 115 : Nat) + 1) ≤ (a : Int) * b := Int.mul_le_mul_of_nonneg_left (by omega) (Int.natCast_nonneg _)
    rw [Int.mul_add, Int.mul_one] at this
    exact this
  rw [Int.mul_comm (b : Int)]; omega
theorem Beg.low {a b : Nat} {l : List Nat} (h : Beg a b l) (h1 : Mw.lev a b l < a) (h2 : l.count 115 < b) : l.count 114 < a := by
  rcases Nat.lt_or_ge (l.count 114) a with z | z
  · exact z
  · have := h.full (Nat.le_antisymm h.r z) h2
    omega
theorem r_cutB {σ : L2.St} {H : Hp} {tt : TT} {Q : Bool → Hp → Prop} (S : Bool → Hp → Prop) (h : ∀ Q', (∀ b H1, S b H1 → Q' b H1) → tt σ H Q') (k : ∀ b H1, S b H1 → Q b H1) : tt σ H Q := h Q k
theorem S_snoc {l : List Nat} {c : Nat} : S l ++ (⟨#[c]⟩ : Str) = S (l ++ [c]) := SX.S_cat l [c]
theorem one_len {c : Nat} : (⟨#[c]⟩ : Str).length = 1 := rfl
theorem ok_law_way (T : Tx K mg) : FnOk P w K mg base CX0 2 T.a_law_way T.d_law_way ["_law_dice_here", "_law_rises", "_law_steps"] sp_law_way := by
  refine T.F_law_way.ok sc_law_way (fun vs H Q E h => ?_) (fun cdv A outer s H vs Q E hr h => ?_)
  · obtain ⟨d, a, b, rfl, _⟩ := h; rfl
  · obtain ⟨d, a, b, rfl, hd, a1, a2, b1, b2, q⟩ := h
    refine ⟨_, (pss_cons (ps_asg (pe_tup (pa_cons pe_str (pa_cons pe_int (pa_cons (pv 1) (pa_cons (pv 2) pa_nil))))) (pg_tup rfl (pgs_cons (pg_name (i := 3) sc_law_way.nd rfl (.inl rfl)) (pgs_cons (pg_name (i := 4) sc_law_way.nd rfl (.inl rfl)) (pgs_cons (pg_name (i := 5) sc_law_way.nd rfl (.inl rfl)) (pgs_cons (pg_name (i := 6) sc_law_way.nd rfl (.inl rfl)) pgs_nil))))))
      (pss_cons (ps_for PassesOwn.never rfl (pi_range1 (by rfl) T.n_range (pa_cons (pe_op op_add (pv 1) (pv 2)) pa_nil)) (pg_name (i := 7) sc_law_way.nd rfl (.inl rfl)) (pss_one (ps_if (PW.pt (pw_and (pt_cmpR op_gt (pv 5) pe_int (nomark _)) (pw_and1 (PW.pt (pw_or (pt_cmpR op_lt (pv 4) (pv 1) (nomark _)) (pw_or (pt_cmpR op_eq (pv 6) pe_int (nomark _)) (pw_or1 (pt_cmpR op_eq (pe_call (ok_law_roll T) (hr.mono (by decide)) (by rfl) T.g_law_roll T.F_law_roll.kp T.b_law_roll .nil pass0 (pa_cons (pv 0) (pa_cons pe_int pa_nil))) pe_int (nomark _))))))))) (pss_one (ps_par3 (i := 3) (j := 4) (l := 5) (by rfl) sc_law_way.nd rfl rfl rfl (by decide) (by decide) (by decide) rfl rfl rfl (pa_cons (pe_op Sx.o_addS (pv 3) pe_str) (pa_cons (pe_op op_add (pv 4) (pv 2)) (pa_cons (pe_op op_sub (pv 5) pe_int) pa_nil))) (by rfl))) (pss_one (ps_par3 (i := 3) (j := 4) (l := 6) (by rfl) sc_law_way.nd rfl rfl rfl (by decide) (by decide) (by decide) rfl rfl rfl (pa_cons (pe_op Sx.o_addS (pv 3) pe_str) (pa_cons (pe_op op_sub (pv 4) (pv 1)) (pa_cons (pe_op op_sub (pv 6) pe_int) pa_nil))) (by rfl))))))
      (pss_one (ps_ret (pv 3))))), ?_⟩
    refine Sx.r_st (σ' := [some (.ref d), some (.int a), some (.int b), none, none, none, none, none]) rfl ?_
    walk_at "sx"
    refine ⟨sz _ (Nat.le_of_ble_eq_true rfl), fun t ht => ?_⟩
    refine r_gtup upd_same rfl ?_
    walk_at "sx"
    refine r_rng1 ?_ (by omega) (by omega)
    refine fr_range (fun i σ' H' => Kp d H H' ∧ ∃ l y7, Beg a b l ∧ l.length = i ∧ σ' = [some (.ref d), some (.int a), some (.int b), some (.str (S l)), some (.int (Mw.lev a b l)), some (.int ((a : Int) - (l.count 114 : Nat))), some (.int ((b : Int) - (l.count 115 : Nat))), y7]) ⟨(Kp.refl hd).new ht, [], none, ⟨fun c hc => by simp at hc, fun i hi => by simp [lev_nil], by simp, by simp⟩, rfl, ?_⟩ ?_ ?_
    · rw [lev_nil]
      show [some (V.ref d), some (V.int a), some (V.int b), some (V.str ("" : Str)), some (V.int 0), some (V.int a), some (V.int b), none] = _
      rw [show ("" : Str) = S [] by decide +kernel]
      simp
    · rintro i σ' H1 hi ⟨k1, l, y7, hB, hl, rfl⟩
      have hi' : i < a + b := by omega
      have hc := count_both l hB.let'
      have hr := hB.r
      have hs := hB.s
      walk_at "sx"
      refine r_ifs ?_
      refine r_cutB (fun z H2 => Kp d H1 H2 ∧ (z = true → l.count 114 < a) ∧ (z = false → l.count 115 < b ∧ (a : Int) ≤ Mw.lev a b l)) (fun Q' k => ?_) ?_
      · walk_at "sx"
        refine ite_d (fun h1 => ?_) (fun h1 => ?_)
        · walk_at "sx"
          refine ite_d (fun h2 => ?_) (fun h2 => ?_)
          · exact k _ _ ⟨Kp.refl k1.d1, fun _ => by omega, (fun z => nomatch z)⟩
          · walk_at "sx"
            refine ite_d (fun h3 => ?_) (fun h3 => ?_)
            · exact k _ _ ⟨Kp.refl k1.d1, fun _ => by omega, (fun z => nomatch z)⟩
            · walk_at "sx"
              refine ⟨d, 2, rfl, k1.d1, by decide, log_small (by decide) (by decide), fun r H2 r0 r1 k2 => ?_⟩
              walk_at "sx"
              exact k _ _ ⟨k2, fun _ => by omega, fun _ => ⟨by omega, by omega⟩⟩
        · exact k _ _ ⟨Kp.refl k1.d1, (fun z => nomatch z), fun _ => ⟨by omega, hB.full (by omega) (by omega)⟩⟩
      · rintro z H2 ⟨k2, z1, z2⟩
        have big : (S l).length + 1 ≤ sizeLine := by rw [SX.S_len, sizeLine_eq]; omega
        cases z with
        | true =>
          have h1 := z1 rfl
          walk_at "sx"
          · refine ⟨k1.trans k2, l ++ [114], some (.int (0 + i)), hB.add_r h1, by rw [List.length_append, hl]; rfl, ?_⟩
            rw [lit_r, S_snoc, lev_snoc, if_pos rfl, cnt_snoc, cnt_snoc, if_pos rfl, if_neg (by decide), show (a : Int) - ((l.count 114 + 1 : Nat) : Int) = (a : Int) - (l.count 114 : Nat) - 1 by omega]; rfl
          · rw [len_r]; exact big
        | false =>
          obtain ⟨h1, h2⟩ := z2 rfl
          walk_at "sx"
          · refine ⟨k1.trans k2, l ++ [115], some (.int (0 + i)), hB.add_s h1 h2, by rw [List.length_append, hl]; rfl, ?_⟩
            rw [lit_s, S_snoc, lev_snoc, if_neg (by decide), cnt_snoc, cnt_snoc, if_pos rfl, if_neg (by decide), show (b : Int) - ((l.count 115 + 1 : Nat) : Int) = (b : Int) - (l.count 115 : Nat) - 1 by omega]; rfl
          · rw [len_s]; exact big
    · rintro σ' H1 ⟨k1, l, y7, hB, hl, rfl⟩
      walk_at "sx"
      exact q l H1 (hB.way (by omega)) k1
end
end Lw

namespace Lw
open PySem PySem.Spec PyProof.Rows L2 Sx Sy Sw Mw Me
open En (NoNum)
open SX (S)
open C8 (pe_gc)
open SkE (call_repr_int call_str_str)
open RZ (pi_zipA)
section
variable {P : Program} {w : World} {K : PySem.W.Frag} {mg : Str → Option Value} {base : Heap}
/-! ### the rows of ends -/
/-- at p a list of n lists, the i-th one f i -/
def MatF (H0 H : Hp) (p : Addr) (n : Nat) (f : Nat → List Nat) : Prop := ∃ ps : List Addr, ps.length = n ∧ H p = some (.lst (ps.map V.ref)) ∧ (∀ i q, ps[i]? = some q → q ≠ p ∧ H q = some (.lst ((f i).map fun x : Nat => V.int x))) ∧ H0 p = none ∧ ∀ q, q ∈ ps → H0 q = none
theorem free_same {H H' : Hp} (s : Same H H') {p : Addr} (h : H' p = none) : H p = none := by
  cases e : H p with
  | none => rfl
  | some o => rw [s _ _ e] at h; cases h
theorem MatF.keeps {H0 H H' : Hp} {p : Addr} {n : Nat} {f : Nat → List Nat} {d : Addr} (h : MatF H0 H p n f) (hd : H0 d ≠ none) (k : ∀ b o, b ≠ d → (∀ ps, o ≠ .tbl ps) → H b = some o → H' b = some o) : MatF H0 H' p n f := by
  obtain ⟨ps, h1, h2, h3, h4, h5⟩ := h
  have ne : ∀ q, H0 q = none → q ≠ d := fun q e z => hd (by rw [← z]; exact e)
  exact ⟨ps, h1, k _ _ (ne _ h4) (fun ps z => by cases z) h2, fun i q hq => ⟨(h3 i q hq).1, k _ _ (ne _ (h5 q (List.mem_iff_getElem?.mpr ⟨i, hq⟩))) (fun ps z => by cases z) (h3 i q hq).2⟩, h4, h5⟩
def sp_law_ends : Sp := fun vs H Q _ => ∃ a b : Nat, vs = [.int a, .int b] ∧ 1 ≤ a ∧ a ≤ 60 ∧ 1 ≤ b ∧ b ≤ 60 ∧ ∀ p H', Same H H' → MatF H H' p (a + 1) (M3.rowOf a b) → Q (.ref p) H'
theorem row_get {a b l m : Nat} (h : m ≤ b) : ((M3.rowOf a b l).map fun x : Nat => V.int x)[m]? = some (V.int ((M3.rowOf a b l).getD m 0 : Nat)) := by
  have hl := M3.rowOf_len a b l
  rw [List.getElem?_map, List.getD_eq_getElem?_getD, List.getElem?_eq_getElem (by omega)]; rfl
theorem row_take {a b l m : Nat} (h : m ≤ b) : (M3.rowOf a b l).take (m + 1) = (M3.rowOf a b l).take m ++ [(M3.rowOf a b l).getD m 0] := by
  have hl := M3.rowOf_len a b l
  rw [List.take_add_one, List.getD_eq_getElem?_getD, List.getElem?_eq_getElem (by omega)]; rfl
theorem row_0 {a b m : Nat} (h : m ≤ b) : (M3.rowOf a b 0).getD m 0 = 1 := by
  show (List.replicate (b + 1) 1).getD m 0 = 1
  rw [List.getD_eq_getElem?_getD, List.getElem?_replicate, if_pos (by omega)]; rfl
theorem row_s0 {a b l : Nat} : (M3.rowOf a b (l + 1)).getD 0 0 = (M3.rowOf a b l).getD 0 0 := M3.nextRow_get0 _ _ _
theorem row_ss {a b l m : Nat} (h : m + 1 ≤ b) : (M3.rowOf a b (l + 1)).getD (m + 1) 0 = (if b * (l + 1) ≤ a * m then (M3.rowOf a b (l + 1)).getD m 0 else 0) + (M3.rowOf a b l).getD (m + 1) 0 :=
  M3.nextRow_get _ _ _ _ (by rw [M3.rowOf_len]; omega)
/-- an end's number without the row ahead -/
def ent1 (a b l m : Nat) : Nat := match m with
  | 0 => if l = 0 then 1 else 0
  | m' + 1 => if b * l ≤ a * m' then (M3.rowOf a b l).getD m' 0 else 0
def ent2 (a b l m : Nat) : Nat := match l with
  | 0 => 0
  | l' + 1 => (M3.rowOf a b l').getD m 0
theorem ent_eq {a b : Nat} : ∀ l m, m ≤ b → ent1 a b l m + ent2 a b l m = (M3.rowOf a b l).getD m 0
  | 0, 0, h => by rw [row_0 h]; rfl
  | 0, m + 1, h => by
    have e : (M3.rowOf a b 0).getD m 0 = 1 := row_0 (by omega)
    rw [row_0 h]
    simp only [ent1, ent2, e, Nat.mul_zero, Nat.zero_le, if_true]
  | l + 1, 0, h => by
    rw [row_s0]
    show 0 + _ = _
    rw [Nat.zero_add]; rfl
  | l + 1, m + 1, h => by rw [row_ss h]; rfl
theorem ok_law_ends (T : Tx K mg) : FnOk P w K mg base CX0 1 T.a_law_ends T.d_law_ends ["_law_rises", "_law_steps"] sp_law_ends := by
  refine T.F_law_ends.ok sc_law_ends (fun vs H Q E h => ?_) (fun cdv A outer s H vs Q E hr h => ?_)
  · obtain ⟨a, b, rfl, _⟩ := h; rfl
  · obtain ⟨a, b, rfl, a1, a2, b1, b2, q⟩ := h
    refine ⟨_, (pss_cons (ps_set (i := 2) sc_law_ends.nd rfl (.inl rfl) (pe_lst pa_nil))
      (pss_cons (ps_for PassesOwn.never rfl (pi_range1 (by rfl) T.n_range (pa_cons (pe_op op_add (pv 0) pe_int) pa_nil)) (pg_name (i := 3) sc_law_ends.nd rfl (.inl rfl)) (pss_cons (ps_set (i := 4) sc_law_ends.nd rfl (.inl rfl) (pe_lst pa_nil))
      (pss_cons (ps_for PassesOwn.never rfl (pi_range1 (by rfl) T.n_range (pa_cons (pe_op op_add (pv 1) pe_int) pa_nil)) (pg_name (i := 5) sc_law_ends.nd rfl (.inl rfl)) (pss_cons (ps_set (i := 6) sc_law_ends.nd rfl (.inl rfl) (pe_callTy Sx.c_int (by rfl) T.n_int Sx.bt_int (pa_cons (pe_cmpR op_eq (pe_op op_add (pv 3) (pv 5)) pe_int (nomark _)) pa_nil)))
      (pss_cons (ps_if (PW.pt (pw_and (pt_cmpR op_gt (pv 5) pe_int (nomark _)) (pw_and1 (pt_cmpR op_ge (pe_op Sx.op_mulA (pv 0) (pe_op op_sub (pv 5) pe_int)) (pe_op Sx.op_mulA (pv 1) (pv 3)) (nomark _))))) (pss_one (ps_set (i := 6) sc_law_ends.nd rfl (.inl rfl) (pe_op op_add (pv 6) (pe_ix ix_list (pv 4) (pe_op op_sub (pv 5) pe_int) (fun _ _ => rfl))))) pss_nil)
      (pss_cons (ps_if (pt_cmpR op_gt (pv 3) pe_int (nomark _)) (pss_one (ps_set (i := 6) sc_law_ends.nd rfl (.inl rfl) (pe_op op_add (pv 6) (pe_ix ix_list (pe_ix ix_list (pv 2) (pe_op op_sub (pv 3) pe_int) (fun _ _ => rfl)) (pv 5) (fun _ _ => rfl))))) pss_nil)
      (pss_one (ps_expr (pe_bm PySem.F.plainAttrs_list PySem.F.slot_list_append PySem.F.type_list_append mt_append (pv 4) (pa_cons (pv 6) pa_nil))))))))
      (pss_one (ps_expr (pe_bm PySem.F.plainAttrs_list PySem.F.slot_list_append PySem.F.type_list_append mt_append (pv 2) (pa_cons (pv 4) pa_nil)))))))
      (pss_one (ps_ret (pv 2))))), ?_⟩
    refine Sx.r_st (σ' := [some (.int a), some (.int b), none, none, none, none, none]) rfl ?_
    walk_at "sx"
    refine ⟨Nat.zero_le _, fun p hp => ?_⟩
    walk_at "sx"
    refine r_rng1 ?_ (by omega) (by omega)
    refine fr_range (fun l σ' H' => Same H H' ∧ (∃ y3 y4 y5 y6, σ' = [some (.int a), some (.int b), some (.ref p), y3, y4, y5, y6]) ∧ MatF H H' p l (M3.rowOf a b)) ⟨same_new hp, ⟨none, none, none, none, rfl⟩, [], rfl, upd_same, fun i q h => by simp at h, hp, fun q h => by cases h⟩ ?_ ?_
    · rintro l σ' H1 hl ⟨sm, ⟨y3, y4, y5, y6, rfl⟩, ps, hps, hpp, hrows, hp0, hps0⟩
      have hl' : l ≤ a := by omega
      walk_at "sx"
      refine ⟨Nat.zero_le _, fun r hr => ?_⟩
      walk_at "sx"
      refine r_rng1 ?_ (by omega) (by omega)
      refine fr_range (fun m σ' H' => Same H1 H' ∧ (∃ y5 y6, σ' = [some (.int a), some (.int b), some (.ref p), some (.int l), some (.ref r), y5, y6]) ∧ H' r = some (.lst (((M3.rowOf a b l).take m).map fun x : Nat => V.int x))) ⟨same_new hr, ⟨y5, y6, by rw [Int.zero_add]; rfl⟩, upd_same⟩ ?_ ?_
      · rintro m σ' H2 hm ⟨sm2, ⟨y5, y6, rfl⟩, hrr⟩
        have hm' : m ≤ b := by omega
        walk_at "sx"
        have hne : p ≠ r := ne_of_none hpp hr
        refine r_cutS (fun σ3 H3 => H3 = H2 ∧ σ3 = [some (.int a), some (.int b), some (.ref p), some (.int l), some (.ref r), some (.int m), some (.int ((ent1 a b l m : Nat) : Int))]) (fun nx' k => ?_) ?_
        · refine r_ifs ?_
          walk_at "sx"
          refine ite_d (fun h => ?_) (fun h => ?_)
          · walk_at "sx"
            · refine ite_d (fun h2 => ?_) (fun h2 => ?_)
              · obtain ⟨m', rfl⟩ : ∃ m', m = m' + 1 := ⟨m - 1, by omega⟩
                walk_at "sx"
                refine r_ixL hrr (v := .int ((M3.rowOf a b l).getD m' 0 : Nat)) ?_ ?_
                · rw [show (0 : Int) + ((m' + 1 : Nat) : Int) - 1 = ((m' : Nat) : Int) by omega]
                  refine atI_nat ?_
                  rw [List.getElem?_map, List.getElem?_take, if_pos (by omega), ← List.getElem?_map]
                  exact row_get (by omega)
                walk_at "sx"
                refine k _ _ ⟨rfl, ?_⟩
                have e1 : ¬ ((l : Int) + (0 + ((m' + 1 : Nat) : Int)) = 0) := by omega
                have h3 : b * l ≤ a * m' := by
                  have : (b : Int) * l ≤ (a : Int) * (0 + ((m' + 1 : Nat) : Int) - 1) := h2
                  rw [show (0 : Int) + ((m' + 1 : Nat) : Int) - 1 = ((m' : Nat) : Int) by omega, ← Int.natCast_mul, ← Int.natCast_mul] at this
                  omega
                rw [decide_eq_false e1, Int.zero_add]
                simp only [ent1, h3, if_true]
                simp
              · walk_at "sx"
                refine k _ _ ⟨rfl, ?_⟩
                obtain ⟨m', rfl⟩ : ∃ m', m = m' + 1 := ⟨m - 1, by omega⟩
                have e1 : ¬ ((l : Int) + (0 + ((m' + 1 : Nat) : Int)) = 0) := by omega
                have h3 : ¬ b * l ≤ a * m' := by
                  have : ¬ (b : Int) * l ≤ (a : Int) * (0 + ((m' + 1 : Nat) : Int) - 1) := h2
                  rw [show (0 : Int) + ((m' + 1 : Nat) : Int) - 1 = ((m' : Nat) : Int) by omega, ← Int.natCast_mul, ← Int.natCast_mul] at this
                  omega
                rw [decide_eq_false e1, Int.zero_add]
                simp only [ent1, h3, if_false]
                simp
            all_goals walk_at "sd"
          · walk_at "sx"
            refine k _ _ ⟨rfl, ?_⟩
            have e0 : m = 0 := by omega
            subst e0
            by_cases hl0 : l = 0
            · subst hl0; rfl
            · rw [decide_eq_false (show ¬ ((l : Int) + (0 + ((0 : Nat) : Int)) = 0) by omega), Int.zero_add]
              simp only [ent1, hl0, if_false]
              simp
        · rintro σ3 H3 ⟨rfl, rfl⟩
          walk_at "sx"
          refine r_cutS (fun σ3 H4 => H4 = H3 ∧ σ3 = [some (.int a), some (.int b), some (.ref p), some (.int l), some (.ref r), some (.int m), some (.int (((M3.rowOf a b l).getD m 0 : Nat) : Int))]) (fun nx' k => ?_) ?_
          · refine r_ifs ?_
            walk_at "sx"
            refine ite_d (fun h => ?_) (fun h => ?_)
            · obtain ⟨l', rfl⟩ : ∃ l', l = l' + 1 := ⟨l - 1, by omega⟩
              have hps' : l' < ps.length := by omega
              walk_at "sx"
              refine r_ixL (sm2 _ _ hpp) (v := .ref ps[l']) ?_ ?_
              · rw [show ((l' + 1 : Nat) : Int) - 1 = ((l' : Nat) : Int) by omega]
                refine atI_nat ?_
                rw [List.getElem?_map, List.getElem?_eq_getElem hps']; rfl
              walk_at "sx"
              refine r_ixL (sm2 _ _ (hrows l' _ (List.getElem?_eq_getElem hps')).2) (atI_nat (j := m) (row_get hm')) ?_
              walk_at "sx"
              refine k _ _ ⟨rfl, ?_⟩
              rw [← ent_eq (a := a) (b := b) (l' + 1) m hm', Int.natCast_add]; rfl
            · walk_at "sx"
              refine k _ _ ⟨rfl, ?_⟩
              have e0 : l = 0 := by omega
              subst e0
              rw [← ent_eq (a := a) (b := b) 0 m hm']; rfl
          · rintro σ3 H4 ⟨rfl, rfl⟩
            walk_at "sx"
            refine ⟨tyL hrr, ?_⟩
            walk_at "sx"
            refine r_app hrr ?_ ?_
            · refine ⟨same_mut sm2 hr, ⟨_, _, rfl⟩, ?_⟩
              rw [upd_same, row_take hm', List.map_append]; rfl
            · rw [List.length_map, List.length_take]; exact sz' _ (by omega)
      · rintro σ3 H3 ⟨sm3, ⟨y5, y6, rfl⟩, hrr⟩
        rw [List.take_of_length_le (by rw [M3.rowOf_len]; omega)] at hrr
        walk_at "sx"
        refine ⟨tyL (sm3 _ _ hpp), ?_⟩
        walk_at "sx"
        refine r_app (sm3 _ _ hpp) ?_ ?_
        · have hne : p ≠ r := ne_of_none hpp hr
          refine ⟨same_mut (sm.trans sm3) hp, ⟨_, _, _, _, rfl⟩, ps ++ [r], by rw [List.length_append, hps]; rfl, by rw [upd_same, List.map_append]; rfl, fun i q hi => ?_, hp0, fun q hq => ?_⟩
          rotate_left
          · rcases List.mem_append.mp hq with z | z
            · exact hps0 q z
            · rw [List.mem_singleton.mp z]; exact free_same sm hr
          by_cases hil : i < ps.length
          · rw [List.getElem?_append_left hil] at hi
            obtain ⟨hq, h4⟩ := hrows i q hi
            refine ⟨hq, ?_⟩
            rw [upd_ne hq]; exact sm3 _ _ h4
          · rw [List.getElem?_append_right (by omega)] at hi
            have e : i = l := by
              rcases Nat.lt_or_ge (i - ps.length) 1 with h5 | h5
              · omega
              · rw [List.getElem?_eq_none (by simpa using h5)] at hi; cases hi
            subst e
            rw [show i - ps.length = 0 by omega] at hi
            cases hi
            exact ⟨hne.symm, by rw [upd_ne hne.symm]; exact hrr⟩
        · rw [List.length_map]; exact sz' _ (by omega)
    · rintro σ3 H3 ⟨sm3, ⟨y3, y4, y5, y6, rfl⟩, hm⟩
      walk_at "sx"
      exact q p H3 sm3 hm
/-! ### way_count -/
def sp_way_count (C : Addr) : Sp := fun vs H Q _ => ∃ v, ∃ a b : Nat, vs = [v] ∧ SlopeAt C H v a b ∧ ∀ H', Same H H' → Q (.int ((M3.wc a b : Nat) : Int)) H'
theorem natsAt {l : List Nat} {i : Nat} (h : i < l.length) : (l.map fun x : Nat => V.int x)[i]? = some (V.int (l.getD i 0 : Nat)) := by
  rw [List.getElem?_map, List.getD_eq_getElem?_getD, List.getElem?_eq_getElem h]; rfl
theorem bz_bnd {a b i j : Nat} (h1 : 1 ≤ a) (h2 : a ≤ 60) (h3 : 1 ≤ b) (h4 : b ≤ 60) (hi : i ≤ Nat.gcd a b) (hj : j ≤ i) : (M3.bzC (a / Nat.gcd a b) (a / Nat.gcd a b + b / Nat.gcd a b) i).getD j 0 < 2 ^ 400 := by
  have h := M3.okT_all a b h1 h2 h3 h4
  unfold M3.okT at h
  rw [Bool.and_eq_true] at h
  have h5 := List.all_eq_true.mp h.2
  rw [M3.bzC_get _ _ i j hj, ← M3.bzC_get _ _ (Nat.gcd a b) j (by omega)]
  have hl := M3.bzC_len (a / Nat.gcd a b) (a / Nat.gcd a b + b / Nat.gcd a b) (Nat.gcd a b)
  have hm : (M3.bzC (a / Nat.gcd a b) (a / Nat.gcd a b + b / Nat.gcd a b) (Nat.gcd a b)).getD j 0 ∈ M3.bzC (a / Nat.gcd a b) (a / Nat.gcd a b + b / Nat.gcd a b) (Nat.gcd a b) := by
    rw [List.getD_eq_getElem?_getD, List.getElem?_eq_getElem (by omega)]; exact List.getElem_mem _
  have := h5 _ hm
  rw [Nat.blt_eq] at this
  exact this
theorem ok_way_count (T : Tx K mg) : FnOk P w K mg base CX0 3 T.a_way_count T.d_way_count ["slope"] (sp_way_count T.C_Slope) := by
  refine T.F_way_count.ok sc_way_count (fun vs H Q E h => ?_) (fun cdv A outer s H vs Q E hr h => ?_)
  · obtain ⟨v, a, b, rfl, _⟩ := h; rfl
  · obtain ⟨v, a, b, rfl, hS, q⟩ := h
    obtain ⟨a1, a2, b1, b2⟩ : 1 ≤ a ∧ a ≤ 60 ∧ 1 ≤ b ∧ b ≤ 60 := by have := hS.1; omega
    have g0 : 0 < Nat.gcd a b := Nat.gcd_pos_of_pos_left b a1
    have g1 : Nat.gcd a b ≤ a := Nat.gcd_le_left b a1
    refine ⟨_, (pss_cons (ps_expr (pe_call (ok_check_slope T) (hr.mono (by decide)) (by rfl) T.g_check_slope T.F_check_slope.kp T.b_check_slope .nil pass0 (pa_cons (pv 0) pa_nil)))
      (pss_cons (ps_set (i := 1) sc_way_count.nd rfl (.inl rfl) (pe_op op_fdivW (pe_prop (pv 0) T.cl_Slope T.pr_Slope_rises (ok_Slope_rises T) (hr.mono (by decide)) T.b_Slope_rises .nil pass0 rfl) (pe_prop (pv 0) T.cl_Slope T.pr_Slope_common (ok_Slope_common T) (hr.mono (by decide)) T.b_Slope_common .nil pass0 rfl)))
      (pss_cons (ps_set (i := 2) sc_way_count.nd rfl (.inl rfl) (pe_op op_add (pv 1) (pe_op op_fdivW (pe_prop (pv 0) T.cl_Slope T.pr_Slope_steps (ok_Slope_steps T) (hr.mono (by decide)) T.b_Slope_steps .nil pass0 rfl) (pe_prop (pv 0) T.cl_Slope T.pr_Slope_common (ok_Slope_common T) (hr.mono (by decide)) T.b_Slope_common .nil pass0 rfl))))
      (pss_cons (ps_set (i := 3) sc_way_count.nd rfl (.inl rfl) (pe_lst (pa_cons pe_int pa_nil)))
      (pss_cons (ps_for PassesOwn.never rfl (pi_range2 (by rfl) T.n_range (pa_cons pe_int (pa_cons (pe_op op_add (pe_prop (pv 0) T.cl_Slope T.pr_Slope_common (ok_Slope_common T) (hr.mono (by decide)) T.b_Slope_common .nil pass0 rfl) pe_int) pa_nil))) (pg_name (i := 4) sc_way_count.nd rfl (.inl rfl)) (pss_cons (ps_set (i := 5) sc_way_count.nd rfl (.inl rfl) pe_int)
      (pss_cons (ps_for PassesOwn.never rfl (pi_range2 (by rfl) T.n_range (pa_cons pe_int (pa_cons (pe_op op_add (pv 4) pe_int) pa_nil))) (pg_name (i := 6) sc_way_count.nd rfl (.inl rfl)) (pss_one (ps_set (i := 5) sc_way_count.nd rfl (.inl rfl) (pe_op op_add (pv 5) (pe_op Sx.op_mulA (pe_ix ix_list (pv 3) (pe_op op_sub (pv 4) (pv 6)) (fun _ _ => rfl)) (pe_op op_fdivW (pe_callBfun Sx.cr_comb (by rfl) T.i_comb (pa_cons (pe_op Sx.op_mulA (pv 6) (pv 2)) (pa_cons (pe_op Sx.op_mulA (pv 6) (pv 1)) pa_nil))) (pv 2)))))))
      (pss_one (ps_expr (pe_bm PySem.F.plainAttrs_list PySem.F.slot_list_append PySem.F.type_list_append mt_append (pv 3) (pa_cons (pe_op op_fdivW (pv 5) (pv 4)) pa_nil)))))))
      (pss_one (ps_ret (pe_ix ix_list (pv 3) (pe_prop (pv 0) T.cl_Slope T.pr_Slope_common (ok_Slope_common T) (hr.mono (by decide)) T.b_Slope_common .nil pass0 rfl) (fun _ _ => rfl))))))))), ?_⟩
    refine Sx.r_st (σ' := [some (v), none, none, none, none, none, none]) rfl ?_
    walk_at "sx"
    refine ⟨v, a, b, rfl, hS, ?_⟩
    walk_at "sx"
    refine rd_r hS ?_
    walk_at "sx"
    refine rd_c hS ?_
    walk_at "sx"
    · refine rd_s hS ?_
      walk_at "sx"
      refine rd_c hS ?_
      walk_at "sx"
      · refine ⟨by decide, fun c hc => ?_⟩
        walk_at "sx"
        refine rd_c (hS.mono (same_new hc)) ?_
        walk_at "sx"
        simp only [Int.natAbs_natCast, ← Int.natCast_ediv, ← Int.natCast_add]
        generalize hg : Nat.gcd a b = g at *
        generalize hr' : a / g = r at *
        generalize hL : r + b / g = L at *
        have r0 : 0 < r := by rw [← hr']; exact Nat.div_pos g1 g0
        have rb : r ≤ 60 := by rw [← hr']; exact Nat.le_trans (Nat.div_le_self a g) a2
        have L0 : r ≤ L := by rw [← hL]; exact Nat.le_add_right _ _
        have Lb : L ≤ 120 := by have := Nat.div_le_self b g; omega
        have bnd : ∀ i j, i ≤ g → j ≤ i → (M3.bzC r L i).getD j 0 < 2 ^ 400 := by
          intro i j hi hj
          have := bz_bnd (i := i) (j := j) a1 a2 b1 b2 (by rw [hg]; exact hi) hj
          rw [hg, hr', hL] at this; exact this
        refine r_rng2 ?_ ⟨by omega, by omega, by omega, by omega⟩
        refine fr_range (fun i σ' H' => Same H H' ∧ (∃ y4 y5 y6, σ' = [some v, some (.int r), some (.int L), some (.ref c), y4, y5, y6]) ∧ H' c = some (.lst ((M3.bzC r L i).map fun x : Nat => V.int x))) ⟨same_new hc, ⟨none, none, none, rfl⟩, upd_same⟩ ?_ ?_
        · rintro i σ' H1 hi ⟨sm, ⟨y4, y5, y6, rfl⟩, hcc⟩
          have hi' : i < g := by omega
          have hlen := M3.bzC_len r L i
          walk_at "sx"
          refine r_rng2 ?_ ⟨by omega, by omega, by omega, by omega⟩
          refine fr_range (fun k σ' H' => H' = H1 ∧ ∃ y6, σ' = [some v, some (.int r), some (.int L), some (.ref c), some (.int (1 + i)), some (.int ((M3.bzTot r L (M3.bzC r L i) (i + 1) k : Nat) : Int)), y6]) ⟨rfl, y6, rfl⟩ ?_ ?_
          · rintro k σ' H2 hk ⟨rfl, y6, rfl⟩
            have hk' : k ≤ i := by omega
            have e1 : (1 + (k : Int)) * (L : Int) = (((k + 1) * L : Nat) : Int) := by push_cast; rw [Int.add_comm]
            have e2 : (1 + (k : Int)) * (r : Int) = (((k + 1) * r : Nat) : Int) := by push_cast; rw [Int.add_comm]
            have kl : (k + 1) * L ≤ 60 * 120 := Nat.mul_le_mul (by omega) Lb
            have kr : (k + 1) * r ≤ (k + 1) * L := Nat.mul_le_mul_left _ L0
            walk_at "sx"
            refine r_ixL hcc (v := .int ((M3.bzC r L i).getD (i - k) 0 : Nat)) ?_ ?_
            · rw [show (1 : Int) + (i : Int) - (1 + (k : Int)) = ((i - k : Nat) : Int) by omega]
              exact atI_nat (natsAt (by omega))
            walk_at "sx"
            · refine r_comb ?_ ?_ ?_ ?_
              · rw [e1, e2, M3.mc_ch _ _ kr]
                walk_at "sx"
                · refine ⟨rfl, some (.int (1 + k)), ?_⟩
                  rw [← Int.natCast_ediv, ← Int.natCast_mul, ← Int.natCast_add]
                  show _ = [some v, some (.int r), some (.int L), some (.ref c), some (.int (1 + i)), some (.int ((M3.bzTot r L (M3.bzC r L i) (i + 1) k + (M3.bzC r L i).getD (i + 1 - (k + 1)) 0 * (M3.chl ((k + 1) * L) ((k + 1) * r) / L) : Nat) : Int)), some (.int (1 + k))]
                  rw [show i + 1 - (k + 1) = i - k by omega]; rfl
                · refine cmA_w (cmulw (a := 400) (b := 8000) ?_ ?_ (by decide))
                  · rw [Int.natAbs_natCast]; exact bnd i (i - k) (by omega) (by omega)
                  · rw [← Int.natCast_ediv, Int.natAbs_natCast]
                    refine Nat.lt_of_le_of_lt (Nat.div_le_self _ _) ?_
                    rw [M3.chl_eq]
                    exact Nat.lt_of_le_of_lt (M3.ch_le _ _) (Nat.pow_lt_pow_right (by decide) (by omega))
                · exact cdivw (b := 64) (by omega) (by omega) (by decide)
              · omega
              · omega
              · omega
            · exact cmA_l (by omega)
            · exact cmA_l (by omega)
          · rintro σ' H2 ⟨rfl, y6, rfl⟩
            walk_at "sx"
            refine ⟨tyL hcc, ?_⟩
            walk_at "sx"
            · refine r_app hcc ?_ ?_
              · refine ⟨same_mut sm hc, ⟨_, _, _, rfl⟩, ?_⟩
                rw [upd_same]
                have e3 : ((1 + (i : Int) + 1 - 1).toNat) = i + 1 := by omega
                rw [e3, show (1 : Int) + i = ((i + 1 : Nat) : Int) by omega, ← Int.natCast_ediv]
                show _ = some (HO.lst ((M3.bzC r L i ++ [M3.bzTot r L (M3.bzC r L i) (i + 1) (i + 1) / (i + 1)]).map fun x : Nat => V.int x))
                rw [List.map_append]; rfl
              · rw [List.length_map, hlen]; exact sz' _ (by omega)
            · exact cdivw (b := 64) (by omega) (by omega) (by decide)
        · rintro σ' H1 ⟨sm, ⟨y4, y5, y6, rfl⟩, hcc⟩
          have e3 : (((g : Int) + 1 - 1).toNat) = g := by omega
          rw [e3] at hcc
          walk_at "sx"
          refine rd_c (hS.mono sm) ?_
          refine r_ixL hcc (v := .int ((M3.bzC r L g).getD g 0 : Nat)) ?_ ?_
          · rw [Int.natAbs_natCast, Int.natAbs_natCast, hg]
            exact atI_nat (natsAt (by rw [M3.bzC_len]; omega))
          have e4 : M3.wc a b = (M3.bzC r L g).getD g 0 := by unfold M3.wc; rw [hg, hr', hL]
          rw [← e4]
          exact q _ sm
      · rw [Int.natAbs_natCast, Int.natAbs_natCast]
        exact cdivw (b := 64) (by omega) (by rw [Int.natAbs_natCast]; omega) (by decide)
    · rw [Int.natAbs_natCast, Int.natAbs_natCast]
      exact cdivw (b := 64) (by omega) (by rw [Int.natAbs_natCast]; omega) (by decide)
/-! ### ways by number -/
def sp_check_way (CS CW : Addr) : Sp := fun vs H Q _ => ∃ v, ∃ a b : Nat, ∃ l : List Nat, vs = [v] ∧ WayAt CS CW H v a b l ∧ Q .non H
theorem ok_check_way (T : Tx K mg) : FnOk P w K mg base CX0 1 T.a_check_way T.d_check_way ["way"] (sp_check_way T.C_Slope T.C_Way) := by
  refine T.F_check_way.ok sc_check_way (fun vs H Q E h => ?_) (fun cdv A outer s H vs Q E hr h => ?_)
  · obtain ⟨v, a, b, l, rfl, _⟩ := h; rfl
  · obtain ⟨v, a, b, l, rfl, ⟨_, p, dx, sv, t, r, k, rfl, e, _⟩, q⟩ := h
    refine ⟨_, (pss_one (ps_if (pt_not (pt_val (pe_callB call_isi (by rfl) T.n_isinstance Sx.bt_isinstance (pa_cons (pv 0) (pa_cons (pe_glob (v := .ref T.C_Way) (by rfl) T.g_Way rfl) pa_nil))))) pss_never pss_nil)), ?_⟩
    refine Sx.r_st (σ' := [some (.ref p)]) rfl ?_
    walk_at "sxi"
    refine r_isi_own e T.cl_Way T.ic_Way T.cg T.ct T.mr_Way T.ks_Way ?_
    walk_at "sx"
    exact q
theorem r_aug {σ : L2.St} {H : Hp} {nx bk ct : L2.St → Hp → Prop} {rt : VK} {i : Nat} {n m : Int} {f : Int → Int → Int} (e : σ[i]? = some (some (.int n))) (h : nx (σ.set i (some (.int (f n m)))) H) : tAug i (tC (.int m)) (ipI f) ⟨nx, rt, bk, ct⟩ σ H := ⟨_, e, n, m, rfl, rfl, h⟩
/-- the entry for a rise more -/
theorem tb_rise {a b u l : Nat} (hu : u ≤ a) (hl : l < b) (h : l * a ≤ u * b) : tb a b (u + 1) l = if 0 < a - u then E a b (a - u - 1) (b - l) else 0 := by
  unfold tb
  by_cases e : u < a
  · rw [if_pos (show u + 1 ≤ a by omega), if_pos ⟨by omega, Nat.le_trans h (Nat.mul_le_mul_right b (by omega))⟩, if_pos (by omega), Nat.sub_sub]
  · rw [if_neg (by omega), if_neg (by omega), if_neg (by omega)]
theorem tb_rise' {a b u l : Nat} (hu : u < a) (hl : l ≤ b) (h : l * a ≤ u * b) : tb a b (u + 1) l = E a b (a - u - 1) (b - l) := by
  unfold tb
  rw [if_pos (show u + 1 ≤ a by omega), if_pos ⟨hl, Nat.le_trans h (Nat.mul_le_mul_right b (by omega))⟩, Nat.sub_sub]
def sp_way_index (CS CW : Addr) : Sp := fun vs H Q _ => ∃ v, ∃ a b : Nat, ∃ l : List Nat, vs = [v] ∧ WayAt CS CW H v a b l ∧ ∀ H', Same H H' → Q (.int (rank a b l : Nat)) H'
/-- a state that a way may be in -/
structure Leg (a b u l : Nat) : Prop where
  hu : u ≤ a
  hl : l ≤ b
  hh : l * a ≤ u * b
theorem Leg.rise {a b u l : Nat} (g : Leg a b u l) (h : u < a) : Leg a b (u + 1) l := ⟨h, g.hl, Nat.le_trans g.hh (Nat.mul_le_mul_right b (by omega))⟩
theorem Leg.step {a b u l : Nat} (g : Leg a b u l) (h : l < b) (k : b * (a - u) ≤ a * (b - l - 1)) : Leg a b u (l + 1) := by
  refine ⟨g.hu, h, ?_⟩
  have f1 : b * (a - u) + u * b = a * b := by rw [Nat.mul_comm u b, ← Nat.mul_add, Nat.sub_add_cancel g.hu, Nat.mul_comm]
  have f2 : a * (b - l - 1) + (l + 1) * a = a * b := by rw [Nat.mul_comm (l + 1) a, ← Nat.mul_add]; congr 1; omega
  omega
theorem ok_way_index (T : Tx K mg) : FnOk P w K mg base CX0 4 T.a_way_index T.d_way_index ["way"] (sp_way_index T.C_Slope T.C_Way) := by
  refine T.F_way_index.ok sc_way_index (fun vs H Q E h => ?_) (fun cdv A outer s H vs Q E hr h => ?_)
  · obtain ⟨v, a, b, l, rfl, _⟩ := h; rfl
  · obtain ⟨v, a, b, l, rfl, hV, q⟩ := h
    refine ⟨_, (pss_cons (ps_expr (pe_call (ok_check_way T) (hr.mono (by decide)) (by rfl) T.g_check_way T.F_check_way.kp T.b_check_way .nil pass0 (pa_cons (pv 0) pa_nil)))
      (pss_cons (ps_set (i := 1) sc_way_index.nd rfl (.inl rfl) (pe_call (ok_completions T) (hr.mono (by decide)) (by rfl) T.g_completions T.F_completions.kp T.b_completions .nil pass0 (pa_cons (pe_prop (pv 0) T.cl_Way T.pr_Way_slope (ok_Way_slope T) (hr.mono (by decide)) T.b_Way_slope .nil pass0 rfl) pa_nil)))
      (pss_cons (ps_set (i := 2) sc_way_index.nd rfl (.inl rfl) pe_int)
      (pss_cons (ps_set (i := 3) sc_way_index.nd rfl (.inl rfl) pe_int)
      (pss_cons (ps_set (i := 4) sc_way_index.nd rfl (.inl rfl) pe_int)
      (pss_cons (ps_for PassesOwn.never rfl (pi_str (pe_prop (pv 0) T.cl_Way T.pr_Way_text (ok_Way_text T) (hr.mono (by decide)) T.b_Way_text .nil pass0 rfl)) (pg_name (i := 5) sc_way_index.nd rfl (.inl rfl)) (pss_one (ps_if (pt_cmpR op_eq (pv 5) pe_str (nomark _)) (pss_one (ps_aug (i := 3) sc_way_index.nd rfl (.inl rfl) pe_int ip_add)) (pss_cons (ps_set (i := 2) sc_way_index.nd rfl (.inl rfl) (pe_op op_add (pv 2) (pe_ix ix_list (pe_ix ix_list (pv 1) (pe_op op_add (pv 3) pe_int) (fun _ _ => rfl)) (pv 4) (fun _ _ => rfl))))
      (pss_one (ps_aug (i := 4) sc_way_index.nd rfl (.inl rfl) pe_int ip_add))))))
      (pss_one (ps_ret (pv 2))))))))), ?_⟩
    refine Sx.r_st (σ' := [some (v), none, none, none, none, none]) rfl ?_
    walk_at "sx"
    refine ⟨v, a, b, l, rfl, hV, ?_⟩
    walk_at "sx"
    refine rw_slope hV (fun sv hs => ?_)
    walk_at "sx"
    refine ⟨sv, a, b, rfl, hs, fun p H1 s1 hT => ?_⟩
    have hV1 := hV.mono s1
    have hb := hs.1
    walk_at "sx"
    refine rw_text hV1 ?_
    walk_at "sx"
    have hW := hV.1
    refine fr_str (fun i σ' H' => H' = H1 ∧ ∃ (u m x : Nat) (y5 : Option V), Leg a b u m ∧ Suf a b (a - u) (b - m) (l.drop i) ∧ x + rk a b (a - u) (b - m) (l.drop i) = rank a b l ∧ σ' = [some v, some (.ref p), some (.int x), some (.int u), some (.int m), y5]) ⟨rfl, 0, 0, 0, none, ⟨Nat.zero_le _, Nat.zero_le _, by omega⟩, by rw [List.drop_zero]; exact way_suf0 hW, by rw [List.drop_zero, Nat.zero_add]; rfl, rfl⟩ ?_ ?_
    · rintro i c σ' H2 hc ⟨rfl, u, m, x, y5, hL, hsuf, hx, rfl⟩
      rw [S_get] at hc
      have hi : i < l.length := (List.getElem?_eq_some_iff.mp hc).1
      have ed : l.drop i = c :: l.drop (i + 1) := by
        rw [List.drop_eq_getElem_cons hi]
        congr 1
        exact (List.getElem?_eq_some_iff.mp hc).2
      rw [ed] at hsuf hx
      walk_at "sxi"
      refine ite_d (fun h => ?_) (fun h => ?_)
      · have hc' := is_r.mp h
        subst hc'
        rw [rk_r] at hx
        rcases hsuf with ⟨_, h1, h2⟩ | ⟨h0, _⟩
        · refine r_aug rfl ?_
          walk_at "sx"
          refine ⟨rfl, u + 1, m, x, _, hL.rise (by omega), by rw [← Nat.sub_sub]; exact h2, by rw [← Nat.sub_sub]; exact hx, rfl⟩
        · cases h0
      · rcases hsuf with ⟨h0, _⟩ | ⟨rfl, h1, h3, h2⟩
        · exact absurd (is_r.mpr h0) h
        · rw [rk_s] at hx
          walk_at "sx"
          have hu := hL.hu
          refine hT.row (u := u + 1) (by omega) (by omega) (fun r1 hr1 => ?_)
          walk_at "sx"
          refine cell_at hr1 (l := m) rfl (by omega) ?_
          rw [tb_rise hL.hu (by omega) hL.hh]
          walk_at "sx"
          refine r_aug rfl ?_
          walk_at "sx"
          refine ⟨rfl, u, m + 1, x + (if 0 < a - u then Mw.E a b (a - u - 1) (b - m) else 0), some (.str ⟨#[115]⟩), hL.step (by omega) h3, by rw [← Nat.sub_sub]; exact h2, by rw [← Nat.sub_sub, Nat.add_assoc]; exact hx, ?_⟩
          rw [Int.natCast_add]; rfl
    · rintro σ' H2 ⟨rfl, u, m, x, y5, hL, hsuf, hx, rfl⟩
      rw [S_size, List.drop_length] at hx
      walk_at "sx"
      have : x = rank a b l := by rw [← hx]; rfl
      rw [this]; exact q _ s1
def sp_way_at (K : PySem.W.Frag) (CS CW CN : Addr) : Sp := fun vs H Q E => (∃ v, ∃ a b i : Nat, vs = [v, .int i] ∧ SlopeAt CS H v a b ∧ i < Mw.E a b a b ∧ ∀ u H', Same H H' → WayAt CS CW H' u a b (wayAt a b i) → Q u H') ∨
  ∃ v x, ∃ a b : Nat, vs = [v, x] ∧ SlopeAt CS H v a b ∧ (NoNum K H x ∨ ∃ i : Int, x = .int i ∧ ¬ (0 ≤ i ∧ i < Mw.E a b a b)) ∧ ∀ H' dd, Same H H' → H' dd = none → E (.ref CN) (some dd) (upd H' dd (.xd [("value", x)]))
theorem wc_E {a b : Nat} (a1 : 1 ≤ a) (a2 : a ≤ 60) (b1 : 1 ≤ b) (b2 : b ≤ 60) : M3.wc a b = Mw.E a b a b := by
  have h := M3.okT_all a b a1 a2 b1 b2
  unfold M3.okT at h
  rw [Bool.and_eq_true, Bool.and_eq_true] at h
  have h2 := h.1.1
  rw [beq_iff_eq] at h2
  rw [h2, ← M3.ends_eq (a := a) (b := b) a1 b1]; rfl
def chV (l : List Nat) : List V := l.map fun c : Nat => V.str ⟨#[c]⟩
theorem chV_snoc {l : List Nat} {c : Nat} : chV l ++ [V.str ⟨#[c]⟩] = chV (l ++ [c]) := by unfold chV; rw [List.map_append]; rfl
theorem ok_way_at (T : Tx K mg) : FnOk P w K mg base (L2.CX P w) 7 T.a_way_at T.d_way_at ["slope", "index"] (sp_way_at K T.C_Slope T.C_Way T.C_InvalidNumber) := by
  refine T.F_way_at.okX sc_way_at (fun vs H Q E h => ?_) (fun cdv A outer s H vs Q E hr h => ?_)
  · obtain ⟨v, a, b, i, rfl, _⟩ | ⟨v, x, a, b, rfl, _⟩ := h <;> rfl
  · refine ⟨_, (pss_cons (ps_if (pt_not (pt_val (pe_call (ok_is_whole_between T) (hr.mono (by decide)) (by rfl) T.g_is_whole_between T.F_is_whole_between.kp T.b_is_whole_between .nil pass0 (pa_cons (pv 1) (pa_cons pe_int (pa_cons (pe_op op_sub (pe_call (ok_way_count T) (hr.mono (by decide)) (by rfl) T.g_way_count T.F_way_count.kp T.b_way_count .nil pass0 (pa_cons (pv 0) pa_nil)) pe_int) pa_nil)))))) (pss_one (Er.ps_raise1 rfl (takes_of rfl rfl rfl rfl) T.ow_InvalidNumber PySem.F.excBase_IndexError (ok_InvalidNumber_init T) (hr.mono (by decide)) T.b_InvalidNumber_init rfl T.g_InvalidNumber (pa_cons (pv 1) pa_nil))) pss_nil)
      (pss_cons (ps_set (i := 2) sc_way_at.nd rfl (.inl rfl) (pe_call (ok_completions T) (hr.mono (by decide)) (by rfl) T.g_completions T.F_completions.kp T.b_completions .nil pass0 (pa_cons (pv 0) pa_nil)))
      (pss_cons (ps_set (i := 3) sc_way_at.nd rfl (.inl rfl) (pv 1))
      (pss_cons (ps_set (i := 4) sc_way_at.nd rfl (.inl rfl) pe_int)
      (pss_cons (ps_set (i := 5) sc_way_at.nd rfl (.inl rfl) pe_int)
      (pss_cons (ps_set (i := 6) sc_way_at.nd rfl (.inl rfl) (pe_lst pa_nil))
      (pss_cons (ps_while (passes_of rfl) (pt_cmpR op_lt (pe_callB Sx.c_len (by rfl) T.n_len Sx.bt_len (pa_cons (pv 6) pa_nil)) (pe_op op_add (pe_prop (pv 0) T.cl_Slope T.pr_Slope_rises (ok_Slope_rises T) (hr.mono (by decide)) T.b_Slope_rises .nil pass0 rfl) (pe_prop (pv 0) T.cl_Slope T.pr_Slope_steps (ok_Slope_steps T) (hr.mono (by decide)) T.b_Slope_steps .nil pass0 rfl)) (nomark _)) (pss_cons (ps_set (i := 7) sc_way_at.nd rfl (.inl rfl) (pe_ix ix_list (pe_ix ix_list (pv 2) (pe_op op_add (pv 4) pe_int) (fun _ _ => rfl)) (pv 5) (fun _ _ => rfl)))
      (pss_one (ps_if (pt_cmpR op_lt (pv 3) (pv 7) (nomark _)) (pss_cons (ps_expr (pe_bm PySem.F.plainAttrs_list PySem.F.slot_list_append PySem.F.type_list_append mt_append (pv 6) (pa_cons pe_str pa_nil)))
      (pss_one (ps_aug (i := 4) sc_way_at.nd rfl (.inl rfl) pe_int ip_add))) (pss_cons (ps_set (i := 3) sc_way_at.nd rfl (.inl rfl) (pe_op op_sub (pv 3) (pv 7)))
      (pss_cons (ps_expr (pe_bm PySem.F.plainAttrs_list PySem.F.slot_list_append PySem.F.type_list_append mt_append (pv 6) (pa_cons pe_str pa_nil)))
      (pss_one (ps_aug (i := 5) sc_way_at.nd rfl (.inl rfl) pe_int ip_add))))))))
      (pss_one (ps_ret (pe_make T.mk_Way (ok_Way_init T) (hr.mono (by decide)) (by rfl) T.g_Way T.b_Way_init .nil pass0 (pa_cons (pv 0) (pa_cons (pe_bm PySem.F.plainAttrs_str PySem.F.slot_str_join PySem.F.type_str_join Sx.m_join pe_str (pa_cons (pv 6) pa_nil)) pa_nil)))))))))))), ?_⟩
    obtain ⟨v, a, b, i, rfl, hS, hi, q⟩ | ⟨v, x, a, b, rfl, hS, hx, q⟩ := h
    rotate_left
    · have hb := hS.1
      refine Sx.r_st (σ' := [some (v), some (x), none, none, none, none, none, none]) rfl ?_
      walk_at "sxi"
      refine ⟨v, a, b, rfl, hS, fun H0 s0 => ?_⟩
      walk_at "sx"
      refine (?_ : sp_is_whole_between K _ _ _ _)
      rw [wc_E (by omega) (by omega) (by omega) (by omega)]
      rcases hx with hn | ⟨i, rfl, hi⟩
      · refine .inr ⟨x, 0, _, rfl, hn.mono s0, ?_⟩
        walk_at "sx"
        refine Er.r_raise ?_
        walk_at "sx"
        exact ⟨_, rfl, fun d hd => q _ d s0 hd⟩
      · refine .inl ⟨i, 0, _, rfl, ?_⟩
        rw [decide_eq_false (by omega)]
        walk_at "sx"
        refine Er.r_raise ?_
        walk_at "sx"
        exact ⟨_, rfl, fun d hd => q _ d s0 hd⟩
    have hb := hS.1
    refine Sx.r_st (σ' := [some (v), some (.int i), none, none, none, none, none, none]) rfl ?_
    walk_at "sxi"
    refine ⟨v, a, b, rfl, hS, fun H0 s0 => ?_⟩
    walk_at "sx"
    refine .inl ⟨i, 0, _, rfl, ?_⟩
    rw [wc_E (by omega) (by omega) (by omega) (by omega), decide_eq_true (by omega)]
    walk_at "sx"
    refine ⟨v, a, b, rfl, hS.mono s0, fun p H1 s1 hT => ?_⟩
    have hS1 := (hS.mono s0).mono s1
    have s01 : Same H H1 := fun c o e => s1 _ _ (s0 _ _ e)
    walk_at "sx"
    refine ⟨Nat.zero_le _, fun z hz => ?_⟩
    walk_at "sx"
    obtain ⟨w0, w1⟩ := wa_ok (a + b) (a := a) (b := b) (i := i) rfl (Nat.le_refl b) (by rw [Nat.mul_comm]; exact Nat.le_refl _) hi
    refine r_while (fun m σ' H' => Same H1 H' ∧ ∃ (u l x : Nat) (done rest : List Nat) (y7 : Option V), m = rest.length ∧ done ++ rest = wayAt a b i ∧ Leg a b u l ∧ Suf a b (a - u) (b - l) rest ∧ rk a b (a - u) (b - l) rest = x ∧ σ' = [some v, some (.int i), some (.ref p), some (.int x), some (.int u), some (.int l), some (.ref z), y7] ∧ H' z = some (.lst (chV done)) ∧ done.length = u + l) (wayAt a b i).length ⟨same_new hz, 0, 0, i, [], wayAt a b i, none, rfl, rfl, ⟨Nat.zero_le _, Nat.zero_le _, by omega⟩, w0, w1, rfl, upd_same, rfl⟩ ?_
    rintro m σ' H2 ⟨s2, u, l, x, done, rest, y7, rfl, hdr, hL, hsuf, hrk, rfl, hzz, hdl⟩
    have hS2 := hS1.mono s2
    have hT2 := hT.mono s2
    have hlr := suf_len rest hsuf
    have hu := hL.hu
    have hl := hL.hl
    walk_at "sx"
    refine r_lenL (SqL.of hzz) ?_
    walk_at "sx"
    refine rd_r hS2 ?_
    walk_at "sx"
    refine rd_s hS2 ?_
    walk_at "sx"
    have hcl : (chV done).length = u + l := by unfold chV; rw [List.length_map]; exact hdl
    rw [hcl]
    refine ite_d (fun h => ?_) (fun h => ?_)
    · refine ⟨fun σ' H' => Same H1 H' ∧ ∃ (u l x : Nat) (done rest' : List Nat) (y7 : Option V), rest'.length < rest.length ∧ done ++ rest' = wayAt a b i ∧ Leg a b u l ∧ Suf a b (a - u) (b - l) rest' ∧ rk a b (a - u) (b - l) rest' = x ∧ σ' = [some v, some (.int i), some (.ref p), some (.int x), some (.int u), some (.int l), some (.ref z), y7] ∧ H' z = some (.lst (chV done)) ∧ done.length = u + l, ?_, ?_⟩
      · rintro σ' H' ⟨g1, u', l', x', d', r', y', g2, g3, g4, g5, g6, g7, g8, g9⟩
        exact ⟨_, g2, g1, u', l', x', d', r', y', rfl, g3, g4, g5, g6, g7, g8, g9⟩
      · walk_at "sx"
        refine hT2.row (u := u + 1) (by omega) (by omega) (fun r1 hr1 => ?_)
        walk_at "sx"
        refine cell_at hr1 (l := l) rfl (by omega) ?_
        have big : (chV done).length < sizeLine := by rw [hcl, sizeLine_eq]; omega
        cases rest with
        | nil => simp at hlr; omega
        | cons c rest =>
          have hdc : (done ++ [c]) ++ rest = wayAt a b i := by rw [← hdr]; simp
          rcases hsuf with ⟨rfl, h1, h2⟩ | ⟨rfl, h1, h3, h2⟩
          · rw [rk_r] at hrk
            have lt : x < Mw.E a b (a - u - 1) (b - l) := by rw [← hrk]; exact rk_lt rest (by omega) h2
            rw [tb_rise' (by omega) hl hL.hh]
            walk_at "sxi"
            rw [decide_eq_true (by omega)]
            walk_at "sx"
            refine ⟨tyL hzz, ?_⟩
            walk_at "sx"
            refine r_app hzz ?_ big
            refine r_aug rfl ?_
            refine ⟨same_mut s2 hz, u + 1, l, x, done ++ [114], rest, _, by simp, hdc, hL.rise (by omega), by rw [← Nat.sub_sub]; exact h2, by rw [← Nat.sub_sub]; exact hrk, rfl, ?_, by rw [List.length_append, hdl]; simp; omega⟩
            rw [upd_same, lit_r, chV_snoc]
          · rw [rk_s] at hrk
            rw [tb_rise hu (by omega) hL.hh]
            walk_at "sxi"
            rw [decide_eq_false (by omega)]
            walk_at "sx"
            refine ⟨tyL hzz, ?_⟩
            walk_at "sx"
            refine r_app hzz ?_ big
            refine r_aug rfl ?_
            refine ⟨same_mut s2 hz, u, l + 1, rk a b (a - u) (b - l - 1) rest, done ++ [115], rest, some (.int ((if 0 < a - u then Mw.E a b (a - u - 1) (b - l) else 0 : Nat) : Int)), by simp, hdc, hL.step (by omega) h3, by rw [← Nat.sub_sub]; exact h2, by rw [← Nat.sub_sub], ?_, ?_, by rw [List.length_append, hdl]; simp; omega⟩
            · rw [show ((rk a b (a - u) (b - l - 1) rest : Nat) : Int) = (x : Int) - ((if 0 < a - u then Mw.E a b (a - u - 1) (b - l) else 0 : Nat) : Int) by omega]; rfl
            · rw [upd_same, lit_s, chV_snoc]
    · have er : rest = [] := List.length_eq_zero_iff.mp (by omega)
      subst er
      rw [List.append_nil] at hdr
      subst hdr
      walk_at "sx"
      have hd2 : SqL K H2 z (((wayAt a b i).map fun c => (⟨#[c]⟩ : Str)).map V.str) := SqL.of (by rw [List.map_map]; exact hzz)
      have hw := (wayAt_ok hi).1
      refine r_joinL hd2 ?_ ?_
      · rw [join_letters]
        exact mk_way hS2 hw fun t H3 s3 ht => q t H3 (fun c o e => s3 _ _ (s2 _ _ (s01 _ _ e))) ht
      · rw [lens_ones, List.length_map, len_0, hw.1.2.2]; omega
end
end Lw

namespace Lw
open PySem PySem.Spec PyProof.Rows L2 Sx Sy Sw Mw Me
open En (NoNum)
open SX (S)
open C8 (pe_gc)
open SkE (call_repr_int call_str_str)
open RZ (pi_zipA)
section
variable {P : Program} {w : World} {K : PySem.W.Frag} {mg : Str → Option Value} {base : Heap}
/-! ### the catcher -/
theorem lookup_one {f : Str} {v : V} : List.lookup f [(f, v)] = some v := by simp [List.lookup]
/-- what it makes of the errors that may come -/
def WishF (T : Tx K mg) (Q : VK) : XK := fun cls d H => cls = .ref T.C_InvalidNumber ∧ ∃ dd v dt, d = some dd ∧ H dd = some (.xd [(("value" : Str), v)]) ∧ Dp K H v dt ∧ Rp.Short dt ∧ Q (.str (("number " : Str) ++ dt.shown)) H
def TTf (T : Tx K mg) : (XK → Hp → VK → Prop) → Hp → VK → Prop := fun tl H Q => tl (WishF T Q) H fun _ H' => Q (.str "") H'
theorem gives_law_first_fault {X : Cx} (T : Tx X.K X.mg) (clear : X.A.guards = some []) (un : X.A.units + 200 < cLine) {q : Str} (cdv : Value) :
    LamX.GivesTo X N_law_first_fault "_law_first_fault" (defScope st_law_first_fault) T.a_law_first_fault cdv (defBody st_law_first_fault) "_law_call" q (TTf T) := by
  intro f c' s H Q tl act hc h
  refine ⟨_, pss_one (Tr.ps_try_all (tb := fun W D σ H => ∃ Ech : XK, (∀ cls d σ' H', Ech cls d H' → W cls d σ' H') ∧ σ[0]? = some (some (.ref f)) ∧ H c' = some (LamX.CodeO c' q) ∧ tl Ech H fun _ H1 => D.rt (.str "") H1) (Wout := fun _ _ _ _ => False)
    rfl rfl sc_law_first_fault.nd LamX.takes0 (fun W pn xe tk _ => ?_)
    (.named (i := 1) ⟨rfl, by decide, .inl T.g_InvalidNumber⟩ rfl rfl (fun a ob cls d pn hz hf => pss_one (ps_ret (pe_op Sx.o_addS pe_str (pe_callB (show CallR _ _ (Rp.qRepr X.K) from Rp.c_repr (by exact clear) (by show X.A.units + 3 + 64 < cLine; omega)) (by rfl) T.n_repr Sx.bt_repr (pa_cons (pe_xf T.xf_InvalidNumber T.nf_InvalidNumber hz hf (pv 1)) pa_nil)))))
    (.plain ⟨rfl, by decide, .inl T.g_InvalidOperation⟩ (fun a ob cls d pn hz hf => pss_one (ps_ret pe_str))
    (.plain ⟨rfl, by decide, .inl T.g_InvalidSlope⟩ (fun a ob cls d pn hz hf => pss_one (ps_ret pe_str))
    (.plain ⟨rfl, by decide, .inl T.g_InvalidText⟩ (fun a ob cls d pn hz hf => pss_one (ps_ret pe_str))
    (.plain ⟨rfl, by decide, .inl T.g_InvalidWay⟩ (fun a ob cls d pn hz hf => pss_one (ps_ret pe_str))
    (.named (i := 1) ⟨rfl, by decide, .inl T.g_ParseError⟩ rfl rfl (fun a ob cls d pn hz hf => pss_one (ps_ret (pe_op Sx.o_addS pe_str (pe_callB (show CallR _ _ (Rp.qRepr X.K) from Rp.c_repr (by exact clear) (by show X.A.units + 3 + 64 < cLine; omega)) (by rfl) T.n_repr Sx.bt_repr (pa_cons (pe_xf T.xf_ParseError T.nf_ParseError hz hf (pv 1)) pa_nil)))))
    (.named (i := 1) ⟨rfl, by decide, .inl T.g_Refused⟩ rfl rfl (fun a ob cls d pn hz hf => pss_one (ps_ret (pe_op Sx.o_addS pe_str (pe_callB (show CallR _ _ (Rp.qRepr X.K) from Rp.c_repr (by exact clear) (by show X.A.units + 3 + 64 < cLine; omega)) (by rfl) T.n_repr Sx.bt_repr (pa_cons (pe_xf T.xf_Refused T.nf_Refused hz hf (pv 1)) pa_nil)))))
    .nil)))))))), ?_⟩
  · constructor
    intro pins s' σ H D I now
    obtain ⟨Ech, hW, h1, h2, h3⟩ := now
    exact (pss_cons (ps_expr (act W pn xe Ech _ _ tk hW)) (pss_one (ps_ret pe_str))).run pins s' σ H D I ⟨h1, h2, h3⟩
  · refine ⟨WishF T Q, ?_, rfl, hc, h⟩
    rintro cls d σ' H' ⟨rfl, dd, v, dt, rfl, hdd, hv, sh, q'⟩
    refine ⟨true, Er.exm T.ex_InvalidNumber T.ex_InvalidNumber T.is_InvalidNumber T.ty_InvalidNumber T.sb_InvalidNumber_InvalidNumber, fun _ a ha hl => ?_, fun z => nomatch z⟩
    walk_at "sx"
    refine ⟨.ref a, (List.getElem?_set_self hl).trans rfl, rfl, rfl, dd, _, v, rfl, hdd, lookup_one, ?_⟩
    walk_at "sx"
    refine ⟨v, dt, rfl, hv, sh, ?_⟩
    refine Sx.r_addS q' ?_
    have := sh.fits
    show 7 + _ ≤ _
    omega
end
end Lw

namespace Lw
open PySem PySem.Spec PyProof.Rows L2 Sx Sy Sw Mw Me
open En (NoNum)
open Ln (KpN)
open LamX (Tabs TabB ExtN)
open SX (S)
open C8 (pe_gc)
open SkE (call_repr_int call_str_str)
open RZ (pi_zipA)
section
variable {P : Program} {w : World} {K : PySem.W.Frag} {mg : Str → Option Value} {base : Heap}
/-! ### the law's own index -/
theorem MatF.row {H0 H : Hp} {p : Addr} {n : Nat} {f : Nat → List Nat} (h : MatF H0 H p n f) {i : Nat} (hi : i < n) {σ : L2.St} {Q : VK} (k : ∀ q, H q = some (.lst ((f i).map fun x : Nat => V.int x)) → Q (.ref q) H) : rIxL K (.ref p) (.int i) H Q := by
  obtain ⟨ps, hps, hpp, hrows, _⟩ := h
  have hlt : i < ps.length := by omega
  exact r_ixL hpp (atI_nat (j := i) (v := .ref ps[i]) (by rw [List.getElem?_map, List.getElem?_eq_getElem hlt]; rfl)) (k _ (hrows i _ (List.getElem?_eq_getElem hlt)).2)
def sp_law_index : Sp := fun vs H Q _ => ∃ (p : Addr) (a b : Nat) (l : List Nat), vs = [.ref p, .int a, .int b, .str (S l)] ∧ (∃ H0, MatF H0 H p (a + 1) (M3.rowOf a b)) ∧ IsWay a b l ∧ Q (.int (rank a b l : Nat)) H
theorem ok_law_index (T : Tx K mg) : FnOk P w K mg base CX0 1 T.a_law_index T.d_law_index ["_law_ends_here", "_law_rises", "_law_steps", "_law_text"] sp_law_index := by
  refine T.F_law_index.ok sc_law_index (fun vs H Q E h => ?_) (fun cdv A outer s H vs Q E hr h => ?_)
  · obtain ⟨p, a, b, l, rfl, _⟩ := h; rfl
  · obtain ⟨p, a, b, l, rfl, ⟨H0, hM⟩, hW, q⟩ := h
    refine ⟨_, (pss_cons (ps_par3 (i := 4) (j := 5) (l := 6) (by rfl) sc_law_index.nd rfl rfl rfl (by decide) (by decide) (by decide) rfl rfl rfl (pa_cons (pv 1) (pa_cons (pv 2) (pa_cons pe_int pa_nil))) (by rfl))
      (pss_cons (ps_for PassesOwn.never rfl (pi_str (pv 3)) (pg_name (i := 7) sc_law_index.nd rfl (.inl rfl)) (pss_one (ps_if (pt_cmpR op_eq (pv 7) pe_str (nomark _)) (pss_one (ps_set (i := 4) sc_law_index.nd rfl (.inl rfl) (pe_op op_sub (pv 4) pe_int))) (pss_cons (ps_set (i := 6) sc_law_index.nd rfl (.inl rfl) (pe_op op_add (pv 6) (pe_ifExp (pt_cmpR op_gt (pv 4) pe_int (nomark _)) (pe_ix ix_list (pe_ix ix_list (pv 0) (pe_op op_sub (pv 4) pe_int) (fun _ _ => rfl)) (pv 5) (fun _ _ => rfl)) pe_int)))
      (pss_one (ps_set (i := 5) sc_law_index.nd rfl (.inl rfl) (pe_op op_sub (pv 5) pe_int)))))))
      (pss_one (ps_ret (pv 6))))), ?_⟩
    refine Sx.r_st (σ' := [some (.ref p), some (.int a), some (.int b), some (.str (S l)), none, none, none, none]) rfl ?_
    walk_at "sx"
    refine fr_str (fun i σ' H' => H' = H ∧ ∃ (u m x : Nat) (y7 : Option V), u ≤ a ∧ m ≤ b ∧ Suf a b u m (l.drop i) ∧ x + rk a b u m (l.drop i) = rank a b l ∧ σ' = [some (.ref p), some (.int a), some (.int b), some (.str (S l)), some (.int u), some (.int m), some (.int x), y7]) ⟨rfl, a, b, 0, none, Nat.le_refl _, Nat.le_refl _, by rw [List.drop_zero]; exact way_suf0 hW, by rw [List.drop_zero, Nat.zero_add]; rfl, rfl⟩ ?_ ?_
    · rintro i c σ' H2 hc ⟨rfl, u, m, x, y7, hu, hm, hsuf, hx, rfl⟩
      rw [S_get] at hc
      have hi : i < l.length := (List.getElem?_eq_some_iff.mp hc).1
      have ed : l.drop i = c :: l.drop (i + 1) := by
        rw [List.drop_eq_getElem_cons hi]
        congr 1
        exact (List.getElem?_eq_some_iff.mp hc).2
      rw [ed] at hsuf hx
      walk_at "sxi"
      refine ite_d (fun h => ?_) (fun h => ?_)
      · have hc' := is_r.mp h
        subst hc'
        rw [rk_r] at hx
        rcases hsuf with ⟨_, h1, h2⟩ | ⟨h0, _⟩
        · walk_at "sx"
          exact ⟨rfl, u - 1, m, x, some (.str ⟨#[114]⟩), by omega, hm, h2, hx, by rw [Int.ofNat_sub h1]; rfl⟩
        · cases h0
      · rcases hsuf with ⟨h0, _⟩ | ⟨rfl, h1, h3, h2⟩
        · exact absurd (is_r.mpr h0) h
        · rw [rk_s] at hx
          walk_at "sx"
          refine r_ifE ?_
          walk_at "sx"
          refine ite_d (fun h4 => ?_) (fun h4 => ?_)
          · have hu0 : 0 < u := by omega
            rw [if_pos hu0] at hx
            walk_at "sx"
            rw [show ((u : Int) - 1) = ((u - 1 : Nat) : Int) by omega]
            refine hM.row (σ := []) (by omega) (fun r hr => ?_)
            walk_at "sx"
            refine r_ixL hr (atI_nat (j := m) (row_get hm)) ?_
            walk_at "sx"
            exact ⟨rfl, u, m - 1, x + Mw.E a b (u - 1) m, some (.str ⟨#[115]⟩), hu, by omega, h2, by rw [Nat.add_assoc]; exact hx, by rw [Int.natCast_add, Int.ofNat_sub h1]; rfl⟩
          · have hu0 : ¬ 0 < u := by omega
            rw [if_neg hu0, Nat.zero_add] at hx
            walk_at "sx"
            exact ⟨rfl, u, m - 1, x, some (.str ⟨#[115]⟩), hu, by omega, h2, hx, by rw [Int.ofNat_sub h1, Int.add_zero]; rfl⟩
    · rintro σ' H2 ⟨rfl, u, m, x, y7, hu, hm, hsuf, hx, rfl⟩
      rw [S_size, List.drop_length] at hx
      walk_at "sx"
      have : x = rank a b l := by rw [← hx]; rfl
      rw [this]; exact q
end
end Lw

namespace Lw
open PySem PySem.Spec PyProof.Rows L2 Sx Sy Sw Mw Me
open En (NoNum)
open Ln (KpN)
open LamX (Tabs TabB ExtN)
open SX (S)
open C8 (pe_gc)
open SkE (call_repr_int call_str_str)
open RZ (pi_zipA)
section
variable {P : Program} {w : World} {K : PySem.W.Frag} {mg : Str → Option Value} {base : Heap}
theorem E_le {a b : Nat} : ∀ (l m : Nat), m ≤ b → Mw.E a b l m ≤ 2 ^ (l + m)
  | 0, m, h => by rw [E_00 h]; exact Nat.one_le_two_pow
  | l + 1, 0, h => by
    rw [E_s0]
    exact Nat.le_trans (E_le l 0 h) (Nat.pow_le_pow_right (by decide) (by omega))
  | l + 1, m + 1, h => by
    rw [E_ss h]
    have h1 := E_le (a := a) (b := b) (l + 1) m (by omega)
    have h2 := E_le (a := a) (b := b) l (m + 1) h
    have e1 : 2 ^ (l + 1 + (m + 1)) = 2 ^ (l + 1 + m) + 2 ^ (l + (m + 1)) := by
      rw [show l + 1 + (m + 1) = (l + 1 + m) + 1 by omega, show l + (m + 1) = l + 1 + m by omega, Nat.pow_succ]; omega
    rw [e1]
    split <;> omega
theorem own_way {CS CW : Addr} {H : Hp} {v u : V} {a b c d : Nat} {l m : List Nat} {sp : Sp} {Q : VK} (h : WayAt CS CW H v a b l) (g : WayAt CS CW H u c d m) (q : sp [v, u] H Q E0) : qOwn CW sp v u H Q := by
  obtain ⟨_, p, dx, sv, t, r, k, rfl, e, _⟩ := h
  obtain ⟨_, p2, dx2, sv2, t2, r2, k2, rfl, e2, _⟩ := g
  exact ⟨p, dx, _, p2, dx2, _, rfl, rfl, e, e2, q⟩
theorem own_wayNe {CS CW : Addr} {H : Hp} {v u : V} {a b c d : Nat} {l m : List Nat} {sp : Sp} {Q : VK} (h : WayAt CS CW H v a b l) (g : WayAt CS CW H u c d m) (q : sp [v, u] H (fun z H' => ∃ k, z = .bl k ∧ Q (.bl (!k)) H') E0) : qOwnNe CW sp v u H Q := by
  obtain ⟨_, p, dx, sv, t, r, k, rfl, e, _⟩ := h
  obtain ⟨_, p2, dx2, sv2, t2, r2, k2, rfl, e2, _⟩ := g
  exact ⟨p, dx, _, p2, dx2, _, rfl, rfl, e, e2, q⟩
/-- the same way: not unlike -/
theorem same_way {CS CW : Addr} {H : Hp} {v u : V} {a b : Nat} {l : List Nat} {Q : VK} (h : WayAt CS CW H v a b l) (g : WayAt CS CW H u a b l) (q : Q (.bl false) H) : qOwnNe CW (sp_Way_eq CS CW) v u H Q :=
  own_wayNe h g ⟨v, u, a, b, a, b, l, l, rfl, h, g, true, by rw [decide_eq_true ⟨rfl, rfl, rfl⟩], q⟩
theorem short_int {i : Int} (h : i.natAbs < 2 ^ 200) : Rp.Short (.int i) := by
  refine ⟨decide_eq_true (PySem.Flt.log2_lt_of (by decide) (Nat.lt_of_lt_of_le h (Nat.pow_le_pow_right (by decide) (by decide)))), rfl, by simp [PyData.depth], ?_⟩
  have e := PySem.int_text_length_le (k := 200) (by decide) (PySem.Flt.log2_lt_of (by decide) h)
  show (Str.ofString (toString i)).length + 64 ≤ _
  rw [PySem.ofString_length, sizeLine_eq]; omega
theorem short_by {d : PyData} (h1 : d.showable = true) (h2 : d.hasDict = false) (h3 : d.depth ≤ 60) (h4 : d.shown.length ≤ 1000) : Rp.Short d := ⟨h1, h2, h3, by rw [sizeLine_eq]; omega⟩
def tabs (T : Tx K mg) : List (Addr × Str) := [(T.pp_law_right, ("_law_right" : Str) ++ ".<locals>." ++ "<lambda>")]
def TabBs (T : Tx K mg) (base : Heap) (mg : Str → Option Value) : Prop := TabB base mg T.cc_law_right T.pp_law_right
def sp_law_right (T : Tx K mg) : Sp := fun vs H Q _ => ∃ d : Addr, vs = [.ref d] ∧ Dice H d ∧ Tabs (tabs T) H ∧ ∀ H', KpN d H H' → Tabs (tabs T) H' → Q (.bl true) H'
theorem ok_law_right (T : Tx K mg) (TB : TabBs T base mg) : En.FnG P w K mg base CX0 10 T.a_law_right T.d_law_right ["_law_dice_here"] (sp_law_right T) := by
  refine En.fnG T.F_law_right sc_law_right (fun vs H Q E h => ?_) (fun cdv A outer s H vs Q E hcd hgd hr h => ?_)
  · obtain ⟨d, rfl, _⟩ := h; rfl
  · have hcq : (envOfC ("_law_right" : Str) (defScope st_law_right) s.heap.objs.size T.a_law_right cdv).code = .ref T.cc_law_right := hcd.symm.trans T.cq_law_right
    obtain ⟨d, rfl, hd, hT, q⟩ := h
    refine ⟨_, (pss_cons (ps_set (i := 1) sc_law_right.nd rfl (.inl rfl) (pe_call (ok_law_any_slope T) (hr.mono (by decide)) (by rfl) T.g_law_any_slope T.F_law_any_slope.kp T.b_law_any_slope .nil pass0 (pa_cons (pv 0) (pa_cons (pe_call (ok_law_pick T) (hr.mono (by decide)) (by rfl) T.g_law_pick T.F_law_pick.kp T.b_law_pick .nil pass0 (pa_cons (pv 0) (pa_cons (pe_lst (pa_cons pe_int (pa_cons pe_int (pa_cons pe_int pa_nil)))) pa_nil))) pa_nil))))
      (pss_cons (ps_par (i := 2) (j := 3) (by rfl) sc_law_right.nd rfl rfl (by decide) rfl rfl (pa_cons (pe_ix ix_tup (pv 1) pe_int (fun _ _ => rfl)) (pa_cons (pe_ix ix_tup (pv 1) pe_int (fun _ _ => rfl)) pa_nil)) (by rfl))
      (pss_cons (ps_asg (pe_tup (pa_cons (pe_make T.mk_Slope (ok_Slope_init T) (hr.mono (by decide)) (by rfl) T.g_Slope T.b_Slope_init .nil pass0 (pa_cons (pv 2) (pa_cons (pv 3) pa_nil))) (pa_cons (pe_call (ok_law_ends T) (hr.mono (by decide)) (by rfl) T.g_law_ends T.F_law_ends.kp T.b_law_ends .nil pass0 (pa_cons (pv 2) (pa_cons (pv 3) pa_nil))) (pa_cons (pe_call (ok_law_way T) (hr.mono (by decide)) (by rfl) T.g_law_way T.F_law_way.kp T.b_law_way .nil pass0 (pa_cons (pv 0) (pa_cons (pv 2) (pa_cons (pv 3) pa_nil)))) pa_nil)))) (pg_tup rfl (pgs_cons (pg_name (i := 11) sc_law_right.nd rfl (.inr rfl)) (pgs_cons (pg_name (i := 4) sc_law_right.nd rfl (.inl rfl)) (pgs_cons (pg_name (i := 5) sc_law_right.nd rfl (.inl rfl)) pgs_nil)))))
      (pss_cons (ps_par (i := 6) (j := 7) (by rfl) sc_law_right.nd rfl rfl (by decide) rfl rfl (pa_cons (pe_ix ix_list (pe_ix ix_list (pv 4) (pv 2) (fun _ _ => rfl)) (pv 3) (fun _ _ => rfl)) (pa_cons (pe_make T.mk_Way (ok_Way_init T) (hr.mono (by decide)) (by rfl) T.g_Way T.b_Way_init .nil pass0 (pa_cons (pv 11) (pa_cons (pv 5) pa_nil))) pa_nil)) (by rfl))
      (pss_cons (ps_set (i := 8) sc_law_right.nd rfl (.inl rfl) (pe_call (ok_law_index T) (hr.mono (by decide)) (by rfl) T.g_law_index T.F_law_index.kp T.b_law_index .nil pass0 (pa_cons (pv 4) (pa_cons (pv 2) (pa_cons (pv 3) (pa_cons (pv 5) pa_nil))))))
      (pss_cons (ps_if (PW.pt (pw_or (pt_cmpR op_ne (pe_call (ok_way_count T) (hr.mono (by decide)) (by rfl) T.g_way_count T.F_way_count.kp T.b_way_count .nil pass0 (pa_cons (pv 11) pa_nil)) (pv 6) (nomark _)) (pw_or (pt_cmpR op_ne (pe_call (ok_way_index T) (hr.mono (by decide)) (by rfl) T.g_way_index T.F_way_index.kp T.b_way_index .nil pass0 (pa_cons (pv 7) pa_nil)) (pv 8) (nomark _)) (pw_or1 (pt_cmpR (Sw.op_ownNe ⟨T.me_Way_eq.1, T.me_Way_eq.2⟩ T.mr_Way T.nn_Way (ok_Way_eq T) (hr.mono (by decide)) T.b_Way_eq) (pe_call (ok_way_at T) (hr.mono (by decide)) (by rfl) T.g_way_at T.F_way_at.kp T.b_way_at .nil En.passN (pa_cons (pv 11) (pa_cons (pv 8) pa_nil))) (pv 7) (nomark _)))))) (pss_one (ps_ret pe_bl)) pss_nil)
      (pss_cons (ps_if (PW.pt (pw_or (pt_cmpR (Sw.op_ownNe ⟨T.me_Way_eq.1, T.me_Way_eq.2⟩ T.mr_Way T.nn_Way (ok_Way_eq T) (hr.mono (by decide)) T.b_Way_eq) (pe_call (ok_way_at T) (hr.mono (by decide)) (by rfl) T.g_way_at T.F_way_at.kp T.b_way_at .nil En.passN (pa_cons (pv 11) (pa_cons pe_int pa_nil))) (pe_call (ok_highest T) (hr.mono (by decide)) (by rfl) T.g_highest T.F_highest.kp T.b_highest .nil pass0 (pa_cons (pv 11) pa_nil)) (nomark _)) (pw_or1 (pt_cmpR (Sw.op_ownNe ⟨T.me_Way_eq.1, T.me_Way_eq.2⟩ T.mr_Way T.nn_Way (ok_Way_eq T) (hr.mono (by decide)) T.b_Way_eq) (pe_call (ok_way_at T) (hr.mono (by decide)) (by rfl) T.g_way_at T.F_way_at.kp T.b_way_at .nil En.passN (pa_cons (pv 11) (pa_cons (pe_op op_sub (pv 6) pe_int) pa_nil))) (pe_call (ok_lowest T) (hr.mono (by decide)) (by rfl) T.g_lowest T.F_lowest.kp T.b_lowest .nil pass0 (pa_cons (pv 11) pa_nil)) (nomark _))))) (pss_one (ps_ret pe_bl)) pss_nil)
      (pss_cons (ps_for PassesOwn.never rfl (pi_tup (pe_tup (pa_cons (pv 8) (pa_cons (pe_call (ok_law_roll T) (hr.mono (by decide)) (by rfl) T.g_law_roll T.F_law_roll.kp T.b_law_roll .nil pass0 (pa_cons (pv 0) (pa_cons (pv 6) pa_nil))) (pa_cons (pe_callB (Sx.c_min rfl) (by rfl) T.n_min Sx.bt_min (pa_cons pe_int (pa_cons (pe_op op_sub (pv 6) pe_int) pa_nil))) (pa_cons (pe_callB (Sx.c_max rfl) (by rfl) T.n_max Sx.bt_max (pa_cons pe_int (pa_cons (pe_op op_sub (pv 6) pe_int) pa_nil))) pa_nil)))))) (pg_name (i := 9) sc_law_right.nd rfl (.inl rfl)) (pss_cons (ps_set (i := 10) sc_law_right.nd rfl (.inl rfl) (pe_call (ok_way_at T) (hr.mono (by decide)) (by rfl) T.g_way_at T.F_way_at.kp T.b_way_at .nil En.passN (pa_cons (pv 11) (pa_cons (pv 9) pa_nil))))
      (pss_cons (ps_if (PW.pt (pw_or (pt_not (pt_val (pe_call (ok_is_way T) (hr.mono (by decide)) (by rfl) T.g_is_way T.F_is_way.kp T.b_is_way .nil pass0 (pa_cons (pv 11) (pa_cons (pe_prop (pv 10) T.cl_Way T.pr_Way_text (ok_Way_text T) (hr.mono (by decide)) T.b_Way_text .nil pass0 rfl) pa_nil))))) (pw_or (pt_cmpR op_ne (pe_call (ok_way_index T) (hr.mono (by decide)) (by rfl) T.g_way_index T.F_way_index.kp T.b_way_index .nil pass0 (pa_cons (pv 10) pa_nil)) (pv 9) (nomark _)) (pw_or1 (pt_cmpR op_ne (pe_call (ok_law_index T) (hr.mono (by decide)) (by rfl) T.g_law_index T.F_law_index.kp T.b_law_index .nil pass0 (pa_cons (pv 4) (pa_cons (pv 2) (pa_cons (pv 3) (pa_cons (pe_prop (pv 10) T.cl_Way T.pr_Way_text (ok_Way_text T) (hr.mono (by decide)) T.b_Way_text .nil pass0 rfl) pa_nil))))) (pv 9) (nomark _)))))) (pss_one (ps_ret pe_bl)) pss_nil)
      (pss_one (ps_if (PW.pt (pw_and (pt_cmpR op_lt (pe_op op_add (pv 9) pe_int) (pv 6) (nomark _)) (pw_and1 (pt_not (pt_cmpR (Sw.op_own (fun _ _ => rfl) ⟨T.me_Way_lt.1, T.me_Way_lt.2⟩ (ok_Way_lt T) (hr.mono (by decide)) T.b_Way_lt) (pv 10) (pe_call (ok_way_at T) (hr.mono (by decide)) (by rfl) T.g_way_at T.F_way_at.kp T.b_way_at .nil En.passN (pa_cons (pv 11) (pa_cons (pe_op op_add (pv 9) pe_int) pa_nil))) (nomark _)))))) (pss_one (ps_ret pe_bl)) pss_nil)))))
      (pss_cons (ps_set (i := 12) sc_law_right.nd rfl (.inr rfl) (pe_call (ok_law_pick T) (hr.mono (by decide)) (by rfl) T.g_law_pick T.F_law_pick.kp T.b_law_pick .nil pass0 (pa_cons (pv 0) (pa_cons (pe_lst (pa_cons (pe_un un_neg pe_int) (pa_cons (pv 6) (pa_cons (pe_op op_add (pv 6) pe_int) (pa_cons pe_non (pa_cons pe_bl (pa_cons pe_str (pa_cons (pe_lst (pa_cons pe_int pa_nil)) pa_nil)))))))) pa_nil))))
      (pss_one (ps_ret (pe_cmpR op_eq (En.pe_lam (T := tabs T) T.F_law_first_fault T.g_law_first_fault T.b_law_first_fault sc_law_first_fault (fun cdv2 => gives_law_first_fault (X := (cxOf CX0 P w K mg base N_law_right "_law_right" (defScope st_law_right) T.a_law_right cdv A outer s H E).nox) T hgd (Nat.lt_of_le_of_lt (Nat.add_le_add_right (Nat.le_add_right _ _) 200) hr.un) cdv2) TB hcq (List.mem_singleton.mpr rfl) (fun p hp _ => by rw [List.mem_singleton.mp hp]; rfl) hr (LamX.lamS_by (by show LamX.lamSB (defScope st_law_right) _ = true; decide +kernel)) (fun A outer s H E f c' hr => (pe_call (ok_way_at T) (hr.mono (by decide)) (by rfl) T.g_way_at T.F_way_at.kp T.b_way_at .nil (passes_call (E := E) (W := fun cls d _ H => E cls d H) (takes_of rfl rfl rfl rfl) (fun _ _ _ _ h => h)) (pa_cons (pv 11) (pa_cons (pv 12) pa_nil))))) (pe_op Sx.o_addS pe_str (pe_callB (show CallR _ _ (Rp.qRepr K) from Rp.c_repr hgd (Nat.lt_of_le_of_lt (Nat.add_le_add (Nat.le_add_right _ _) (by decide : 64 ≤ 200)) hr.un)) (by rfl) T.n_repr Sx.bt_repr (pa_cons (pv 12) pa_nil))) (nomark _))))))))))))), ?_⟩
    refine Sx.r_st (σ' := [some (.ref d), none, none, none, none, none, none, none, none, none, none, none, none]) rfl ?_
    walk_at "sx"
    refine ⟨by decide, fun p0 hp0 => ?_⟩
    walk_at "sx"
    have hne0 : p0 ≠ d := by
      obtain ⟨x, y, z, hd⟩ := hd
      exact (ne_of_none hd hp0).symm
    have k0 : Kp d H (upd H p0 (.lst [.int 4, .int 15, .int 60])) := (Kp.refl hd).new hp0
    refine ⟨d, p0, _, rfl, k0.d1, hne0, upd_same, by decide, by decide, fun v H1 hv k1 => ?_⟩
    obtain ⟨n, rfl, n0, n60⟩ : ∃ n : Int, v = .int n ∧ 0 < n ∧ n ≤ 60 := by
      simp only [List.mem_cons, List.not_mem_nil, or_false] at hv
      rcases hv with rfl | rfl | rfl <;> exact ⟨_, rfl, by decide, by decide⟩
    walk_at "sx"
    refine ⟨d, n, rfl, k1.d1, n0, by omega, fun p a b H2 a1 a2 b1 b2 k2 hp => ?_⟩
    obtain ⟨a, rfl⟩ : ∃ x : Nat, a = x := ⟨a.toNat, by omega⟩
    obtain ⟨b, rfl⟩ : ∃ x : Nat, b = x := ⟨b.toNat, by omega⟩
    have a1' : 1 ≤ a := by omega
    have a2' : a ≤ 60 := by omega
    have b1' : 1 ≤ b := by omega
    have b2' : b ≤ 60 := by omega
    walk_at "sx"
    refine r_ixT hp (v := .int a) rfl ?_
    walk_at "sx"
    refine r_ixT hp (v := .int b) rfl ?_
    walk_at "sx"
    refine mk_slope (a := (a : Int)) (b := (b : Int)) ⟨by omega, by omega, by omega, by omega⟩ (fun sv H3 s3 hS => ?_)
    walk_at "sx"
    refine ⟨a, b, rfl, a1', a2', b1', b2', fun m H4 s4 hM => ?_⟩
    walk_at "sx"
    have k04 : Kp d H H4 := ((((k0.trans k1).trans k2).same s3).same s4)
    refine ⟨d, a, b, rfl, k04.d1, a1', a2', b1', b2', fun l H5 hW k5 => ?_⟩
    walk_at "sx"
    refine ⟨sz _ (Nat.le_of_ble_eq_true rfl), fun pt hpt => ?_⟩
    refine r_gtup upd_same rfl ?_
    walk_at "sx"
    have k06 : Kp d H (upd H5 pt (.tup [sv, .ref m, .str (S l)])) := (k04.trans k5).new hpt
    have d3 : H3 d ≠ none := by
      obtain ⟨x, y, z, hd⟩ := (((k0.trans k1).trans k2).same s3).d1
      rw [hd]; exact fun z => nomatch z
    have hM6 : MatF H3 (upd H5 pt (.tup [sv, .ref m, .str (S l)])) m (a + 1) (M3.rowOf a b) := (hM.keeps d3 (fun b o n _ e => k5.k b o n e)).keeps d3 (fun b o n _ e => same_new hpt _ _ e)
    have hS6 := ((hS.mono s4).kp k5).mono (same_new (o := .tup [sv, .ref m, .str (S l)]) hpt)
    refine hM6.row (σ := []) (by omega) (fun r hr => ?_)
    walk_at "sx"
    refine r_ixL hr (atI_nat (j := b) (row_get (Nat.le_refl b))) ?_
    walk_at "sx"
    refine mk_way hS6 hW (fun wv H7 s7 hV => ?_)
    walk_at "sx"
    have hM7 := hM6.keeps d3 (fun b o n _ e => s7 _ _ e)
    have hS7 := hS6.mono s7
    refine ⟨m, a, b, l, rfl, ⟨H3, hM7⟩, hW, ?_⟩
    walk_at "sxi"
    refine ⟨sv, a, b, rfl, hS7, fun H8 s8 => ?_⟩
    walk_at "sx"
    refine ite_nd (fun h => (h ?_).elim) (fun h => ?_)
    · rw [wc_E a1' a2' b1' b2']; rfl
    have hV8 := hV.mono s8
    have hS8 := hS7.mono s8
    have hI := rank_lt hW
    walk_at "sx"
    refine ⟨wv, a, b, l, rfl, hV8, fun H9 s9 => ?_⟩
    walk_at "sx"
    refine ite_nd (fun h => (h rfl).elim) (fun _ => ?_)
    walk_at "sx"
    have hS9 := hS8.mono s9
    have hV9 := hV8.mono s9
    refine .inl ⟨sv, a, b, rank a b l, rfl, hS9, hI, fun u1 H10 s10 hu1 => ?_⟩
    rw [wayAt_rank hW] at hu1
    walk_at "sx"
    refine same_way hu1 (hV9.mono s10) ?_
    have hS10 := hS9.mono s10
    walk_at "sxi"
    refine .inl ⟨sv, a, b, 0, rfl, hS10, E_pos, fun u2 H11 s11 hu2 => ?_⟩
    rw [wayAt_0] at hu2
    walk_at "sx"
    refine ⟨sv, a, b, rfl, hS10.mono s11, fun u3 H12 s12 hu3 => ?_⟩
    walk_at "sx"
    refine same_way (hu2.mono s12) hu3 ?_
    have hS12 := (hS10.mono s11).mono s12
    walk_at "sx"
    refine .inl ⟨sv, a, b, Mw.E a b a b - 1, by rw [Int.ofNat_sub E_pos]; rfl, hS12, Nat.sub_lt E_pos Nat.one_pos, fun u4 H13 s13 hu4 => ?_⟩
    rw [wayAt_last (by omega) (by omega)] at hu4
    walk_at "sx"
    refine ⟨sv, a, b, rfl, hS12.mono s13, fun u5 H14 s14 hu5 => ?_⟩
    walk_at "sx"
    refine same_way (hu4.mono s14) hu5 ?_
    have hS14 := (hS12.mono s13).mono s14
    have k14 : Kp d H H14 := ((((((((k06.same s7).same s8).same s9).same s10).same s11).same s12).same s13).same s14)
    have hM14 : MatF H3 H14 m (a + 1) (M3.rowOf a b) := hM7.keeps d3 (fun b o n _ e => s14 _ _ (s13 _ _ (s12 _ _ (s11 _ _ (s10 _ _ (s9 _ _ (s8 _ _ e)))))))
    walk_at "sx"
    have hb120 : Mw.E a b a b < 2 ^ 121 := Nat.lt_of_le_of_lt (E_le a b (Nat.le_refl b)) (Nat.pow_lt_pow_right (by decide) (by omega))
    have tot : (M3.rowOf a b a).getD b 0 = Mw.E a b a b := rfl
    rw [tot]
    have hE0 : 0 < Mw.E a b a b := E_pos
    obtain ⟨N, hN⟩ : ∃ N, Mw.E a b a b = N := ⟨_, rfl⟩
    rw [hN] at hE0 hb120 hI
    rw [hN]
    refine ⟨d, N, rfl, k14.d1, by omega, ?_, fun r0 H15 r1 r2 k15 => ?_⟩
    · exact PySem.Flt.log2_lt_of (by decide) (Nat.lt_of_lt_of_le (show ((N : Nat) : Int).natAbs < 2 ^ 121 by omega) (Nat.pow_le_pow_right (by decide) (by decide)))
    walk_at "sx"
    refine ⟨sz _ (Nat.le_of_ble_eq_true rfl), fun tp htp => ?_⟩
    obtain ⟨xs, hxs⟩ : ∃ xs : List V, [V.int (rank a b l : Nat), V.int r0, V.int (if (N : Int) - 1 < 1 then (N : Int) - 1 else 1), V.int (if (N : Int) - 2 > 0 then (N : Int) - 2 else 0)] = xs := ⟨_, rfl⟩
    have hall : ∀ x, x ∈ xs → ∃ i : Nat, x = V.int i ∧ i < N := by
      intro x hx
      rw [← hxs] at hx
      simp only [List.mem_cons, List.not_mem_nil, or_false] at hx
      rcases hx with rfl | rfl | rfl | rfl
      · exact ⟨_, rfl, hI⟩
      · exact ⟨r0.toNat, by rw [Int.toNat_of_nonneg r1], by omega⟩
      · by_cases h : (N : Int) - 1 < 1
        · rw [if_pos h]; exact ⟨N - 1, by congr 1; omega, by omega⟩
        · rw [if_neg h]; exact ⟨1, rfl, by omega⟩
      · by_cases h : (N : Int) - 2 > 0
        · rw [if_pos h]; exact ⟨N - 2, by congr 1; omega, by omega⟩
        · rw [if_neg h]; exact ⟨0, rfl, by omega⟩
    rw [hxs]
    refine r_seqT (SqT.of upd_same) ?_
    have k16 : Kp d H (upd H15 tp (.tup xs)) := (k14.trans k15).new htp
    have hS16 := (hS14.kp k15).mono (same_new (o := .tup xs) htp)
    have hM16 : MatF H3 (upd H15 tp (.tup xs)) m (a + 1) (M3.rowOf a b) := (hM14.keeps d3 (fun b o n _ e => k15.k b o n e)).keeps d3 (fun b o n _ e => same_new htp _ _ e)
    refine fr_tup (xs := xs) (fun i σ' H' => Kp d H H' ∧ SlopeAt T.C_Slope H' sv a b ∧ MatF H3 H' m (a + 1) (M3.rowOf a b) ∧ H' tp = some (.tup xs) ∧ ∃ y9 y10, σ' = [some (.ref d), some (.ref p), some (.int a), some (.int b), some (.ref m), some (.str (S l)), some (.int N), some wv, some (.int (rank a b l : Nat)), y9, y10, some sv, none]) ⟨k16, hS16, hM16, upd_same, none, none, rfl⟩ (fun i σ H' _ z => SqT.of z.2.2.2.1) ?_ ?_
    · rintro i x σ' H17 hi ⟨k17, hS17, hM17, ht17, y9, y10, rfl⟩
      obtain ⟨i, rfl, hiN⟩ := hall x (List.mem_of_getElem? hi)
      walk_at "sx"
      refine .inl ⟨sv, a, b, i, rfl, hS17, by rw [hN]; exact hiN, fun u6 H18 s18 hu6 => ?_⟩
      have hW6 := wayAt_ok (a := a) (b := b) (i := i) (by rw [hN]; exact hiN)
      walk_at "sxi"
      refine rw_text hu6 ?_
      walk_at "sx"
      refine ⟨sv, a, b, _, rfl, hS17.mono s18, hW6.1, fun H19 s19 => ?_⟩
      walk_at "sx"
      refine ⟨u6, a, b, _, rfl, hu6.mono s19, fun H20 s20 => ?_⟩
      walk_at "sx"
      refine ite_nd (fun h => (h (by rw [hW6.2])).elim) (fun _ => ?_)
      walk_at "sx"
      refine rw_text ((hu6.mono s19).mono s20) ?_
      walk_at "sx"
      have hM20 := hM17.keeps d3 (fun b o n _ e => s20 _ _ (s19 _ _ (s18 _ _ e)))
      have hS20 := ((hS17.mono s18).mono s19).mono s20
      have hu20 := (hu6.mono s19).mono s20
      have k20 := ((k17.same s18).same s19).same s20
      have t20 := s20 _ _ (s19 _ _ (s18 _ _ ht17))
      refine ⟨m, a, b, _, rfl, ⟨H3, hM20⟩, hW6.1, ?_⟩
      walk_at "sx"
      refine ite_nd (fun h => (h (by rw [hW6.2])).elim) (fun _ => ?_)
      walk_at "sxi"
      refine ite_d (fun h1 => ?_) (fun h1 => ?_)
      · walk_at "sx"
        rw [show (i : Int) + 1 = ((i + 1 : Nat) : Int) by omega]
        refine .inl ⟨sv, a, b, i + 1, rfl, hS20, by rw [hN]; omega, fun u7 H21 s21 hu7 => ?_⟩
        walk_at "sx"
        refine own_way (hu20.mono s21) hu7 ⟨u6, u7, a, b, _, _, rfl, hu20.mono s21, hu7, ?_⟩
        rw [decide_eq_true (wayAt_lt (Nat.lt_succ_self i) (by rw [hN]; omega))]
        walk_at "sx"
        exact ⟨k20.same s21, hS20.mono s21, hM20.keeps d3 (fun b o n _ e => s21 _ _ e), s21 _ _ t20, _, _, rfl⟩
      · walk_at "sx"
        exact ⟨k20, hS20, hM20, t20, _, _, rfl⟩
    rintro σ' H17 ⟨k17, hS17, hM17, ht17, y9, y10, rfl⟩
    walk_at "sx"
    refine ⟨by decide, fun p1 hp1 => ?_⟩
    walk_at "sx"
    refine ⟨sz _ (Nat.le_of_ble_eq_true rfl), fun p2 hp2 => ?_⟩
    walk_at "sx"
    have k18 : Kp d H (upd (upd H17 p1 (.lst [.int 0])) p2 (.lst [.int (-1), .int N, .int (N + 1), .non, .bl false, .str ("1" : Str), .ref p1])) := (k17.new hp1).new hp2
    have ne1 : p1 ≠ d := by
      obtain ⟨x, y, z, h⟩ := k17.d1
      exact (ne_of_none h hp1).symm
    have ne2 : p2 ≠ d := by
      obtain ⟨x, y, z, h⟩ := (k17.new (o := .lst [.int 0]) hp1).d1
      exact (ne_of_none h hp2).symm
    have ne12 : p1 ≠ p2 := ne_of_none upd_same hp2
    refine ⟨d, p2, _, rfl, k18.d1, ne2, upd_same, by show 0 < 7; decide, by show 7 ≤ 1000; decide, fun x H18 hx k19 => ?_⟩
    have hp18 : H18 p1 = some (.lst [.int 0]) := k19.k _ _ ne1 (by rw [upd_ne ne12, upd_same])
    have hS18 : SlopeAt T.C_Slope H18 sv a b := ((hS17.mono (same_new (o := .lst [.int 0]) hp1)).mono (same_new (o := .lst [.int (-1), .int N, .int (N + 1), .non, .bl false, .str ("1" : Str), .ref p1]) hp2)).kp k19
    -- what is wrong with it, whatever comes beside
    obtain ⟨dt, hsh, hdp, hbad⟩ : ∃ dt, Rp.Short dt ∧ (∀ H', ExtN H18 H' → Dp K H' x dt) ∧ ∀ H', ExtN H18 H' → NoNum K H' x ∨ ∃ i : Int, x = .int i ∧ ¬ (0 ≤ i ∧ i < N) := by
      simp only [List.mem_cons, List.not_mem_nil, or_false] at hx
      rcases hx with rfl | rfl | rfl | rfl | rfl | rfl | rfl
      · exact ⟨_, short_int (by decide), fun H' _ => .int _, fun H' _ => .inr ⟨_, rfl, by omega⟩⟩
      · exact ⟨_, short_int (Nat.lt_of_lt_of_le (show ((N : Nat) : Int).natAbs < 2 ^ 121 by omega) (Nat.pow_le_pow_right (by decide) (by decide))), fun H' _ => .int _, fun H' _ => .inr ⟨_, rfl, by omega⟩⟩
      · exact ⟨_, short_int (Nat.lt_of_lt_of_le (show ((N : Int) + 1).natAbs < 2 ^ 122 by omega) (Nat.pow_le_pow_right (by decide) (by decide))), fun H' _ => .int _, fun H' _ => .inr ⟨_, rfl, by omega⟩⟩
      · exact ⟨_, short_by rfl rfl (by decide) (by decide +kernel), fun H' _ => .non, fun H' _ => .inl En.noNum_none⟩
      · exact ⟨_, short_by rfl rfl (by decide) (by decide +kernel), fun H' _ => .bl _, fun H' _ => .inl (En.noNum_bl _)⟩
      · exact ⟨_, short_by rfl rfl (by decide) (by decide +kernel), fun H' _ => .str _, fun H' _ => .inl (En.noNum_str _)⟩
      · have at' : ∀ H', ExtN H18 H' → H' p1 = some (.lst [.int 0]) := fun H' e => e _ _ hp18 fun ps z => by cases z
        exact ⟨.list [.int 0], short_by (by decide +kernel) rfl (by decide) (by decide +kernel), fun H' e => .lst (SqL.of (at' H' e)) (.cons (.int _) .nil), fun H' e => .inl (En.noNum_lst (at' H' e))⟩
    walk_at "sx"
    refine ⟨Ln.tabs_kp hT hd (k18.trans k19), fun H19 e19 T19 => ?_⟩
    have hS19 : SlopeAt T.C_Slope H19 sv a b := by
      obtain ⟨h1, p, dx, h2, h3⟩ := hS18
      exact ⟨h1, p, dx, h2, e19 _ _ h3 fun ps z => by cases z⟩
    unfold TTf
    walk_at "sx"
    refine .inr ⟨sv, x, a, b, rfl, hS19, by rw [hN]; exact hbad H19 e19, fun H20 dd s20 hdd => ?_⟩
    have s21 : Same H19 (upd H20 dd (.xd [(("value" : Str), x)])) := fun c o e => same_new hdd _ _ (s20 _ _ e)
    have e21 : ExtN H18 (upd H20 dd (.xd [(("value" : Str), x)])) := e19.trans (ExtN.of s21)
    refine ⟨rfl, dd, x, dt, rfl, upd_same, hdp _ e21, hsh, ?_⟩
    walk_at "sx"
    refine ⟨x, dt, rfl, hdp _ e21, hsh, ?_⟩
    refine Sx.r_addS ?_ (by have := hsh.fits; show 7 + _ ≤ _; omega)
    walk_at "sx"
    rw [decide_eq_true rfl]
    exact q _ (((KpN.of (k18.trans k19)).ext e19).same s21) (Ln.tabs_same T19 s21)
end
end Lw

namespace Lw
open PySem PySem.Spec PyProof.Rows L2 Sx Sy Sw Mw Me
open En (NoNum)
open Ln (KpN)
open LamX (Tabs TabB ExtN)
open SX (S)
open C8 (pe_gc)
open SkE (call_repr_int call_str_str)
open RZ (pi_zipA)
section
variable {P : Program} {w : World} {K : PySem.W.Frag} {mg : Str → Option Value} {base : Heap}
/-! ### the law -/
def spLaw (K : PySem.W.Frag) (T : Tx K mg) : Sp := fun vs H Q _ => ∃ (a : Addr) (ns : List Int), vs = [.ref a] ∧ SqL K H a (ns.map V.int) ∧ ns.length ≤ 63 ∧ Tabs (tabs T) H ∧ ∀ H', Q (.bl true) H'
theorem t_1 : S (wayAt 3 4 3) = ("rsrrsss" : Str) := by decide +kernel
theorem e_1 : 3 < Mw.E 3 4 3 4 := by decide +kernel
theorem e_2 : rank 2 4 [114, 115, 115, 114, 115, 115] = 2 := by decide +kernel
theorem w_2 : IsWay 2 4 [114, 115, 115, 114, 115, 115] := by
  have h := (wayAt_ok (a := 2) (b := 4) (i := 2) (by decide +kernel)).1
  rw [show wayAt 2 4 2 = [114, 115, 115, 114, 115, 115] by decide +kernel] at h
  exact h
theorem ok_law (T : Tx K mg) (TB : TabBs T base mg) : En.FnG P w K mg base CX0 11 T.a_law T.d_law ["_law_script"] (spLaw K T) := by
  refine En.fnG T.F_law sc_law (fun vs H Q E h => ?_) (fun cdv A outer s H vs Q E hcd hgd hr h => ?_)
  · obtain ⟨a, ns, rfl, _⟩ := h; rfl
  · obtain ⟨a, ns, rfl, hS, hl, hT, q⟩ := h
    refine ⟨_, (pss_cons (ps_for PassesOwn.never rfl (pi_range1 (by rfl) T.n_range (pa_cons (pe_callB (Sx.c_max rfl) (by rfl) T.n_max Sx.bt_max (pa_cons pe_int (pa_cons (pe_callB (Sx.c_min rfl) (by rfl) T.n_min Sx.bt_min (pa_cons pe_int (pa_cons (pe_callB Sx.c_len (by rfl) T.n_len Sx.bt_len (pa_cons (pv 0) pa_nil)) pa_nil))) pa_nil))) pa_nil)) (pg_name (i := 1) sc_law.nd rfl (.inl rfl)) (pss_cons (ps_set (i := 2) sc_law.nd rfl (.inl rfl) (pe_call (ok_law_dice T) (hr.mono (by decide)) (by rfl) T.g_law_dice T.F_law_dice.kp T.b_law_dice .nil pass0 (pa_cons (pv 0) (pa_cons (pv 1) pa_nil))))
      (pss_one (ps_for PassesOwn.never rfl (pi_range1 (by rfl) T.n_range (pa_cons pe_int pa_nil)) (pg_name (i := 3) sc_law.nd rfl (.inl rfl)) (pss_one (ps_if (pt_not (pt_val (En.pe_callG hgd (ok_law_right T TB) (hr.mono (by decide)) (by rfl) T.g_law_right T.F_law_right.kp T.b_law_right pass0 (pa_cons (pv 2) pa_nil)))) (pss_one (ps_ret pe_bl)) pss_nil))))))
      (pss_one (ps_ret (pe_and (pe_cmpR op_eq (pe_prop (pe_call (ok_way_at T) (hr.mono (by decide)) (by rfl) T.g_way_at T.F_way_at.kp T.b_way_at .nil En.passN (pa_cons (pe_make T.mk_Slope (ok_Slope_init T) (hr.mono (by decide)) (by rfl) T.g_Slope T.b_Slope_init .nil pass0 (pa_cons pe_int (pa_cons pe_int pa_nil))) (pa_cons pe_int pa_nil))) T.cl_Way T.pr_Way_text (ok_Way_text T) (hr.mono (by decide)) T.b_Way_text .nil pass0 rfl) pe_str (nomark _)) (pe_one (pe_cmpR op_eq (pe_call (ok_way_index T) (hr.mono (by decide)) (by rfl) T.g_way_index T.F_way_index.kp T.b_way_index .nil pass0 (pa_cons (pe_make T.mk_Way (ok_Way_init T) (hr.mono (by decide)) (by rfl) T.g_Way T.b_Way_init .nil pass0 (pa_cons (pe_make T.mk_Slope (ok_Slope_init T) (hr.mono (by decide)) (by rfl) T.g_Slope T.b_Slope_init .nil pass0 (pa_cons pe_int (pa_cons pe_int pa_nil))) (pa_cons pe_str pa_nil))) pa_nil)) pe_int (nomark _))))))), ?_⟩
    refine Sx.r_st (σ' := [some (.ref a), none, none, none]) rfl ?_
    walk_at "sx"
    refine r_lenL hS ?_
    walk_at "sx"
    obtain ⟨n, hn, hn6⟩ : ∃ n : Nat, (if (if ((ns.map V.int).length : Int) < 4 then ((ns.map V.int).length : Int) else 4) > 1 then (if ((ns.map V.int).length : Int) < 4 then ((ns.map V.int).length : Int) else 4) else 1) = n ∧ n ≤ 6 := by
      refine ⟨(if (if ((ns.map V.int).length : Int) < 4 then ((ns.map V.int).length : Int) else 4) > 1 then (if ((ns.map V.int).length : Int) < 4 then ((ns.map V.int).length : Int) else 4) else 1).toNat, ?_, ?_⟩
      · split <;> split <;> omega
      · split <;> split <;> omega
    rw [hn]
    refine r_rng1 ?_ (by omega) (by omega)
    refine fr_range (fun i σ' H' => ExtN H H' ∧ Tabs (tabs T) H' ∧ ∃ y1 y2 y3, σ' = [some (.ref a), y1, y2, y3]) ⟨ExtN.refl H, hT, none, none, none, rfl⟩ ?_ ?_
    · rintro i σ' H1 hi ⟨sm, T1, y1, y2, y3, rfl⟩
      walk_at "sx"
      refine ⟨a, ns, i, by rw [Int.zero_add]; rfl, Ln.seq_extN sm hS, by omega, fun d H2 sm2 hdn hd => ?_⟩
      walk_at "sx"
      refine r_rng1 ?_ (by decide) (by decide)
      refine fr_range (fun j σ' H' => KpN d H2 H' ∧ Tabs (tabs T) H' ∧ ∃ y1 y2, σ' = [some (.ref a), y1, some (.ref d), y2]) ⟨KpN.refl hd, Ln.tabs_same T1 sm2, _, _, rfl⟩ ?_ ?_
      · rintro j σ' H5 hj ⟨k3, T5, y4, y5, rfl⟩
        walk_at "sxi"
        refine ⟨d, rfl, k3.d1, T5, fun H6 k4 T6 => ?_⟩
        walk_at "sx"
        exact ⟨k3.trans k4, T6, _, _, rfl⟩
      · rintro σ' H5 ⟨k3, T5, y4, y5, rfl⟩
        walk_at "sx"
        exact ⟨Ln.extN_dice sm hdn sm2 k3, T5, _, _, _, rfl⟩
    · rintro σ' H1 ⟨sm, T1, y1, y2, y3, rfl⟩
      walk_at "sx"
      refine mk_slope (a := 3) (b := 4) (by decide) (fun v1 H2 _ hv1 => ?_)
      walk_at "sx"
      refine .inl ⟨v1, 3, 4, 3, rfl, hv1, e_1, fun u1 H3 _ hu1 => ?_⟩
      refine rw_text hu1 ?_
      rw [t_1]
      walk_at "sx"
      rw [decide_eq_true rfl]
      walk_at "sx"
      refine mk_slope (a := 2) (b := 4) (by decide) (fun v2 H4 _ hv2 => ?_)
      walk_at "sx"
      refine mk_way (l := [114, 115, 115, 114, 115, 115]) hv2 w_2 (fun v3 H5 _ hv3 => ?_)
      walk_at "sx"
      refine ⟨v3, 2, 4, _, rfl, hv3, fun H6 _ => ?_⟩
      rw [e_2]
      walk_at "sx"
      exact q _
end
end Lw

namespace Lw
open PySem PySem.Spec PyProof.Rows L2 Sx Sy Sw Mw Me
open En (NoNum)
open Ln (KpN)
open LamX (Tabs TabB ExtN)
open SX (S)
open C8 (pe_gc)
open SkE (call_repr_int call_str_str)
open RZ (pi_zipA)
theorem all_mk {l : PySem.W.OpenLaw} {w : World} {K : PySem.W.Frag} {h : Heap} {mg : Str → Option Value} {fa : Addr} (X : K.In h) (G : h.Ns mainGlobals mg) (hfa : mg "law" = some (.ref fa))
    {C_Slope C_Way C_InvalidNumber C_InvalidOperation C_InvalidSlope C_InvalidText C_InvalidWay C_ParseError C_Refused a_InvalidNumber_init a_is_number a_is_whole_between a_Slope_init a_Slope_rises p_Slope_rises a_Slope_steps p_Slope_steps a_Slope_common p_Slope_common a_Slope_eq a_Way_init a_Way_slope p_Way_slope a_Way_text p_Way_text a_Way_levels p_Way_levels a_Way_lt a_Way_eq a_check_slope a_check_way a_letter_levels a_is_word a_is_way a_way_count a_completions a_way_at a_way_index a_highest a_lowest a_law_dice a_law_roll a_law_pick a_law_way a_law_any_slope a_law_ends a_law_first_fault a_law_index a_law_right a_law : Addr} {t_MAX_SIDE : Tok}
    {oc_InvalidNumber_init kV_InvalidNumber_init dc_InvalidNumber_init pm_InvalidNumber_init cd_InvalidNumber_init ct_InvalidNumber_init : Value} {od_InvalidNumber_init an_InvalidNumber_init : Option Addr} {sl_InvalidNumber_init : Array (Option Value)}
    {oc_is_number kV_is_number dc_is_number pm_is_number cd_is_number ct_is_number : Value} {od_is_number an_is_number : Option Addr} {sl_is_number : Array (Option Value)}
    {oc_is_whole_between kV_is_whole_between dc_is_whole_between pm_is_whole_between cd_is_whole_between ct_is_whole_between : Value} {od_is_whole_between an_is_whole_between : Option Addr} {sl_is_whole_between : Array (Option Value)}
    {oc_Slope_init kV_Slope_init dc_Slope_init pm_Slope_init cd_Slope_init ct_Slope_init : Value} {od_Slope_init an_Slope_init : Option Addr} {sl_Slope_init : Array (Option Value)}
    {oc_Slope_rises kV_Slope_rises dc_Slope_rises pm_Slope_rises cd_Slope_rises ct_Slope_rises : Value} {od_Slope_rises an_Slope_rises : Option Addr} {sl_Slope_rises : Array (Option Value)}
    {re_Slope_rises : List Value}
    {oc_Slope_steps kV_Slope_steps dc_Slope_steps pm_Slope_steps cd_Slope_steps ct_Slope_steps : Value} {od_Slope_steps an_Slope_steps : Option Addr} {sl_Slope_steps : Array (Option Value)}
    {re_Slope_steps : List Value}
    {oc_Slope_common kV_Slope_common dc_Slope_common pm_Slope_common cd_Slope_common ct_Slope_common : Value} {od_Slope_common an_Slope_common : Option Addr} {sl_Slope_common : Array (Option Value)}
    {re_Slope_common : List Value}
    {oc_Slope_eq kV_Slope_eq dc_Slope_eq pm_Slope_eq cd_Slope_eq ct_Slope_eq : Value} {od_Slope_eq an_Slope_eq : Option Addr} {sl_Slope_eq : Array (Option Value)}
    {oc_Way_init kV_Way_init dc_Way_init pm_Way_init cd_Way_init ct_Way_init : Value} {od_Way_init an_Way_init : Option Addr} {sl_Way_init : Array (Option Value)}
    {oc_Way_slope kV_Way_slope dc_Way_slope pm_Way_slope cd_Way_slope ct_Way_slope : Value} {od_Way_slope an_Way_slope : Option Addr} {sl_Way_slope : Array (Option Value)}
    {re_Way_slope : List Value}
    {oc_Way_text kV_Way_text dc_Way_text pm_Way_text cd_Way_text ct_Way_text : Value} {od_Way_text an_Way_text : Option Addr} {sl_Way_text : Array (Option Value)}
    {re_Way_text : List Value}
    {oc_Way_levels kV_Way_levels dc_Way_levels pm_Way_levels cd_Way_levels ct_Way_levels : Value} {od_Way_levels an_Way_levels : Option Addr} {sl_Way_levels : Array (Option Value)}
    {re_Way_levels : List Value}
    {oc_Way_lt kV_Way_lt dc_Way_lt pm_Way_lt cd_Way_lt ct_Way_lt : Value} {od_Way_lt an_Way_lt : Option Addr} {sl_Way_lt : Array (Option Value)}
    {oc_Way_eq kV_Way_eq dc_Way_eq pm_Way_eq cd_Way_eq ct_Way_eq : Value} {od_Way_eq an_Way_eq : Option Addr} {sl_Way_eq : Array (Option Value)}
    {oc_check_slope kV_check_slope dc_check_slope pm_check_slope cd_check_slope ct_check_slope : Value} {od_check_slope an_check_slope : Option Addr} {sl_check_slope : Array (Option Value)}
    {oc_check_way kV_check_way dc_check_way pm_check_way cd_check_way ct_check_way : Value} {od_check_way an_check_way : Option Addr} {sl_check_way : Array (Option Value)}
    {oc_letter_levels kV_letter_levels dc_letter_levels pm_letter_levels cd_letter_levels ct_letter_levels : Value} {od_letter_levels an_letter_levels : Option Addr} {sl_letter_levels : Array (Option Value)}
    {oc_is_word kV_is_word dc_is_word pm_is_word cd_is_word ct_is_word : Value} {od_is_word an_is_word : Option Addr} {sl_is_word : Array (Option Value)}
    {oc_is_way kV_is_way dc_is_way pm_is_way cd_is_way ct_is_way : Value} {od_is_way an_is_way : Option Addr} {sl_is_way : Array (Option Value)}
    {oc_way_count kV_way_count dc_way_count pm_way_count cd_way_count ct_way_count : Value} {od_way_count an_way_count : Option Addr} {sl_way_count : Array (Option Value)}
    {oc_completions kV_completions dc_completions pm_completions cd_completions ct_completions : Value} {od_completions an_completions : Option Addr} {sl_completions : Array (Option Value)}
    {oc_way_at kV_way_at dc_way_at pm_way_at cd_way_at ct_way_at : Value} {od_way_at an_way_at : Option Addr} {sl_way_at : Array (Option Value)}
    {oc_way_index kV_way_index dc_way_index pm_way_index cd_way_index ct_way_index : Value} {od_way_index an_way_index : Option Addr} {sl_way_index : Array (Option Value)}
    {oc_highest kV_highest dc_highest pm_highest cd_highest ct_highest : Value} {od_highest an_highest : Option Addr} {sl_highest : Array (Option Value)}
    {oc_lowest kV_lowest dc_lowest pm_lowest cd_lowest ct_lowest : Value} {od_lowest an_lowest : Option Addr} {sl_lowest : Array (Option Value)}
    {oc_law_dice kV_law_dice dc_law_dice pm_law_dice cd_law_dice ct_law_dice : Value} {od_law_dice an_law_dice : Option Addr} {sl_law_dice : Array (Option Value)}
    {oc_law_roll kV_law_roll dc_law_roll pm_law_roll cd_law_roll ct_law_roll : Value} {od_law_roll an_law_roll : Option Addr} {sl_law_roll : Array (Option Value)}
    {oc_law_pick kV_law_pick dc_law_pick pm_law_pick cd_law_pick ct_law_pick : Value} {od_law_pick an_law_pick : Option Addr} {sl_law_pick : Array (Option Value)}
    {oc_law_way kV_law_way dc_law_way pm_law_way cd_law_way ct_law_way : Value} {od_law_way an_law_way : Option Addr} {sl_law_way : Array (Option Value)}
    {oc_law_any_slope kV_law_any_slope dc_law_any_slope pm_law_any_slope cd_law_any_slope ct_law_any_slope : Value} {od_law_any_slope an_law_any_slope : Option Addr} {sl_law_any_slope : Array (Option Value)}
    {oc_law_ends kV_law_ends dc_law_ends pm_law_ends cd_law_ends ct_law_ends : Value} {od_law_ends an_law_ends : Option Addr} {sl_law_ends : Array (Option Value)}
    {oc_law_first_fault kV_law_first_fault dc_law_first_fault pm_law_first_fault cd_law_first_fault ct_law_first_fault : Value} {od_law_first_fault an_law_first_fault : Option Addr} {sl_law_first_fault : Array (Option Value)}
    {oc_law_index kV_law_index dc_law_index pm_law_index cd_law_index ct_law_index : Value} {od_law_index an_law_index : Option Addr} {sl_law_index : Array (Option Value)}
    {oc_law_right kV_law_right dc_law_right pm_law_right cd_law_right ct_law_right : Value} {od_law_right an_law_right : Option Addr} {sl_law_right : Array (Option Value)}
    {oc_law kV_law dc_law pm_law cd_law ct_law : Value} {od_law an_law : Option Addr} {sl_law : Array (Option Value)}
    (g_Slope : PySem.W.nsIn K mainGlobals "Slope" = some (some (.ref C_Slope)))
    (g_Way : PySem.W.nsIn K mainGlobals "Way" = some (some (.ref C_Way)))
    (g_InvalidNumber : PySem.W.nsIn K mainGlobals "InvalidNumber" = some (some (.ref C_InvalidNumber)))
    (g_InvalidOperation : PySem.W.nsIn K mainGlobals "InvalidOperation" = some (some (.ref C_InvalidOperation)))
    (g_InvalidSlope : PySem.W.nsIn K mainGlobals "InvalidSlope" = some (some (.ref C_InvalidSlope)))
    (g_InvalidText : PySem.W.nsIn K mainGlobals "InvalidText" = some (some (.ref C_InvalidText)))
    (g_InvalidWay : PySem.W.nsIn K mainGlobals "InvalidWay" = some (some (.ref C_InvalidWay)))
    (g_ParseError : PySem.W.nsIn K mainGlobals "ParseError" = some (some (.ref C_ParseError)))
    (g_Refused : PySem.W.nsIn K mainGlobals "Refused" = some (some (.ref C_Refused)))
    (m_InvalidNumber_init : PySem.W.findIn K (.ref C_InvalidNumber) "__init__" = some (some (.ref a_InvalidNumber_init)))
    (f_InvalidNumber_init : PySem.W.isFn K (.ref a_InvalidNumber_init) = true)
    (l_InvalidNumber_init : K.lookup a_InvalidNumber_init = some ⟨oc_InvalidNumber_init, od_InvalidNumber_init, .func (PySem.W.fnOf "__init__" "InvalidNumber.__init__" (defArgs st_InvalidNumber_init) (defBody st_InvalidNumber_init) (defScope st_InvalidNumber_init) .none kV_InvalidNumber_init dc_InvalidNumber_init pm_InvalidNumber_init an_InvalidNumber_init cd_InvalidNumber_init ct_InvalidNumber_init), sl_InvalidNumber_init⟩)
    (c_InvalidNumber_init : PySem.W.codeIn K cd_InvalidNumber_init "InvalidNumber.__init__" = true)
    (k_InvalidNumber_init : PySem.W.keepIn K (.ref a_InvalidNumber_init) = true)
    (g_is_number : PySem.W.nsIn K mainGlobals "is_number" = some (some (.ref a_is_number)))
    (l_is_number : K.lookup a_is_number = some ⟨oc_is_number, od_is_number, .func (PySem.W.fnOf "is_number" "is_number" (defArgs st_is_number) (defBody st_is_number) (defScope st_is_number) .none kV_is_number dc_is_number pm_is_number an_is_number cd_is_number ct_is_number), sl_is_number⟩)
    (c_is_number : PySem.W.codeIn K cd_is_number "is_number" = true)
    (k_is_number : PySem.W.keepIn K (.ref a_is_number) = true)
    (g_is_whole_between : PySem.W.nsIn K mainGlobals "is_whole_between" = some (some (.ref a_is_whole_between)))
    (l_is_whole_between : K.lookup a_is_whole_between = some ⟨oc_is_whole_between, od_is_whole_between, .func (PySem.W.fnOf "is_whole_between" "is_whole_between" (defArgs st_is_whole_between) (defBody st_is_whole_between) (defScope st_is_whole_between) .none kV_is_whole_between dc_is_whole_between pm_is_whole_between an_is_whole_between cd_is_whole_between ct_is_whole_between), sl_is_whole_between⟩)
    (c_is_whole_between : PySem.W.codeIn K cd_is_whole_between "is_whole_between" = true)
    (k_is_whole_between : PySem.W.keepIn K (.ref a_is_whole_between) = true)
    (m_Slope_init : PySem.W.findIn K (.ref C_Slope) "__init__" = some (some (.ref a_Slope_init)))
    (f_Slope_init : PySem.W.isFn K (.ref a_Slope_init) = true)
    (l_Slope_init : K.lookup a_Slope_init = some ⟨oc_Slope_init, od_Slope_init, .func (PySem.W.fnOf "__init__" "Slope.__init__" (defArgs st_Slope_init) (defBody st_Slope_init) (defScope st_Slope_init) .none kV_Slope_init dc_Slope_init pm_Slope_init an_Slope_init cd_Slope_init ct_Slope_init), sl_Slope_init⟩)
    (c_Slope_init : PySem.W.codeIn K cd_Slope_init "Slope.__init__" = true)
    (k_Slope_init : PySem.W.keepIn K (.ref a_Slope_init) = true)
    (pa_Slope_rises : PySem.W.findIn K (.ref C_Slope) "rises" = some (some (.ref p_Slope_rises)))
    (pg_Slope_rises : PySem.W.specialIn K (.ref p_Slope_rises) "__get__" = some (some (.builtin "property.__get__")))
    (pt_Slope_rises : PySem.W.takesIn K (.ref p_Slope_rises) = some true)
    (pq_Slope_rises : PySem.W.recIn K p_Slope_rises "property" = some (.ref a_Slope_rises :: re_Slope_rises))
    (l_Slope_rises : K.lookup a_Slope_rises = some ⟨oc_Slope_rises, od_Slope_rises, .func (PySem.W.fnOf "rises" "Slope.rises" (defArgs st_Slope_rises) (defBody st_Slope_rises) (defScope st_Slope_rises) .none kV_Slope_rises dc_Slope_rises pm_Slope_rises an_Slope_rises cd_Slope_rises ct_Slope_rises), sl_Slope_rises⟩)
    (c_Slope_rises : PySem.W.codeIn K cd_Slope_rises "Slope.rises" = true)
    (k_Slope_rises : PySem.W.keepIn K (.ref a_Slope_rises) = true)
    (pa_Slope_steps : PySem.W.findIn K (.ref C_Slope) "steps" = some (some (.ref p_Slope_steps)))
    (pg_Slope_steps : PySem.W.specialIn K (.ref p_Slope_steps) "__get__" = some (some (.builtin "property.__get__")))
    (pt_Slope_steps : PySem.W.takesIn K (.ref p_Slope_steps) = some true)
    (pq_Slope_steps : PySem.W.recIn K p_Slope_steps "property" = some (.ref a_Slope_steps :: re_Slope_steps))
    (l_Slope_steps : K.lookup a_Slope_steps = some ⟨oc_Slope_steps, od_Slope_steps, .func (PySem.W.fnOf "steps" "Slope.steps" (defArgs st_Slope_steps) (defBody st_Slope_steps) (defScope st_Slope_steps) .none kV_Slope_steps dc_Slope_steps pm_Slope_steps an_Slope_steps cd_Slope_steps ct_Slope_steps), sl_Slope_steps⟩)
    (c_Slope_steps : PySem.W.codeIn K cd_Slope_steps "Slope.steps" = true)
    (k_Slope_steps : PySem.W.keepIn K (.ref a_Slope_steps) = true)
    (pa_Slope_common : PySem.W.findIn K (.ref C_Slope) "common" = some (some (.ref p_Slope_common)))
    (pg_Slope_common : PySem.W.specialIn K (.ref p_Slope_common) "__get__" = some (some (.builtin "property.__get__")))
    (pt_Slope_common : PySem.W.takesIn K (.ref p_Slope_common) = some true)
    (pq_Slope_common : PySem.W.recIn K p_Slope_common "property" = some (.ref a_Slope_common :: re_Slope_common))
    (l_Slope_common : K.lookup a_Slope_common = some ⟨oc_Slope_common, od_Slope_common, .func (PySem.W.fnOf "common" "Slope.common" (defArgs st_Slope_common) (defBody st_Slope_common) (defScope st_Slope_common) .none kV_Slope_common dc_Slope_common pm_Slope_common an_Slope_common cd_Slope_common ct_Slope_common), sl_Slope_common⟩)
    (c_Slope_common : PySem.W.codeIn K cd_Slope_common "Slope.common" = true)
    (k_Slope_common : PySem.W.keepIn K (.ref a_Slope_common) = true)
    (m_Slope_eq : PySem.W.findIn K (.ref C_Slope) "__eq__" = some (some (.ref a_Slope_eq)))
    (f_Slope_eq : PySem.W.isFn K (.ref a_Slope_eq) = true)
    (l_Slope_eq : K.lookup a_Slope_eq = some ⟨oc_Slope_eq, od_Slope_eq, .func (PySem.W.fnOf "__eq__" "Slope.__eq__" (defArgs st_Slope_eq) (defBody st_Slope_eq) (defScope st_Slope_eq) .none kV_Slope_eq dc_Slope_eq pm_Slope_eq an_Slope_eq cd_Slope_eq ct_Slope_eq), sl_Slope_eq⟩)
    (c_Slope_eq : PySem.W.codeIn K cd_Slope_eq "Slope.__eq__" = true)
    (k_Slope_eq : PySem.W.keepIn K (.ref a_Slope_eq) = true)
    (m_Way_init : PySem.W.findIn K (.ref C_Way) "__init__" = some (some (.ref a_Way_init)))
    (f_Way_init : PySem.W.isFn K (.ref a_Way_init) = true)
    (l_Way_init : K.lookup a_Way_init = some ⟨oc_Way_init, od_Way_init, .func (PySem.W.fnOf "__init__" "Way.__init__" (defArgs st_Way_init) (defBody st_Way_init) (defScope st_Way_init) .none kV_Way_init dc_Way_init pm_Way_init an_Way_init cd_Way_init ct_Way_init), sl_Way_init⟩)
    (c_Way_init : PySem.W.codeIn K cd_Way_init "Way.__init__" = true)
    (k_Way_init : PySem.W.keepIn K (.ref a_Way_init) = true)
    (pa_Way_slope : PySem.W.findIn K (.ref C_Way) "slope" = some (some (.ref p_Way_slope)))
    (pg_Way_slope : PySem.W.specialIn K (.ref p_Way_slope) "__get__" = some (some (.builtin "property.__get__")))
    (pt_Way_slope : PySem.W.takesIn K (.ref p_Way_slope) = some true)
    (pq_Way_slope : PySem.W.recIn K p_Way_slope "property" = some (.ref a_Way_slope :: re_Way_slope))
    (l_Way_slope : K.lookup a_Way_slope = some ⟨oc_Way_slope, od_Way_slope, .func (PySem.W.fnOf "slope" "Way.slope" (defArgs st_Way_slope) (defBody st_Way_slope) (defScope st_Way_slope) .none kV_Way_slope dc_Way_slope pm_Way_slope an_Way_slope cd_Way_slope ct_Way_slope), sl_Way_slope⟩)
    (c_Way_slope : PySem.W.codeIn K cd_Way_slope "Way.slope" = true)
    (k_Way_slope : PySem.W.keepIn K (.ref a_Way_slope) = true)
    (pa_Way_text : PySem.W.findIn K (.ref C_Way) "text" = some (some (.ref p_Way_text)))
    (pg_Way_text : PySem.W.specialIn K (.ref p_Way_text) "__get__" = some (some (.builtin "property.__get__")))
    (pt_Way_text : PySem.W.takesIn K (.ref p_Way_text) = some true)
    (pq_Way_text : PySem.W.recIn K p_Way_text "property" = some (.ref a_Way_text :: re_Way_text))
    (l_Way_text : K.lookup a_Way_text = some ⟨oc_Way_text, od_Way_text, .func (PySem.W.fnOf "text" "Way.text" (defArgs st_Way_text) (defBody st_Way_text) (defScope st_Way_text) .none kV_Way_text dc_Way_text pm_Way_text an_Way_text cd_Way_text ct_Way_text), sl_Way_text⟩)
    (c_Way_text : PySem.W.codeIn K cd_Way_text "Way.text" = true)
    (k_Way_text : PySem.W.keepIn K (.ref a_Way_text) = true)
    (pa_Way_levels : PySem.W.findIn K (.ref C_Way) "levels" = some (some (.ref p_Way_levels)))
    (pg_Way_levels : PySem.W.specialIn K (.ref p_Way_levels) "__get__" = some (some (.builtin "property.__get__")))
    (pt_Way_levels : PySem.W.takesIn K (.ref p_Way_levels) = some true)
    (pq_Way_levels : PySem.W.recIn K p_Way_levels "property" = some (.ref a_Way_levels :: re_Way_levels))
    (l_Way_levels : K.lookup a_Way_levels = some ⟨oc_Way_levels, od_Way_levels, .func (PySem.W.fnOf "levels" "Way.levels" (defArgs st_Way_levels) (defBody st_Way_levels) (defScope st_Way_levels) .none kV_Way_levels dc_Way_levels pm_Way_levels an_Way_levels cd_Way_levels ct_Way_levels), sl_Way_levels⟩)
    (c_Way_levels : PySem.W.codeIn K cd_Way_levels "Way.levels" = true)
    (k_Way_levels : PySem.W.keepIn K (.ref a_Way_levels) = true)
    (m_Way_lt : PySem.W.findIn K (.ref C_Way) "__lt__" = some (some (.ref a_Way_lt)))
    (f_Way_lt : PySem.W.isFn K (.ref a_Way_lt) = true)
    (l_Way_lt : K.lookup a_Way_lt = some ⟨oc_Way_lt, od_Way_lt, .func (PySem.W.fnOf "__lt__" "Way.__lt__" (defArgs st_Way_lt) (defBody st_Way_lt) (defScope st_Way_lt) .none kV_Way_lt dc_Way_lt pm_Way_lt an_Way_lt cd_Way_lt ct_Way_lt), sl_Way_lt⟩)
    (c_Way_lt : PySem.W.codeIn K cd_Way_lt "Way.__lt__" = true)
    (k_Way_lt : PySem.W.keepIn K (.ref a_Way_lt) = true)
    (m_Way_eq : PySem.W.findIn K (.ref C_Way) "__eq__" = some (some (.ref a_Way_eq)))
    (f_Way_eq : PySem.W.isFn K (.ref a_Way_eq) = true)
    (l_Way_eq : K.lookup a_Way_eq = some ⟨oc_Way_eq, od_Way_eq, .func (PySem.W.fnOf "__eq__" "Way.__eq__" (defArgs st_Way_eq) (defBody st_Way_eq) (defScope st_Way_eq) .none kV_Way_eq dc_Way_eq pm_Way_eq an_Way_eq cd_Way_eq ct_Way_eq), sl_Way_eq⟩)
    (c_Way_eq : PySem.W.codeIn K cd_Way_eq "Way.__eq__" = true)
    (k_Way_eq : PySem.W.keepIn K (.ref a_Way_eq) = true)
    (g_check_slope : PySem.W.nsIn K mainGlobals "check_slope" = some (some (.ref a_check_slope)))
    (l_check_slope : K.lookup a_check_slope = some ⟨oc_check_slope, od_check_slope, .func (PySem.W.fnOf "check_slope" "check_slope" (defArgs st_check_slope) (defBody st_check_slope) (defScope st_check_slope) .none kV_check_slope dc_check_slope pm_check_slope an_check_slope cd_check_slope ct_check_slope), sl_check_slope⟩)
    (c_check_slope : PySem.W.codeIn K cd_check_slope "check_slope" = true)
    (k_check_slope : PySem.W.keepIn K (.ref a_check_slope) = true)
    (g_check_way : PySem.W.nsIn K mainGlobals "check_way" = some (some (.ref a_check_way)))
    (l_check_way : K.lookup a_check_way = some ⟨oc_check_way, od_check_way, .func (PySem.W.fnOf "check_way" "check_way" (defArgs st_check_way) (defBody st_check_way) (defScope st_check_way) .none kV_check_way dc_check_way pm_check_way an_check_way cd_check_way ct_check_way), sl_check_way⟩)
    (c_check_way : PySem.W.codeIn K cd_check_way "check_way" = true)
    (k_check_way : PySem.W.keepIn K (.ref a_check_way) = true)
    (g_letter_levels : PySem.W.nsIn K mainGlobals "letter_levels" = some (some (.ref a_letter_levels)))
    (l_letter_levels : K.lookup a_letter_levels = some ⟨oc_letter_levels, od_letter_levels, .func (PySem.W.fnOf "letter_levels" "letter_levels" (defArgs st_letter_levels) (defBody st_letter_levels) (defScope st_letter_levels) .none kV_letter_levels dc_letter_levels pm_letter_levels an_letter_levels cd_letter_levels ct_letter_levels), sl_letter_levels⟩)
    (c_letter_levels : PySem.W.codeIn K cd_letter_levels "letter_levels" = true)
    (k_letter_levels : PySem.W.keepIn K (.ref a_letter_levels) = true)
    (g_is_word : PySem.W.nsIn K mainGlobals "is_word" = some (some (.ref a_is_word)))
    (l_is_word : K.lookup a_is_word = some ⟨oc_is_word, od_is_word, .func (PySem.W.fnOf "is_word" "is_word" (defArgs st_is_word) (defBody st_is_word) (defScope st_is_word) .none kV_is_word dc_is_word pm_is_word an_is_word cd_is_word ct_is_word), sl_is_word⟩)
    (c_is_word : PySem.W.codeIn K cd_is_word "is_word" = true)
    (k_is_word : PySem.W.keepIn K (.ref a_is_word) = true)
    (g_is_way : PySem.W.nsIn K mainGlobals "is_way" = some (some (.ref a_is_way)))
    (l_is_way : K.lookup a_is_way = some ⟨oc_is_way, od_is_way, .func (PySem.W.fnOf "is_way" "is_way" (defArgs st_is_way) (defBody st_is_way) (defScope st_is_way) .none kV_is_way dc_is_way pm_is_way an_is_way cd_is_way ct_is_way), sl_is_way⟩)
    (c_is_way : PySem.W.codeIn K cd_is_way "is_way" = true)
    (k_is_way : PySem.W.keepIn K (.ref a_is_way) = true)
    (g_way_count : PySem.W.nsIn K mainGlobals "way_count" = some (some (.ref a_way_count)))
    (l_way_count : K.lookup a_way_count = some ⟨oc_way_count, od_way_count, .func (PySem.W.fnOf "way_count" "way_count" (defArgs st_way_count) (defBody st_way_count) (defScope st_way_count) .none kV_way_count dc_way_count pm_way_count an_way_count cd_way_count ct_way_count), sl_way_count⟩)
    (c_way_count : PySem.W.codeIn K cd_way_count "way_count" = true)
    (k_way_count : PySem.W.keepIn K (.ref a_way_count) = true)
    (g_completions : PySem.W.nsIn K mainGlobals "completions" = some (some (.ref a_completions)))
    (l_completions : K.lookup a_completions = some ⟨oc_completions, od_completions, .func (PySem.W.fnOf "completions" "completions" (defArgs st_completions) (defBody st_completions) (defScope st_completions) .none kV_completions dc_completions pm_completions an_completions cd_completions ct_completions), sl_completions⟩)
    (c_completions : PySem.W.codeIn K cd_completions "completions" = true)
    (k_completions : PySem.W.keepIn K (.ref a_completions) = true)
    (g_way_at : PySem.W.nsIn K mainGlobals "way_at" = some (some (.ref a_way_at)))
    (l_way_at : K.lookup a_way_at = some ⟨oc_way_at, od_way_at, .func (PySem.W.fnOf "way_at" "way_at" (defArgs st_way_at) (defBody st_way_at) (defScope st_way_at) .none kV_way_at dc_way_at pm_way_at an_way_at cd_way_at ct_way_at), sl_way_at⟩)
    (c_way_at : PySem.W.codeIn K cd_way_at "way_at" = true)
    (k_way_at : PySem.W.keepIn K (.ref a_way_at) = true)
    (g_way_index : PySem.W.nsIn K mainGlobals "way_index" = some (some (.ref a_way_index)))
    (l_way_index : K.lookup a_way_index = some ⟨oc_way_index, od_way_index, .func (PySem.W.fnOf "way_index" "way_index" (defArgs st_way_index) (defBody st_way_index) (defScope st_way_index) .none kV_way_index dc_way_index pm_way_index an_way_index cd_way_index ct_way_index), sl_way_index⟩)
    (c_way_index : PySem.W.codeIn K cd_way_index "way_index" = true)
    (k_way_index : PySem.W.keepIn K (.ref a_way_index) = true)
    (g_highest : PySem.W.nsIn K mainGlobals "highest" = some (some (.ref a_highest)))
    (l_highest : K.lookup a_highest = some ⟨oc_highest, od_highest, .func (PySem.W.fnOf "highest" "highest" (defArgs st_highest) (defBody st_highest) (defScope st_highest) .none kV_highest dc_highest pm_highest an_highest cd_highest ct_highest), sl_highest⟩)
    (c_highest : PySem.W.codeIn K cd_highest "highest" = true)
    (k_highest : PySem.W.keepIn K (.ref a_highest) = true)
    (g_lowest : PySem.W.nsIn K mainGlobals "lowest" = some (some (.ref a_lowest)))
    (l_lowest : K.lookup a_lowest = some ⟨oc_lowest, od_lowest, .func (PySem.W.fnOf "lowest" "lowest" (defArgs st_lowest) (defBody st_lowest) (defScope st_lowest) .none kV_lowest dc_lowest pm_lowest an_lowest cd_lowest ct_lowest), sl_lowest⟩)
    (c_lowest : PySem.W.codeIn K cd_lowest "lowest" = true)
    (k_lowest : PySem.W.keepIn K (.ref a_lowest) = true)
    (g_law_dice : PySem.W.nsIn K mainGlobals "_law_dice" = some (some (.ref a_law_dice)))
    (l_law_dice : K.lookup a_law_dice = some ⟨oc_law_dice, od_law_dice, .func (PySem.W.fnOf "_law_dice" "_law_dice" (defArgs st_law_dice) (defBody st_law_dice) (defScope st_law_dice) .none kV_law_dice dc_law_dice pm_law_dice an_law_dice cd_law_dice ct_law_dice), sl_law_dice⟩)
    (c_law_dice : PySem.W.codeIn K cd_law_dice "_law_dice" = true)
    (k_law_dice : PySem.W.keepIn K (.ref a_law_dice) = true)
    (g_law_roll : PySem.W.nsIn K mainGlobals "_law_roll" = some (some (.ref a_law_roll)))
    (l_law_roll : K.lookup a_law_roll = some ⟨oc_law_roll, od_law_roll, .func (PySem.W.fnOf "_law_roll" "_law_roll" (defArgs st_law_roll) (defBody st_law_roll) (defScope st_law_roll) .none kV_law_roll dc_law_roll pm_law_roll an_law_roll cd_law_roll ct_law_roll), sl_law_roll⟩)
    (c_law_roll : PySem.W.codeIn K cd_law_roll "_law_roll" = true)
    (k_law_roll : PySem.W.keepIn K (.ref a_law_roll) = true)
    (g_law_pick : PySem.W.nsIn K mainGlobals "_law_pick" = some (some (.ref a_law_pick)))
    (l_law_pick : K.lookup a_law_pick = some ⟨oc_law_pick, od_law_pick, .func (PySem.W.fnOf "_law_pick" "_law_pick" (defArgs st_law_pick) (defBody st_law_pick) (defScope st_law_pick) .none kV_law_pick dc_law_pick pm_law_pick an_law_pick cd_law_pick ct_law_pick), sl_law_pick⟩)
    (c_law_pick : PySem.W.codeIn K cd_law_pick "_law_pick" = true)
    (k_law_pick : PySem.W.keepIn K (.ref a_law_pick) = true)
    (g_law_way : PySem.W.nsIn K mainGlobals "_law_way" = some (some (.ref a_law_way)))
    (l_law_way : K.lookup a_law_way = some ⟨oc_law_way, od_law_way, .func (PySem.W.fnOf "_law_way" "_law_way" (defArgs st_law_way) (defBody st_law_way) (defScope st_law_way) .none kV_law_way dc_law_way pm_law_way an_law_way cd_law_way ct_law_way), sl_law_way⟩)
    (c_law_way : PySem.W.codeIn K cd_law_way "_law_way" = true)
    (k_law_way : PySem.W.keepIn K (.ref a_law_way) = true)
    (g_law_any_slope : PySem.W.nsIn K mainGlobals "_law_any_slope" = some (some (.ref a_law_any_slope)))
    (l_law_any_slope : K.lookup a_law_any_slope = some ⟨oc_law_any_slope, od_law_any_slope, .func (PySem.W.fnOf "_law_any_slope" "_law_any_slope" (defArgs st_law_any_slope) (defBody st_law_any_slope) (defScope st_law_any_slope) .none kV_law_any_slope dc_law_any_slope pm_law_any_slope an_law_any_slope cd_law_any_slope ct_law_any_slope), sl_law_any_slope⟩)
    (c_law_any_slope : PySem.W.codeIn K cd_law_any_slope "_law_any_slope" = true)
    (k_law_any_slope : PySem.W.keepIn K (.ref a_law_any_slope) = true)
    (g_law_ends : PySem.W.nsIn K mainGlobals "_law_ends" = some (some (.ref a_law_ends)))
    (l_law_ends : K.lookup a_law_ends = some ⟨oc_law_ends, od_law_ends, .func (PySem.W.fnOf "_law_ends" "_law_ends" (defArgs st_law_ends) (defBody st_law_ends) (defScope st_law_ends) .none kV_law_ends dc_law_ends pm_law_ends an_law_ends cd_law_ends ct_law_ends), sl_law_ends⟩)
    (c_law_ends : PySem.W.codeIn K cd_law_ends "_law_ends" = true)
    (k_law_ends : PySem.W.keepIn K (.ref a_law_ends) = true)
    (g_law_first_fault : PySem.W.nsIn K mainGlobals "_law_first_fault" = some (some (.ref a_law_first_fault)))
    (l_law_first_fault : K.lookup a_law_first_fault = some ⟨oc_law_first_fault, od_law_first_fault, .func (PySem.W.fnOf "_law_first_fault" "_law_first_fault" (defArgs st_law_first_fault) (defBody st_law_first_fault) (defScope st_law_first_fault) .none kV_law_first_fault dc_law_first_fault pm_law_first_fault an_law_first_fault cd_law_first_fault ct_law_first_fault), sl_law_first_fault⟩)
    (c_law_first_fault : PySem.W.codeIn K cd_law_first_fault "_law_first_fault" = true)
    (k_law_first_fault : PySem.W.keepIn K (.ref a_law_first_fault) = true)
    (g_law_index : PySem.W.nsIn K mainGlobals "_law_index" = some (some (.ref a_law_index)))
    (l_law_index : K.lookup a_law_index = some ⟨oc_law_index, od_law_index, .func (PySem.W.fnOf "_law_index" "_law_index" (defArgs st_law_index) (defBody st_law_index) (defScope st_law_index) .none kV_law_index dc_law_index pm_law_index an_law_index cd_law_index ct_law_index), sl_law_index⟩)
    (c_law_index : PySem.W.codeIn K cd_law_index "_law_index" = true)
    (k_law_index : PySem.W.keepIn K (.ref a_law_index) = true)
    (g_law_right : PySem.W.nsIn K mainGlobals "_law_right" = some (some (.ref a_law_right)))
    (l_law_right : K.lookup a_law_right = some ⟨oc_law_right, od_law_right, .func (PySem.W.fnOf "_law_right" "_law_right" (defArgs st_law_right) (defBody st_law_right) (defScope st_law_right) .none kV_law_right dc_law_right pm_law_right an_law_right cd_law_right ct_law_right), sl_law_right⟩)
    (c_law_right : PySem.W.codeIn K cd_law_right "_law_right" = true)
    (k_law_right : PySem.W.keepIn K (.ref a_law_right) = true)
    (g_law : PySem.W.nsIn K mainGlobals "law" = some (some (.ref a_law)))
    (l_law : K.lookup a_law = some ⟨oc_law, od_law, .func (PySem.W.fnOf "law" "law" (defArgs st_law) (defBody st_law) (defScope st_law) .none kV_law dc_law pm_law an_law cd_law ct_law), sl_law⟩)
    (c_law : PySem.W.codeIn K cd_law "law" = true)
    (k_law : PySem.W.keepIn K (.ref a_law) = true)
    (c1_Slope : PySem.W.plainGet K C_Slope Str.empty = true)
    (c2_Slope : PySem.W.hasDictIn K C_Slope = true)
    (c3_Slope : PySem.W.plainOver K C_Slope = true)
    (c4_Slope : PySem.W.findIn K (.ref C_Slope) "__setattr__" = some (some (.builtin "object.__setattr__")))
    (c5_Slope : PySem.W.makesIn K C_Slope = true)
    (c6_Slope : PySem.W.keepIn K (.ref C_Slope) = true)
    (na_Slope_rises : PySem.W.findIn K (.ref C_Slope) "_rises" = some none)
    (na_Slope_steps : PySem.W.findIn K (.ref C_Slope) "_steps" = some none)
    (na_Slope_common : PySem.W.findIn K (.ref C_Slope) "_common" = some none)
    (c1_Way : PySem.W.plainGet K C_Way Str.empty = true)
    (c2_Way : PySem.W.hasDictIn K C_Way = true)
    (c3_Way : PySem.W.plainOver K C_Way = true)
    (c4_Way : PySem.W.findIn K (.ref C_Way) "__setattr__" = some (some (.builtin "object.__setattr__")))
    (c5_Way : PySem.W.makesIn K C_Way = true)
    (c6_Way : PySem.W.keepIn K (.ref C_Way) = true)
    (na_Way_slope : PySem.W.findIn K (.ref C_Way) "_slope" = some none)
    (na_Way_text : PySem.W.findIn K (.ref C_Way) "_text" = some none)
    (na_Way_levels : PySem.W.findIn K (.ref C_Way) "_levels" = some none)
    (na_Way_runs : PySem.W.findIn K (.ref C_Way) "_runs" = some none)
    (na_Way_key : PySem.W.findIn K (.ref C_Way) "_key" = some none)
    (o1_InvalidNumber : PySem.W.excInitIn K C_InvalidNumber Er.bmIndexError "IndexError.__new__" = true)
    (o2_InvalidNumber : PySem.W.excOver K C_InvalidNumber Er.bmIndexError = true)
    (o4_InvalidNumber : PySem.W.findIn K (.ref C_InvalidNumber) "__setattr__" = some (some (.builtin "object.__setattr__")))
    (o3_InvalidNumber : PySem.W.hasDictIn K C_InvalidNumber = true)
    (o5_InvalidNumber : PySem.W.findIn K (.ref C_InvalidNumber) "__getattribute__" = some (some (.builtin "BaseException.__getattribute__")))
    (o6_InvalidNumber : PySem.W.findIn K (.ref C_InvalidNumber) "__getattr__" = some none)
    (o3_ParseError : PySem.W.hasDictIn K C_ParseError = true)
    (o5_ParseError : PySem.W.findIn K (.ref C_ParseError) "__getattribute__" = some (some (.builtin "BaseException.__getattribute__")))
    (o6_ParseError : PySem.W.findIn K (.ref C_ParseError) "__getattr__" = some none)
    (o3_Refused : PySem.W.hasDictIn K C_Refused = true)
    (o5_Refused : PySem.W.findIn K (.ref C_Refused) "__getattribute__" = some (some (.builtin "BaseException.__getattribute__")))
    (o6_Refused : PySem.W.findIn K (.ref C_Refused) "__getattr__" = some none)
    (cq_law_right : cd_law_right = .ref ((PySem.W.tabIn K "_law_right").getD (0, 0)).1)
    (ch_law_right : PySem.W.codeHdIn K ((PySem.W.tabIn K "_law_right").getD (0, 0)).1 ((PySem.W.tabIn K "_law_right").getD (0, 0)).2 = true)
    (cn_law_right : K.lookup ((PySem.W.tabIn K "_law_right").getD (0, 0)).2 = none)
    (ce_law_right : h.get? ((PySem.W.tabIn K "_law_right").getD (0, 0)).2 = some (PySem.W.tabObj #[]))
    (ic_Slope : PySem.W.findIn K (.ref C_Slope) "__class__" = some (some (.builtin "object.__class__")))
    (mr_Slope : PySem.W.mroIn K C_Slope (.type "object") = some true)
    (nn_Slope : PySem.W.findIn K (.ref C_Slope) "__ne__" = some (some (.builtin "object.__ne__")))
    (ic_Way : PySem.W.findIn K (.ref C_Way) "__class__" = some (some (.builtin "object.__class__")))
    (mr_Way : PySem.W.mroIn K C_Way (.type "object") = some true)
    (nn_Way : PySem.W.findIn K (.ref C_Way) "__ne__" = some (some (.builtin "object.__ne__")))
    (cg : PySem.W.specialIn K (.builtin "object.__class__") "__get__" = some (some (.builtin "getset_descriptor.__get__")))
    (ct : PySem.W.takesIn K (.builtin "object.__class__") = some true)
    (kp_InvalidNumber : PySem.W.keepIn K (.ref C_InvalidNumber) = true)
    (ex_InvalidNumber : PySem.W.subIn K (.ref C_InvalidNumber) (.type "BaseException") = some true)
    (ty_InvalidNumber : PySem.W.typeIn K (.ref C_InvalidNumber) = some (.type "type"))
    (is_InvalidNumber : PySem.W.isClsIn K C_InvalidNumber = true)
    (nf_InvalidNumber : PySem.W.findIn K (.ref C_InvalidNumber) "value" = some none)
    (kp_InvalidOperation : PySem.W.keepIn K (.ref C_InvalidOperation) = true)
    (ex_InvalidOperation : PySem.W.subIn K (.ref C_InvalidOperation) (.type "BaseException") = some true)
    (ty_InvalidOperation : PySem.W.typeIn K (.ref C_InvalidOperation) = some (.type "type"))
    (is_InvalidOperation : PySem.W.isClsIn K C_InvalidOperation = true)
    (xi_InvalidOperation : PySem.W.excIn K C_InvalidOperation Er.bmValueError "ValueError.__new__" = true)
    (kp_InvalidSlope : PySem.W.keepIn K (.ref C_InvalidSlope) = true)
    (ex_InvalidSlope : PySem.W.subIn K (.ref C_InvalidSlope) (.type "BaseException") = some true)
    (ty_InvalidSlope : PySem.W.typeIn K (.ref C_InvalidSlope) = some (.type "type"))
    (is_InvalidSlope : PySem.W.isClsIn K C_InvalidSlope = true)
    (xi_InvalidSlope : PySem.W.excIn K C_InvalidSlope Er.bmValueError "ValueError.__new__" = true)
    (kp_InvalidText : PySem.W.keepIn K (.ref C_InvalidText) = true)
    (ex_InvalidText : PySem.W.subIn K (.ref C_InvalidText) (.type "BaseException") = some true)
    (ty_InvalidText : PySem.W.typeIn K (.ref C_InvalidText) = some (.type "type"))
    (is_InvalidText : PySem.W.isClsIn K C_InvalidText = true)
    (xi_InvalidText : PySem.W.excIn K C_InvalidText Er.bmValueError "ValueError.__new__" = true)
    (kp_InvalidWay : PySem.W.keepIn K (.ref C_InvalidWay) = true)
    (ex_InvalidWay : PySem.W.subIn K (.ref C_InvalidWay) (.type "BaseException") = some true)
    (ty_InvalidWay : PySem.W.typeIn K (.ref C_InvalidWay) = some (.type "type"))
    (is_InvalidWay : PySem.W.isClsIn K C_InvalidWay = true)
    (xi_InvalidWay : PySem.W.excIn K C_InvalidWay Er.bmValueError "ValueError.__new__" = true)
    (kp_ParseError : PySem.W.keepIn K (.ref C_ParseError) = true)
    (ex_ParseError : PySem.W.subIn K (.ref C_ParseError) (.type "BaseException") = some true)
    (ty_ParseError : PySem.W.typeIn K (.ref C_ParseError) = some (.type "type"))
    (is_ParseError : PySem.W.isClsIn K C_ParseError = true)
    (nf_ParseError : PySem.W.findIn K (.ref C_ParseError) "index" = some none)
    (kp_Refused : PySem.W.keepIn K (.ref C_Refused) = true)
    (ex_Refused : PySem.W.subIn K (.ref C_Refused) (.type "BaseException") = some true)
    (ty_Refused : PySem.W.typeIn K (.ref C_Refused) = some (.type "type"))
    (is_Refused : PySem.W.isClsIn K C_Refused = true)
    (nf_Refused : PySem.W.findIn K (.ref C_Refused) "reason" = some none)
    (sb_InvalidNumber_InvalidNumber : PySem.W.subIn K (.ref C_InvalidNumber) (.ref C_InvalidNumber) = some true)
    (n_abs : PySem.W.nsIn K mainGlobals "abs" = some none)
    (n_any : PySem.W.nsIn K mainGlobals "any" = some none)
    (n_bool : PySem.W.nsIn K mainGlobals "bool" = some none)
    (n_int : PySem.W.nsIn K mainGlobals "int" = some none)
    (n_isinstance : PySem.W.nsIn K mainGlobals "isinstance" = some none)
    (n_len : PySem.W.nsIn K mainGlobals "len" = some none)
    (n_max : PySem.W.nsIn K mainGlobals "max" = some none)
    (n_min : PySem.W.nsIn K mainGlobals "min" = some none)
    (n_range : PySem.W.nsIn K mainGlobals "range" = some none)
    (n_repr : PySem.W.nsIn K mainGlobals "repr" = some none)
    (n_str : PySem.W.nsIn K mainGlobals "str" = some none)
    (n_tuple : PySem.W.nsIn K mainGlobals "tuple" = some none)
    (i_comb : PySem.W.nsIn K mainGlobals "comb" = some (some (.builtin "math.comb")))
    (i_gcd : PySem.W.nsIn K mainGlobals "gcd" = some (some (.builtin "math.gcd")))
    (qc_MAX_SIDE : PySem.W.nsIn K mainGlobals "MAX_SIDE" = some (some (.int 60 t_MAX_SIDE)))
    : En.Law l w K 11 63 "_law_script" mg fa h := by
  have e : fa = a_law := Value.ref.inj (Option.some.inj (hfa.symm.trans (PySem.W.mg_of X G g_law)))
  rw [e]
  let T : Tx K mg := {
    C_Slope := C_Slope,
    C_Way := C_Way,
    C_InvalidNumber := C_InvalidNumber,
    C_InvalidOperation := C_InvalidOperation,
    C_InvalidSlope := C_InvalidSlope,
    C_InvalidText := C_InvalidText,
    C_InvalidWay := C_InvalidWay,
    C_ParseError := C_ParseError,
    C_Refused := C_Refused,
    a_InvalidNumber_init := a_InvalidNumber_init,
    d_InvalidNumber_init := _,
    F_InvalidNumber_init := fun_mk (st := st_InvalidNumber_init) l_InvalidNumber_init c_InvalidNumber_init k_InvalidNumber_init,
    b_InvalidNumber_init := (fun_mk (st := st_InvalidNumber_init) l_InvalidNumber_init c_InvalidNumber_init k_InvalidNumber_init).binds (ps := ["self", "value"]) fun _ _ _ _ _ _ us hl => match us, hl with | [_, _], _ => rfl,
    a_is_number := a_is_number,
    d_is_number := _,
    F_is_number := fun_mk (st := st_is_number) l_is_number c_is_number k_is_number,
    b_is_number := (fun_mk (st := st_is_number) l_is_number c_is_number k_is_number).binds (ps := ["value"]) fun _ _ _ _ _ _ us hl => match us, hl with | [_], _ => rfl,
    g_is_number := PySem.W.mg_of X G g_is_number,
    a_is_whole_between := a_is_whole_between,
    d_is_whole_between := _,
    F_is_whole_between := fun_mk (st := st_is_whole_between) l_is_whole_between c_is_whole_between k_is_whole_between,
    b_is_whole_between := (fun_mk (st := st_is_whole_between) l_is_whole_between c_is_whole_between k_is_whole_between).binds (ps := ["value", "least", "most"]) fun _ _ _ _ _ _ us hl => match us, hl with | [_, _, _], _ => rfl,
    g_is_whole_between := PySem.W.mg_of X G g_is_whole_between,
    a_Slope_init := a_Slope_init,
    d_Slope_init := _,
    F_Slope_init := fun_mk (st := st_Slope_init) l_Slope_init c_Slope_init k_Slope_init,
    b_Slope_init := (fun_mk (st := st_Slope_init) l_Slope_init c_Slope_init k_Slope_init).binds (ps := ["self", "rises", "steps"]) fun _ _ _ _ _ _ us hl => match us, hl with | [_, _, _], _ => rfl,
    a_Slope_rises := a_Slope_rises,
    d_Slope_rises := _,
    F_Slope_rises := fun_mk (st := st_Slope_rises) l_Slope_rises c_Slope_rises k_Slope_rises,
    b_Slope_rises := (fun_mk (st := st_Slope_rises) l_Slope_rises c_Slope_rises k_Slope_rises).binds (ps := ["self"]) fun _ _ _ _ _ _ us hl => match us, hl with | [_], _ => rfl,
    a_Slope_steps := a_Slope_steps,
    d_Slope_steps := _,
    F_Slope_steps := fun_mk (st := st_Slope_steps) l_Slope_steps c_Slope_steps k_Slope_steps,
    b_Slope_steps := (fun_mk (st := st_Slope_steps) l_Slope_steps c_Slope_steps k_Slope_steps).binds (ps := ["self"]) fun _ _ _ _ _ _ us hl => match us, hl with | [_], _ => rfl,
    a_Slope_common := a_Slope_common,
    d_Slope_common := _,
    F_Slope_common := fun_mk (st := st_Slope_common) l_Slope_common c_Slope_common k_Slope_common,
    b_Slope_common := (fun_mk (st := st_Slope_common) l_Slope_common c_Slope_common k_Slope_common).binds (ps := ["self"]) fun _ _ _ _ _ _ us hl => match us, hl with | [_], _ => rfl,
    a_Slope_eq := a_Slope_eq,
    d_Slope_eq := _,
    F_Slope_eq := fun_mk (st := st_Slope_eq) l_Slope_eq c_Slope_eq k_Slope_eq,
    b_Slope_eq := (fun_mk (st := st_Slope_eq) l_Slope_eq c_Slope_eq k_Slope_eq).binds (ps := ["self", "other"]) fun _ _ _ _ _ _ us hl => match us, hl with | [_, _], _ => rfl,
    a_Way_init := a_Way_init,
    d_Way_init := _,
    F_Way_init := fun_mk (st := st_Way_init) l_Way_init c_Way_init k_Way_init,
    b_Way_init := (fun_mk (st := st_Way_init) l_Way_init c_Way_init k_Way_init).binds (ps := ["self", "slope", "text"]) fun _ _ _ _ _ _ us hl => match us, hl with | [_, _, _], _ => rfl,
    a_Way_slope := a_Way_slope,
    d_Way_slope := _,
    F_Way_slope := fun_mk (st := st_Way_slope) l_Way_slope c_Way_slope k_Way_slope,
    b_Way_slope := (fun_mk (st := st_Way_slope) l_Way_slope c_Way_slope k_Way_slope).binds (ps := ["self"]) fun _ _ _ _ _ _ us hl => match us, hl with | [_], _ => rfl,
    a_Way_text := a_Way_text,
    d_Way_text := _,
    F_Way_text := fun_mk (st := st_Way_text) l_Way_text c_Way_text k_Way_text,
    b_Way_text := (fun_mk (st := st_Way_text) l_Way_text c_Way_text k_Way_text).binds (ps := ["self"]) fun _ _ _ _ _ _ us hl => match us, hl with | [_], _ => rfl,
    a_Way_levels := a_Way_levels,
    d_Way_levels := _,
    F_Way_levels := fun_mk (st := st_Way_levels) l_Way_levels c_Way_levels k_Way_levels,
    b_Way_levels := (fun_mk (st := st_Way_levels) l_Way_levels c_Way_levels k_Way_levels).binds (ps := ["self"]) fun _ _ _ _ _ _ us hl => match us, hl with | [_], _ => rfl,
    a_Way_lt := a_Way_lt,
    d_Way_lt := _,
    F_Way_lt := fun_mk (st := st_Way_lt) l_Way_lt c_Way_lt k_Way_lt,
    b_Way_lt := (fun_mk (st := st_Way_lt) l_Way_lt c_Way_lt k_Way_lt).binds (ps := ["self", "other"]) fun _ _ _ _ _ _ us hl => match us, hl with | [_, _], _ => rfl,
    a_Way_eq := a_Way_eq,
    d_Way_eq := _,
    F_Way_eq := fun_mk (st := st_Way_eq) l_Way_eq c_Way_eq k_Way_eq,
    b_Way_eq := (fun_mk (st := st_Way_eq) l_Way_eq c_Way_eq k_Way_eq).binds (ps := ["self", "other"]) fun _ _ _ _ _ _ us hl => match us, hl with | [_, _], _ => rfl,
    a_check_slope := a_check_slope,
    d_check_slope := _,
    F_check_slope := fun_mk (st := st_check_slope) l_check_slope c_check_slope k_check_slope,
    b_check_slope := (fun_mk (st := st_check_slope) l_check_slope c_check_slope k_check_slope).binds (ps := ["slope"]) fun _ _ _ _ _ _ us hl => match us, hl with | [_], _ => rfl,
    g_check_slope := PySem.W.mg_of X G g_check_slope,
    a_check_way := a_check_way,
    d_check_way := _,
    F_check_way := fun_mk (st := st_check_way) l_check_way c_check_way k_check_way,
    b_check_way := (fun_mk (st := st_check_way) l_check_way c_check_way k_check_way).binds (ps := ["way"]) fun _ _ _ _ _ _ us hl => match us, hl with | [_], _ => rfl,
    g_check_way := PySem.W.mg_of X G g_check_way,
    a_letter_levels := a_letter_levels,
    d_letter_levels := _,
    F_letter_levels := fun_mk (st := st_letter_levels) l_letter_levels c_letter_levels k_letter_levels,
    b_letter_levels := (fun_mk (st := st_letter_levels) l_letter_levels c_letter_levels k_letter_levels).binds (ps := ["slope", "text"]) fun _ _ _ _ _ _ us hl => match us, hl with | [_, _], _ => rfl,
    g_letter_levels := PySem.W.mg_of X G g_letter_levels,
    a_is_word := a_is_word,
    d_is_word := _,
    F_is_word := fun_mk (st := st_is_word) l_is_word c_is_word k_is_word,
    b_is_word := (fun_mk (st := st_is_word) l_is_word c_is_word k_is_word).binds (ps := ["slope", "value"]) fun _ _ _ _ _ _ us hl => match us, hl with | [_, _], _ => rfl,
    g_is_word := PySem.W.mg_of X G g_is_word,
    a_is_way := a_is_way,
    d_is_way := _,
    F_is_way := fun_mk (st := st_is_way) l_is_way c_is_way k_is_way,
    b_is_way := (fun_mk (st := st_is_way) l_is_way c_is_way k_is_way).binds (ps := ["slope", "value"]) fun _ _ _ _ _ _ us hl => match us, hl with | [_, _], _ => rfl,
    g_is_way := PySem.W.mg_of X G g_is_way,
    a_way_count := a_way_count,
    d_way_count := _,
    F_way_count := fun_mk (st := st_way_count) l_way_count c_way_count k_way_count,
    b_way_count := (fun_mk (st := st_way_count) l_way_count c_way_count k_way_count).binds (ps := ["slope"]) fun _ _ _ _ _ _ us hl => match us, hl with | [_], _ => rfl,
    g_way_count := PySem.W.mg_of X G g_way_count,
    a_completions := a_completions,
    d_completions := _,
    F_completions := fun_mk (st := st_completions) l_completions c_completions k_completions,
    b_completions := (fun_mk (st := st_completions) l_completions c_completions k_completions).binds (ps := ["slope"]) fun _ _ _ _ _ _ us hl => match us, hl with | [_], _ => rfl,
    g_completions := PySem.W.mg_of X G g_completions,
    a_way_at := a_way_at,
    d_way_at := _,
    F_way_at := fun_mk (st := st_way_at) l_way_at c_way_at k_way_at,
    b_way_at := (fun_mk (st := st_way_at) l_way_at c_way_at k_way_at).binds (ps := ["slope", "index"]) fun _ _ _ _ _ _ us hl => match us, hl with | [_, _], _ => rfl,
    g_way_at := PySem.W.mg_of X G g_way_at,
    a_way_index := a_way_index,
    d_way_index := _,
    F_way_index := fun_mk (st := st_way_index) l_way_index c_way_index k_way_index,
    b_way_index := (fun_mk (st := st_way_index) l_way_index c_way_index k_way_index).binds (ps := ["way"]) fun _ _ _ _ _ _ us hl => match us, hl with | [_], _ => rfl,
    g_way_index := PySem.W.mg_of X G g_way_index,
    a_highest := a_highest,
    d_highest := _,
    F_highest := fun_mk (st := st_highest) l_highest c_highest k_highest,
    b_highest := (fun_mk (st := st_highest) l_highest c_highest k_highest).binds (ps := ["slope"]) fun _ _ _ _ _ _ us hl => match us, hl with | [_], _ => rfl,
    g_highest := PySem.W.mg_of X G g_highest,
    a_lowest := a_lowest,
    d_lowest := _,
    F_lowest := fun_mk (st := st_lowest) l_lowest c_lowest k_lowest,
    b_lowest := (fun_mk (st := st_lowest) l_lowest c_lowest k_lowest).binds (ps := ["slope"]) fun _ _ _ _ _ _ us hl => match us, hl with | [_], _ => rfl,
    g_lowest := PySem.W.mg_of X G g_lowest,
    a_law_dice := a_law_dice,
    d_law_dice := _,
    F_law_dice := fun_mk (st := st_law_dice) l_law_dice c_law_dice k_law_dice,
    b_law_dice := (fun_mk (st := st_law_dice) l_law_dice c_law_dice k_law_dice).binds (ps := ["_law_script", "_law_spot"]) fun _ _ _ _ _ _ us hl => match us, hl with | [_, _], _ => rfl,
    g_law_dice := PySem.W.mg_of X G g_law_dice,
    a_law_roll := a_law_roll,
    d_law_roll := _,
    F_law_roll := fun_mk (st := st_law_roll) l_law_roll c_law_roll k_law_roll,
    b_law_roll := (fun_mk (st := st_law_roll) l_law_roll c_law_roll k_law_roll).binds (ps := ["_law_dice_here", "_law_total"]) fun _ _ _ _ _ _ us hl => match us, hl with | [_, _], _ => rfl,
    g_law_roll := PySem.W.mg_of X G g_law_roll,
    a_law_pick := a_law_pick,
    d_law_pick := _,
    F_law_pick := fun_mk (st := st_law_pick) l_law_pick c_law_pick k_law_pick,
    b_law_pick := (fun_mk (st := st_law_pick) l_law_pick c_law_pick k_law_pick).binds (ps := ["_law_dice_here", "_law_items"]) fun _ _ _ _ _ _ us hl => match us, hl with | [_, _], _ => rfl,
    g_law_pick := PySem.W.mg_of X G g_law_pick,
    a_law_way := a_law_way,
    d_law_way := _,
    F_law_way := fun_mk (st := st_law_way) l_law_way c_law_way k_law_way,
    b_law_way := (fun_mk (st := st_law_way) l_law_way c_law_way k_law_way).binds (ps := ["_law_dice_here", "_law_rises", "_law_steps"]) fun _ _ _ _ _ _ us hl => match us, hl with | [_, _, _], _ => rfl,
    g_law_way := PySem.W.mg_of X G g_law_way,
    a_law_any_slope := a_law_any_slope,
    d_law_any_slope := _,
    F_law_any_slope := fun_mk (st := st_law_any_slope) l_law_any_slope c_law_any_slope k_law_any_slope,
    b_law_any_slope := (fun_mk (st := st_law_any_slope) l_law_any_slope c_law_any_slope k_law_any_slope).binds (ps := ["_law_dice_here", "_law_most"]) fun _ _ _ _ _ _ us hl => match us, hl with | [_, _], _ => rfl,
    g_law_any_slope := PySem.W.mg_of X G g_law_any_slope,
    a_law_ends := a_law_ends,
    d_law_ends := _,
    F_law_ends := fun_mk (st := st_law_ends) l_law_ends c_law_ends k_law_ends,
    b_law_ends := (fun_mk (st := st_law_ends) l_law_ends c_law_ends k_law_ends).binds (ps := ["_law_rises", "_law_steps"]) fun _ _ _ _ _ _ us hl => match us, hl with | [_, _], _ => rfl,
    g_law_ends := PySem.W.mg_of X G g_law_ends,
    a_law_first_fault := a_law_first_fault,
    d_law_first_fault := _,
    F_law_first_fault := fun_mk (st := st_law_first_fault) l_law_first_fault c_law_first_fault k_law_first_fault,
    b_law_first_fault := (fun_mk (st := st_law_first_fault) l_law_first_fault c_law_first_fault k_law_first_fault).binds (ps := ["_law_call"]) fun _ _ _ _ _ _ us hl => match us, hl with | [_], _ => rfl,
    g_law_first_fault := PySem.W.mg_of X G g_law_first_fault,
    a_law_index := a_law_index,
    d_law_index := _,
    F_law_index := fun_mk (st := st_law_index) l_law_index c_law_index k_law_index,
    b_law_index := (fun_mk (st := st_law_index) l_law_index c_law_index k_law_index).binds (ps := ["_law_ends_here", "_law_rises", "_law_steps", "_law_text"]) fun _ _ _ _ _ _ us hl => match us, hl with | [_, _, _, _], _ => rfl,
    g_law_index := PySem.W.mg_of X G g_law_index,
    a_law_right := a_law_right,
    d_law_right := _,
    F_law_right := fun_mk (st := st_law_right) l_law_right c_law_right k_law_right,
    b_law_right := (fun_mk (st := st_law_right) l_law_right c_law_right k_law_right).binds (ps := ["_law_dice_here"]) fun _ _ _ _ _ _ us hl => match us, hl with | [_], _ => rfl,
    g_law_right := PySem.W.mg_of X G g_law_right,
    a_law := a_law,
    d_law := _,
    F_law := fun_mk (st := st_law) l_law c_law k_law,
    b_law := (fun_mk (st := st_law) l_law c_law k_law).binds (ps := ["_law_script"]) fun _ _ _ _ _ _ us hl => match us, hl with | [_], _ => rfl,
    g_law := PySem.W.mg_of X G g_law,
    g_Slope := PySem.W.mg_of X G g_Slope,
    cl_Slope := ⟨c1_Slope, c2_Slope, c3_Slope, c4_Slope⟩,
    na_Slope_rises := na_Slope_rises,
    na_Slope_steps := na_Slope_steps,
    na_Slope_common := na_Slope_common,
    mk_Slope := ⟨c5_Slope, m_Slope_init, f_Slope_init, c6_Slope⟩,
    me_Slope_eq := ⟨m_Slope_eq, f_Slope_eq, k_Slope_eq⟩,
    p_Slope_rises := p_Slope_rises,
    pr_Slope_rises := ⟨pa_Slope_rises, pg_Slope_rises, pt_Slope_rises, ⟨_, pq_Slope_rises⟩⟩,
    p_Slope_steps := p_Slope_steps,
    pr_Slope_steps := ⟨pa_Slope_steps, pg_Slope_steps, pt_Slope_steps, ⟨_, pq_Slope_steps⟩⟩,
    p_Slope_common := p_Slope_common,
    pr_Slope_common := ⟨pa_Slope_common, pg_Slope_common, pt_Slope_common, ⟨_, pq_Slope_common⟩⟩,
    ic_Slope := ic_Slope,
    mr_Slope := mr_Slope,
    ks_Slope := Sx.kit_self,
    nn_Slope := nn_Slope,
    g_Way := PySem.W.mg_of X G g_Way,
    cl_Way := ⟨c1_Way, c2_Way, c3_Way, c4_Way⟩,
    na_Way_slope := na_Way_slope,
    na_Way_text := na_Way_text,
    na_Way_levels := na_Way_levels,
    na_Way_runs := na_Way_runs,
    na_Way_key := na_Way_key,
    mk_Way := ⟨c5_Way, m_Way_init, f_Way_init, c6_Way⟩,
    me_Way_lt := ⟨m_Way_lt, f_Way_lt, k_Way_lt⟩,
    me_Way_eq := ⟨m_Way_eq, f_Way_eq, k_Way_eq⟩,
    p_Way_slope := p_Way_slope,
    pr_Way_slope := ⟨pa_Way_slope, pg_Way_slope, pt_Way_slope, ⟨_, pq_Way_slope⟩⟩,
    p_Way_text := p_Way_text,
    pr_Way_text := ⟨pa_Way_text, pg_Way_text, pt_Way_text, ⟨_, pq_Way_text⟩⟩,
    p_Way_levels := p_Way_levels,
    pr_Way_levels := ⟨pa_Way_levels, pg_Way_levels, pt_Way_levels, ⟨_, pq_Way_levels⟩⟩,
    ic_Way := ic_Way,
    mr_Way := mr_Way,
    ks_Way := Sx.kit_self,
    nn_Way := nn_Way,
    cg := cg,
    ct := ct,
    g_InvalidNumber := PySem.W.mg_of X G g_InvalidNumber,
    kp_InvalidNumber := kp_InvalidNumber,
    ex_InvalidNumber := ex_InvalidNumber,
    ty_InvalidNumber := ty_InvalidNumber,
    is_InvalidNumber := is_InvalidNumber,
    xf_InvalidNumber := ⟨o5_InvalidNumber, o6_InvalidNumber, ex_InvalidNumber, o3_InvalidNumber⟩,
    nf_InvalidNumber := nf_InvalidNumber,
    ow_InvalidNumber := ⟨o1_InvalidNumber, o2_InvalidNumber, o3_InvalidNumber, o4_InvalidNumber, m_InvalidNumber_init, f_InvalidNumber_init, kp_InvalidNumber, ex_InvalidNumber, ty_InvalidNumber, o5_InvalidNumber, o6_InvalidNumber⟩,
    g_InvalidOperation := PySem.W.mg_of X G g_InvalidOperation,
    kp_InvalidOperation := kp_InvalidOperation,
    ex_InvalidOperation := ex_InvalidOperation,
    ty_InvalidOperation := ty_InvalidOperation,
    is_InvalidOperation := is_InvalidOperation,
    xi_InvalidOperation := xi_InvalidOperation,
    g_InvalidSlope := PySem.W.mg_of X G g_InvalidSlope,
    kp_InvalidSlope := kp_InvalidSlope,
    ex_InvalidSlope := ex_InvalidSlope,
    ty_InvalidSlope := ty_InvalidSlope,
    is_InvalidSlope := is_InvalidSlope,
    xi_InvalidSlope := xi_InvalidSlope,
    g_InvalidText := PySem.W.mg_of X G g_InvalidText,
    kp_InvalidText := kp_InvalidText,
    ex_InvalidText := ex_InvalidText,
    ty_InvalidText := ty_InvalidText,
    is_InvalidText := is_InvalidText,
    xi_InvalidText := xi_InvalidText,
    g_InvalidWay := PySem.W.mg_of X G g_InvalidWay,
    kp_InvalidWay := kp_InvalidWay,
    ex_InvalidWay := ex_InvalidWay,
    ty_InvalidWay := ty_InvalidWay,
    is_InvalidWay := is_InvalidWay,
    xi_InvalidWay := xi_InvalidWay,
    g_ParseError := PySem.W.mg_of X G g_ParseError,
    kp_ParseError := kp_ParseError,
    ex_ParseError := ex_ParseError,
    ty_ParseError := ty_ParseError,
    is_ParseError := is_ParseError,
    xf_ParseError := ⟨o5_ParseError, o6_ParseError, ex_ParseError, o3_ParseError⟩,
    nf_ParseError := nf_ParseError,
    g_Refused := PySem.W.mg_of X G g_Refused,
    kp_Refused := kp_Refused,
    ex_Refused := ex_Refused,
    ty_Refused := ty_Refused,
    is_Refused := is_Refused,
    xf_Refused := ⟨o5_Refused, o6_Refused, ex_Refused, o3_Refused⟩,
    nf_Refused := nf_Refused,
    sb_InvalidNumber_InvalidNumber := sb_InvalidNumber_InvalidNumber,
    cc_law_right := ((PySem.W.tabIn K "_law_right").getD (0, 0)).1,
    pp_law_right := ((PySem.W.tabIn K "_law_right").getD (0, 0)).2,
    cq_law_right := cq_law_right,
    n_abs := PySem.W.mg_none_of X G n_abs,
    n_any := PySem.W.mg_none_of X G n_any,
    n_bool := PySem.W.mg_none_of X G n_bool,
    n_int := PySem.W.mg_none_of X G n_int,
    n_isinstance := PySem.W.mg_none_of X G n_isinstance,
    n_len := PySem.W.mg_none_of X G n_len,
    n_max := PySem.W.mg_none_of X G n_max,
    n_min := PySem.W.mg_none_of X G n_min,
    n_range := PySem.W.mg_none_of X G n_range,
    n_repr := PySem.W.mg_none_of X G n_repr,
    n_str := PySem.W.mg_none_of X G n_str,
    n_tuple := PySem.W.mg_none_of X G n_tuple,
    i_comb := PySem.W.mg_of X G i_comb,
    i_gcd := PySem.W.mg_of X G i_gcd,
    c_MAX_SIDE := ⟨_, PySem.W.mg_of X G qc_MAX_SIDE, ⟨_, rfl⟩⟩
  }
  refine ⟨_, [(T.cc_law_right, T.pp_law_right)], spLaw K T, ?_, fun s v => .of_eq rfl, ?_, fun base _ _ TB => ok_law T (TB _ (List.mem_singleton.mpr rfl))⟩
  · intro p hp
    simp only [List.mem_cons, List.not_mem_nil, or_false] at hp
    rcases hp with rfl
    · exact ⟨ce_law_right, cn_law_right, PySem.W.codeHd_of_K X ch_law_right⟩
  · intro H a ns hl hT hS
    refine ⟨a, ns, rfl, hS, hl, fun p hp => ?_, fun _ => rfl⟩
    simp only [tabs, List.mem_cons, List.not_mem_nil, or_false] at hp
    rcases hp with rfl
    · exact LamX.TabS.nil (hT (T.cc_law_right, T.pp_law_right) (List.mem_cons_self))
end Lw
open PySem PySem.W PyProof.Rows
set_option maxRecDepth 100000 in
set_option maxHeartbeats 0 in
theorem PySem.Challenge.cw_slantways_k04_whole_ways_by_number_holds : PySem.Challenge.rw_slantways_k04_whole_ways_by_number.Holds := by
  w_on; o_law; k_head; (case hw => w_witness2)
  k_fill
  refine En.walkG (l := PySem.Challenge.rw_slantways_k04_whole_ways_by_number) (n := 63) (k := 11) (x := "_law_script") rfl (by decide) rfl ⟨rfl, by decide, by decide⟩ (fun w h Y => PySem.W.km_in_of Y) ?F
  case F =>
    intro w mg fa h Y KX G hmg
    refine' Lw.all_mk KX G hmg ?g_Slope ?g_Way ?g_InvalidNumber ?g_InvalidOperation ?g_InvalidSlope ?g_InvalidText ?g_InvalidWay ?g_ParseError ?g_Refused ?m_InvalidNumber_init ?f_InvalidNumber_init ?l_InvalidNumber_init ?c_InvalidNumber_init ?k_InvalidNumber_init ?g_is_number ?l_is_number ?c_is_number ?k_is_number ?g_is_whole_between ?l_is_whole_between ?c_is_whole_between ?k_is_whole_between ?m_Slope_init ?f_Slope_init ?l_Slope_init ?c_Slope_init ?k_Slope_init ?pa_Slope_rises ?pg_Slope_rises ?pt_Slope_rises ?pq_Slope_rises ?l_Slope_rises ?c_Slope_rises ?k_Slope_rises ?pa_Slope_steps ?pg_Slope_steps ?pt_Slope_steps ?pq_Slope_steps ?l_Slope_steps ?c_Slope_steps ?k_Slope_steps ?pa_Slope_common ?pg_Slope_common ?pt_Slope_common ?pq_Slope_common ?l_Slope_common ?c_Slope_common ?k_Slope_common ?m_Slope_eq ?f_Slope_eq ?l_Slope_eq ?c_Slope_eq ?k_Slope_eq ?m_Way_init ?f_Way_init ?l_Way_init ?c_Way_init ?k_Way_init ?pa_Way_slope ?pg_Way_slope ?pt_Way_slope ?pq_Way_slope ?l_Way_slope ?c_Way_slope ?k_Way_slope ?pa_Way_text ?pg_Way_text ?pt_Way_text ?pq_Way_text ?l_Way_text ?c_Way_text ?k_Way_text ?pa_Way_levels ?pg_Way_levels ?pt_Way_levels ?pq_Way_levels ?l_Way_levels ?c_Way_levels ?k_Way_levels ?m_Way_lt ?f_Way_lt ?l_Way_lt ?c_Way_lt ?k_Way_lt ?m_Way_eq ?f_Way_eq ?l_Way_eq ?c_Way_eq ?k_Way_eq ?g_check_slope ?l_check_slope ?c_check_slope ?k_check_slope ?g_check_way ?l_check_way ?c_check_way ?k_check_way ?g_letter_levels ?l_letter_levels ?c_letter_levels ?k_letter_levels ?g_is_word ?l_is_word ?c_is_word ?k_is_word ?g_is_way ?l_is_way ?c_is_way ?k_is_way ?g_way_count ?l_way_count ?c_way_count ?k_way_count ?g_completions ?l_completions ?c_completions ?k_completions ?g_way_at ?l_way_at ?c_way_at ?k_way_at ?g_way_index ?l_way_index ?c_way_index ?k_way_index ?g_highest ?l_highest ?c_highest ?k_highest ?g_lowest ?l_lowest ?c_lowest ?k_lowest ?g_law_dice ?l_law_dice ?c_law_dice ?k_law_dice ?g_law_roll ?l_law_roll ?c_law_roll ?k_law_roll ?g_law_pick ?l_law_pick ?c_law_pick ?k_law_pick ?g_law_way ?l_law_way ?c_law_way ?k_law_way ?g_law_any_slope ?l_law_any_slope ?c_law_any_slope ?k_law_any_slope ?g_law_ends ?l_law_ends ?c_law_ends ?k_law_ends ?g_law_first_fault ?l_law_first_fault ?c_law_first_fault ?k_law_first_fault ?g_law_index ?l_law_index ?c_law_index ?k_law_index ?g_law_right ?l_law_right ?c_law_right ?k_law_right ?g_law ?l_law ?c_law ?k_law ?c1_Slope ?c2_Slope ?c3_Slope ?c4_Slope ?c5_Slope ?c6_Slope ?na_Slope_rises ?na_Slope_steps ?na_Slope_common ?c1_Way ?c2_Way ?c3_Way ?c4_Way ?c5_Way ?c6_Way ?na_Way_slope ?na_Way_text ?na_Way_levels ?na_Way_runs ?na_Way_key ?o1_InvalidNumber ?o2_InvalidNumber ?o4_InvalidNumber ?o3_InvalidNumber ?o5_InvalidNumber ?o6_InvalidNumber ?o3_ParseError ?o5_ParseError ?o6_ParseError ?o3_Refused ?o5_Refused ?o6_Refused ?cq_law_right ?ch_law_right ?cn_law_right ?ce_law_right ?ic_Slope ?mr_Slope ?nn_Slope ?ic_Way ?mr_Way ?nn_Way ?cg ?ct ?kp_InvalidNumber ?ex_InvalidNumber ?ty_InvalidNumber ?is_InvalidNumber ?nf_InvalidNumber ?kp_InvalidOperation ?ex_InvalidOperation ?ty_InvalidOperation ?is_InvalidOperation ?xi_InvalidOperation ?kp_InvalidSlope ?ex_InvalidSlope ?ty_InvalidSlope ?is_InvalidSlope ?xi_InvalidSlope ?kp_InvalidText ?ex_InvalidText ?ty_InvalidText ?is_InvalidText ?xi_InvalidText ?kp_InvalidWay ?ex_InvalidWay ?ty_InvalidWay ?is_InvalidWay ?xi_InvalidWay ?kp_ParseError ?ex_ParseError ?ty_ParseError ?is_ParseError ?nf_ParseError ?kp_Refused ?ex_Refused ?ty_Refused ?is_Refused ?nf_Refused ?sb_InvalidNumber_InvalidNumber ?n_abs ?n_any ?n_bool ?n_int ?n_isinstance ?n_len ?n_max ?n_min ?n_range ?n_repr ?n_str ?n_tuple ?i_comb ?i_gcd ?qc_MAX_SIDE
    (case g_Slope => k_is)
    (case g_Way => k_is)
    (case g_InvalidNumber => k_is)
    (case g_InvalidOperation => k_is)
    (case g_InvalidSlope => k_is)
    (case g_InvalidText => k_is)
    (case g_InvalidWay => k_is)
    (case g_ParseError => k_is)
    (case g_Refused => k_is)
    (case m_InvalidNumber_init => k_is)
    (case f_InvalidNumber_init => k_is)
    (case l_InvalidNumber_init => k_is)
    (case c_InvalidNumber_init => k_is)
    (case k_InvalidNumber_init => k_is)
    (case g_is_number => k_is)
    (case l_is_number => k_is)
    (case c_is_number => k_is)
    (case k_is_number => k_is)
    (case g_is_whole_between => k_is)
    (case l_is_whole_between => k_is)
    (case c_is_whole_between => k_is)
    (case k_is_whole_between => k_is)
    (case m_Slope_init => k_is)
    (case f_Slope_init => k_is)
    (case l_Slope_init => k_is)
    (case c_Slope_init => k_is)
    (case k_Slope_init => k_is)
    (case pa_Slope_rises => k_is)
    (case pg_Slope_rises => k_is)
    (case pt_Slope_rises => k_is)
    (case pq_Slope_rises => k_is)
    (case l_Slope_rises => k_is)
    (case c_Slope_rises => k_is)
    (case k_Slope_rises => k_is)
    (case pa_Slope_steps => k_is)
    (case pg_Slope_steps => k_is)
    (case pt_Slope_steps => k_is)
    (case pq_Slope_steps => k_is)
    (case l_Slope_steps => k_is)
    (case c_Slope_steps => k_is)
    (case k_Slope_steps => k_is)
    (case pa_Slope_common => k_is)
    (case pg_Slope_common => k_is)
    (case pt_Slope_common => k_is)
    (case pq_Slope_common => k_is)
    (case l_Slope_common => k_is)
    (case c_Slope_common => k_is)
    (case k_Slope_common => k_is)
    (case m_Slope_eq => k_is)
    (case f_Slope_eq => k_is)
    (case l_Slope_eq => k_is)
    (case c_Slope_eq => k_is)
    (case k_Slope_eq => k_is)
    (case m_Way_init => k_is)
    (case f_Way_init => k_is)
    (case l_Way_init => k_is)
    (case c_Way_init => k_is)
    (case k_Way_init => k_is)
    (case pa_Way_slope => k_is)
    (case pg_Way_slope => k_is)
    (case pt_Way_slope => k_is)
    (case pq_Way_slope => k_is)
    (case l_Way_slope => k_is)
    (case c_Way_slope => k_is)
    (case k_Way_slope => k_is)
    (case pa_Way_text => k_is)
    (case pg_Way_text => k_is)
    (case pt_Way_text => k_is)
    (case pq_Way_text => k_is)
    (case l_Way_text => k_is)
    (case c_Way_text => k_is)
    (case k_Way_text => k_is)
    (case pa_Way_levels => k_is)
    (case pg_Way_levels => k_is)
    (case pt_Way_levels => k_is)
    (case pq_Way_levels => k_is)
    (case l_Way_levels => k_is)
    (case c_Way_levels => k_is)
    (case k_Way_levels => k_is)
    (case m_Way_lt => k_is)
    (case f_Way_lt => k_is)
    (case l_Way_lt => k_is)
    (case c_Way_lt => k_is)
    (case k_Way_lt => k_is)
    (case m_Way_eq => k_is)
    (case f_Way_eq => k_is)
    (case l_Way_eq => k_is)
    (case c_Way_eq => k_is)
    (case k_Way_eq => k_is)
    (case g_check_slope => k_is)
    (case l_check_slope => k_is)
    (case c_check_slope => k_is)
    (case k_check_slope => k_is)
    (case g_check_way => k_is)
    (case l_check_way => k_is)
    (case c_check_way => k_is)
    (case k_check_way => k_is)
    (case g_letter_levels => k_is)
    (case l_letter_levels => k_is)
    (case c_letter_levels => k_is)
    (case k_letter_levels => k_is)
    (case g_is_word => k_is)
    (case l_is_word => k_is)
    (case c_is_word => k_is)
    (case k_is_word => k_is)
    (case g_is_way => k_is)
    (case l_is_way => k_is)
    (case c_is_way => k_is)
    (case k_is_way => k_is)
    (case g_way_count => k_is)
    (case l_way_count => k_is)
    (case c_way_count => k_is)
    (case k_way_count => k_is)
    (case g_completions => k_is)
    (case l_completions => k_is)
    (case c_completions => k_is)
    (case k_completions => k_is)
    (case g_way_at => k_is)
    (case l_way_at => k_is)
    (case c_way_at => k_is)
    (case k_way_at => k_is)
    (case g_way_index => k_is)
    (case l_way_index => k_is)
    (case c_way_index => k_is)
    (case k_way_index => k_is)
    (case g_highest => k_is)
    (case l_highest => k_is)
    (case c_highest => k_is)
    (case k_highest => k_is)
    (case g_lowest => k_is)
    (case l_lowest => k_is)
    (case c_lowest => k_is)
    (case k_lowest => k_is)
    (case g_law_dice => k_is)
    (case l_law_dice => k_is)
    (case c_law_dice => k_is)
    (case k_law_dice => k_is)
    (case g_law_roll => k_is)
    (case l_law_roll => k_is)
    (case c_law_roll => k_is)
    (case k_law_roll => k_is)
    (case g_law_pick => k_is)
    (case l_law_pick => k_is)
    (case c_law_pick => k_is)
    (case k_law_pick => k_is)
    (case g_law_way => k_is)
    (case l_law_way => k_is)
    (case c_law_way => k_is)
    (case k_law_way => k_is)
    (case g_law_any_slope => k_is)
    (case l_law_any_slope => k_is)
    (case c_law_any_slope => k_is)
    (case k_law_any_slope => k_is)
    (case g_law_ends => k_is)
    (case l_law_ends => k_is)
    (case c_law_ends => k_is)
    (case k_law_ends => k_is)
    (case g_law_first_fault => k_is)
    (case l_law_first_fault => k_is)
    (case c_law_first_fault => k_is)
    (case k_law_first_fault => k_is)
    (case g_law_index => k_is)
    (case l_law_index => k_is)
    (case c_law_index => k_is)
    (case k_law_index => k_is)
    (case g_law_right => k_is)
    (case l_law_right => k_is)
    (case c_law_right => k_is)
    (case k_law_right => k_is)
    (case g_law => k_is)
    (case l_law => k_is)
    (case c_law => k_is)
    (case k_law => k_is)
    (case c1_Slope => k_is)
    (case c2_Slope => k_is)
    (case c3_Slope => k_is)
    (case c4_Slope => k_is)
    (case c5_Slope => k_is)
    (case c6_Slope => k_is)
    (case na_Slope_rises => k_is)
    (case na_Slope_steps => k_is)
    (case na_Slope_common => k_is)
    (case c1_Way => k_is)
    (case c2_Way => k_is)
    (case c3_Way => k_is)
    (case c4_Way => k_is)
    (case c5_Way => k_is)
    (case c6_Way => k_is)
    (case na_Way_slope => k_is)
    (case na_Way_text => k_is)
    (case na_Way_levels => k_is)
    (case na_Way_runs => k_is)
    (case na_Way_key => k_is)
    (case o1_InvalidNumber => first | k_is | kernel_rfl | rfl)
    (case o2_InvalidNumber => first | k_is | kernel_rfl | rfl)
    (case o4_InvalidNumber => k_is)
    (case o3_InvalidNumber => k_is)
    (case o5_InvalidNumber => k_is)
    (case o6_InvalidNumber => k_is)
    (case o3_ParseError => k_is)
    (case o5_ParseError => k_is)
    (case o6_ParseError => k_is)
    (case o3_Refused => k_is)
    (case o5_Refused => k_is)
    (case o6_Refused => k_is)
    (case cq_law_right => kernel_rfl)
    (case ch_law_right => kernel_rfl)
    (case cn_law_right => kernel_rfl)
    (case ce_law_right => exact PySem.W.km_tabs_of Y _ (List.mem_singleton.mpr (by kernel_rfl)))
    (case ic_Slope => k_is)
    (case mr_Slope => k_is)
    (case nn_Slope => k_is)
    (case ic_Way => k_is)
    (case mr_Way => k_is)
    (case nn_Way => k_is)
    (case cg => k_is)
    (case ct => k_is)
    (case kp_InvalidNumber => k_is)
    (case ex_InvalidNumber => k_is)
    (case ty_InvalidNumber => k_is)
    (case is_InvalidNumber => first | k_is | kernel_rfl | rfl)
    (case nf_InvalidNumber => k_is)
    (case kp_InvalidOperation => k_is)
    (case ex_InvalidOperation => k_is)
    (case ty_InvalidOperation => k_is)
    (case is_InvalidOperation => first | k_is | kernel_rfl | rfl)
    (case xi_InvalidOperation => first | k_is | kernel_rfl | rfl)
    (case kp_InvalidSlope => k_is)
    (case ex_InvalidSlope => k_is)
    (case ty_InvalidSlope => k_is)
    (case is_InvalidSlope => first | k_is | kernel_rfl | rfl)
    (case xi_InvalidSlope => first | k_is | kernel_rfl | rfl)
    (case kp_InvalidText => k_is)
    (case ex_InvalidText => k_is)
    (case ty_InvalidText => k_is)
    (case is_InvalidText => first | k_is | kernel_rfl | rfl)
    (case xi_InvalidText => first | k_is | kernel_rfl | rfl)
    (case kp_InvalidWay => k_is)
    (case ex_InvalidWay => k_is)
    (case ty_InvalidWay => k_is)
    (case is_InvalidWay => first | k_is | kernel_rfl | rfl)
    (case xi_InvalidWay => first | k_is | kernel_rfl | rfl)
    (case kp_ParseError => k_is)
    (case ex_ParseError => k_is)
    (case ty_ParseError => k_is)
    (case is_ParseError => first | k_is | kernel_rfl | rfl)
    (case nf_ParseError => k_is)
    (case kp_Refused => k_is)
    (case ex_Refused => k_is)
    (case ty_Refused => k_is)
    (case is_Refused => first | k_is | kernel_rfl | rfl)
    (case nf_Refused => k_is)
    (case sb_InvalidNumber_InvalidNumber => k_is)
    (case n_abs => k_is)
    (case n_any => k_is)
    (case n_bool => k_is)
    (case n_int => k_is)
    (case n_isinstance => k_is)
    (case n_len => k_is)
    (case n_max => k_is)
    (case n_min => k_is)
    (case n_range => k_is)
    (case n_repr => k_is)
    (case n_str => k_is)
    (case n_tuple => k_is)
    (case i_comb => k_is)
    (case i_gcd => k_is)
    (case qc_MAX_SIDE => k_is)
