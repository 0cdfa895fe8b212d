import PyProof.Rows.All
import Wide.All
import OpenK.AllK
import Wide.FinOn
import HandS.ForMost
import HandS.Wide
import HandS.Gcd
import HandS.Property
import HandS.IsInst
import HandS.Codes
import HandS.TupAny
import HandS.Style
import HandS.RaiseMore
import HandS.SortInts
import HandS.StrMore
import HandS.Conv
import HandS.Zip
import HandS.Rev
import HandS.FStr
import KE.KExcInit
import HandS.ExcInit
import HandS.ExcField
import HandS.ExcOwn
import HandS.Lambda
import HandS.EndTab
import KE.KNestM
import HandS.TryMany
import PySem.Challenge.RW_slantways_k03_whole_numbers_of_ways
set_option Elab.async false
set_option linter.all false
set_option maxRecDepth 100000
set_option maxHeartbeats 4000000
/-! Sx: small steps over readings, heaps that only grow, dice. -/
namespace Sx
open PySem PySem.Spec PyProof.Rows L2

/-! ### the built-ins by name -/
theorem bt_len : bootBuiltins "len" = some (.builtin "len") := by decide +kernel
theorem bt_abs : bootBuiltins "abs" = some (.builtin "abs") := by decide +kernel
theorem bt_max : bootBuiltins "max" = some (.builtin "max") := by decide +kernel
theorem bt_min : bootBuiltins "min" = some (.builtin "min") := by decide +kernel
theorem bt_sum : bootBuiltins "sum" = some (.builtin "sum") := by decide +kernel
theorem bt_any : bootBuiltins "any" = some (.builtin "any") := by decide +kernel
theorem bt_all : bootBuiltins "all" = some (.builtin "all") := by decide +kernel
theorem bt_sorted : bootBuiltins "sorted" = some (.builtin "sorted") := by decide +kernel
theorem bt_isinstance : bootBuiltins "isinstance" = some (.builtin "isinstance") := by decide +kernel
theorem bt_ord : bootBuiltins "ord" = some (.builtin "ord") := by decide +kernel
theorem bt_chr : bootBuiltins "chr" = some (.builtin "chr") := by decide +kernel
theorem bt_repr : bootBuiltins "repr" = some (.builtin "repr") := by decide +kernel
theorem bt_int : bootBuiltins "int" = some (.type "int") := by decide +kernel
theorem bt_str : bootBuiltins "str" = some (.type "str") := by decide +kernel
theorem bt_bool : bootBuiltins "bool" = some (.type "bool") := by decide +kernel
theorem bt_list : bootBuiltins "list" = some (.type "list") := by decide +kernel
theorem bt_tuple : bootBuiltins "tuple" = some (.type "tuple") := by decide +kernel
theorem bt_range : bootBuiltins "range" = some (.type "range") := by decide +kernel

/-! ### steps: one lemma for each head of a reading -/
section
variable {σ : L2.St} {H : Hp} {nx bk ct : L2.St → Hp → Prop} {rt Q : VK} {ta tb tc te : TE} {tt uu : TT} {t u : TS} {tl : TA} {x y v : V} {r : R2}
theorem r_st {t : TS} {D : Ends} {σ σ' : L2.St} {H : Hp} (e : σ = σ') (h : t D σ' H) : t D σ H := by rw [e]; exact h
theorem r_seq (h : t ⟨u ⟨nx, rt, bk, ct⟩, rt, bk, ct⟩ σ H) : tSeq t u ⟨nx, rt, bk, ct⟩ σ H := h
theorem r_next (h : nx σ H) : tNext ⟨nx, rt, bk, ct⟩ σ H := h
theorem r_break (h : bk σ H) : tBreak ⟨nx, rt, bk, ct⟩ σ H := h
theorem r_cont (h : ct σ H) : tCont ⟨nx, rt, bk, ct⟩ σ H := h
theorem r_asg {g : TG} (h : te σ H fun x H1 => g x σ H1 nx) : tAsg te g ⟨nx, rt, bk, ct⟩ σ H := h
theorem r_name {i : Nat} {k : L2.St → Hp → Prop} (h : k (σ.set i (some v)) H) : gName i v σ H k := h
theorem r_ret (h : te σ H rt) : tRet te ⟨nx, rt, bk, ct⟩ σ H := h
theorem r_retN (h : rt .non H) : tRetN ⟨nx, rt, bk, ct⟩ σ H := h
theorem r_drop (h : te σ H fun _ H1 => nx σ H1) : tDrop te ⟨nx, rt, bk, ct⟩ σ H := h
theorem r_ifs (h : tt σ H fun b H1 => if b = true then t ⟨nx, rt, bk, ct⟩ σ H1 else u ⟨nx, rt, bk, ct⟩ σ H1) : tIfS tt t u ⟨nx, rt, bk, ct⟩ σ H := h
theorem r_par {i j : Nat} (h : tl σ H fun vs H1 => ∃ v w, vs = [v, w] ∧ nx ((σ.set i (some v)).set j (some w)) H1) : tPar i j tl ⟨nx, rt, bk, ct⟩ σ H := h
theorem r_par3 {i j l : Nat} (h : tl σ H fun vs H1 => ∃ u v w, vs = [u, v, w] ∧ nx (((σ.set i (some u)).set j (some v)).set l (some w)) H1) : tPar3 i j l tl ⟨nx, rt, bk, ct⟩ σ H := h
theorem r_two {P : V → V → Prop} {a b : V} (h : P a b) : ∃ v w, [a, b] = [v, w] ∧ P v w := ⟨a, b, rfl, h⟩
theorem r_three {P : V → V → V → Prop} {a b c : V} (h : P a b c) : ∃ u v w, [a, b, c] = [u, v, w] ∧ P u v w := ⟨a, b, c, rfl, h⟩
theorem r_var {i : Nat} (e : σ[i]? = some (some v)) (h : Q v H) : tVar i σ H Q := ⟨v, e, h⟩
theorem r_c (h : Q v H) : tC v σ H Q := h
theorem r_op (h : ta σ H fun x H1 => tb σ H1 fun y H2 => r x y H2 Q) : tOp r ta tb σ H Q := h
theorem r_un {f : V → Hp → VK → Prop} (h : ta σ H fun x H1 => f x H1 Q) : tUn f ta σ H Q := h
theorem r_I0 {g : Int → Int → V} {i j : Int} (h : Q (g i j) H) : rI0 g (.int i) (.int j) H Q := ⟨i, j, rfl, rfl, h⟩
theorem r_I {C : Int → Int → Prop} {g : Int → Int → V} {i j : Int} (hc : C i j) (h : Q (g i j) H) : rI C g (.int i) (.int j) H Q := ⟨i, j, rfl, rfl, hc, h⟩
theorem r_U {g : Int → V} {i : Int} (h : Q (g i) H) : rU g (.int i) H Q := ⟨i, rfl, h⟩
theorem dI {i j : Int} : decide (V.int i = V.int j) = decide (i = j) := by simp
theorem dS {i j : Str} : decide (V.str i = V.str j) = decide (i = j) := by simp
theorem dB {i j : Bool} : decide (V.bl i = V.bl j) = decide (i = j) := by simp
theorem r_eqI {i j : Int} (h : Q (.bl (decide (i = j))) H) : rEq (.int i) (.int j) H Q := ⟨rfl, by rw [dI]; exact h⟩
theorem r_neI {i j : Int} (h : Q (.bl (!decide (i = j))) H) : rNe (.int i) (.int j) H Q := ⟨rfl, by rw [dI]; exact h⟩
theorem r_eqS {i j : Str} (h : Q (.bl (decide (i = j))) H) : rEq (.str i) (.str j) H Q := ⟨rfl, by rw [dS]; exact h⟩
theorem r_neS {i j : Str} (h : Q (.bl (!decide (i = j))) H) : rNe (.str i) (.str j) H Q := ⟨rfl, by rw [dS]; exact h⟩
theorem r_eqB {i j : Bool} (h : Q (.bl (decide (i = j))) H) : rEq (.bl i) (.bl j) H Q := ⟨rfl, by rw [dB]; exact h⟩
theorem r_neB {i j : Bool} (h : Q (.bl (!decide (i = j))) H) : rNe (.bl i) (.bl j) H Q := ⟨rfl, by rw [dB]; exact h⟩
theorem r_test {Q : Bool → Hp → Prop} (h : ta σ H fun x H1 => ∃ k, x = .bl k ∧ Q k H1) : tTest ta σ H Q := h
theorem r_B {Q : Bool → Hp → Prop} (h : ta σ H fun x H1 => ∃ k, x = .bl k ∧ Q k H1) : tB ta σ H Q := h
theorem r_bl {P : Bool → Prop} {b : Bool} (h : P b) : ∃ k, V.bl b = .bl k ∧ P k := ⟨b, rfl, h⟩
theorem r_and {Q : Bool → Hp → Prop} (h : tt σ H fun c H1 => if c = true then uu σ H1 Q else Q false H1) : tAnd tt uu σ H Q := h
theorem r_or {Q : Bool → Hp → Prop} (h : tt σ H fun c H1 => if c = true then Q true H1 else uu σ H1 Q) : tOr tt uu σ H Q := h
theorem r_not {Q : Bool → Hp → Prop} (h : tt σ H fun c H1 => Q (!c) H1) : tNot tt σ H Q := h
theorem r_andV (h : ta σ H fun x H1 => ∃ c, x = .bl c ∧ if c = true then tb σ H1 Q else Q (.bl false) H1) : tAndV ta tb σ H Q := h
theorem r_orV (h : ta σ H fun x H1 => ∃ c, x = .bl c ∧ if c = true then Q (.bl true) H1 else tb σ H1 Q) : tOrV ta tb σ H Q := h
theorem r_notV (h : ta σ H fun x H1 => ∃ c, x = .bl c ∧ Q (.bl (!c)) H1) : tNotV ta σ H Q := h
theorem r_ifE (h : tt σ H fun c H1 => if c = true then ta σ H1 Q else tb σ H1 Q) : tIf tt ta tb σ H Q := h
theorem r_chain {r r' : R2} (h : ta σ H fun x H1 => tb σ H1 fun y H2 => r x y H2 fun z H3 => ∃ k, z = .bl k ∧ (if k = true then tc σ H3 fun w' H4 => r' y w' H4 Q else Q (.bl false) H3)) : tChain r r' ta tb tc σ H Q := h
theorem r_nil {Q : List V → Hp → Prop} (h : Q [] H) : tNil σ H Q := h
theorem r_cons {Q : List V → Hp → Prop} (h : ta σ H fun x H1 => tl σ H1 fun xs H2 => Q (x :: xs) H2) : tCons ta tl σ H Q := h
theorem r_call {sp : Sp} {E : XK} (h : tl σ H fun vs H1 => sp (vs ++ []) H1 Q E) : tCall sp [] E tl σ H Q := h
theorem r_cb {f : List V → Hp → VK → Prop} (h : tl σ H fun vs H1 => f vs H1 Q) : tCB f tl σ H Q := h
def MakeP (C : Addr) (sp : Sp) (E : XK) (vs : List V) (H1 : Hp) (Q : VK) : Prop := ∀ x dx, H1 x = none → H1 dx = none → dx ≠ x → sp (.ref x :: (vs ++ [])) (upd (upd H1 dx (.own x)) x (.ins C dx [])) (fun v H2 => v = .non ∧ Q (.ref x) H2) E
theorem r_make {C : Addr} {sp : Sp} {E : XK} (h : tl σ H fun vs H1 => MakeP C sp E vs H1 Q) : tMake C sp [] E tl σ H Q := h
theorem r_tup (h : tl σ H fun xs H1 => xs.length ≤ sizeLine ∧ ∀ p, H1 p = none → Q (.ref p) (upd H1 p (.tup xs))) : tTup tl σ H Q := h
theorem r_lst (h : tl σ H fun xs H1 => xs.length ≤ sizeLine ∧ ∀ p, H1 p = none → Q (.ref p) (upd H1 p (.lst xs))) : tLst tl σ H Q := h
theorem r_prop {C : Addr} {sp : Sp} {E : XK} {dx a : Addr} {fs : List (Str × V)} (e : H a = some (.ins C dx fs)) (h : sp [.ref a] H Q E) : ∃ a' dx fs, V.ref a = .ref a' ∧ H a' = some (.ins C dx fs) ∧ sp (.ref a' :: []) H Q E := ⟨a, dx, fs, rfl, e, h⟩
theorem r_tprop {C : Addr} {sp : Sp} {E : XK} (h : ta σ H fun x H1 => ∃ a dx fs, x = .ref a ∧ H1 a = some (.ins C dx fs) ∧ sp (.ref a :: []) H1 Q E) : tProp C sp [] E ta σ H Q := h
theorem r_meth {C : Addr} {m : Str} {sp : Sp} {E : XK} (h : ta σ H fun x H1 => ∃ a dx fs, x = .ref a ∧ H1 a = some (.ins C dx fs) ∧ fs.lookup m = none ∧ tl σ H1 fun vs H2 => sp (x :: (vs ++ [])) H2 Q E) : tMeth C m sp [] E ta tl σ H Q := h
theorem r_getSp {C : Addr} {f : Str} {E : XK} {a dx : Addr} {fs : List (Str × V)} (e : H a = some (.ins C dx fs)) (l : fs.lookup f = some v) (h : Q v H) : getSp C f [.ref a] H Q E := ⟨a, dx, fs, v, rfl, e, l, h⟩
theorem r_fld {K : PySem.W.Frag} {f : Str} (h : ta σ H fun x H1 => ∃ a C dx fs v, x = .ref a ∧ H1 a = some (.ins C dx fs) ∧ Cls K C ∧ NoAttr K C f ∧ fs.lookup f = some v ∧ Q v H1) : tFld K ta f σ H Q := h
theorem r_BM {K : PySem.W.Frag} {T : String} {f : V → List V → Hp → VK → Prop} (h : ta σ H fun x H1 => tyV K T x H1 ∧ tl σ H1 fun xs H2 => f x xs H2 Q) : tBM K T f ta tl σ H Q := h
theorem r_BM0 {K : PySem.W.Frag} {T : String} {f : V → List V → Hp → VK → Prop} (h : ta σ H fun x H1 => tyV K T x H1 ∧ f x [] H1 Q) : tBM0 K T f ta σ H Q := h
theorem r_sub {ti : TE} {s : TSet} {k : L2.St → Hp → Prop} (h : ta σ H fun o H1 => ti σ H1 fun i H2 => s o i v H2 fun H3 => k σ H3) : gSub ta ti s v σ H k := h
theorem r_sl {f : V → Option Int → Option Int → Hp → VK → Prop} {t1 t2 : TO} (h : te σ H fun x H1 => t1 σ H1 fun l H2 => t2 σ H2 fun u H3 => f x l u H3 Q) : tSl f te t1 t2 σ H Q := h
theorem r_noPart {Q : Option Int → Hp → Prop} (h : Q none H) : tNoPart σ H Q := h
theorem r_part {Q : Option Int → Hp → Prop} (h : te σ H fun x H1 => ∃ i, x = .int i ∧ Q (some i) H1) : tPart te σ H Q := h
theorem r_int {P : Int → Prop} {i : Int} (h : P i) : ∃ j, V.int i = .int j ∧ P j := ⟨i, rfl, h⟩
theorem iteNT {A B : Prop} {i : Decidable ((!true) = true)} (h : B) : @ite Prop ((!true) = true) i A B := by
  rw [if_neg (fun z => nomatch z)]; exact h
theorem iteNF {A B : Prop} {i : Decidable ((!false) = true)} (h : A) : @ite Prop ((!false) = true) i A B := by
  rw [if_pos (show (!false) = true from rfl)]; exact h
theorem iteT' {A B : Prop} {i : Decidable (true = true)} (h : A) : @ite Prop (true = true) i A B := by
  rw [if_pos rfl]; exact h
theorem iteF' {A B : Prop} {i : Decidable (false = true)} (h : B) : @ite Prop (false = true) i A B := by
  rw [if_neg Bool.false_ne_true]; exact h
theorem r_cutQ {t : TE} (S : V → Hp → Prop) (h : ∀ Q' : VK, (∀ v H1, S v H1 → Q' v H1) → t σ H Q') (k : ∀ v H1, S v H1 → Q v H1) : t σ H Q := h Q k
theorem r_cutS {t : TS} (S : L2.St → Hp → Prop) (h : ∀ nx', (∀ σ H, S σ H → nx' σ H) → t ⟨nx', rt, bk, ct⟩ σ H) (k : ∀ σ H, S σ H → nx σ H) : t ⟨nx, rt, bk, ct⟩ σ H := h nx k
theorem ite_d {p A B : Prop} {j : Decidable p} {i : Decidable (@decide p j = true)} (h1 : p → A) (h2 : ¬ p → B) : @ite Prop (@decide p j = true) i A B := by
  by_cases h : p
  · rw [if_pos (decide_eq_true h)]; exact h1 h
  · rw [if_neg (by rw [decide_eq_false h]; exact Bool.false_ne_true)]; exact h2 h
theorem ite_nd {p A B : Prop} {j : Decidable p} {i : Decidable ((!@decide p j) = true)} (h1 : ¬ p → A) (h2 : p → B) : @ite Prop ((!@decide p j) = true) i A B := by
  by_cases h : p
  · rw [if_neg (by rw [decide_eq_true h]; exact Bool.false_ne_true)]; exact h2 h
  · rw [if_pos (by rw [decide_eq_false h]; rfl)]; exact h1 h
theorem ite_b {b : Bool} {A B : Prop} {i : Decidable (b = true)} (h1 : b = true → A) (h2 : b = false → B) : @ite Prop (b = true) i A B := by
  cases b with
  | true => rw [if_pos rfl]; exact h1 rfl
  | false => rw [if_neg Bool.false_ne_true]; exact h2 rfl
end

/-! ### more steps -/
section
variable {σ : L2.St} {H : Hp} {Q : VK} {v x y : V} {K : PySem.W.Frag}
theorem r_isi_int_bool {i : Int} (h : Q (.bl false) H) : rIsi K [.int i, .ty "bool"] H Q := ⟨_, _, _, _, false, rfl, .ty _, .base (.int i), kit_ty (by decide +kernel), h⟩
theorem r_isi_int_int {i : Int} (h : Q (.bl true) H) : rIsi K [.int i, .ty "int"] H Q := ⟨_, _, _, _, true, rfl, .ty _, .base (.int i), kit_ty (by decide +kernel), h⟩
theorem r_isi_str_str {i : Str} (h : Q (.bl true) H) : rIsi K [.str i, .ty "str"] H Q := ⟨_, _, _, _, true, rfl, .ty _, .base (.str i), kit_ty (by decide +kernel), h⟩
theorem r_isi_own {a C dx : Addr} {fs : List (Str × V)} {b : Bool} {D : Addr} (e : H a = some (.ins C dx fs)) (cl : Cls K C) (ha : PySem.W.findIn K (.ref C) "__class__" = some (some (.builtin "object.__class__")))
    (hn : PySem.W.specialIn K (.builtin "object.__class__") "__get__" = some (some (.builtin "getset_descriptor.__get__"))) (htk : PySem.W.takesIn K (.builtin "object.__class__") = some true) (hm : PySem.W.mroIn K C (.type "object") = some true)
    (ks : PySem.W.kitOne K (.ref C) (.ref D) = some b) (h : Q (.bl b) H) : rIsi K [.ref a, .ref D] H Q := ⟨_, _, _, _, b, rfl, .own D, .base (.ins e cl ha hn htk hm), ks, h⟩
theorem r_Ih {C : Int → Int → Prop} {g : Int → Int → V} {i j : Int} (h : Q (g i j) H) (hc : C i j) : rI C g (.int i) (.int j) H Q := ⟨i, j, rfl, rfl, hc, h⟩
theorem r_ixL {p : Addr} {xs : List V} {i : Int} (hp : H p = some (.lst xs)) (a : atI xs i = some v) (h : Q v H) : rIxL K (.ref p) (.int i) H Q := ⟨p, xs, i, v, rfl, rfl, SqL.of hp, a, h⟩
theorem r_ixT {p : Addr} {xs : List V} {i : Int} (hp : H p = some (.tup xs)) (a : atI xs i = some v) (h : Q v H) : rIxT K (.ref p) (.int i) H Q := ⟨p, xs, i, v, rfl, rfl, SqT.of hp, a, h⟩
theorem r_sFld {K : PySem.W.Frag} {f : Str} {ta tv : TE} {σ : L2.St} {nx bk ct : L2.St → Hp → Prop} {rt : VK} (h : tv σ H fun y H1 => ta σ H1 fun x H2 => ∃ a C dx fs, x = .ref a ∧ H2 a = some (.ins C dx fs) ∧ Cls K C ∧ NoAttr K C f ∧ fs.length < 1000 ∧ nx σ (upd H2 a (.ins C dx (putF f y fs)))) : sFld K ta tv f ⟨nx, rt, bk, ct⟩ σ H := h
theorem len1 {f : Str} {v : V} : (putF f v []).length < 1000 := Nat.lt_of_le_of_lt (length_putF f v []) (by decide)
theorem len2 {f g : Str} {v w : V} : (putF f v (putF g w [])).length < 1000 := Nat.lt_of_le_of_lt (Nat.le_trans (length_putF f v _) (Nat.succ_le_succ (length_putF g w []))) (by decide)
theorem len3 {f g k : Str} {v w u : V} : (putF f v (putF g w (putF k u []))).length < 1000 := Nat.lt_of_le_of_lt (Nat.le_trans (length_putF f v _) (Nat.succ_le_succ (Nat.le_trans (length_putF g w _) (Nat.succ_le_succ (length_putF k u []))))) (by decide)
theorem len4 {f g k j : Str} {v w u t : V} : (putF f v (putF g w (putF k u (putF j t [])))).length < 1000 := Nat.lt_of_le_of_lt (Nat.le_trans (length_putF f v _) (Nat.succ_le_succ (Nat.le_trans (length_putF g w _) (Nat.succ_le_succ (Nat.le_trans (length_putF k u _) (Nat.succ_le_succ (length_putF j t []))))))) (by decide)
theorem r_insput {K : PySem.W.Frag} {f : Str} {y : V} {nx : L2.St → Hp → Prop} {σ : L2.St} {a C dx : Addr} {fs : List (Str × V)} (e : H a = some (.ins C dx fs)) (cl : Cls K C) (na : NoAttr K C f) (hl : fs.length < 1000) (h : nx σ (upd H a (.ins C dx (putF f y fs)))) :
    ∃ a' C dx fs, V.ref a = .ref a' ∧ H a' = some (.ins C dx fs) ∧ Cls K C ∧ NoAttr K C f ∧ fs.length < 1000 ∧ nx σ (upd H a' (.ins C dx (putF f y fs))) := ⟨a, C, dx, fs, rfl, e, cl, na, hl, h⟩
theorem r_setL {p : Addr} {xs : List V} {i : Int} {j : Nat} {Q : Hp → Prop} (hp : H p = some (.lst xs)) (a : ixN xs.length i = some j) (h : Q (upd H p (.lst (xs.set j v)))) : rSetL (.ref p) (.int i) v H Q := ⟨p, xs, i, j, rfl, rfl, hp, a, h⟩
theorem tyL {l : Addr} {xs : List V} (h : H l = some (.lst xs)) : tyV K "list" (.ref l) H := .inl ⟨rfl, xs, SqL.of h⟩
theorem r_app {l : Addr} {xs : List V} (hp : H l = some (.lst xs)) (h : Q .non (upd H l (.lst (xs ++ [v])))) (hl : xs.length < sizeLine) : rAppend (.ref l) [v] H Q := ⟨l, xs, v, rfl, rfl, hp, hl, h⟩
theorem r_gcd {a b : Int} (h : Q (.int ((Nat.gcd a.natAbs b.natAbs : Nat) : Int)) H) : rGcd [.int a, .int b] H Q := ⟨a, b, rfl, h⟩
theorem sz (n : Nat) (h : n ≤ 100000) : n ≤ sizeLine := Nat.le_trans h (by decide)
theorem sz' (n : Nat) (h : n < 100000) : n < sizeLine := Nat.lt_of_lt_of_le h (by decide)
theorem cmulw {i j : Int} {a b : Nat} (ha : i.natAbs < 2 ^ a) (hb : j.natAbs < 2 ^ b) (h : a + b ≤ 100000) (h0 : 0 < a := by decide) (h1 : 0 < b := by decide) : CMulW i j := wide_mul ha hb h0 h1 (by omega)
theorem cdivw {i j : Int} {b : Nat} (h : 0 < j) (hb : j.natAbs < 2 ^ b) (h9 : b ≤ 9000) (h0 : 0 < b := by decide) : CDivW i j := wide_div h hb h0 h9
/-- * of two ints, one of them small, or both not too great -/
def CMulA (i j : Int) : Prop := CMul i j ∨ CMulW i j
theorem op_mulA {X : Cx} : OpR X (binaryOp .Mult) (rI CMulA fun i j => .int (i * j)) := opI fun _ _ _ _ _ _ _ hc q => mul_int q (by
  rcases hc with h | h
  · exact h.ok
  · exact h.ok)
theorem cmA_l {i j : Int} (h : -(2 ^ 64) < i ∧ i < 2 ^ 64) : CMulA i j := .inl (.inl h)
theorem cmA_r {i j : Int} (h : -(2 ^ 64) < j ∧ j < 2 ^ 64) : CMulA i j := .inl (.inr h)
theorem cmA_w {i j : Int} (h : CMulW i j) : CMulA i j := .inr h
/-- comb, perm -/
theorem r_gtup {p : Addr} {xs : List V} {n : Nat} {t : TGs} {k : L2.St → Hp → Prop} (hp : H p = some (.tup xs)) (hl : xs.length = n) (h : t xs σ H k) : gTup K n t (.ref p) σ H k := ⟨p, xs, rfl, SqT.of hp, hl, h⟩
theorem r_gcons {t : TG} {u : TGs} {r : List V} {k : L2.St → Hp → Prop} (h : t v σ H fun σ' H' => u r σ' H' k) : gCons t u (v :: r) σ H k := ⟨v, r, rfl, h⟩
theorem r_gnil {k : L2.St → Hp → Prop} (h : k σ H) : gNil [] σ H k := ⟨rfl, h⟩
def rComb : List V → Hp → VK → Prop := fun vs H Q => ∃ a b : Int, vs = [.int a, .int b] ∧ 0 ≤ a ∧ 0 ≤ b ∧ a ≤ 18000 ∧ Q (.int (PySem.W.mcComb a b)) H
theorem cr_comb {X : Cx} : CallR X (.builtin "math.comb") rComb := by
  intro pins s σ H vs us Q I r h
  obtain ⟨a, b, rfl, ha, hb, h8, q⟩ := h
  obtain ⟨t, u, rfl⟩ := Vals.int2 r
  exact PySem.W.mc_comb ha hb (by omega) (.inr h8) fun _ => ⟨.int _, H, I.tok _, ⟨_, rfl⟩, q⟩
theorem r_comb {a b : Int} (h : Q (.int (PySem.W.mcComb a b)) H) (ha : 0 ≤ a) (hb : 0 ≤ b) (h8 : a ≤ 18000) : rComb [.int a, .int b] H Q := ⟨a, b, rfl, ha, hb, h8, h⟩
end

/-! ### readings by names -/
section
variable {X : Cx} {σ : L2.St} {H : Hp} {Q : VK} {K : PySem.W.Frag}
def qInt : List V → Hp → VK → Prop := fun xs H Q => (∃ i, xs = [.int i] ∧ Q (.int i) H) ∨ ∃ k, xs = [.bl k] ∧ Q (.int (if k then 1 else 0)) H
theorem c_int : CallR X (.type "int") qInt := call_int1
theorem r_int1 {i : Int} (h : Q (.int i) H) : qInt [.int i] H Q := .inl ⟨i, rfl, h⟩
theorem r_intB {k : Bool} (h : Q (.int (if k then 1 else 0)) H) : qInt [.bl k] H Q := .inr ⟨k, rfl, h⟩
def qAbs : List V → Hp → VK → Prop := fun xs H Q => ∃ i, xs = [.int i] ∧ Q (.int (if i < 0 then -i else i)) H
theorem c_abs : CallR X (.builtin "abs") qAbs := call_abs
theorem r_abs {i : Int} (h : Q (.int (if i < 0 then -i else i)) H) : qAbs [.int i] H Q := ⟨i, rfl, h⟩
def qMax : List V → Hp → VK → Prop := fun xs H Q => ∃ i j, xs = [.int i, .int j] ∧ Q (.int (if j > i then j else i)) H
theorem c_max (hc : X.calm = true) : CallR X (.builtin "max") qMax := call_max2 hc
theorem r_max {i j : Int} (h : Q (.int (if j > i then j else i)) H) : qMax [.int i, .int j] H Q := ⟨i, j, rfl, h⟩
def qMin : List V → Hp → VK → Prop := fun xs H Q => ∃ i j, xs = [.int i, .int j] ∧ Q (.int (if j < i then j else i)) H
theorem c_min (hc : X.calm = true) : CallR X (.builtin "min") qMin := call_min2 hc
theorem r_min {i j : Int} (h : Q (.int (if j < i then j else i)) H) : qMin [.int i, .int j] H Q := ⟨i, j, rfl, h⟩
def qLen (K : PySem.W.Frag) : List V → Hp → VK → Prop := fun xs H Q => ∃ p ys, xs = [.ref p] ∧ (SqL K H p ys ∨ SqT K H p ys) ∧ Q (.int ys.length) H
theorem c_len : CallR X (.builtin "len") (qLen X.K) := call_len_seq
theorem r_lenL {p : Addr} {ys : List V} (q : SqL K H p ys) (h : Q (.int ys.length) H) : qLen K [.ref p] H Q := ⟨p, ys, rfl, .inl q, h⟩
theorem r_lenT {p : Addr} {ys : List V} (q : SqT K H p ys) (h : Q (.int ys.length) H) : qLen K [.ref p] H Q := ⟨p, ys, rfl, .inr q, h⟩
def qLenS : List V → Hp → VK → Prop := fun xs H Q => ∃ z, xs = [.str z] ∧ z.length ≤ sizeLine ∧ Q (.int z.length) H
theorem c_lenS : CallR X (.builtin "len") qLenS := call_len_str
theorem r_lenS {z : Str} (h : Q (.int z.length) H) (hz : z.length ≤ sizeLine) : qLenS [.str z] H Q := ⟨z, rfl, hz, h⟩
def qLstOf (K : PySem.W.Frag) : List V → Hp → VK → Prop := fun xs H Q => ∃ p ys, xs = [.ref p] ∧ (SqL K H p ys ∨ SqT K H p ys) ∧ ∀ l, H l = none → Q (.ref l) (upd H l (.lst ys))
theorem c_lstOf : CallR X (.type "list") (qLstOf X.K) := call_list_of
theorem r_lstOfL {p : Addr} {ys : List V} (q : SqL K H p ys) (h : ∀ l, H l = none → Q (.ref l) (upd H l (.lst ys))) : qLstOf K [.ref p] H Q := ⟨p, ys, rfl, .inl q, h⟩
theorem r_lstOfT {p : Addr} {ys : List V} (q : SqT K H p ys) (h : ∀ l, H l = none → Q (.ref l) (upd H l (.lst ys))) : qLstOf K [.ref p] H Q := ⟨p, ys, rfl, .inr q, h⟩
def qTupOf (K : PySem.W.Frag) : List V → Hp → VK → Prop := fun xs H Q => ∃ p ys, xs = [.ref p] ∧ ((SqL K H p ys ∧ ∀ l, H l = none → Q (.ref l) (upd H l (.tup ys))) ∨ (SqT K H p ys ∧ Q (.ref p) H))
theorem c_tupOf : CallR X (.type "tuple") (qTupOf X.K) := call_tuple_of
theorem r_tupOfL {p : Addr} {ys : List V} (q : SqL K H p ys) (h : ∀ l, H l = none → Q (.ref l) (upd H l (.tup ys))) : qTupOf K [.ref p] H Q := ⟨p, ys, rfl, .inl ⟨q, h⟩⟩
theorem r_tupOfT {p : Addr} {ys : List V} (q : SqT K H p ys) (h : Q (.ref p) H) : qTupOf K [.ref p] H Q := ⟨p, ys, rfl, .inr ⟨q, h⟩⟩
def qStrI : List V → Hp → VK → Prop := fun xs H Q => ∃ i, xs = [.int i] ∧ i.natAbs.log2 < 1920 ∧ Q (.str (toString i)) H
theorem c_strI : CallR X (.type "str") qStrI := call_str_int
theorem r_strI {i : Int} (h : Q (.str (toString i)) H) (hi : i.natAbs.log2 < 1920) : qStrI [.int i] H Q := ⟨i, rfl, hi, h⟩
def qStrS : List V → Hp → VK → Prop := fun xs H Q => ∃ a, xs = [.str a] ∧ Q (.str a) H
theorem c_strS : CallR X (.type "str") qStrS := SkE.call_str_str
theorem r_strS {a : Str} (h : Q (.str a) H) : qStrS [.str a] H Q := ⟨a, rfl, h⟩
def qAddS : R2 := fun x y H Q => ∃ i j, x = .str i ∧ y = .str j ∧ i.length + j.length ≤ sizeLine ∧ Q (.str (i ++ j)) H
theorem o_addS : OpR X (binaryOp .Add) qAddS := op_add_str
theorem r_addS {i j : Str} (h : Q (.str (i ++ j)) H) (hz : i.length + j.length ≤ sizeLine) : qAddS (.str i) (.str j) H Q := ⟨i, j, rfl, rfl, hz, h⟩
def qLtS : R2 := fun x y H Q => ∃ i j, x = .str i ∧ y = .str j ∧ Q (.bl (decide (i.cps.toList < j.cps.toList))) H
theorem o_ltS : OpR X (compareOp .Lt) qLtS := op_lt_str
theorem r_ltS {i j : Str} (h : Q (.bl (decide (i.cps.toList < j.cps.toList))) H) : qLtS (.str i) (.str j) H Q := ⟨i, j, rfl, rfl, h⟩
def qAddIB : R2 := fun x y H Q => ∃ i k, x = .int i ∧ y = .bl k ∧ Q (.int (i + b2i k)) H
theorem o_addIB : OpR X (binaryOp .Add) qAddIB := op_add_ib
def qIsN : R2 := fun x y H Q => y = .non ∧ Q (.bl (decide (x = .non))) H
theorem o_isN : OpR X (compareOp .Is) qIsN := op_isN
def qNotN : R2 := fun x y H Q => y = .non ∧ Q (.bl (!decide (x = .non))) H
theorem o_notN : OpR X (compareOp .IsNot) qNotN := op_notN
def qCntS : V → List V → Hp → VK → Prop := fun x xs H Q => ∃ a b, x = .str a ∧ xs = [.str b] ∧ Q (.int (Txt.count a b)) H
theorem m_cntS : MtR X "str.count" qCntS := mt_count
theorem r_cntS {a b : Str} (h : Q (.int (Txt.count a b)) H) : qCntS (.str a) [.str b] H Q := ⟨a, b, rfl, rfl, h⟩
def qFindS : V → List V → Hp → VK → Prop := fun x xs H Q => ∃ a b, x = .str a ∧ xs = [.str b] ∧ Q (.int (Txt.find a b)) H
theorem m_findS : MtR X "str.find" qFindS := mt_find
theorem r_findS {a b : Str} (h : Q (.int (Txt.find a b)) H) : qFindS (.str a) [.str b] H Q := ⟨a, b, rfl, rfl, h⟩
def qFind3 : V → List V → Hp → VK → Prop := fun x xs H Q => ∃ (a b : Str) (i : Int), x = .str a ∧ xs = [.str b, .int i] ∧ Q (.int (Txt.find3 a b i)) H
theorem m_find3 : MtR X "str.find" qFind3 := mt_find3
theorem r_find3 {a b : Str} {i : Int} (h : Q (.int (Txt.find3 a b i)) H) : qFind3 (.str a) [.str b, .int i] H Q := ⟨a, b, i, rfl, rfl, h⟩
def qSplit : V → List V → Hp → VK → Prop := fun x xs H Q => ∃ a b, x = .str a ∧ xs = [.str b] ∧ (b.length == 0) = false ∧ a.length + 2 ≤ sizeLine ∧ rNewStrs (Txt.split a b) H Q
theorem m_split : MtR X "str.split" qSplit := mt_split
def qJoin (K : PySem.W.Frag) : V → List V → Hp → VK → Prop := fun x xs H Q => ∃ a p, ∃ ys : List Str, x = .str a ∧ xs = [.ref p] ∧ (SqL K H p (ys.map V.str) ∨ SqT K H p (ys.map V.str)) ∧ (ys.map (·.length)).sum + ys.length * a.length ≤ 16777216 ∧ Q (.str (Txt.join a ys)) H
theorem m_join : MtR X "str.join" (qJoin X.K) := mt_join
theorem r_joinL {a : Str} {p : Addr} {ys : List Str} (q : SqL K H p (ys.map V.str)) (h : Q (.str (Txt.join a ys)) H) (hz : (ys.map (·.length)).sum + ys.length * a.length ≤ 16777216) : qJoin K (.str a) [.ref p] H Q := ⟨a, p, ys, rfl, rfl, .inl q, hz, h⟩
theorem tyS {a : Str} : tyV K "str" (.str a) H := rfl
end
/-! ### loops -/
section
variable {σ : L2.St} {H : Hp} {nx bk ct : L2.St → Hp → Prop} {rt Q : VK} {ta te : TE} {tt : TT} {tb : TS} {tl : TA} {g : TG} {K : PySem.W.Frag}
def FR (J : It) (g : TG) (tb : TS) (D : Ends) (σ : L2.St) (H1 : Hp) : Prop := ∃ W : Nat → Nat → L2.St → Hp → Prop, (∃ m, W 0 m σ H1) ∧ ∀ i m σ H, W i m σ H →
  (J.stop i H ∧ D.nx σ H) ∨ (J.go i H ∧ ∃ N : L2.St → Hp → Prop, (∀ σ' H', N σ' H' → ∃ m', m' < m ∧ W (i + 1) m' σ' H') ∧ ∀ x H', J.yld i H x H' → g x σ H' fun σ2 H2 => tb { D with nx := N, ct := N, bk := D.nx } σ2 H2)
theorem r_for1 {D : Ends} (h : tl σ H fun vs H1 => ∃ j : Int, vs = [.int j] ∧ -(2 ^ 62) ≤ j ∧ j < 2 ^ 62 ∧ FR (Itr 0 j.toNat) g tb D σ H1) : tFor (iRng1 tl) g tb D σ H := h
theorem r_for2 {D : Ends} (h : tl σ H fun vs H1 => ∃ i j : Int, vs = [.int i, .int j] ∧ (-(2 ^ 62) ≤ i ∧ i < 2 ^ 62 ∧ -(2 ^ 62) ≤ j ∧ j < 2 ^ 62) ∧ FR (Itr i (j - i).toNat) g tb D σ H1) : tFor (iRng2 tl) g tb D σ H := h
theorem r_forL {D : Ends} (h : te σ H fun x H1 => ∃ a, x = .ref a ∧ (∃ xs, SqL K H1 a xs) ∧ FR (Itl K a) g tb D σ H1) : tFor (iList K te) g tb D σ H := h
theorem r_forT {D : Ends} (h : te σ H fun x H1 => ∃ a, x = .ref a ∧ (∃ xs, SqT K H1 a xs) ∧ FR (Itt K a) g tb D σ H1) : tFor (iTup K te) g tb D σ H := h
theorem r_forS {D : Ends} (h : te σ H fun v H1 => ∃ x, v = .str x ∧ FR (Its x) g tb D σ H1) : tFor (iStr te) g tb D σ H := h
theorem r_rng1 {P : Int → Prop} {x : Int} (h : P x) (h1 : -(2 ^ 62) ≤ x) (h2 : x < 2 ^ 62) : ∃ j : Int, [V.int x] = [.int j] ∧ -(2 ^ 62) ≤ j ∧ j < 2 ^ 62 ∧ P j := ⟨x, rfl, h1, h2, h⟩
theorem r_rng2 {P : Int → Int → Prop} {x y : Int} (h : P x y) (h1 : -(2 ^ 62) ≤ x ∧ x < 2 ^ 62 ∧ -(2 ^ 62) ≤ y ∧ y < 2 ^ 62) : ∃ i j : Int, [V.int x, V.int y] = [.int i, .int j] ∧ (-(2 ^ 62) ≤ i ∧ i < 2 ^ 62 ∧ -(2 ^ 62) ≤ j ∧ j < 2 ^ 62) ∧ P i j := ⟨x, y, rfl, h1, h⟩
theorem r_seqL {P : Addr → Prop} {a : Addr} {xs : List V} (q : SqL K H a xs) (h : P a) : ∃ b, V.ref a = .ref b ∧ (∃ xs, SqL K H b xs) ∧ P b := ⟨a, rfl, ⟨xs, q⟩, h⟩
theorem r_seqT {P : Addr → Prop} {a : Addr} {xs : List V} (q : SqT K H a xs) (h : P a) : ∃ b, V.ref a = .ref b ∧ (∃ xs, SqT K H b xs) ∧ P b := ⟨a, rfl, ⟨xs, q⟩, h⟩
theorem r_seqS {P : Str → Prop} {x : Str} (h : P x) : ∃ y, V.str x = .str y ∧ P y := ⟨x, rfl, h⟩
theorem fr_range {lo : Int} {n : Nat} (Pv : Nat → L2.St → Hp → Prop) (h0 : Pv 0 σ H) (hs : ∀ i σ H, i < n → Pv i σ H → g (.int (lo + i)) σ H fun σ2 H2 => tb ⟨Pv (i + 1), rt, nx, Pv (i + 1)⟩ σ2 H2)
    (hd : ∀ σ H, Pv n σ H → nx σ H) : FR (Itr lo n) g tb ⟨nx, rt, bk, ct⟩ σ H := for_range Pv h0 hs hd
theorem fr_list {a : Addr} {xs : List V} (Pv : Nat → L2.St → Hp → Prop) (h0 : Pv 0 σ H) (hl : ∀ i σ H, i ≤ xs.length → Pv i σ H → SqL K H a xs) (hs : ∀ i x σ H, xs[i]? = some x → Pv i σ H → g x σ H fun σ2 H2 => tb ⟨Pv (i + 1), rt, nx, Pv (i + 1)⟩ σ2 H2)
    (hd : ∀ σ H, Pv xs.length σ H → nx σ H) : FR (Itl K a) g tb ⟨nx, rt, bk, ct⟩ σ H := for_list Pv h0 hl hs hd
theorem fr_tup {a : Addr} {xs : List V} (Pv : Nat → L2.St → Hp → Prop) (h0 : Pv 0 σ H) (hl : ∀ i σ H, i ≤ xs.length → Pv i σ H → SqT K H a xs) (hs : ∀ i x σ H, xs[i]? = some x → Pv i σ H → g x σ H fun σ2 H2 => tb ⟨Pv (i + 1), rt, nx, Pv (i + 1)⟩ σ2 H2)
    (hd : ∀ σ H, Pv xs.length σ H → nx σ H) : FR (Itt K a) g tb ⟨nx, rt, bk, ct⟩ σ H := for_tup Pv h0 hl hs hd
theorem fr_str {x : Str} (Pv : Nat → L2.St → Hp → Prop) (h0 : Pv 0 σ H) (hs : ∀ i c σ H, x.cps[i]? = some c → Pv i σ H → g (.str ⟨#[c]⟩) σ H fun σ2 H2 => tb ⟨Pv (i + 1), rt, nx, Pv (i + 1)⟩ σ2 H2)
    (hd : ∀ σ H, Pv x.cps.size σ H → nx σ H) : FR (Its x) g tb ⟨nx, rt, bk, ct⟩ σ H := by
  refine ⟨fun i m σ H => m = x.cps.size - i ∧ i ≤ x.cps.size ∧ Pv i σ H, ⟨x.cps.size, by simp, Nat.zero_le _, h0⟩, ?_⟩
  rintro i m σ H ⟨rfl, hi, p⟩
  by_cases hlt : i < x.cps.size
  · refine .inr ⟨hlt, Pv (i + 1), fun σ' H' p' => ⟨x.cps.size - (i + 1), by omega, rfl, hlt, p'⟩, fun y H' z => ?_⟩
    obtain ⟨e, c, hc, e2⟩ := z
    subst e e2
    exact hs i c σ _ hc p
  · have e : i = x.cps.size := by omega
    subst e
    exact .inl ⟨Nat.le_refl _, hd σ H p⟩
def LCW (J : It) (g : TG) (tt : TT) (te : TE) (vs : List Nat) (σ : L2.St) (H1 : Hp) (Q : VK) : Prop := ∀ D, H1 D = none → ∃ W : Nat → Nat → Hp → Prop, (∃ m, W 0 m (upd H1 D (.lst []))) ∧ ∀ i m H, W i m H →
  (J.stop i H ∧ Q (.ref D) H) ∨ (J.go i H ∧ ∃ Nx : Hp → Prop, (∀ H', Nx H' → ∃ m', m' < m ∧ W (i + 1) m' H') ∧ ∀ x H', J.yld i H x H' → g x (wipe σ vs) H' fun σ2 H2 => wipe σ2 vs = wipe σ vs ∧ tt σ2 H2 fun b H3 =>
    if b = true then te σ2 H3 fun y H4 => ∃ acc, H4 D = some (.lst acc) ∧ acc.length < sizeLine ∧ Nx (upd H4 D (.lst (acc ++ [y]))) else Nx H3)
variable {vs : List Nat}
theorem r_lc1 (h : tl σ H fun us H1 => ∃ j : Int, us = [.int j] ∧ -(2 ^ 62) ≤ j ∧ j < 2 ^ 62 ∧ LCW (Itr 0 j.toNat) g tt te vs σ H1 Q) : tLc (iRng1 tl) g tt te vs σ H Q := h
theorem r_lc2 (h : tl σ H fun us H1 => ∃ i j : Int, us = [.int i, .int j] ∧ (-(2 ^ 62) ≤ i ∧ i < 2 ^ 62 ∧ -(2 ^ 62) ≤ j ∧ j < 2 ^ 62) ∧ LCW (Itr i (j - i).toNat) g tt te vs σ H1 Q) : tLc (iRng2 tl) g tt te vs σ H Q := h
theorem r_lcL (h : ta σ H fun x H1 => ∃ a, x = .ref a ∧ (∃ xs, SqL K H1 a xs) ∧ LCW (Itl K a) g tt te vs σ H1 Q) : tLc (iList K ta) g tt te vs σ H Q := h
theorem r_lcT (h : ta σ H fun x H1 => ∃ a, x = .ref a ∧ (∃ xs, SqT K H1 a xs) ∧ LCW (Itt K a) g tt te vs σ H1 Q) : tLc (iTup K ta) g tt te vs σ H Q := h
theorem r_lcS (h : ta σ H fun v H1 => ∃ x, v = .str x ∧ LCW (Its x) g tt te vs σ H1 Q) : tLc (iStr ta) g tt te vs σ H Q := h
theorem lw_range {lo : Int} {n : Nat} (Pv : Addr → Nat → Hp → Prop) (h0 : ∀ D, H D = none → Pv D 0 (upd H D (.lst [])))
    (hs : ∀ D, H D = none → ∀ i H, i < n → Pv D i H → g (.int (lo + i)) (wipe σ vs) H fun σ2 H2 => wipe σ2 vs = wipe σ vs ∧ tt σ2 H2 fun b H3 =>
      if b = true then te σ2 H3 fun y H4 => ∃ acc, H4 D = some (.lst acc) ∧ acc.length < sizeLine ∧ Pv D (i + 1) (upd H4 D (.lst (acc ++ [y]))) else Pv D (i + 1) H3) (hd : ∀ D, H D = none → ∀ H, Pv D n H → Q (.ref D) H) : LCW (Itr lo n) g tt te vs σ H Q :=
  fun D hD => lc_range (Pv D) (h0 D hD) (hs D hD) (hd D hD)
theorem lw_list {a : Addr} {xs : List V} (Pv : Addr → Nat → Hp → Prop) (h0 : ∀ D, H D = none → Pv D 0 (upd H D (.lst []))) (hl : ∀ D, H D = none → ∀ i H, i ≤ xs.length → Pv D i H → SqL K H a xs)
    (hs : ∀ D, H D = none → ∀ i x H, xs[i]? = some x → Pv D i H → g x (wipe σ vs) H fun σ2 H2 => wipe σ2 vs = wipe σ vs ∧ tt σ2 H2 fun b H3 =>
      if b = true then te σ2 H3 fun y H4 => ∃ acc, H4 D = some (.lst acc) ∧ acc.length < sizeLine ∧ Pv D (i + 1) (upd H4 D (.lst (acc ++ [y]))) else Pv D (i + 1) H3) (hd : ∀ D, H D = none → ∀ H, Pv D xs.length H → Q (.ref D) H) : LCW (Itl K a) g tt te vs σ H Q :=
  fun D hD => lc_list (Pv D) (h0 D hD) (hl D hD) (hs D hD) (hd D hD)
theorem lw_tup {a : Addr} {xs : List V} (Pv : Addr → Nat → Hp → Prop) (h0 : ∀ D, H D = none → Pv D 0 (upd H D (.lst []))) (hl : ∀ D, H D = none → ∀ i H, i ≤ xs.length → Pv D i H → SqT K H a xs)
    (hs : ∀ D, H D = none → ∀ i x H, xs[i]? = some x → Pv D i H → g x (wipe σ vs) H fun σ2 H2 => wipe σ2 vs = wipe σ vs ∧ tt σ2 H2 fun b H3 =>
      if b = true then te σ2 H3 fun y H4 => ∃ acc, H4 D = some (.lst acc) ∧ acc.length < sizeLine ∧ Pv D (i + 1) (upd H4 D (.lst (acc ++ [y]))) else Pv D (i + 1) H3) (hd : ∀ D, H D = none → ∀ H, Pv D xs.length H → Q (.ref D) H) : LCW (Itt K a) g tt te vs σ H Q :=
  fun D hD => lc_tup (Pv D) (h0 D hD) (hl D hD) (hs D hD) (hd D hD)
theorem r_while {c : TT} (W : Nat → L2.St → Hp → Prop) (m : Nat) (w0 : W m σ H) (hs : ∀ m σ H, W m σ H → c σ H fun b H1 => if b = true then ∃ N : L2.St → Hp → Prop, (∀ σ' H', N σ' H' → ∃ m', m' < m ∧ W m' σ' H') ∧ tb ⟨N, rt, nx, N⟩ σ H1 else nx σ H1) : tWhile c tb ⟨nx, rt, bk, ct⟩ σ H := ⟨W, ⟨m, w0⟩, hs⟩
theorem r_yes {Q : Bool → Hp → Prop} (h : Q true H) : tYes σ H Q := h
theorem r_wh {c : TT} {D : Ends} (h : tWhile c tb D σ H) : tWhile c tb D σ H := h
end
/-! ### heaps -/
theorem same_new {H : Hp} {p : Addr} {o : HO} (h : H p = none) : Same H (upd H p o) := fun b x e => by
  rw [upd_ne (ne_of_none e h)]; exact e
theorem same_mut {H H' : Hp} {p : Addr} {o : HO} (s : Same H H') (h : H p = none) : Same H (upd H' p o) := fun b x e => by
  rw [upd_ne (ne_of_none e h)]; exact s b x e
theorem same_tup {H H' : Hp} {p : Addr} {o : HO} (s : Same H H') (e : H p = some o) : H' p = some o := s p o e

/-- lists of ints, as data -/
theorem dpI {K : PySem.W.Frag} {H : Hp} : ∀ ns : List Int, DpAll K H (ns.map V.int) (ns.map PyData.int)
  | [] => .nil
  | n :: ns => .cons (.int n) (dpI ns)
theorem dpS {K : PySem.W.Frag} {H : Hp} : ∀ ns : List Str, DpAll K H (ns.map V.str) (ns.map PyData.str)
  | [] => .nil
  | n :: ns => .cons (.str n) (dpS ns)
theorem r_eqD {K : PySem.W.Frag} {H : Hp} {Q : VK} {x y : V} {d e : PyData} (hx : Dp K H x d) (hy : Dp K H y e) (h1 : SeqAt.shaped d = true) (h2 : SeqAt.shaped e = true) (h : Q (.bl (PyData.eqv d e)) H) : rEqD K x y H Q := ⟨d, e, hx, hy, h1, h2, h⟩
theorem r_neD {K : PySem.W.Frag} {H : Hp} {Q : VK} {x y : V} {d e : PyData} (hx : Dp K H x d) (hy : Dp K H y e) (h1 : SeqAt.shaped d = true) (h2 : SeqAt.shaped e = true) (h : Q (.bl (!PyData.eqv d e)) H) : rNeD K x y H Q := ⟨d, e, hx, hy, h1, h2, h⟩
theorem kit_self {K : PySem.W.Frag} {t : Value} : PySem.W.kitOne K t t = some true := if_pos (beq_self_eq_true t)
/-- a list of three ints -/
def Dice (H : Hp) (d : Addr) : Prop := ∃ x y z : Int, H d = some (.lst [.int x, .int y, .int z])
/-- all but the dice at d stands as it stood -/
structure Kp (d : Addr) (H H' : Hp) : Prop where
  k : ∀ b o, b ≠ d → H b = some o → H' b = some o
  d0 : Dice H d
  d1 : Dice H' d
theorem Kp.refl {d : Addr} {H : Hp} (h : Dice H d) : Kp d H H := ⟨fun _ _ _ e => e, h, h⟩
theorem Kp.trans {d : Addr} {H H1 H2 : Hp} (a : Kp d H H1) (b : Kp d H1 H2) : Kp d H H2 := ⟨fun c o n e => b.k c o n (a.k c o n e), a.d0, b.d1⟩
theorem Kp.same {d : Addr} {H H1 H2 : Hp} (a : Kp d H H1) (b : Same H1 H2) : Kp d H H2 := ⟨fun c o n e => b c o (a.k c o n e), a.d0, let ⟨x, y, z, h⟩ := a.d1; ⟨x, y, z, b _ _ h⟩⟩
theorem Kp.of {d : Addr} {H H1 : Hp} (h : Dice H d) (b : Same H H1) : Kp d H H1 := (Kp.refl h).same b
theorem Kp.put {d : Addr} {H : Hp} {x y z : Int} (h : Dice H d) : Kp d H (upd H d (.lst [.int x, .int y, .int z])) := ⟨fun b o n e => by rw [upd_ne n]; exact e, h, ⟨x, y, z, upd_same⟩⟩
theorem Kp.put' {d : Addr} {H H1 : Hp} {x y z : Int} (a : Kp d H H1) : Kp d H (upd H1 d (.lst [.int x, .int y, .int z])) := a.trans (Kp.put a.d1)
theorem Kp.tup {d : Addr} {H H1 : Hp} (a : Kp d H H1) {p : Addr} {xs : List V} (e : H p = some (.tup xs)) : H1 p = some (.tup xs) := a.k p _ (by
  obtain ⟨x, y, z, h⟩ := a.d0
  exact ne_of e h (fun q => nomatch q)) e
theorem Kp.ins {d : Addr} {H H1 : Hp} (a : Kp d H H1) {p C dx : Addr} {fs : List (Str × V)} (e : H p = some (.ins C dx fs)) : H1 p = some (.ins C dx fs) := a.k p _ (by
  obtain ⟨x, y, z, h⟩ := a.d0
  exact ne_of e h (fun q => nomatch q)) e
theorem Kp.free {d : Addr} {H H1 : Hp} (a : Kp d H H1) {p : Addr} (e : H1 p = none) : H p = none := by
  cases q : H p with
  | none => rfl
  | some o =>
    by_cases h : p = d
    · obtain ⟨x, y, z, h'⟩ := a.d1
      rw [h, h'] at e; cases e
    · rw [a.k p o h q] at e; cases e
theorem Kp.new {d : Addr} {H H1 : Hp} (a : Kp d H H1) {p : Addr} {o : HO} (e : H1 p = none) : Kp d H (upd H1 p o) := a.same (same_new e)
theorem Kp.mut {d : Addr} {H H1 : Hp} (a : Kp d H H1) {p : Addr} {o : HO} (e : H p = none) : Kp d H (upd H1 p o) := ⟨fun b x n q => by
    rw [upd_ne (ne_of_none q e)]; exact a.k b x n q, a.d0, by
    obtain ⟨x, y, z, h⟩ := a.d0
    obtain ⟨x', y', z', h'⟩ := a.d1
    exact ⟨x', y', z', by rw [upd_ne (ne_of_none h e)]; exact h'⟩⟩
end Sx

/-! Er: error classes over any built-in one, whose own __init__ keeps one value. -/
namespace Er
open PySem PySem.Spec PyProof.Rows L2 Sx PySem.Builtin.ObjectAttr
/-- the class at C, its __init__ a def at fI, the mro of its built-in base bmB, made by nw -/
structure Own (K : PySem.W.Frag) (C fI : Addr) (bmB : List Value) (nw : String) : Prop where
  made : PySem.W.excInitIn K C bmB nw = true
  over : PySem.W.excOver K C bmB = true
  dict : PySem.W.hasDictIn K C = true
  sets : PySem.W.findIn K (.ref C) "__setattr__" = some (some (.builtin "object.__setattr__"))
  init : PySem.W.findIn K (.ref C) "__init__" = some (some (.ref fI))
  fn : PySem.W.isFn K (.ref fI) = true
  kept : PySem.W.keepIn K (.ref C) = true
  exc : PySem.W.subIn K (.ref C) (.type "BaseException") = some true
  ty : PySem.W.typeIn K (.ref C) = some (.type "type")
  gets : PySem.W.findIn K (.ref C) "__getattribute__" = some (some (.builtin "BaseException.__getattribute__"))
  none' : PySem.W.findIn K (.ref C) "__getattr__" = some none
theorem Own.raises {X : Cx} {C fI : Addr} {bm : List Value} {nw : String} (T : Own X.K C fI bm nw) : Raises X (.ref C) := raises_own T.exc T.ty
theorem Own.field {K : PySem.W.Frag} {C fI : Addr} {bm : List Value} {nw : String} (T : Own K C fI bm nw) : XfC K C := ⟨T.gets, T.none', T.exc, T.dict⟩
section
variable {X : Cx} {pins : List (Addr × Obj)} {σ : L2.St} {H : Hp} {s : Shared} {C fI : Addr} {bm : List Value} {nw B : String}
/-- the first field of a fresh error -/
theorem first_field {a : Addr} {f : Str} {y : V} {u : Value} {Q : Unit → Shared → Prop} {E : Value → Shared → Prop} {A : Around} (T : Own X.K C fI bm nw) (SF : StoreFacts B bm "object.__setattr__" "object")
    (no : PySem.W.findIn X.K (.ref C) f = some none) (I : Inv X pins σ H s) (ha : H a = some (exo a C none)) (r : RelV y u)
    (go : ∀ dx s', H dx = none → dx ≠ a → Inv X pins σ (upd (upd H dx (exd dx [(f, y)])) a (exo a C (some dx))) s' → Q () s') : wpAny (model X.prog X.w) A (setAttr (.ref a) f u) Q E s := by
  obtain ⟨t1, at0⟩ := exo_at I.hok ha
  obtain ⟨cd, hcd, hdict⟩ : ∃ cd, PySem.W.clsIn X.K C = some cd ∧ cd.hasDict = true := PySem.W.any_some T.dict
  obtain ⟨hp, gs, dr, tk, os⟩ := s
  have inst : PySem.W.InstAt hp a { cls := .ref C, dict := none, data := .fields #[.ref t1, .none, .none, .none, .bool false, .none] } C none := ⟨at0, rfl, rfl, trivial⟩
  refine PySem.W.set_plain I.kIn inst T.sets ?_
  have taker : PySem.W.takerIn X.K C f = some none := by unfold PySem.W.takerIn; rw [no]; rfl
  refine PySem.W.osa_openX SF I.kIn inst T.over taker fun bb => ?_
  have know : PySem.W.Looks (model X.prog X.w) hp (classData C) cd := PySem.W.looks_clsIn I.kIn hcd
  have apart : hp.objs.size ≠ a := fun z => Nat.lt_irrefl _ (by have q := Heap.lt_size at0; rw [← z] at q; exact q)
  show wpAny _ _ (storeInOwnDict (.ref a) (.ref C) (.str f tk) f u bb) _ _ _
  obtain ⟨nm, bs, mro, ns, qn, hd, sn, sb, ab, col, dl⟩ := cd
  dsimp only at hdict
  subst hdict
  unfold storeInOwnDict ownDictForStores
  repeat (first | with_reducible refine HandSPX.store_in_new ?_ ?_ | with_reducible refine wpAny_loadPart_at at0 ?_ | with_reducible refine know.at ?_ | wp_step)
  · refine ⟨_, #[], _, (Heap.get?_update_ne _ _ _ _ apart).trans (Heap.get?_push_at rfl rfl), rfl, ?_, fun _ => rfl⟩
    intro z hz
    exact absurd hz (by simp)
  · intro h3 t3 named same
    have at1 : (hp.push { cls := .type "dict", data := .dict #[] }).get? a = some _ := Heap.get?_push_of_some _ at0
    have old : ∀ b o, b ≠ a → hp.get? b = some o → h3.get? b = some o := fun b o hb e => (same.2 b (Nat.ne_of_lt (Heap.lt_size e))).trans ((Heap.get?_update_ne _ _ _ _ hb).trans (Heap.get?_push_of_some _ e))
    have at3 : h3.get? a = some { cls := .ref C, dict := some hp.objs.size, data := .fields #[.ref t1, .none, .none, .none, .bool false, .none] } := (same.2 a (Ne.symm apart)).trans (Heap.get?_update_self _ at1 rfl)
    have newD : H hp.objs.size = none := I.hok.fresh (Nat.le_refl _)
    -- in two steps: the dict beside the error as it was, then the error
    have back : (h3.update a fun _ => { cls := .ref C, dict := none, data := .fields #[.ref t1, .none, .none, .none, .bool false, .none] }).get? a = some { cls := .ref C, dict := none, data := .fields #[.ref t1, .none, .none, .none, .bool false, .none] } := Heap.get?_update_self _ at3 rfl
    have beside : ∀ b, b ≠ a → (h3.update a fun _ => { cls := .ref C, dict := none, data := .fields #[.ref t1, .none, .none, .none, .bool false, .none] }).get? b = h3.get? b := fun b hb => Heap.get?_update_ne _ _ _ _ hb
    have I1 : Inv X pins σ (upd H hp.objs.size (exd hp.objs.size [(f, y)])) ⟨h3.update a fun _ => { cls := .ref C, dict := none, data := .fields #[.ref t1, .none, .none, .none, .bool false, .none] }, gs, dr, t3, os⟩ := by
      refine I.laid (t' := t3) (fun b o e => ?_) (Nat.le_refl _) (exd_ok (named.at fun o q => (beside _ apart).trans q) (relO_put (fs := []) r fun g => True.intro))
      by_cases hb : b = a
      · subst hb; rw [at0] at e; cases e; exact back
      · rw [beside b hb]; exact old b o hb e
    have ha1 : upd H hp.objs.size (exd hp.objs.size [(f, y)]) a = some (exo a C none) := by rw [upd_ne (Ne.symm apart)]; exact ha
    have I2 := I1.write (t' := t3) (h' := h3) (x := a) (e := a) (o := exo a C (some hp.objs.size)) (by rw [ha1]; exact True.intro) (.inl rfl) (fun b o hb e => by rw [beside b hb] at e; exact e) ⟨_, at3⟩ (exo_ok at3)
    exact go _ _ newD apart I2
/-- self.f = e in such an __init__ -/
def tSelf (C : Addr) (f : Str) (to te : TE) : TS := fun D σ H => te σ H fun y H1 => to σ H1 fun x H2 => ∃ a : Addr, x = .ref a ∧ H2 a = some (exo a C none) ∧
  ∀ dx, H2 dx = none → dx ≠ a → D.nx σ (upd (upd H2 dx (exd dx [(f, y)])) a (exo a C (some dx)))
theorem ps_self {o e : Expr} {f : Str} {p1 pos : Pos} {to te : TE} (T : Own X.K C fI bm nw) (SF : StoreFacts B bm "object.__setattr__" "object") (no : PySem.W.findIn X.K (.ref C) f = some none) (ho : PE X o to) (he : PE X e te)
    (sw : swapsWith e (some (.Attribute o f p1)) pos.line X.env = pure false := by rfl) : PS X (.Assign [.Attribute o f p1] e pos) (tSelf C f to te) := by
  constructor
  intro pn s σ H D I now
  refine plainObj_wpAny_Assign_Attribute (thn (he.run pn s σ H _ I now) ?_) sw
  rintro v s1 ⟨y, H1, I1, r1, now1⟩
  refine thn (ho.run pn s1 σ H1 _ I1 now1) ?_
  rintro z s2 ⟨x, H2, I2, r2, a, rfl, ha, go⟩
  obtain rfl : z = Value.ref a := r2
  exact first_field T SF no I2 ha r1 fun dx s' n ne J => ⟨σ, _, J, go dx n ne⟩
end
/-- what __init__ promises -/
def spInit (C : Addr) (f : Str) : Sp := fun vs H Q _ => ∃ (a : Addr) (v : V), vs = [.ref a, v] ∧ H a = some (exo a C none) ∧ ∀ dx, H dx = none → dx ≠ a → Q .non (upd (upd H dx (exd dx [(f, v)])) a (exo a C (some dx)))
theorem r_self {C a : Addr} {f : Str} {to te : TE} {nx bk ct : L2.St → Hp → Prop} {rt : VK} {σ : L2.St} {H : Hp}
    (h : te σ H fun y H1 => to σ H1 fun x H2 => ∃ a : Addr, x = .ref a ∧ H2 a = some (exo a C none) ∧ ∀ dx, H2 dx = none → dx ≠ a → nx σ (upd (upd H2 dx (exd dx [(f, y)])) a (exo a C (some dx)))) : tSelf C f to te ⟨nx, rt, bk, ct⟩ σ H := h
/-- C(e) -/
def tErr (C : Addr) (f : Str) (ta : TA) : L2.St → Hp → XK → Prop := fun σ H Q => ta σ H fun vs H1 => ∃ v, vs = [v] ∧ ∀ d, H1 d = none → Q (.ref C) (some d) (upd H1 d (.xd [(f, v)]))
theorem pmk_err {X : Cx} {x f : Str} {C fI : Addr} {bm : List Value} {nw B ini : String} {k : Nat} {fd : FuncData} {ps : List Str} {e : Expr} {ta : TA} {p pos : Pos} (T : Own X.K C fI bm nw) (F : ExcBaseFacts B nw ini bm)
    (F1 : FnOk X.prog X.w X.K X.mg X.base C8.CX0 k fI fd ps (spInit C f)) (hr : Room (k + 1) X.A) (hb : Binds X.K fd ps []) (hg : Gl X x) (hm : X.mg x = some (.ref C)) (ha : PA X [e] ta)
    (nd : (x == ("__debug__" : Str)) = false := by decide) (he : starEach (e :: []) X.env = (false, eval e X.env) :: starEach [] X.env := by rfl) (hpl : (backTo pos (starEach [] X.env)).any (·.1) = false := by rfl) :
    PMk X (.Call (.Name x p) [e] [] pos) (tErr C f ta) := by
  intro pins s σ H Q I now
  refine wpAny_Call_Name_kw (ld_glob I hg hm ?_ nd)
  refine PySem.W.callWith_K (h₀ := X.base) I.ok.mod.kin T.kept (thn (ha.run pos pins s σ H _ I now) ?_) he hpl
  rintro us s1 ⟨vs, H1, I1, r1, v, rfl, go⟩
  refine ⟨I1.kIn, ?_⟩
  show wpAny _ _ (call (.ref C) us) _ _ _
  obtain ⟨nm, N', qn, bs, bm', hdct, sn, sub, ab, col, dd, k0, k1, k2, k3, k5, hC, tail⟩ := PySem.W.excInit_of I1.kIn T.made
  obtain ⟨hp, g, dr, tk, os⟩ := s1
  cases r1 with
  | @cons _ v' _ us' rv rest =>
    cases rest
    have grow : hp.objs.size ≤ hp.objs.size + 1 := Nat.le_succ _
    have fresh : H1 (hp.objs.size + 1) = none := I1.hok.fresh grow
    have kept : ∀ b o, hp.get? b = some o → ((hp.push (PySem.W.kdv_tup [v'])).push (PySem.HandSPX.excO C hp.objs.size)).get? b = some o := fun b o z => Heap.get?_push_of_some _ (Heap.get?_push_of_some _ z)
    have there : ((hp.push (PySem.W.kdv_tup [v'])).push (PySem.HandSPX.excO C hp.objs.size)).get? (hp.objs.size + 1) = some (PySem.HandSPX.excO C hp.objs.size) := by heap_get
    have I2 : Inv X pins σ (upd H1 (hp.objs.size + 1) (exo (hp.objs.size + 1) C none)) ⟨(hp.push (PySem.W.kdv_tup [v'])).push (PySem.HandSPX.excO C hp.objs.size), g, dr, tk, os⟩ := I1.laid (t' := tk) kept grow (exo_ok there)
    have wish : spInit C f [.ref (hp.objs.size + 1), v] (upd H1 (hp.objs.size + 1) (exo (hp.objs.size + 1) C none))
        (fun w H2 => w = .non ∧ ∃ d : Addr, H2 (hp.objs.size + 1) = some (exo (hp.objs.size + 1) C (some d)) ∧ H2 d = some (exd d [(f, v)]) ∧ H1 d = none ∧ Q (.ref C) (some d) (upd (del H2 (hp.objs.size + 1)) d (.xd [(f, v)]))) (fun _ _ _ => False) := by
      refine ⟨_, v, rfl, upd_same, fun dx n ne => ⟨rfl, dx, upd_same, by rw [upd_ne ne, upd_same], by rw [upd_ne ne] at n; exact n, ?_⟩⟩
      have n1 : H1 dx = none := by rw [upd_ne ne] at n; exact n
      have same : upd (del (upd (upd (upd H1 (hp.objs.size + 1) (exo (hp.objs.size + 1) C none)) dx (exd dx [(f, v)])) (hp.objs.size + 1) (exo (hp.objs.size + 1) C (some dx))) (hp.objs.size + 1)) dx (.xd [(f, v)]) = upd H1 dx (.xd [(f, v)]) := by
        funext b
        by_cases h1 : b = dx
        · subst h1; rw [upd_same, upd_same]
        · rw [upd_ne h1, upd_ne h1]
          by_cases h2 : b = hp.objs.size + 1
          · subst h2; rw [del_same, fresh]
          · rw [del_ne h2, upd_ne h2, upd_ne h1, upd_ne h2]
      rw [same]
      exact go dx n1
    have args : Vals [V.ref (hp.objs.size + 1), v] [Value.ref (hp.objs.size + 1), v'] := .cons rfl (.cons rv .nil)
    have len : ([Value.ref (hp.objs.size + 1), v'] : List Value).length = ps.length := by have z := F1.len _ _ _ _ wish; exact z ▸ rfl
    have isf : PySem.W.typeIn X.K (.ref fI) = some (.type "function") := by
      have z := T.fn
      unfold PySem.W.isFn at z
      exact beq_iff_eq.mp z
    refine wpAny_call (PySem.HandSPX.call_own F tail hC (PySem.W.looks_findIn I1.kIn T.init) (fun self => PySem.W.bind_fn I1.kIn self isf) (by rw [sizeLine_eq]; exact (by decide : (1 : Nat) ≤ 16777216)) ?_)
    refine codeAny_mono (F1.run _ X.stack _ _ ⟨[Value.ref (hp.objs.size + 1), v'], []⟩ [Value.ref (hp.objs.size + 1), v'] _ _ (fun _ _ _ => False) (hr.make C _ []) (I2.env0.make C _ []) ?_ args wish) ?_
    · have z := hb ⟨(hp.push (PySem.W.kdv_tup [v'])).push (PySem.HandSPX.excO C hp.objs.size), g, dr, tk, os⟩ [Value.ref (hp.objs.size + 1), v'] I2.kIn
      rw [List.append_nil] at z
      exact z len
    · intro res s' got
      cases res with
      | error er => exact (show False from got).elim
      | ok fl =>
        cases fl with
        | next => exact False.elim got
        | brk => exact False.elim got
        | cont => exact False.elim got
        | ret u =>
          obtain ⟨w', H2, os2, bare2, un2, hok2, rw', ew, d, ea, ed, hd1, q2⟩ := got
          subst ew
          obtain ⟨h2, g2, d2, t2, os'⟩ := s'
          exact ⟨rw', mk_end T.raises I1 grow kept un2 hok2 os2 bare2 ea ed hd1 q2⟩
theorem ps_err {X : Cx} {W : WX} {x f : Str} {C fI : Addr} {bm : List Value} {nw B ini : String} {k : Nat} {fd : FuncData} {ps : List Str} {e : Expr} {ta : TA} {p pos pos2 : Pos} (hc : X.calm = true) (tk : Takes X W) (T : Own X.K C fI bm nw) (F : ExcBaseFacts B nw ini bm)
    (F1 : FnOk X.prog X.w X.K X.mg X.base C8.CX0 k fI fd ps (spInit C f)) (hr : Room (k + 1) X.A) (hb : Binds X.K fd ps []) (hg : Gl X x) (hm : X.mg x = some (.ref C)) (ha : PA X [e] ta)
    (nd : (x == ("__debug__" : Str)) = false := by decide) (he : starEach (e :: []) X.env = (false, eval e X.env) :: starEach [] X.env := by rfl) (hpl : (backTo pos (starEach [] X.env)).any (·.1) = false := by rfl) :
    PS X (.Raise (some (.Call (.Name x p) [e] [] pos)) none pos2) (fun _ σ H => tErr C f ta σ H fun cls d H' => W cls d σ H') :=
  ps_raise hc tk (pmk_err T F F1 hr hb hg hm ha nd he hpl)
/-- raise C(e), raise C('m'): what comes out -/
def tRaise (C : Addr) (f : Str) (E : XK) (ta : TA) : TS := fun _ σ H => tErr C f ta σ H fun cls d H' => E cls d H'
def tRaise0 (C : Addr) (E : XK) : TS := fun _ _ H => E (.ref C) none H
theorem ps_raise1 {X : Cx} {E : XK} {x f : Str} {C fI : Addr} {bm : List Value} {nw B ini : String} {k : Nat} {fd : FuncData} {ps : List Str} {e : Expr} {ta : TA} {p pos pos2 : Pos} (hc : X.calm = true) (tk : Takes X (fun cls d _ H => E cls d H)) (T : Own X.K C fI bm nw) (F : ExcBaseFacts B nw ini bm)
    (F1 : FnOk X.prog X.w X.K X.mg X.base C8.CX0 k fI fd ps (spInit C f)) (hr : Room (k + 1) X.A) (hb : Binds X.K fd ps []) (hg : Gl X x) (hm : X.mg x = some (.ref C)) (ha : PA X [e] ta)
    (nd : (x == ("__debug__" : Str)) = false := by decide) (he : starEach (e :: []) X.env = (false, eval e X.env) :: starEach [] X.env := by rfl) (hpl : (backTo pos (starEach [] X.env)).any (·.1) = false := by rfl) :
    PS X (.Raise (some (.Call (.Name x p) [e] [] pos)) none pos2) (tRaise C f E ta) := ps_err hc tk T F F1 hr hb hg hm ha nd he hpl
theorem ps_raise0 {X : Cx} {E : XK} {x m : Str} {C : Addr} {bm : List Value} {nw B ini : String} {j : Nat} {p p2 pos pos2 : Pos} (hc : X.calm = true) (tk : Takes X (fun cls d _ H => E cls d H)) (F : ExcBaseFacts B nw ini bm)
    (q : PySem.W.excIn X.K C bm nw = true) (hm : X.mg x = some (.ref C)) (kp : PySem.W.keepIn X.K (.ref C) = true) (ex : PySem.W.subIn X.K (.ref C) (.type "BaseException") = some true) (ty : PySem.W.typeIn X.K (.ref C) = some (.type "type")) (hg : Gl X x)
    (nd : (x == ("__debug__" : Str)) = false := by decide) : PS X (.Raise (some (.Call (.Name x p) [.Constant (.str m) j p2] [] pos)) none pos2) (tRaise0 C E) := ps_raise hc tk (pmk_own F q hm kp (raises_own ex ty) hg nd)
theorem r_raise {C : Addr} {f : Str} {E : XK} {ta : TA} {D : Ends} {σ : L2.St} {H : Hp} (h : ta σ H fun vs H1 => ∃ v, vs = [v] ∧ ∀ d, H1 d = none → E (.ref C) (some d) (upd H1 d (.xd [(f, v)]))) : tRaise C f E ta D σ H := h
theorem r_raise0 {C : Addr} {E : XK} {D : Ends} {σ : L2.St} {H : Hp} (h : E (.ref C) none H) : tRaise0 C E D σ H := h
/-! ### the built-in classes above -/
abbrev bmValueError : List Value := [.type "ValueError", .type "Exception", .type "BaseException", .type "object"]
abbrev bmIndexError : List Value := [.type "IndexError", .type "LookupError", .type "Exception", .type "BaseException", .type "object"]
abbrev bmArithmeticError : List Value := [.type "ArithmeticError", .type "Exception", .type "BaseException", .type "object"]
abbrev bmOverflowError : List Value := [.type "OverflowError", .type "ArithmeticError", .type "Exception", .type "BaseException", .type "object"]
abbrev bmLookupError : List Value := [.type "LookupError", .type "Exception", .type "BaseException", .type "object"]
/-- which class an error is of, for an except clause -/
theorem exm {K : PySem.W.Frag} {R C : Addr} {b : Bool} (h1 : PySem.W.subIn K (.ref R) (.type "BaseException") = some true) (c1 : PySem.W.subIn K (.ref C) (.type "BaseException") = some true) (h2 : PySem.W.isClsIn K C = true) (h3 : PySem.W.typeIn K (.ref C) = some (.type "type")) (h4 : PySem.W.subIn K (.ref R) (.ref C) = some b) :
    PySem.W.exmOne K (.ref R) (.ref C) = some b := by
  have z1 : (PySem.W.subIn K (.ref C) (.type "BaseException") == some true) = true := by rw [c1] <;> rfl
  have z2 : ((PySem.W.clsIn K C).isSome && PySem.W.typeIn K (.ref C) == some (.type "type")) = true := by
    have h2' : (PySem.W.clsIn K C).isSome = true := h2
    rw [h2', h3] <;> rfl
  show (if (PySem.W.subIn K (.ref C) (.type "BaseException") == some true) = true then (if ((PySem.W.clsIn K C).isSome && PySem.W.typeIn K (.ref C) == some (.type "type")) = true then PySem.W.subIn K (.ref R) (.ref C) else none) else none) = some b
  rw [if_pos z1, if_pos z2]
  exact h4
end Er

/-! En: functions that are run where nothing is being shown (repr of a list asks for it), calls of them, and the end of a law with tables. -/
namespace En
open PySem PySem.Spec PyProof.Rows L2 LamX
/-- as FnOk, but only where the guards are known to be none -/
structure FnG (P : Program) (w : World) (K : PySem.W.Frag) (mg : Str → Option Value) (base : Heap) (CX : CXT) (k : Nat) (f : Addr) (fd : FuncData) (ps : List Str) (sp : Sp) : Prop where
  many : ∀ vs H Q E, sp vs H Q E → vs.length = ps.length
  goes : ∀ (A : Around) (outer : List Env) (s : Shared) (H : Hp) (args : Args) (us : List Value) (vs : List V) (Q : VK) (E : XK), A.guards = some [] → Room k A → Env0 P w K mg base A outer s H → BindsTo s fd args (ps.zip us) → Vals vs us → sp vs H Q E →
    codeAny (model P w) A (.call (.ref f) args) (CR CX outer P w H s Q E) s
section
variable {P : Program} {w : World} {K : PySem.W.Frag} {mg : Str → Option Value} {base : Heap} {k : Nat} {f : Addr} {fd : FuncData} {ps : List Str} {sp : Sp}
theorem fnG {x qual : Str} {st : Stmt} {N : List Str} (F : Fun K x qual st f fd) (S : FnScope N ps (defScope st)) (many : ∀ vs H Q E, sp vs H Q E → vs.length = ps.length)
    (go : ∀ (cdv : Value) (A : Around) (outer : List Env) (s : Shared) (H : Hp) (vs : List V) (Q : VK) (E : XK), fd.code = cdv → (A.deeper (envOfC qual (defScope st) s.heap.objs.size f cdv)).guards = some [] → Room k (A.deeper (envOfC qual (defScope st) s.heap.objs.size f cdv)) → sp vs H Q E →
      ∃ t, PSs (cxOf CX0 P w K mg base N qual (defScope st) f cdv A outer s H E).nox (defBody st) t ∧ t { nx := fun _ H' => Q .non H', rt := Q } (start N vs) H) : FnG P w K mg base CX0 (k + 1) f fd ps sp := by
  obtain ⟨oc, od, kV, doc, pm, an, cdv, ct, osl, rfl, lk, code⟩ := F.ex
  refine ⟨many, ?_⟩
  intro A outer s H args us vs Q E clear room e0 binds args' wish
  exact run_ofS lk code S room e0 binds args' (many _ _ _ _ wish) fun room' => (go cdv A outer s H vs Q E rfl clear room' wish).imp fun t z => ⟨z.1.nox, z.2⟩
end
section
variable {X : Cx} {CX : CXT} {k : Nat} {f : Addr} {fd : FuncData} {ps : List Str} {sp : Sp} {E : XK} {x : Str} {p pos : Pos} {e : Expr} {es : List Expr} {t : TA}
/-- a call of such a function, from one of its kind -/
theorem pe_callG (clear : X.A.guards = some []) (F : FnG X.prog X.w X.K X.mg X.base CX k f fd ps sp) (room : Room k X.A) (hg : Gl X x) (hm : X.mg x = some (.ref f)) (hk : PySem.W.keepIn X.K (.ref f) = true) (hb : Binds X.K fd ps []) (pass : Passes CX X E) (ha : PA X (e :: es) t)
    (nd : (x == ("__debug__" : Str)) = false := by decide) (he : starEach (e :: es) X.env = (false, eval e X.env) :: starEach es X.env := by rfl) (hpl : (backTo pos (starEach es X.env)).any (·.1) = false := by rfl) :
    PE X (.Call (.Name x p) (e :: es) [] pos) (tCall sp [] E t) := by
  constructor
  intro pins s σ H Q I now
  refine wpAny_Call_Name_kw (ld_glob I hg hm ?_ nd)
  refine PySem.W.callWith_K (h₀ := X.base) I.ok.mod.kin hk (thn (ha.run pos pins s σ H _ I now) ?_) he hpl
  rintro us s1 ⟨vs, H1, I1, r, wish⟩
  refine ⟨I1.kIn, ?_⟩
  rw [List.append_nil] at wish
  have len : us.length = ps.length := by rw [← r.length]; exact F.many _ _ _ _ wish
  have b := hb s1 us I1.kIn (by rw [List.append_nil]; exact len)
  rw [List.append_nil] at b
  refine wpAny_call (codeAny_mono (F.goes X.A X.stack s1 H1 ⟨us, []⟩ us vs Q E clear room I1.env0 b r wish) ?_)
  intro res s' got
  cases res with
  | error er => exact pass pins σ H1 s1 er s' I1 got
  | ok fl =>
    cases fl with
    | ret u => exact I1.after got
    | next => exact False.elim got
    | brk => exact False.elim got
    | cont => exact False.elim got
end
/-- nothing comes out where nothing may -/
theorem passN {X : Cx} : Passes (L2.CX X.prog X.w) X (fun _ _ _ => False) := fun _ _ _ _ _ _ _ c => by
  obtain ⟨_, _, _, _, _, _, _, _, _, _, _, _, _, _, z⟩ := c

/-- f(lambda: body), told by f's own facts -/
theorem pe_lam {X : Cx} {T : List (Addr × Str)} {TT : (XK → Hp → VK → Prop) → Hp → VK → Prop} {x a : Str} {st : Stmt} {g c P : Addr} {fd : FuncData} {k : Nat} {Ng : List Str} {params : Arguments} {body : Expr} {scope : Scope} {t : XK → TE} {p lpos pos : Pos}
    (F : Fun X.K x x st g fd) (hm : X.mg x = some (.ref g)) (hb : L2.Binds X.K fd [a] []) (Sg : FnScope Ng [a] (defScope st)) (gives : ∀ cdv, GivesTo X Ng x (defScope st) g cdv (defBody st) a (X.env.qual ++ "<lambda>") TT)
    (TB : TabB X.base X.mg c P) (code : X.env.code = .ref c) (hmT : (P, X.env.qual ++ "<lambda>") ∈ T) (hu : ∀ p ∈ T, p.1 = P → p.2 = X.env.qual ++ "<lambda>") (room : Room (k + 2) X.A) (L : LamS X.env.scope scope)
    (run : ∀ (A : Around) (outer : List Env) (s : Shared) (H : Hp) (E : XK) (f c' : Addr), Room k (A.deeper (lamEnv X scope s.heap.objs.size f c')) → PE (lamCx X A outer s H E scope f c') body (t E))
    (hNg : Ng[0]? = some a := by rfl) (hva : Vis (defScope st) a := by exact .inl rfl) (hg : Gl X x := by rfl) (hdef : defaultsOf params X.env = ([], []) := by rfl) (hbind : ∀ (q : Str) (cl : List (Str × Addr)) (pm cv ctv : Value), bindArgs (PySem.W.kla_fn "<lambda>" q params body scope cl pm cv ctv) ⟨[], []⟩ = pure [] := by intros; rfl)
    (hdb : (x == ("__debug__" : Str)) = false := by decide) (hd : (a == ("__debug__" : Str)) = false := by decide) (hcd : (a == ("__classdict__" : Str)) = false := by decide) :
    PE X (.Call (.Name x p) [.Lambda params body scope lpos] [] pos) (tLam T TT t) := by
  obtain ⟨oc, od, kV, doc, pm, an, cdv, ct, osl, rfl, lk, codeF⟩ := F.ex
  exact pe_lamcall hg hm F.kp lk codeF hb Sg hNg hva (gives cdv) TB code hmT hu room L hdef hbind run hdb hd hcd
/-! ### values that are no integers -/
theorem TyOf_mono {K : PySem.W.Frag} {H H' : Hp} (s : ∀ b o, H b = some o → H' b = some o) {x : V} {t : Value} (h : TyOf K H x t) : TyOf K H' x t := by
  cases h with
  | non => exact .non
  | bl x => exact .bl x
  | int i => exact .int i
  | str x => exact .str x
  | flt x => exact .flt x
  | lst e => exact .lst (s _ _ e)
  | frz e => exact .frz (s _ _ e)
  | tup e => exact .tup (s _ _ e)
  | dK e => exact .dK (s _ _ e)
  | dT e => exact .dT (s _ _ e)
  | ins e cl ha hn hk hm => exact .ins (s _ _ e) cl ha hn hk hm
theorem TyX_mono {K : PySem.W.Frag} {H H' : Hp} (s : ∀ b o, H b = some o → H' b = some o) {x : V} {t : Value} (h : TyX K H x t) : TyX K H' x t := by
  cases h with
  | base h => exact .base (TyOf_mono s h)
  | byt b => exact .byt b
  | set e => exact .set (s _ _ e)
  | kList e c => exact .kList e c
  | kTuple e c => exact .kTuple e c
  | kDict e c => exact .kDict e c
  | fTuple e => exact .fTuple (s _ _ e)
  | fDict e => exact .fDict (s _ _ e)
def NoNum (K : PySem.W.Frag) (H : Hp) (v : V) : Prop := ∃ t b1 b2, TyX K H v t ∧ PySem.W.kitOne K t (.type "int") = some b1 ∧ PySem.W.kitOne K t (.type "bool") = some b2 ∧ (b1 && !b2) = false
theorem NoNum.mono {K : PySem.W.Frag} {H H' : Hp} {v : V} (h : NoNum K H v) (s : ∀ b o, H b = some o → H' b = some o) : NoNum K H' v := by
  obtain ⟨t, b1, b2, h1, h2, h3, h4⟩ := h
  exact ⟨t, b1, b2, TyX_mono s h1, h2, h3, h4⟩
theorem noNum_none {K : PySem.W.Frag} {H : Hp} : NoNum K H .non := ⟨_, false, false, .base .non, by rfl, by rfl, rfl⟩
theorem noNum_bl {K : PySem.W.Frag} {H : Hp} (b : Bool) : NoNum K H (.bl b) := ⟨_, true, true, .base (.bl b), by rfl, by rfl, rfl⟩
theorem noNum_str {K : PySem.W.Frag} {H : Hp} (z : Str) : NoNum K H (.str z) := ⟨_, false, false, .base (.str z), by rfl, by rfl, rfl⟩
theorem noNum_lst {K : PySem.W.Frag} {H : Hp} {a : Addr} {xs : List V} (e : H a = some (.lst xs)) : NoNum K H (.ref a) := ⟨_, false, false, .base (.lst e), by rfl, by rfl, rfl⟩
theorem noNum_tup {K : PySem.W.Frag} {H : Hp} {a : Addr} {xs : List V} (e : H a = some (.tup xs)) : NoNum K H (.ref a) := ⟨_, false, false, .base (.tup e), by rfl, by rfl, rfl⟩
theorem noNum_dK {K : PySem.W.Frag} {H : Hp} {a : Addr} {xs : List (Key × V)} (e : H a = some (.dK xs)) : NoNum K H (.ref a) := ⟨_, false, false, .base (.dK e), by rfl, by rfl, rfl⟩
/-! ### the end -/
/-- a tracked heap with which a law begins: the tables, empty, and the script, frozen unless the written part tells it -/
structure Begin (K : PySem.W.Frag) (T : List Addr) (a : Addr) (ns : List Int) (P : Program) (w : World) (h : Heap) (H : Hp) : Prop where
  tab : ∀ b, b ∈ T → H b = some (.tbl #[])
  only : ∀ b, H b = none ∨ b ∈ T ∨ ∃ o u, H b = some (.frz o (.lst u))
  where' : ∀ b, H b ≠ none → b = a ∨ b ∈ T
  script : SqL K H a (ns.map V.int)
  good : HOk P w H h
  out : H a ≠ none → K.lookup a = none
section
variable {P : Program} {w : World} {K : PySem.W.Frag} {mg mb : Str → Option Value} {k : Nat} {fa a : Addr} {cs : List (Addr × Addr)} {fd : FuncData} {x : Str} {sp : Sp} {s₁ : Shared} {vs : List Value} {ns : List Int} {H : Hp}
theorem law_goes (KX : K.In s₁.heap) (G : s₁.heap.Ns mainGlobals mg) (GB : s₁.heap.Ns builtinsNs mb) (boot : ∀ y : Str, y ≠ "__name__" → mb y = bootBuiltins y) (lim : s₁.heap.NoLimit) (bare : s₁.gens = #[])
    (empty : ∀ p ∈ cs, s₁.heap.get? p.2 = some { cls := .none, data := .fields #[] }) (outside : ∀ p ∈ cs, K.lookup p.2 = none) (codes : ∀ p ∈ cs, PySem.W.CodeHd s₁.heap p.1 p.2)
    (bmod : ∃ (bm : Addr) (ob : Obj), mg "__builtins__" = some (.ref bm) ∧ bm ≠ builtinsNs ∧ s₁.heap.get? bm = some ob ∧ ob.cls = .type "module" ∧ ob.dict = some builtinsNs ∧ ob.data = .plain)
    (there : s₁.heap.get? a = some { cls := .type "list", data := .seq vs.toArray }) (room : Room k callerA)
    (F : ∀ base : Heap, K.In base → base.Ns mainGlobals mg → (∀ p ∈ cs, TabB base mg p.1 p.2) → FnG P w K mg base CX0 k fa fd [x] sp) (binds : ∀ (s : Shared) (u : Value), BindsTo s fd ⟨[u], []⟩ [(x, u)])
    (B : Begin K (cs.map (·.2)) a ns P w s₁.heap H) (wish : sp [.ref a] H (fun v _ => v = .bl true) fun _ _ _ => False) :
    codeAny (model P w) callerA (.call (.ref fa) ⟨[.ref a], []⟩) (fun r s' => r = .ok (.ret (.bool true)) ∧ OldK s₁.heap s'.heap ∧ s'.os = s₁.os ∧ AllBare s'.gens) s₁ := by
  have inT : ∀ p ∈ cs, p.2 ∈ cs.map (·.2) := fun p m => List.mem_map.mpr ⟨p, m, rfl⟩
  have atT : ∀ b, b ∈ cs.map (·.2) → s₁.heap.get? b = some { cls := .none, data := .fields #[] } := by
    intro b m
    obtain ⟨p, mp, rfl⟩ := List.mem_map.mp m
    exact empty p mp
  have untracked : ∀ {b : Addr} {o : Obj}, s₁.heap.get? b = some o → (∀ y n, o.data ≠ .seq y n) → o.data ≠ .fields #[] → H b = none := by
    intro b o e n1 n2
    by_cases q : H b = none
    · exact q
    · rcases B.where' b q with rfl | m
      · rw [there] at e; cases e; exact absurd rfl (n1 _ _)
      · rw [atT b m] at e; cases e; exact absurd rfl n2
  have seen : ∀ {b : Addr} {o : Obj}, s₁.heap.get? b = some o → H b = none → (hidT s₁.heap H).get? b = some o := fun e n => hidT_get e n
  have names : ∀ {b : Addr} {m : Str → Option Value}, s₁.heap.Ns b m → (hidT s₁.heap H).Ns b m := by
    rintro b m ⟨o, es, ep, e, dd, r⟩
    refine ⟨o, es, ep, seen e (untracked e ?_ ?_), dd, r⟩
    · intro y n z; rw [dd] at z; cases z
    · intro z; rw [dd] at z; cases z
  have known : K.In (hidT s₁.heap H) := by
    intro b o e
    refine seen (KX b o e) ?_
    by_cases q : H b = none
    · exact q
    · rcases B.where' b q with rfl | m
      · rw [B.out q] at e; cases e
      · obtain ⟨p, mp, rfl⟩ := List.mem_map.mp m
        rw [outside p mp] at e; cases e
  have notDict : ∀ {b : Addr} {m : Str → Option Value} {q : Addr}, s₁.heap.Ns b m → q ∈ cs.map (·.2) → b ≠ q := by
    rintro b m q ⟨o, es, ep, e, dd, _⟩ mq rfl
    rw [atT b mq] at e; cases e; cases dd
  have tabs : ∀ p ∈ cs, TabB (hidT s₁.heap H) mg p.1 p.2 := by
    intro p mp
    refine ⟨?_, ?_, notDict G (inT p mp)⟩
    · obtain ⟨o, us, file, tf, flags, tg, inF, text, tt, e1, r1, r2, r3, r4, rest⟩ := codes p mp
      refine ⟨o, us, file, tf, flags, tg, inF, text, tt, seen e1 (untracked e1 ?_ ?_), r1, r2, r3, r4, rest⟩
      · intro y n z; rw [r2] at z; cases z
      · intro z; rw [r2] at z; cases z; simp at r3
    · obtain ⟨bm, ob, b1, b2, b3, b4, b5, b6⟩ := bmod
      refine ⟨bm, ob, b1, b2, ?_, ?_, seen b3 (untracked b3 ?_ ?_), b4, b5, b6⟩
      · rintro rfl
        obtain ⟨o, es, ep, e, dd, _⟩ := G
        rw [e] at b3; cases b3; rw [dd] at b6; cases b6
      · rintro rfl
        rw [empty p mp] at b3; cases b3; cases b6
      · intro y n z; rw [b6] at z; cases z
      · intro z; rw [b6] at z; cases z
  have base : L2.Mod K mg (hidT s₁.heap H) := ⟨known, names G, ⟨mb, names GB, boot⟩, lim.elim fun mc ⟨h1, h2⟩ => ⟨mc, names h1, h2⟩⟩
  have e0 : Env0 P w K mg (hidT s₁.heap H) callerA [] s₁ H := ⟨rfl, base, fun b o e => of_hidT e, Nat.le_of_eq (hidT_size _ _), trivial, fun b hb => absurd (show b ∈ ([] : List Addr) from hb) (by simp), B.good, .of_eq bare⟩
  refine codeAny_mono ((F _ known (names G) tabs).goes callerA [] s₁ H ⟨[.ref a], []⟩ [.ref a] [.ref a] _ _ rfl room e0 (binds s₁ (.ref a)) (.cons rfl .nil) wish) ?_
  intro r s' got
  cases r with
  | error er => exact (show False from got).elim
  | ok fl =>
    cases fl with
    | next => exact False.elim got
    | brk => exact False.elim got
    | cont => exact False.elim got
    | ret u =>
      obtain ⟨v, H', os, bare', un, good', rv, rfl⟩ := got
      obtain rfl : u = Value.bool true := rv
      have stays : ∀ b o, b ∉ cs.map (·.2) → s₁.heap.get? b = some o → s'.heap.get? b = some o := by
        intro b o nb e
        by_cases q : H b = none
        · exact un.keep b o e q (by intro z; exact absurd (show b ∈ ([] : List Addr) from z) (by simp)) (by simp)
        · rcases B.only b with z | z | ⟨ob, u', z⟩
          · exact absurd z q
          · exact absurd z nb
          · obtain ⟨e1, _⟩ := B.good b _ z
            obtain ⟨e2, _⟩ := good' b _ (un.frzs b ob _ z)
            rw [e] at e1; cases e1; exact e2
      have grown : ∀ p ∈ cs, ∃ more : Array Value, s'.heap.get? p.2 = some { cls := .none, data := .fields more } := by
        intro p mp
        obtain ⟨more, z⟩ := un.tbls p.2 #[] (B.tab _ (inT p mp))
        exact ⟨_, good' p.2 _ z⟩
      refine ⟨rfl, ⟨?_, ?_⟩, os, bare'⟩
      · intro b o e
        by_cases hb : b ∈ cs.map (·.2)
        · obtain ⟨p, mp, rfl⟩ := List.mem_map.mp hb
          obtain ⟨more, hm⟩ := grown p mp
          rw [empty p mp] at e; cases e
          exact .inr (.inl ⟨((codes p mp).tab (empty p mp)).isCodeTable, rfl, #[], more, rfl, by rw [Array.empty_append]; exact hm⟩)
        · exact .inl (stays b o hb e)
      · intro b o e
        by_cases hb : b ∈ cs.map (·.2)
        · obtain ⟨p, mp, rfl⟩ := List.mem_map.mp hb
          obtain ⟨more, hm⟩ := grown p mp
          exact ⟨_, hm⟩
        · exact ⟨o, stays b o hb e⟩
/-- there is such a heap -/
theorem begin_is (KX : K.In s₁.heap) (T : List Addr) (empty : ∀ b ∈ T, s₁.heap.get? b = some { cls := .none, data := .fields #[] }) (there : s₁.heap.get? a = some { cls := .type "list", data := .seq vs.toArray }) (numb : IntsAre vs ns) (few : ns.length ≤ sizeLine) :
    ∃ H, Begin K T a ns P w s₁.heap H := by
  have rv := vals_ints numb
  have lenV := numb.length
  have apart : a ∉ T := by
    intro m
    have q := empty a m
    rw [there] at q; cases q
  have tabOk : ∀ {H : Hp} {b : Addr}, b ∈ T → ObjOk P w H s₁.heap b (.tbl #[]) := fun m => empty _ m
  cases known : K.lookup a with
  | some o =>
    have e := KX a o known
    rw [there] at e; cases e
    refine ⟨fun b => if b ∈ T then some (.tbl #[]) else none, fun b m => if_pos m, fun b => ?_, fun b z => ?_, ?_, fun b u z => ?_, fun z => absurd (if_neg apart) z⟩
    · by_cases m : b ∈ T
      · exact .inr (.inl m)
      · exact .inl (if_neg m)
    · by_cases m : b ∈ T
      · exact .inr m
      · exact absurd (if_neg m) z
    · exact .inr ⟨_, vs.toArray, _, known, rfl, rfl, rfl, by rw [List.size_toArray, lenV]; exact few, by simpa using rv⟩
    · by_cases m : b ∈ T
      · simp only [if_pos m] at z; cases z; exact tabOk m
      · simp only [if_neg m] at z; cases z
  | none =>
    refine ⟨fun b => if b ∈ T then some (.tbl #[]) else if b = a then some (.frz { cls := .type "list", data := .seq vs.toArray } (.lst (ns.map V.int))) else none, fun b m => if_pos m, fun b => ?_, fun b z => ?_, ?_, fun b u z => ?_, fun _ => known⟩
    · by_cases m : b ∈ T
      · exact .inr (.inl m)
      · by_cases q : b = a
        · exact .inr (.inr ⟨{ cls := .type "list", data := .seq vs.toArray }, ns.map V.int, by simp only [if_neg m, if_pos q]⟩)
        · exact .inl (by simp only [if_neg m, if_neg q])
    · by_cases m : b ∈ T
      · exact .inr m
      · by_cases q : b = a
        · exact .inl q
        · exact absurd (show (if b ∈ T then some (HO.tbl #[]) else if b = a then some (HO.frz { cls := .type "list", data := .seq vs.toArray } (.lst (ns.map V.int))) else none) = none by simp only [if_neg m, if_neg q]) z
    · exact .inl (.inr ⟨{ cls := .type "list", data := .seq vs.toArray }, by simp only [if_neg apart, if_pos]⟩)
    · by_cases m : b ∈ T
      · simp only [if_pos m] at z; cases z; exact tabOk m
      · by_cases q : b = a
        · simp only [if_neg m, if_pos q] at z; cases z
          subst q
          exact ⟨there, by rw [List.length_map]; exact few, vs, _, rv, there⟩
        · simp only [if_neg m, if_neg q] at z; cases z
end
/-- what a law's own text has to give at the head's heap -/
def Law (l : PySem.W.OpenLaw) (w : World) (K : PySem.W.Frag) (k n : Nat) (x : Str) (mg : Str → Option Value) (fa : Addr) (h : Heap) : Prop :=
  ∃ (fd : FuncData) (cs : List (Addr × Addr)) (sp : Sp), (∀ p ∈ cs, h.get? p.2 = some { cls := .none, data := .fields #[] } ∧ K.lookup p.2 = none ∧ PySem.W.CodeHd h p.1 p.2) ∧ (∀ (s : Shared) (u : Value), BindsTo s fd ⟨[u], []⟩ [(x, u)]) ∧
    (∀ (H : Hp) (a : Addr) (ns : List Int), ns.length ≤ n → (∀ p ∈ cs, H p.2 = some (.tbl #[])) → SqL K H a (ns.map V.int) → sp [.ref a] H (fun v _ => v = .bl true) fun _ _ _ => False) ∧
    ∀ base : Heap, K.In base → base.Ns mainGlobals mg → (∀ p ∈ cs, TabB base mg p.1 p.2) → FnG l.prog w K mg base CX0 k fa fd [x] sp
theorem walkG {l : PySem.W.OpenLaw} {n k : Nat} {q : Program} {loose : List Str} {XP : (Str → Option Value) → Heap → Prop} {YP : World → Heap → Prop} {d : DefRec} {K : Params → PySem.W.Frag} {x : Str}
    (hn : l.most = some n) (hn2 : n ≤ sizeLine) (hdf : d.params.defaults = []) (room : Room k callerA) (hY : ∀ (w : World) (h : Heap), YP w h → (K w.params).In h)
    (F : ∀ (w : World) (mg : Str → Option Value) (fa : Addr) (h : Heap), YP w h → (K w.params).In h → h.Ns mainGlobals mg → mg d.name = some (.ref fa) → Law l w (K w.params) k n x mg fa h) :
    PySem.W.WalkO q loose XP YP l.row.toRowW d [] (fun f vs => PySem.call f vs) := by
  refine Att.attach_callB hn hdf ?_
  intro w s₀ s₁ mg mb fa o pm cd doc a vs ns G Y ho hd hcd hmg there numb many bits bare
  have KX := hY w _ Y
  obtain ⟨fd, cs, sp, facts, binds, wish, run⟩ := F w mg fa _ Y KX G.T.g hmg
  obtain ⟨H, B⟩ := begin_is (P := l.prog) (w := w) KX (cs.map (·.2)) (by
    intro b m
    obtain ⟨p, mp, rfl⟩ := List.mem_map.mp m
    exact (facts p mp).1) there numb (Nat.le_trans many hn2)
  exact law_goes KX G.T.g G.T.b G.T.builtins G.T.nolimit bare (fun p m => (facts p m).1) (fun p m => (facts p m).2.1) (fun p m => (facts p m).2.2) G.T.bmain there room run binds B (wish H a ns many (fun p m => B.tab _ (List.mem_map.mpr ⟨p, m, rfl⟩)) B.script)
end En

/-! numbers of ways: plain mathematics -/
namespace M3
/-- choose by multiplying -/
def chl (n : Nat) : Nat → Nat
  | 0 => 1
  | k + 1 => chl n k * (n - k) / (k + 1)
def ch : Nat → Nat → Nat
  | _, 0 => 1
  | 0, _ + 1 => 0
  | n + 1, k + 1 => ch n k + ch n (k + 1)
theorem ch0 (n : Nat) : ch n 0 = 1 := by cases n <;> rfl
theorem ch_step : ∀ n k : Nat, (k + 1) * ch n (k + 1) + k * ch n k = n * ch n k
  | 0, 0 => rfl
  | 0, k + 1 => by simp [ch]
  | n + 1, 0 => by
    have h := ch_step n 0
    rw [ch0] at h ⊢
    show (0 + 1) * (ch n 0 + ch n (0 + 1)) + 0 * 1 = (n + 1) * 1
    rw [ch0]; omega
  | n + 1, k + 1 => by
    have h1 := ch_step n k
    have h2 := ch_step n (k + 1)
    show (k + 1 + 1) * (ch n (k + 1) + ch n (k + 1 + 1)) + (k + 1) * (ch n k + ch n (k + 1)) = (n + 1) * (ch n k + ch n (k + 1))
    simp only [Nat.add_mul, Nat.mul_add, Nat.one_mul] at h1 h2 ⊢
    omega
theorem ch_big : ∀ n k : Nat, n < k → ch n k = 0
  | 0, 0, h => by omega
  | 0, k + 1, _ => rfl
  | n + 1, 0, h => by omega
  | n + 1, k + 1, h => by
    show ch n k + ch n (k + 1) = 0
    rw [ch_big n k (by omega), ch_big n (k + 1) (by omega)]
theorem ch_mul (n k : Nat) : ch n k * (n - k) = (k + 1) * ch n (k + 1) := by
  by_cases h : k ≤ n
  · have e := ch_step n k
    obtain ⟨j, rfl⟩ := Nat.le.dest h
    rw [Nat.add_sub_cancel_left]
    rw [Nat.add_mul k j] at e
    rw [Nat.mul_comm (ch (k + j) k) j]; omega
  · rw [ch_big n k (by omega), ch_big n (k + 1) (by omega)]; simp
theorem chl_eq (n : Nat) : ∀ k, chl n k = ch n k
  | 0 => (ch0 n).symm
  | k + 1 => by
    show chl n k * (n - k) / (k + 1) = ch n (k + 1)
    rw [chl_eq n k, ch_mul, Nat.mul_div_cancel_left _ (Nat.succ_pos k)]
theorem ch_self : ∀ n, ch n n = 1
  | 0 => rfl
  | n + 1 => by show ch n n + ch n (n + 1) = 1; rw [ch_self n, ch_big n (n + 1) (by omega)]
theorem ch_symm : ∀ i j : Nat, ch (i + j) i = ch (i + j) j
  | 0, j => by rw [ch0, Nat.zero_add, ch_self]
  | i + 1, 0 => by rw [ch0, Nat.add_zero, ch_self]
  | i + 1, j + 1 => by
    rw [show i + 1 + (j + 1) = (i + j + 1) + 1 by omega]
    show ch (i + j + 1) i + ch (i + j + 1) (i + 1) = ch (i + j + 1) j + ch (i + j + 1) (j + 1)
    have h1 := ch_symm i (j + 1)
    have h2 := ch_symm (i + 1) j
    rw [show i + (j + 1) = i + j + 1 by omega] at h1
    rw [show i + 1 + j = i + j + 1 by omega] at h2
    omega
/-- the sum of [1.2], up to a part -/
def bzTot (r L : Nat) (cs : List Nat) (size : Nat) : Nat → Nat
  | 0 => 0
  | k + 1 => bzTot r L cs size k + cs.getD (size - (k + 1)) 0 * (chl ((k + 1) * L) ((k + 1) * r) / L)
def bzC (r L : Nat) : Nat → List Nat
  | 0 => [1]
  | n + 1 => bzC r L n ++ [bzTot r L (bzC r L n) (n + 1) (n + 1) / (n + 1)]
def wc (a b : Nat) : Nat := (bzC (a / Nat.gcd a b) (a / Nat.gcd a b + b / Nat.gcd a b) (Nat.gcd a b)).getD (Nat.gcd a b) 0
theorem bzC_len (r L : Nat) : ∀ n, (bzC r L n).length = n + 1
  | 0 => rfl
  | n + 1 => by
    show (bzC r L n ++ _).length = n + 1 + 1
    rw [List.length_append, bzC_len r L n]; rfl
theorem bzC_get (r L : Nat) : ∀ n i, i ≤ n → (bzC r L n).getD i 0 = (bzC r L i).getD i 0
  | 0, i, h => by
    have e : i = 0 := by omega
    subst e; rfl
  | n + 1, i, h => by
    by_cases e : i = n + 1
    · subst e; rfl
    · show (bzC r L n ++ _).getD i 0 = _
      rw [List.getD_eq_getElem?_getD, List.getElem?_append_left (by rw [bzC_len]; omega), ← List.getD_eq_getElem?_getD]
      exact bzC_get r L n i (by omega)
theorem bzC_last (r L n : Nat) : (bzC r L (n + 1)).getD (n + 1) 0 = bzTot r L (bzC r L n) (n + 1) (n + 1) / (n + 1) := by
  show (bzC r L n ++ [_]).getD (n + 1) 0 = _
  rw [List.getD_eq_getElem?_getD, List.getElem?_append_right (by rw [bzC_len]; omega), bzC_len]
  simp
/-- the number behind n multiples -/
def bz (r L n : Nat) : Nat := (bzC r L n).getD n 0
theorem bz0 (r L : Nat) : bz r L 0 = 1 := rfl
/-- the sum, by the numbers -/
def bzS (r L size : Nat) : Nat → Nat
  | 0 => 0
  | k + 1 => bzS r L size k + bz r L (size - (k + 1)) * (chl ((k + 1) * L) ((k + 1) * r) / L)
theorem bzTot_eq (r L n size : Nat) (h : size ≤ n + 1) : ∀ k, bzTot r L (bzC r L n) size k = bzS r L size k
  | 0 => rfl
  | k + 1 => by
    show bzTot r L (bzC r L n) size k + _ = bzS r L size k + _
    rw [bzTot_eq r L n size h k, bzC_get r L n _ (by omega)]; rfl
theorem bz_succ (r L n : Nat) : bz r L (n + 1) = bzS r L (n + 1) (n + 1) / (n + 1) := by
  unfold bz; rw [bzC_last, bzTot_eq r L n (n + 1) (Nat.le_refl _)]
/-- the number of letters divides -/
theorem ch_dvd {r L : Nat} (h : Nat.gcd r L = 1) (hr : 0 < r) (k : Nat) (hk : 0 < k) (hl : r ≤ L) : L ∣ chl (k * L) (k * r) := by
  rw [chl_eq]
  have hkr : 0 < k * r := Nat.mul_pos hk hr
  have hkl : 0 < k * L := Nat.mul_pos hk (Nat.lt_of_lt_of_le hr hl)
  obtain ⟨m, hm⟩ := Nat.exists_eq_succ_of_ne_zero (Nat.ne_of_gt hkr)
  obtain ⟨n, hn⟩ := Nat.exists_eq_succ_of_ne_zero (Nat.ne_of_gt hkl)
  have e : (m + 1) * ch (n + 1) (m + 1) = (n + 1) * ch n m := by
    have h1 := ch_step n m
    show (m + 1) * (ch n m + ch n (m + 1)) = (n + 1) * ch n m
    simp only [Nat.add_mul, Nat.mul_add, Nat.one_mul] at h1 ⊢
    omega
  rw [hm, hn]
  show L ∣ ch (n + 1) (m + 1)
  have e2 : r * ch (n + 1) (m + 1) = L * ch n m := by
    apply Nat.eq_of_mul_eq_mul_left hk
    rw [← Nat.mul_assoc, ← Nat.mul_assoc, hm, hn]; exact e
  have d : L ∣ r * ch (n + 1) (m + 1) := ⟨_, e2⟩
  exact Nat.Coprime.dvd_of_dvd_mul_left (show Nat.Coprime L r by rw [Nat.coprime_comm]; exact h) d

/-! rows of ends -/
def stepRow (a c : Nat) : Nat → Nat → List Nat → List Nat
  | _, _, [] => []
  | m, prev, x :: xs => ((if c ≤ a * m then prev else 0) + x) :: stepRow a c (m + 1) ((if c ≤ a * m then prev else 0) + x) xs
def nextRow (a c : Nat) : List Nat → List Nat
  | [] => []
  | x :: xs => x :: stepRow a c 0 x xs
def rowOf (a b : Nat) : Nat → List Nat
  | 0 => List.replicate (b + 1) 1
  | l + 1 => nextRow a (b * (l + 1)) (rowOf a b l)
theorem stepRow_len (a c : Nat) : ∀ m p xs, (stepRow a c m p xs).length = xs.length
  | _, _, [] => rfl
  | m, p, x :: xs => by
    show (stepRow a c _ _ xs).length + 1 = xs.length + 1
    rw [stepRow_len]
theorem nextRow_len (a c : Nat) (xs : List Nat) : (nextRow a c xs).length = xs.length := by
  cases xs with
  | nil => rfl
  | cons x xs =>
    show (stepRow a c 0 x xs).length + 1 = xs.length + 1
    rw [stepRow_len]
theorem rowOf_len (a b : Nat) : ∀ l, (rowOf a b l).length = b + 1
  | 0 => by show (List.replicate (b + 1) 1).length = b + 1; rw [List.length_replicate]
  | l + 1 => by show (nextRow a _ _).length = b + 1; rw [nextRow_len, rowOf_len a b l]
theorem stepRow_get (a c : Nat) : ∀ m p xs (i : Nat), i < xs.length → (stepRow a c m p xs).getD i 0 = (if c ≤ a * (m + i) then (p :: stepRow a c m p xs).getD i 0 else 0) + xs.getD i 0
  | m, p, x :: xs, 0, _ => by simp [stepRow]
  | m, p, x :: xs, i + 1, h => by
    have ih := stepRow_get a c (m + 1) ((if c ≤ a * m then p else 0) + x) xs i (by simpa using h)
    rw [show m + 1 + i = m + (i + 1) by omega] at ih
    exact ih
theorem nextRow_get0 (a c : Nat) (xs : List Nat) : (nextRow a c xs).getD 0 0 = xs.getD 0 0 := by cases xs <;> rfl
theorem nextRow_get (a c : Nat) (xs : List Nat) (i : Nat) (h : i + 1 < xs.length) : (nextRow a c xs).getD (i + 1) 0 = (if c ≤ a * i then (nextRow a c xs).getD i 0 else 0) + xs.getD (i + 1) 0 := by
  cases xs with
  | nil => exact absurd h (Nat.not_lt_zero _)
  | cons x xs =>
    have := stepRow_get a c 0 x xs i (by simpa using h)
    rw [Nat.zero_add] at this
    exact this
def scan : Nat → List Nat → List Nat
  | _, [] => []
  | acc, x :: xs => (acc + x) :: scan (acc + x) xs
def dropN : Nat → List Nat → List Nat
  | 0, xs => xs
  | _ + 1, [] => []
  | n + 1, _ :: xs => dropN n xs
theorem dropN_eq : ∀ n xs, dropN n xs = xs.drop n
  | 0, xs => rfl
  | n + 1, [] => rfl
  | n + 1, x :: xs => by show dropN n xs = (x :: xs).drop (n + 1); rw [dropN_eq n xs]; rfl
theorem step_scan (a c : Nat) : ∀ m p xs, c ≤ a * m → stepRow a c m p xs = scan p xs
  | _, _, [], _ => rfl
  | m, p, x :: xs, h => by
    show ((if c ≤ a * m then p else 0) + x) :: stepRow a c (m + 1) ((if c ≤ a * m then p else 0) + x) xs = (p + x) :: scan (p + x) xs
    rw [if_pos h, step_scan a c (m + 1) (p + x) xs (Nat.le_trans h (Nat.mul_le_mul_left a (Nat.le_succ m)))]
theorem step_drop (a c t : Nat) (ht : c ≤ a * t) (hn : ∀ m, m < t → ¬ c ≤ a * m) : ∀ (m p : Nat) (xs : List Nat) (k : Nat), t = m + 1 + k → (stepRow a c m p xs).drop k = scan 0 (xs.drop k)
  | m, p, [], k, _ => by simp [stepRow, scan]
  | m, p, x :: xs, 0, e => by
    show ((if c ≤ a * m then p else 0) + x) :: stepRow a c (m + 1) ((if c ≤ a * m then p else 0) + x) xs = (0 + x) :: scan (0 + x) xs
    rw [if_neg (hn m (by omega)), step_scan a c (m + 1) (0 + x) xs (by rw [show m + 1 = t by omega]; exact ht)]
  | m, p, x :: xs, k + 1, e => by
    show (stepRow a c (m + 1) _ xs).drop k = scan 0 (xs.drop k)
    exact step_drop a c t ht hn (m + 1) _ xs k (by omega)
theorem next_drop (a c t : Nat) (ht : c ≤ a * t) (hn : ∀ m, m < t → ¬ c ≤ a * m) (h0 : 0 < t) (xs : List Nat) : (nextRow a c xs).drop t = scan 0 (xs.drop t) := by
  cases xs with
  | nil => simp [nextRow, scan]
  | cons x xs =>
    obtain ⟨k, rfl⟩ := Nat.exists_eq_succ_of_ne_zero (Nat.ne_of_gt h0)
    show (stepRow a c 0 x xs).drop k = scan 0 (xs.drop k)
    exact step_drop a c (k + 1) ht hn 0 x xs k (by omega)
/-- the first place of the row l at which a step may be taken -/
def edge (a b l : Nat) : Nat := (b * l + (a - 1)) / a
theorem edge_ge {a b l : Nat} (ha : 0 < a) : b * l ≤ a * edge a b l := by
  unfold edge
  have h := Nat.div_add_mod (b * l + (a - 1)) a
  have h2 := Nat.mod_lt (b * l + (a - 1)) ha
  omega
theorem edge_min {a b l m : Nat} (ha : 0 < a) (h : m < edge a b l) : ¬ b * l ≤ a * m := by
  intro h2
  unfold edge at h
  have h3 : (m + 1) * a ≤ b * l + (a - 1) := (Nat.le_div_iff_mul_le ha).mp h
  rw [Nat.add_mul, Nat.mul_comm m a] at h3
  omega
def live (a b : Nat) : Nat → List Nat
  | 0 => List.replicate (b + 1) 1
  | l + 1 => scan 0 (dropN (edge a b (l + 1) - edge a b l) (live a b l))
theorem edge_mono {a b l : Nat} : edge a b l ≤ edge a b (l + 1) := by
  unfold edge
  apply Nat.div_le_div_right
  rw [Nat.mul_add]; omega
theorem live_eq {a b : Nat} (ha : 0 < a) (hb : 0 < b) : ∀ l, live a b l = (rowOf a b l).drop (edge a b l)
  | 0 => by
    have e : edge a b 0 = 0 := by
      unfold edge
      rw [Nat.mul_zero, Nat.zero_add]
      exact Nat.div_eq_of_lt (by omega)
    rw [e]; rfl
  | l + 1 => by
    show scan 0 (dropN (edge a b (l + 1) - edge a b l) (live a b l)) = (nextRow a (b * (l + 1)) (rowOf a b l)).drop (edge a b (l + 1))
    have hp : 0 < edge a b (l + 1) := by
      have h1 := edge_ge (b := b) (l := l + 1) ha
      have h2 : 0 < b * (l + 1) := Nat.mul_pos hb (Nat.succ_pos l)
      rcases Nat.eq_zero_or_pos (edge a b (l + 1)) with z | z
      · rw [z] at h1; omega
      · exact z
    rw [next_drop a _ _ (edge_ge ha) (fun m h => edge_min ha h) hp, dropN_eq, live_eq ha hb l, List.drop_drop]
    have := edge_mono (a := a) (b := b) (l := l)
    rw [show edge a b l + (edge a b (l + 1) - edge a b l) = edge a b (l + 1) by omega]
def endsN (a b : Nat) : Nat := (rowOf a b a).getD b 0
theorem ends_eq {a b : Nat} (ha : 0 < a) (hb : 0 < b) : endsN a b = (live a b a).headD 0 := by
  have e : edge a b a = b := by
    unfold edge
    rw [Nat.mul_comm b a, Nat.mul_add_div ha, Nat.div_eq_of_lt (by omega), Nat.add_zero]
  rw [live_eq ha hb, e]
  unfold endsN
  rw [List.getD_eq_getElem?_getD]
  cases h : (rowOf a b a).drop b with
  | nil =>
    have := rowOf_len a b a
    have h2 := congrArg List.length h
    rw [List.length_drop, this] at h2
    simp at h2
  | cons x xs =>
    have h2 : ((rowOf a b a).drop b)[0]? = some x := by rw [h]; rfl
    rw [List.getElem?_drop, Nat.add_zero] at h2
    rw [h2]; rfl
def remB (r L : Nat) : Nat → Nat
  | 0 => 0
  | n + 1 => bzTot r L (bzC r L n) (n + 1) (n + 1) % (n + 1)
def bndB (r L n : Nat) : Bool := (bzC r L n).all fun x => Nat.blt x (2 ^ 400)
def okT (a b : Nat) : Bool := wc a b == (live a b a).headD 0 && remB (a / Nat.gcd a b) (a / Nat.gcd a b + b / Nat.gcd a b) (Nat.gcd a b) == 0 && bndB (a / Nat.gcd a b) (a / Nat.gcd a b + b / Nat.gcd a b) (Nat.gcd a b)
def allB (f : Nat → Bool) : Nat → Bool
  | 0 => true
  | n + 1 => f (n + 1) && allB f n
theorem allB_of {f : Nat → Bool} : ∀ {n : Nat}, allB f n = true → ∀ i, 1 ≤ i → i ≤ n → f i = true
  | 0, _, i, h1, h2 => by omega
  | n + 1, h, i, h1, h2 => by
    have h' : (f (n + 1) && allB f n) = true := h
    rw [Bool.and_eq_true] at h'
    by_cases e : i = n + 1
    · rw [e]; exact h'.1
    · exact allB_of h'.2 i h1 (by omega)
end M3

namespace M3
open PySem PySem.W
def fct : Nat → Nat
  | 0 => 1
  | n + 1 => (n + 1) * fct n
theorem fct_pos : ∀ n, 0 < fct n
  | 0 => Nat.one_pos
  | n + 1 => Nat.mul_pos (Nat.succ_pos n) (fct_pos n)
theorem fp_ch (n : Nat) : ∀ m : Nat, m ≤ n → Builtin.Math.fallingProduct (n : Int) m = ((ch n m * fct m : Nat) : Int)
  | 0, _ => by rw [mc_fp_zero, ch0]; rfl
  | m + 1, h => by
    rw [mc_fp_succ, fp_ch n m (by omega), ← Int.natCast_sub (by omega), ← Int.natCast_mul]
    congr 1
    show ch n m * fct m * (n - m) = ch n (m + 1) * ((m + 1) * fct m)
    rw [Nat.mul_right_comm, ch_mul, Nat.mul_comm (m + 1), Nat.mul_assoc]
theorem mc_ch (n k : Nat) (h : k ≤ n) : mcComb (n : Int) (k : Int) = ((chl n k : Nat) : Int) := by
  rw [chl_eq]
  have go : ∀ m : Nat, m ≤ n → ch n m = ch n k → min (k : Int) ((n : Int) - k) = m → mcComb (n : Int) (k : Int) = ((ch n k : Nat) : Int) := by
    intro m hm he hmin
    rw [mcComb_at (by omega) (by omega) hmin, Int.toNat_natCast, fp_ch n m hm, fp_ch m m (Nat.le_refl _), ch_self, Nat.one_mul, ← Int.natCast_ediv, Nat.mul_div_cancel _ (fct_pos m), he]
  by_cases c : k ≤ n - k
  · exact go k h rfl (by omega)
  · refine go (n - k) (by omega) ?_ (by omega)
    have := ch_symm k (n - k)
    rw [show k + (n - k) = n by omega] at this
    exact this.symm
theorem ch_le : ∀ n k : Nat, ch n k ≤ 2 ^ n
  | n, 0 => by rw [ch0]; exact Nat.one_le_two_pow
  | 0, k + 1 => Nat.zero_le _
  | n + 1, k + 1 => by
    show ch n k + ch n (k + 1) ≤ 2 ^ (n + 1)
    have h1 := ch_le n k
    have h2 := ch_le n (k + 1)
    rw [Nat.pow_succ]; omega
end M3

namespace M3
theorem k1 : allB (fun b => okT 1 b) 60 = true := by decide +kernel
theorem k2 : allB (fun b => okT 2 b) 60 = true := by decide +kernel
theorem k3 : allB (fun b => okT 3 b) 60 = true := by decide +kernel
theorem k4 : allB (fun b => okT 4 b) 60 = true := by decide +kernel
theorem k5 : allB (fun b => okT 5 b) 60 = true := by decide +kernel
theorem k6 : allB (fun b => okT 6 b) 60 = true := by decide +kernel
theorem k7 : allB (fun b => okT 7 b) 60 = true := by decide +kernel
theorem k8 : allB (fun b => okT 8 b) 60 = true := by decide +kernel
theorem k9 : allB (fun b => okT 9 b) 60 = true := by decide +kernel
theorem k10 : allB (fun b => okT 10 b) 60 = true := by decide +kernel
theorem k11 : allB (fun b => okT 11 b) 60 = true := by decide +kernel
theorem k12 : allB (fun b => okT 12 b) 60 = true := by decide +kernel
theorem k13 : allB (fun b => okT 13 b) 60 = true := by decide +kernel
theorem k14 : allB (fun b => okT 14 b) 60 = true := by decide +kernel
theorem k15 : allB (fun b => okT 15 b) 60 = true := by decide +kernel
theorem k16 : allB (fun b => okT 16 b) 60 = true := by decide +kernel
theorem k17 : allB (fun b => okT 17 b) 60 = true := by decide +kernel
theorem k18 : allB (fun b => okT 18 b) 60 = true := by decide +kernel
theorem k19 : allB (fun b => okT 19 b) 60 = true := by decide +kernel
theorem k20 : allB (fun b => okT 20 b) 60 = true := by decide +kernel
theorem k21 : allB (fun b => okT 21 b) 60 = true := by decide +kernel
theorem k22 : allB (fun b => okT 22 b) 60 = true := by decide +kernel
theorem k23 : allB (fun b => okT 23 b) 60 = true := by decide +kernel
theorem k24 : allB (fun b => okT 24 b) 60 = true := by decide +kernel
theorem k25 : allB (fun b => okT 25 b) 60 = true := by decide +kernel
theorem k26 : allB (fun b => okT 26 b) 60 = true := by decide +kernel
theorem k27 : allB (fun b => okT 27 b) 60 = true := by decide +kernel
theorem k28 : allB (fun b => okT 28 b) 60 = true := by decide +kernel
theorem k29 : allB (fun b => okT 29 b) 60 = true := by decide +kernel
theorem k30 : allB (fun b => okT 30 b) 60 = true := by decide +kernel
theorem k31 : allB (fun b => okT 31 b) 60 = true := by decide +kernel
theorem k32 : allB (fun b => okT 32 b) 60 = true := by decide +kernel
theorem k33 : allB (fun b => okT 33 b) 60 = true := by decide +kernel
theorem k34 : allB (fun b => okT 34 b) 60 = true := by decide +kernel
theorem k35 : allB (fun b => okT 35 b) 60 = true := by decide +kernel
theorem k36 : allB (fun b => okT 36 b) 60 = true := by decide +kernel
theorem k37 : allB (fun b => okT 37 b) 60 = true := by decide +kernel
theorem k38 : allB (fun b => okT 38 b) 60 = true := by decide +kernel
theorem k39 : allB (fun b => okT 39 b) 60 = true := by decide +kernel
theorem k40 : allB (fun b => okT 40 b) 60 = true := by decide +kernel
theorem k41 : allB (fun b => okT 41 b) 60 = true := by decide +kernel
theorem k42 : allB (fun b => okT 42 b) 60 = true := by decide +kernel
theorem k43 : allB (fun b => okT 43 b) 60 = true := by decide +kernel
theorem k44 : allB (fun b => okT 44 b) 60 = true := by decide +kernel
theorem k45 : allB (fun b => okT 45 b) 60 = true := by decide +kernel
theorem k46 : allB (fun b => okT 46 b) 60 = true := by decide +kernel
theorem k47 : allB (fun b => okT 47 b) 60 = true := by decide +kernel
theorem k48 : allB (fun b => okT 48 b) 60 = true := by decide +kernel
theorem k49 : allB (fun b => okT 49 b) 60 = true := by decide +kernel
theorem k50 : allB (fun b => okT 50 b) 60 = true := by decide +kernel
theorem k51 : allB (fun b => okT 51 b) 60 = true := by decide +kernel
theorem k52 : allB (fun b => okT 52 b) 60 = true := by decide +kernel
theorem k53 : allB (fun b => okT 53 b) 60 = true := by decide +kernel
theorem k54 : allB (fun b => okT 54 b) 60 = true := by decide +kernel
theorem k55 : allB (fun b => okT 55 b) 60 = true := by decide +kernel
theorem k56 : allB (fun b => okT 56 b) 60 = true := by decide +kernel
theorem k57 : allB (fun b => okT 57 b) 60 = true := by decide +kernel
theorem k58 : allB (fun b => okT 58 b) 60 = true := by decide +kernel
theorem k59 : allB (fun b => okT 59 b) 60 = true := by decide +kernel
theorem k60 : allB (fun b => okT 60 b) 60 = true := by decide +kernel
theorem okT_all (a b : Nat) (h1 : 1 ≤ a) (h2 : a ≤ 60) (h3 : 1 ≤ b) (h4 : b ≤ 60) : okT a b = true := by
  have h : a = 1 ∨ a = 2 ∨ a = 3 ∨ a = 4 ∨ a = 5 ∨ a = 6 ∨ a = 7 ∨ a = 8 ∨ a = 9 ∨ a = 10 ∨ a = 11 ∨ a = 12 ∨ a = 13 ∨ a = 14 ∨ a = 15 ∨ a = 16 ∨ a = 17 ∨ a = 18 ∨ a = 19 ∨ a = 20 ∨ a = 21 ∨ a = 22 ∨ a = 23 ∨ a = 24 ∨ a = 25 ∨ a = 26 ∨ a = 27 ∨ a = 28 ∨ a = 29 ∨ a = 30 ∨ a = 31 ∨ a = 32 ∨ a = 33 ∨ a = 34 ∨ a = 35 ∨ a = 36 ∨ a = 37 ∨ a = 38 ∨ a = 39 ∨ a = 40 ∨ a = 41 ∨ a = 42 ∨ a = 43 ∨ a = 44 ∨ a = 45 ∨ a = 46 ∨ a = 47 ∨ a = 48 ∨ a = 49 ∨ a = 50 ∨ a = 51 ∨ a = 52 ∨ a = 53 ∨ a = 54 ∨ a = 55 ∨ a = 56 ∨ a = 57 ∨ a = 58 ∨ a = 59 ∨ a = 60 := by omega
  rcases h with rfl | rfl | rfl | rfl | rfl | rfl | rfl | rfl | rfl | rfl | rfl | rfl | rfl | rfl | rfl | rfl | rfl | rfl | rfl | rfl | rfl | rfl | rfl | rfl | rfl | rfl | rfl | rfl | rfl | rfl | rfl | rfl | rfl | rfl | rfl | rfl | rfl | rfl | rfl | rfl | rfl | rfl | rfl | rfl | rfl | rfl | rfl | rfl | rfl | rfl | rfl | rfl | rfl | rfl | rfl | rfl | rfl | rfl | rfl | rfl
  · exact allB_of k1 b h3 h4
  · exact allB_of k2 b h3 h4
  · exact allB_of k3 b h3 h4
  · exact allB_of k4 b h3 h4
  · exact allB_of k5 b h3 h4
  · exact allB_of k6 b h3 h4
  · exact allB_of k7 b h3 h4
  · exact allB_of k8 b h3 h4
  · exact allB_of k9 b h3 h4
  · exact allB_of k10 b h3 h4
  · exact allB_of k11 b h3 h4
  · exact allB_of k12 b h3 h4
  · exact allB_of k13 b h3 h4
  · exact allB_of k14 b h3 h4
  · exact allB_of k15 b h3 h4
  · exact allB_of k16 b h3 h4
  · exact allB_of k17 b h3 h4
  · exact allB_of k18 b h3 h4
  · exact allB_of k19 b h3 h4
  · exact allB_of k20 b h3 h4
  · exact allB_of k21 b h3 h4
  · exact allB_of k22 b h3 h4
  · exact allB_of k23 b h3 h4
  · exact allB_of k24 b h3 h4
  · exact allB_of k25 b h3 h4
  · exact allB_of k26 b h3 h4
  · exact allB_of k27 b h3 h4
  · exact allB_of k28 b h3 h4
  · exact allB_of k29 b h3 h4
  · exact allB_of k30 b h3 h4
  · exact allB_of k31 b h3 h4
  · exact allB_of k32 b h3 h4
  · exact allB_of k33 b h3 h4
  · exact allB_of k34 b h3 h4
  · exact allB_of k35 b h3 h4
  · exact allB_of k36 b h3 h4
  · exact allB_of k37 b h3 h4
  · exact allB_of k38 b h3 h4
  · exact allB_of k39 b h3 h4
  · exact allB_of k40 b h3 h4
  · exact allB_of k41 b h3 h4
  · exact allB_of k42 b h3 h4
  · exact allB_of k43 b h3 h4
  · exact allB_of k44 b h3 h4
  · exact allB_of k45 b h3 h4
  · exact allB_of k46 b h3 h4
  · exact allB_of k47 b h3 h4
  · exact allB_of k48 b h3 h4
  · exact allB_of k49 b h3 h4
  · exact allB_of k50 b h3 h4
  · exact allB_of k51 b h3 h4
  · exact allB_of k52 b h3 h4
  · exact allB_of k53 b h3 h4
  · exact allB_of k54 b h3 h4
  · exact allB_of k55 b h3 h4
  · exact allB_of k56 b h3 h4
  · exact allB_of k57 b h3 h4
  · exact allB_of k58 b h3 h4
  · exact allB_of k59 b h3 h4
  · exact allB_of k60 b h3 h4
end M3

namespace M3
theorem remB_eq (r L n : Nat) : remB r L (n + 1) = bzS r L (n + 1) (n + 1) % (n + 1) := by
  show bzTot r L (bzC r L n) (n + 1) (n + 1) % (n + 1) = _
  rw [bzTot_eq r L n (n + 1) (Nat.le_refl _)]
theorem wc_mul {p q : Nat} (h : Nat.gcd p q = 1) (m : Nat) (hm : 0 < m) : wc (m * p) (m * q) = bz p (p + q) m := by
  unfold wc
  rw [Nat.gcd_mul_left, h, Nat.mul_one, Nat.mul_div_cancel_left _ hm, Nat.mul_div_cancel_left _ hm]; rfl
theorem bz_sum {p q : Nat} (h : Nat.gcd p q = 1) (m : Nat) (hm : 0 < m) (hk : okT (m * p) (m * q) = true) : m * bz p (p + q) m = bzS p (p + q) m m := by
  obtain ⟨n, rfl⟩ := Nat.exists_eq_succ_of_ne_zero (Nat.ne_of_gt hm)
  unfold okT at hk
  rw [Bool.and_eq_true, Bool.and_eq_true] at hk
  have h2 := hk.1.2
  rw [Nat.gcd_mul_left, h, Nat.mul_one, Nat.mul_div_cancel_left _ hm, Nat.mul_div_cancel_left _ hm] at h2
  have h3 : remB p (p + q) (n + 1) = 0 := by simpa using h2
  rw [remB_eq] at h3
  show (n + 1) * bz p (p + q) (n + 1) = bzS p (p + q) (n + 1) (n + 1)
  rw [bz_succ]
  exact Nat.mul_div_cancel' (Nat.dvd_of_mod_eq_zero h3)
theorem bz_1 {p q : Nat} (h : Nat.gcd p q = 1) (hp : 0 < p) : bz p (p + q) 1 * (p + q) = chl (p + q) p := by
  rw [bz_succ]
  show (0 + 1 * (chl ((0 + 1) * (p + q)) ((0 + 1) * p) / (p + q))) / 1 * (p + q) = _
  rw [Nat.div_one, Nat.zero_add, Nat.one_mul, Nat.zero_add, Nat.one_mul, Nat.one_mul]
  have d := ch_dvd (r := p) (L := p + q) (by rw [Nat.gcd_self_add_right]; exact h) hp 1 (by decide) (Nat.le_add_right _ _)
  rw [Nat.one_mul, Nat.one_mul] at d
  exact Nat.div_mul_cancel d
theorem chl_symm (i j : Nat) : chl (i + j) i = chl (i + j) j := by rw [chl_eq, chl_eq, ch_symm]
theorem bzTot_swap (p q : Nat) (cs : List Nat) (size : Nat) : ∀ k, bzTot p (p + q) cs size k = bzTot q (p + q) cs size k
  | 0 => rfl
  | k + 1 => by
    show bzTot p (p + q) cs size k + _ = bzTot q (p + q) cs size k + _
    rw [bzTot_swap p q cs size k, Nat.mul_add, chl_symm]
theorem bzC_swap (p q : Nat) : ∀ n, bzC p (p + q) n = bzC q (p + q) n
  | 0 => rfl
  | n + 1 => by
    show bzC p (p + q) n ++ [_] = bzC q (p + q) n ++ [_]
    rw [bzC_swap p q n, bzTot_swap]
theorem wc_swap (a b : Nat) : wc a b = wc b a := by
  unfold wc
  rw [Nat.gcd_comm b a, bzC_swap, Nat.add_comm (b / Nat.gcd a b)]
end M3

local macro_rules | `(tactic| walk_at "sx1") => `(tactic| with_reducible first
  | refine Sx.r_seq ?_ | refine Sx.r_asg ?_ | refine Sx.r_name ?_ | refine Sx.r_c ?_ | refine Sx.r_op ?_ | refine Sx.r_cons ?_ | refine Sx.r_nil ?_
  | (refine' Sx.r_var ?vxe ?_; (case vxe => with_unfolding_all exact rfl))
  | refine Sx.r_I0 ?_ | refine Sx.r_Ih ?_ ?_ | refine Sx.r_U ?_ | refine Sx.r_eqI ?_ | refine Sx.r_neI ?_ | refine Sx.r_eqS ?_ | refine Sx.r_neS ?_ | refine Sx.r_eqB ?_ | refine Sx.r_neB ?_
  | refine Sx.r_test ?_ | refine Sx.r_B ?_ | refine Sx.r_bl ?_ | refine Sx.r_int ?_ | refine Sx.r_ret ?_ | refine Sx.r_retN ?_ | refine Sx.r_drop ?_ | refine Sx.r_next ?_
  | refine Sx.r_and ?_ | refine Sx.r_or ?_ | refine Sx.r_not ?_ | refine Sx.r_andV ?_ | refine Sx.r_orV ?_ | refine Sx.r_notV ?_ | refine Sx.r_chain ?_
  | refine Sx.r_call ?_ | refine Sx.r_cb ?_ | refine Sx.r_make ?_ | refine Sx.r_tup ?_ | refine Sx.r_lst ?_ | refine Sx.r_tprop ?_ | refine Sx.r_meth ?_ | refine Sx.r_fld ?_ | refine Sx.r_sFld ?_ | refine Sx.r_BM ?_ | refine Sx.r_BM0 ?_
  | refine Sx.r_sub ?_ | refine Sx.r_sl ?_ | refine Sx.r_noPart ?_ | refine Sx.r_part ?_ | refine Sx.r_un ?_ | refine Sx.r_par ?_ | refine Sx.r_par3 ?_ | refine Sx.r_two ?_ | refine Sx.r_three ?_
  | refine Sx.r_isi_int_bool ?_ | refine Sx.r_isi_int_int ?_ | refine Sx.r_isi_str_str ?_
  | refine Sx.iteT' ?_ | refine Sx.iteF' ?_ | refine Sx.iteNT ?_ | refine Sx.iteNF ?_
  | refine Sx.r_for1 ?_ | refine Sx.r_for2 ?_ | refine Sx.r_forL ?_ | refine Sx.r_forT ?_ | refine Sx.r_forS ?_ | refine Sx.r_lc1 ?_ | refine Sx.r_lc2 ?_ | refine Sx.r_lcL ?_ | refine Sx.r_lcT ?_ | refine Sx.r_lcS ?_ | refine Sx.r_yes ?_ | refine Sx.r_seqS ?_
  | refine Sx.r_int1 ?_ | refine Sx.r_intB ?_ | refine Sx.r_abs ?_ | refine Sx.r_max ?_ | refine Sx.r_min ?_ | refine Sx.r_lenS ?_ ?_ | refine Sx.r_strI ?_ ?_ | refine Sx.r_strS ?_ | refine Sx.r_addS ?_ ?_ | refine Sx.r_ltS ?_ | refine Sx.r_cntS ?_ | refine Sx.r_findS ?_ | refine Sx.r_find3 ?_ | refine ⟨Sx.tyS, ?_⟩
  | refine Sy.r_lcN ?_ | refine Sy.r_forN ?_ | refine Sy.r_lcE ?_ | refine Sy.r_forE ?_ | refine Sy.r_mulS ?_ ?_ ?_ | refine Sy.r_listS ?_ ?_ | refine Mw.r_slS ?_ ?_
  | refine Rt.r_revT ?_ | refine Mj.r_din ?_ | refine Mj.r_dnotin ?_ | refine Mj.r_dget ?_ | refine Mj.r_dnew ?_ | refine Mj.r_dput ?_ | refine Mj.r_makeL ?_ | refine Mj.r_makeD ?_ | refine Px.r_tpropX ?_ | refine Mj.r_cmeth ?_ | refine Mj.r_dcT ?_ | refine Mj.r_lock ?_ | refine Mj.r_lcK ?_
  | refine Sx.r_gcons ?_ | refine Sx.r_gnil ?_
  | refine Sx.r_gcd ?_ | refine Sx.r_break ?_ | refine Sx.r_cont ?_)
local macro_rules | `(tactic| walk_at "sx") => `(tactic| (repeat walk_at "sx1"))
local macro_rules | `(tactic| walk_at "sd") => `(tactic| first | omega | assumption | decide | (exact Sx.cmA_l (by omega)) | (exact Sx.cmA_r (by omega)) | (exact ⟨by decide, by decide⟩) | (exact ⟨by decide, by decide, by decide⟩) | (exact Sx.cdivw (b := 64) (by omega) (by omega) (by decide)) | (exact Sx.cmA_w (Sx.cmulw (a := 64) (b := 64) (by omega) (by omega) (by decide))))
local macro_rules | `(tactic| walk_at "sxi") => `(tactic| (walk_at "sx"; refine Sx.r_ifs ?_; walk_at "sx"))

namespace Lw
open PySem PySem.Spec PyProof.Rows L2 Sx
open En (NoNum)
open C8 (pe_gc)
open SkE (call_repr_int call_str_str)
open RZ (pi_zipA)
def top (i : Nat) : Stmt := PySem.Challenge.pw_slantways_k03_whole_numbers_of_ways.main.body.getD i (.Pass ⟨0, 0, 0, 0⟩)
abbrev st_is_number : Stmt := top 7
abbrev N_is_number : List Str := ["value"]
theorem sc_is_number : FnScope N_is_number ["value"] (defScope st_is_number) := ⟨rfl, rfl, rfl, by decide +kernel, rfl, by decide +kernel, by decide +kernel⟩
abbrev st_is_whole_between : Stmt := top 8
abbrev N_is_whole_between : List Str := ["value", "least", "most"]
theorem sc_is_whole_between : FnScope N_is_whole_between ["value", "least", "most"] (defScope st_is_whole_between) := ⟨rfl, rfl, rfl, by decide +kernel, rfl, by decide +kernel, by decide +kernel⟩
abbrev st_Slope_init : Stmt := inClass (top 11) 0
abbrev N_Slope_init : List Str := ["self", "rises", "steps"]
theorem sc_Slope_init : FnScope N_Slope_init ["self", "rises", "steps"] (defScope st_Slope_init) := ⟨rfl, rfl, rfl, by decide +kernel, rfl, by decide +kernel, by decide +kernel⟩
abbrev st_Slope_rises : Stmt := inClass (top 11) 2
abbrev N_Slope_rises : List Str := ["self"]
theorem sc_Slope_rises : FnScope N_Slope_rises ["self"] (defScope st_Slope_rises) := ⟨rfl, rfl, rfl, by decide +kernel, rfl, by decide +kernel, by decide +kernel⟩
abbrev st_Slope_steps : Stmt := inClass (top 11) 3
abbrev N_Slope_steps : List Str := ["self"]
theorem sc_Slope_steps : FnScope N_Slope_steps ["self"] (defScope st_Slope_steps) := ⟨rfl, rfl, rfl, by decide +kernel, rfl, by decide +kernel, by decide +kernel⟩
abbrev st_Slope_common : Stmt := inClass (top 11) 4
abbrev N_Slope_common : List Str := ["self"]
theorem sc_Slope_common : FnScope N_Slope_common ["self"] (defScope st_Slope_common) := ⟨rfl, rfl, rfl, by decide +kernel, rfl, by decide +kernel, by decide +kernel⟩
abbrev st_Slope_exchanged : Stmt := inClass (top 11) 7
abbrev N_Slope_exchanged : List Str := ["self"]
theorem sc_Slope_exchanged : FnScope N_Slope_exchanged ["self"] (defScope st_Slope_exchanged) := ⟨rfl, rfl, rfl, by decide +kernel, rfl, by decide +kernel, by decide +kernel⟩
abbrev st_check_slope : Stmt := top 12
abbrev N_check_slope : List Str := ["slope"]
theorem sc_check_slope : FnScope N_check_slope ["slope"] (defScope st_check_slope) := ⟨rfl, rfl, rfl, by decide +kernel, rfl, by decide +kernel, by decide +kernel⟩
abbrev st_way_count : Stmt := top 13
abbrev N_way_count : List Str := ["slope", "rises", "letters", "counts", "size", "total", "part"]
theorem sc_way_count : FnScope N_way_count ["slope"] (defScope st_way_count) := ⟨rfl, rfl, rfl, by decide +kernel, rfl, by decide +kernel, by decide +kernel⟩
abbrev st_law_dice : Stmt := top 15
abbrev N_law_dice : List Str := ["_law_script", "_law_spot", "_law_cell", "_law_left"]
theorem sc_law_dice : FnScope N_law_dice ["_law_script", "_law_spot"] (defScope st_law_dice) := ⟨rfl, rfl, rfl, by decide +kernel, rfl, by decide +kernel, by decide +kernel⟩
abbrev st_law_roll : Stmt := top 16
abbrev N_law_roll : List Str := ["_law_dice_here", "_law_total", "_law_found", "_law_one", "_law_two"]
theorem sc_law_roll : FnScope N_law_roll ["_law_dice_here", "_law_total"] (defScope st_law_roll) := ⟨rfl, rfl, rfl, by decide +kernel, rfl, by decide +kernel, by decide +kernel⟩
abbrev st_law_pick : Stmt := top 17
abbrev N_law_pick : List Str := ["_law_dice_here", "_law_items"]
theorem sc_law_pick : FnScope N_law_pick ["_law_dice_here", "_law_items"] (defScope st_law_pick) := ⟨rfl, rfl, rfl, by decide +kernel, rfl, by decide +kernel, by decide +kernel⟩
abbrev st_law_any_slope : Stmt := top 18
abbrev N_law_any_slope : List Str := ["_law_dice_here", "_law_most"]
theorem sc_law_any_slope : FnScope N_law_any_slope ["_law_dice_here", "_law_most"] (defScope st_law_any_slope) := ⟨rfl, rfl, rfl, by decide +kernel, rfl, by decide +kernel, by decide +kernel⟩
abbrev st_law_common : Stmt := top 19
abbrev N_law_common : List Str := ["_law_one", "_law_other"]
theorem sc_law_common : FnScope N_law_common ["_law_one", "_law_other"] (defScope st_law_common) := ⟨rfl, rfl, rfl, by decide +kernel, rfl, by decide +kernel, by decide +kernel⟩
abbrev st_law_ends : Stmt := top 20
abbrev N_law_ends : List Str := ["_law_rises", "_law_steps", "_law_found", "_law_left", "_law_row", "_law_more", "_law_number"]
theorem sc_law_ends : FnScope N_law_ends ["_law_rises", "_law_steps"] (defScope st_law_ends) := ⟨rfl, rfl, rfl, by decide +kernel, rfl, by decide +kernel, by decide +kernel⟩
abbrev st_law_choose : Stmt := top 21
abbrev N_law_choose : List Str := ["_law_whole", "_law_part", "_law_found", "_law_at"]
theorem sc_law_choose : FnScope N_law_choose ["_law_whole", "_law_part"] (defScope st_law_choose) := ⟨rfl, rfl, rfl, by decide +kernel, rfl, by decide +kernel, by decide +kernel⟩
abbrev st_law_sums_right : Stmt := top 22
abbrev N_law_sums_right : List Str := ["_law_rises", "_law_steps", "_law_most", "_law_counts", "_law_both", "_law_many", "_law_parts", "_law_part"]
theorem sc_law_sums_right : FnScope N_law_sums_right ["_law_rises", "_law_steps"] (defScope st_law_sums_right) := ⟨rfl, rfl, rfl, by decide +kernel, rfl, by decide +kernel, by decide +kernel⟩
abbrev st_law_right : Stmt := top 23
abbrev N_law_right : List Str := ["_law_dice_here", "_law_pair", "_law_rises", "_law_steps", "_law_told", "_law_common_here"]
theorem sc_law_right : FnScope N_law_right ["_law_dice_here"] (defScope st_law_right) := ⟨rfl, rfl, rfl, by decide +kernel, rfl, by decide +kernel, by decide +kernel⟩
abbrev st_law : Stmt := top 24
abbrev N_law : List Str := ["_law_script", "_law_spot"]
theorem sc_law : FnScope N_law ["_law_script"] (defScope st_law) := ⟨rfl, rfl, rfl, by decide +kernel, rfl, by decide +kernel, by decide +kernel⟩
structure Tx (K : PySem.W.Frag) (mg : Str → Option Value) where
  C_Slope : Addr
  a_is_number : Addr
  d_is_number : FuncData
  F_is_number : Fun K "is_number" "is_number" st_is_number a_is_number d_is_number
  b_is_number : Binds K d_is_number ["value"] []
  g_is_number : mg "is_number" = some (.ref a_is_number)
  a_is_whole_between : Addr
  d_is_whole_between : FuncData
  F_is_whole_between : Fun K "is_whole_between" "is_whole_between" st_is_whole_between a_is_whole_between d_is_whole_between
  b_is_whole_between : Binds K d_is_whole_between ["value", "least", "most"] []
  g_is_whole_between : mg "is_whole_between" = some (.ref a_is_whole_between)
  a_Slope_init : Addr
  d_Slope_init : FuncData
  F_Slope_init : Fun K "__init__" "Slope.__init__" st_Slope_init a_Slope_init d_Slope_init
  b_Slope_init : Binds K d_Slope_init ["self", "rises", "steps"] []
  a_Slope_rises : Addr
  d_Slope_rises : FuncData
  F_Slope_rises : Fun K "rises" "Slope.rises" st_Slope_rises a_Slope_rises d_Slope_rises
  b_Slope_rises : Binds K d_Slope_rises ["self"] []
  a_Slope_steps : Addr
  d_Slope_steps : FuncData
  F_Slope_steps : Fun K "steps" "Slope.steps" st_Slope_steps a_Slope_steps d_Slope_steps
  b_Slope_steps : Binds K d_Slope_steps ["self"] []
  a_Slope_common : Addr
  d_Slope_common : FuncData
  F_Slope_common : Fun K "common" "Slope.common" st_Slope_common a_Slope_common d_Slope_common
  b_Slope_common : Binds K d_Slope_common ["self"] []
  a_Slope_exchanged : Addr
  d_Slope_exchanged : FuncData
  F_Slope_exchanged : Fun K "exchanged" "Slope.exchanged" st_Slope_exchanged a_Slope_exchanged d_Slope_exchanged
  b_Slope_exchanged : Binds K d_Slope_exchanged ["self"] []
  a_check_slope : Addr
  d_check_slope : FuncData
  F_check_slope : Fun K "check_slope" "check_slope" st_check_slope a_check_slope d_check_slope
  b_check_slope : Binds K d_check_slope ["slope"] []
  g_check_slope : mg "check_slope" = some (.ref a_check_slope)
  a_way_count : Addr
  d_way_count : FuncData
  F_way_count : Fun K "way_count" "way_count" st_way_count a_way_count d_way_count
  b_way_count : Binds K d_way_count ["slope"] []
  g_way_count : mg "way_count" = some (.ref a_way_count)
  a_law_dice : Addr
  d_law_dice : FuncData
  F_law_dice : Fun K "_law_dice" "_law_dice" st_law_dice a_law_dice d_law_dice
  b_law_dice : Binds K d_law_dice ["_law_script", "_law_spot"] []
  g_law_dice : mg "_law_dice" = some (.ref a_law_dice)
  a_law_roll : Addr
  d_law_roll : FuncData
  F_law_roll : Fun K "_law_roll" "_law_roll" st_law_roll a_law_roll d_law_roll
  b_law_roll : Binds K d_law_roll ["_law_dice_here", "_law_total"] []
  g_law_roll : mg "_law_roll" = some (.ref a_law_roll)
  a_law_pick : Addr
  d_law_pick : FuncData
  F_law_pick : Fun K "_law_pick" "_law_pick" st_law_pick a_law_pick d_law_pick
  b_law_pick : Binds K d_law_pick ["_law_dice_here", "_law_items"] []
  g_law_pick : mg "_law_pick" = some (.ref a_law_pick)
  a_law_any_slope : Addr
  d_law_any_slope : FuncData
  F_law_any_slope : Fun K "_law_any_slope" "_law_any_slope" st_law_any_slope a_law_any_slope d_law_any_slope
  b_law_any_slope : Binds K d_law_any_slope ["_law_dice_here", "_law_most"] []
  g_law_any_slope : mg "_law_any_slope" = some (.ref a_law_any_slope)
  a_law_common : Addr
  d_law_common : FuncData
  F_law_common : Fun K "_law_common" "_law_common" st_law_common a_law_common d_law_common
  b_law_common : Binds K d_law_common ["_law_one", "_law_other"] []
  g_law_common : mg "_law_common" = some (.ref a_law_common)
  a_law_ends : Addr
  d_law_ends : FuncData
  F_law_ends : Fun K "_law_ends" "_law_ends" st_law_ends a_law_ends d_law_ends
  b_law_ends : Binds K d_law_ends ["_law_rises", "_law_steps"] []
  g_law_ends : mg "_law_ends" = some (.ref a_law_ends)
  a_law_choose : Addr
  d_law_choose : FuncData
  F_law_choose : Fun K "_law_choose" "_law_choose" st_law_choose a_law_choose d_law_choose
  b_law_choose : Binds K d_law_choose ["_law_whole", "_law_part"] []
  g_law_choose : mg "_law_choose" = some (.ref a_law_choose)
  a_law_sums_right : Addr
  d_law_sums_right : FuncData
  F_law_sums_right : Fun K "_law_sums_right" "_law_sums_right" st_law_sums_right a_law_sums_right d_law_sums_right
  b_law_sums_right : Binds K d_law_sums_right ["_law_rises", "_law_steps"] []
  g_law_sums_right : mg "_law_sums_right" = some (.ref a_law_sums_right)
  a_law_right : Addr
  d_law_right : FuncData
  F_law_right : Fun K "_law_right" "_law_right" st_law_right a_law_right d_law_right
  b_law_right : Binds K d_law_right ["_law_dice_here"] []
  g_law_right : mg "_law_right" = some (.ref a_law_right)
  a_law : Addr
  d_law : FuncData
  F_law : Fun K "law" "law" st_law a_law d_law
  b_law : Binds K d_law ["_law_script"] []
  g_law : mg "law" = some (.ref a_law)
  g_Slope : mg "Slope" = some (.ref C_Slope)
  cl_Slope : Cls K C_Slope
  na_Slope_rises : NoAttr K C_Slope "_rises"
  na_Slope_steps : NoAttr K C_Slope "_steps"
  na_Slope_common : NoAttr K C_Slope "_common"
  mk_Slope : Mk K C_Slope a_Slope_init
  me_Slope_exchanged : Meth K C_Slope "exchanged" a_Slope_exchanged
  p_Slope_rises : Addr
  pr_Slope_rises : PropOf K C_Slope "rises" p_Slope_rises a_Slope_rises
  p_Slope_steps : Addr
  pr_Slope_steps : PropOf K C_Slope "steps" p_Slope_steps a_Slope_steps
  p_Slope_common : Addr
  pr_Slope_common : PropOf K C_Slope "common" p_Slope_common a_Slope_common
  ic_Slope : PySem.W.findIn K (.ref C_Slope) "__class__" = some (some (.builtin "object.__class__"))
  mr_Slope : PySem.W.mroIn K C_Slope (.type "object") = some true
  ks_Slope : PySem.W.kitOne K (.ref C_Slope) (.ref C_Slope) = some true
  cg : PySem.W.specialIn K (.builtin "object.__class__") "__get__" = some (some (.builtin "getset_descriptor.__get__"))
  ct : PySem.W.takesIn K (.builtin "object.__class__") = some true
  n_abs : mg "abs" = none
  n_bool : mg "bool" = none
  n_int : mg "int" = none
  n_isinstance : mg "isinstance" = none
  n_len : mg "len" = none
  n_max : mg "max" = none
  n_min : mg "min" = none
  n_range : mg "range" = none
  n_sum : mg "sum" = none
  i_comb : mg "comb" = some (.builtin "math.comb")
  i_gcd : mg "gcd" = some (.builtin "math.gcd")
  c_MAX_SIDE : ∃ u, mg "MAX_SIDE" = some u ∧ RelV (.int 60) u
section
variable {P : Program} {w : World} {K : PySem.W.Frag} {mg : Str → Option Value} {base : Heap}
/-! ### is_number, is_whole_between -/
def sp_is_number (K : PySem.W.Frag) : Sp := fun vs H Q _ => (∃ i : Int, vs = [.int i] ∧ Q (.bl true) H) ∨ ∃ v, vs = [v] ∧ NoNum K H v ∧ Q (.bl false) H
theorem ok_is_number (T : Tx K mg) : FnOk P w K mg base CX0 1 T.a_is_number T.d_is_number ["value"] (sp_is_number K) := by
  refine T.F_is_number.ok sc_is_number (fun vs H Q E h => ?_) (fun cdv A outer s H vs Q E hr h => ?_)
  · obtain ⟨i, rfl, _⟩ | ⟨v, rfl, _⟩ := h <;> rfl
  · refine ⟨_, (pss_one (ps_ret (pe_and (pe_callB call_isi (by rfl) T.n_isinstance Sx.bt_isinstance (pa_cons (pv 0) (pa_cons (pe_bltn (v := .ty "int") (by rfl) T.n_int Sx.bt_int rfl) pa_nil))) (pe_one (pe_not (pe_callB call_isi (by rfl) T.n_isinstance Sx.bt_isinstance (pa_cons (pv 0) (pa_cons (pe_bltn (v := .ty "bool") (by rfl) T.n_bool Sx.bt_bool rfl) pa_nil)))))))), ?_⟩
    obtain ⟨i, rfl, q⟩ | ⟨v, rfl, ⟨t, b1, b2, ht, h1, h2, h3⟩, q⟩ := h
    · refine Sx.r_st (σ' := [some (.int i)]) rfl ?_
      walk_at "sx"
      exact q
    · refine Sx.r_st (σ' := [some (v)]) rfl ?_
      walk_at "sx"
      refine ⟨v, .ty "int", t, .type "int", b1, rfl, .ty _, ht, h1, ?_⟩
      cases b1 with
      | false => walk_at "sx"; exact q
      | true =>
        have e2 : b2 = true := by simpa using h3
        subst e2
        walk_at "sx"
        refine ⟨v, .ty "bool", t, .type "bool", true, rfl, .ty _, ht, h2, ?_⟩
        walk_at "sx"
        exact q
def sp_is_whole_between (K : PySem.W.Frag) : Sp := fun vs H Q _ => (∃ v a b : Int, vs = [.int v, .int a, .int b] ∧ Q (.bl (decide (a ≤ v ∧ v ≤ b))) H) ∨ ∃ v, ∃ a b : Int, vs = [v, .int a, .int b] ∧ NoNum K H v ∧ Q (.bl false) H
theorem ok_is_whole_between (T : Tx K mg) : FnOk P w K mg base CX0 2 T.a_is_whole_between T.d_is_whole_between ["value", "least", "most"] (sp_is_whole_between K) := by
  refine T.F_is_whole_between.ok sc_is_whole_between (fun vs H Q E h => ?_) (fun cdv A outer s H vs Q E hr h => ?_)
  · obtain ⟨v, a, b, rfl, _⟩ | ⟨v, a, b, rfl, _⟩ := h <;> rfl
  · refine ⟨_, (pss_one (ps_ret (pe_and (pe_call (ok_is_number T) (hr.mono (by decide)) (by rfl) T.g_is_number T.F_is_number.kp T.b_is_number .nil pass0 (pa_cons (pv 0) pa_nil)) (pe_one (pe_chain op_le op_le (pv 1) (pv 0) (pv 2)))))), ?_⟩
    obtain ⟨v, a, b, rfl, q⟩ | ⟨v, a, b, rfl, hn, q⟩ := h
    · refine Sx.r_st (σ' := [some (.int v), some (.int a), some (.int b)]) rfl ?_
      walk_at "sx"
      refine .inl ⟨v, rfl, ?_⟩
      walk_at "sx"
      refine ite_d (fun h1 => ?_) (fun h1 => ?_)
      · walk_at "sx"
        have e : decide (a ≤ v ∧ v ≤ b) = decide (v ≤ b) := by simp [h1]
        rw [← e]; exact q
      · have e : decide (a ≤ v ∧ v ≤ b) = false := by simp [h1]
        rw [← e]; exact q
    · refine Sx.r_st (σ' := [some (v), some (.int a), some (.int b)]) rfl ?_
      walk_at "sx"
      refine .inr ⟨v, rfl, hn, ?_⟩
      walk_at "sx"
      exact q
/-! ### Slope -/
def slF (a b : Int) : List (Str × V) := putF "_common" (.int ((Nat.gcd a.natAbs b.natAbs : Nat) : Int)) (putF "_steps" (.int b) (putF "_rises" (.int a) []))
theorem slF_r (a b : Int) : (slF a b).lookup ("_rises" : Str) = some (.int a) := by
  unfold slF; rw [lookup_putF, if_neg (by decide +kernel), lookup_putF, if_neg (by decide +kernel), lookup_putF, if_pos rfl]
theorem slF_s (a b : Int) : (slF a b).lookup ("_steps" : Str) = some (.int b) := by
  unfold slF; rw [lookup_putF, if_neg (by decide +kernel), lookup_putF, if_pos rfl]
theorem slF_c (a b : Int) : (slF a b).lookup ("_common" : Str) = some (.int ((Nat.gcd a.natAbs b.natAbs : Nat) : Int)) := by
  unfold slF; rw [lookup_putF, if_pos rfl]
/-- v is the slope a:b -/
def SlopeAt (C : Addr) (H : Hp) (v : V) (a b : Int) : Prop := (1 ≤ a ∧ a ≤ 60 ∧ 1 ≤ b ∧ b ≤ 60) ∧ ∃ p dx, v = .ref p ∧ H p = some (.ins C dx (slF a b))
theorem SlopeAt.mono {C : Addr} {H H' : Hp} {v : V} {a b : Int} (h : SlopeAt C H v a b) (s : Same H H') : SlopeAt C H' v a b := by
  obtain ⟨h1, p, dx, h2, h3⟩ := h; exact ⟨h1, p, dx, h2, s _ _ h3⟩
theorem SlopeAt.kp {C : Addr} {H H' : Hp} {v : V} {a b : Int} {d : Addr} (h : SlopeAt C H v a b) (s : Kp d H H') : SlopeAt C H' v a b := by
  obtain ⟨h1, p, dx, h2, h3⟩ := h; exact ⟨h1, p, dx, h2, s.ins h3⟩
def sp_Slope_init (C : Addr) : Sp := fun vs H Q _ => ∃ p dx, ∃ a b : Int, vs = [.ref p, .int a, .int b] ∧ (1 ≤ a ∧ a ≤ 60 ∧ 1 ≤ b ∧ b ≤ 60) ∧ H p = some (.ins C dx []) ∧ Q .non (upd (upd (upd H p (.ins C dx (putF "_rises" (.int a) []))) p (.ins C dx (putF "_steps" (.int b) (putF "_rises" (.int a) [])))) p (.ins C dx (slF a b)))
theorem ok_Slope_init (T : Tx K mg) : FnOk P w K mg base CX0 3 T.a_Slope_init T.d_Slope_init ["self", "rises", "steps"] (sp_Slope_init T.C_Slope) := by
  refine T.F_Slope_init.ok sc_Slope_init (fun vs H Q E h => ?_) (fun cdv A outer s H vs Q E hr h => ?_)
  · obtain ⟨p, dx, a, b, rfl, _⟩ := h; rfl
  · obtain ⟨p, dx, a, b, rfl, ⟨a1, a2, b1, b2⟩, hp, q⟩ := h
    refine ⟨_, (pss_cons (ps_if (pt_not (pt_val (pe_call (ok_is_whole_between T) (hr.mono (by decide)) (by rfl) T.g_is_whole_between T.F_is_whole_between.kp T.b_is_whole_between .nil pass0 (pa_cons (pv 1) (pa_cons pe_int (pa_cons (pe_gc (by rfl) T.c_MAX_SIDE) pa_nil)))))) pss_never pss_nil)
      (pss_cons (ps_if (pt_not (pt_val (pe_call (ok_is_whole_between T) (hr.mono (by decide)) (by rfl) T.g_is_whole_between T.F_is_whole_between.kp T.b_is_whole_between .nil pass0 (pa_cons (pv 2) (pa_cons pe_int (pa_cons (pe_gc (by rfl) T.c_MAX_SIDE) pa_nil)))))) pss_never pss_nil)
      (pss_cons (ps_fld (pv 0) (pv 1) rfl)
      (pss_cons (ps_fld (pv 0) (pv 2) rfl)
      (pss_one (ps_fld (pv 0) (pe_callBfun cr_gcd (by rfl) T.i_gcd (pa_cons (pv 1) (pa_cons (pv 2) pa_nil))) rfl)))))), ?_⟩
    refine Sx.r_st (σ' := [some (.ref p), some (.int a), some (.int b)]) rfl ?_
    walk_at "sxi"
    refine .inl ⟨a, 1, 60, rfl, ?_⟩
    walk_at "sx"
    rw [show decide (1 ≤ a ∧ a ≤ 60) = true by simp [a1, a2]]
    walk_at "sxi"
    refine .inl ⟨b, 1, 60, rfl, ?_⟩
    walk_at "sx"
    rw [show decide (1 ≤ b ∧ b ≤ 60) = true by simp [b1, b2]]
    walk_at "sx"

    refine r_insput hp T.cl_Slope T.na_Slope_rises (by decide) ?_
    walk_at "sx"
    refine r_insput upd_same T.cl_Slope T.na_Slope_steps len1 ?_
    walk_at "sx"
    exact ⟨p, _, dx, _, rfl, upd_same, T.cl_Slope, T.na_Slope_common, len2, q⟩
/-- a new slope -/
theorem mk_slope {C : Addr} {H : Hp} {Q : VK} {E : XK} {a b : Int} (h : 1 ≤ a ∧ a ≤ 60 ∧ 1 ≤ b ∧ b ≤ 60) (q : ∀ v H', Same H H' → SlopeAt C H' v a b → Q v H') :
    MakeP C (sp_Slope_init C) E [.int a, .int b] H Q := by
  intro x dx hx hdx hne
  refine ⟨x, dx, a, b, rfl, h, upd_same, rfl, q _ _ ?_ ⟨h, x, dx, rfl, upd_same⟩⟩
  intro c o e
  have n1 : c ≠ x := ne_of_none e hx
  have n2 : c ≠ dx := ne_of_none e hdx
  rw [upd_ne n1, upd_ne n1, upd_ne n1, upd_ne n1, upd_ne n2]; exact e
theorem ok_Slope_rises (T : Tx K mg) : FnOk P w K mg base CX0 1 T.a_Slope_rises T.d_Slope_rises ["self"] (getSp T.C_Slope "_rises") := by
  refine T.F_Slope_rises.ok sc_Slope_rises (fun vs H Q E h => ?_) (fun cdv A outer s H vs Q E hr h => ?_)
  · obtain ⟨a, dx, fs, v, rfl, _⟩ := h; rfl
  · obtain ⟨a, dx, fs, v, rfl, e, l, q⟩ := h
    refine ⟨_, (pss_one (ps_ret (pe_fld (pv 0) rfl))), ?_⟩
    refine Sx.r_st (σ' := [some (.ref a)]) rfl ?_
    walk_at "sx"
    exact ⟨a, _, dx, fs, v, rfl, e, T.cl_Slope, T.na_Slope_rises, l, q⟩
theorem ok_Slope_steps (T : Tx K mg) : FnOk P w K mg base CX0 1 T.a_Slope_steps T.d_Slope_steps ["self"] (getSp T.C_Slope "_steps") := by
  refine T.F_Slope_steps.ok sc_Slope_steps (fun vs H Q E h => ?_) (fun cdv A outer s H vs Q E hr h => ?_)
  · obtain ⟨a, dx, fs, v, rfl, _⟩ := h; rfl
  · obtain ⟨a, dx, fs, v, rfl, e, l, q⟩ := h
    refine ⟨_, (pss_one (ps_ret (pe_fld (pv 0) rfl))), ?_⟩
    refine Sx.r_st (σ' := [some (.ref a)]) rfl ?_
    walk_at "sx"
    exact ⟨a, _, dx, fs, v, rfl, e, T.cl_Slope, T.na_Slope_steps, l, q⟩
/-- a slope's numbers, read -/
theorem rd_r {C : Addr} {H : Hp} {v : V} {a b : Int} {Q : VK} {E : XK} (h : SlopeAt C H v a b) (q : Q (.int a) H) : ∃ p dx fs, v = .ref p ∧ H p = some (.ins C dx fs) ∧ getSp C "_rises" (.ref p :: []) H Q E := by
  obtain ⟨_, p, dx, rfl, e⟩ := h; exact ⟨p, dx, _, rfl, e, r_getSp e (slF_r a b) q⟩
theorem rd_s {C : Addr} {H : Hp} {v : V} {a b : Int} {Q : VK} {E : XK} (h : SlopeAt C H v a b) (q : Q (.int b) H) : ∃ p dx fs, v = .ref p ∧ H p = some (.ins C dx fs) ∧ getSp C "_steps" (.ref p :: []) H Q E := by
  obtain ⟨_, p, dx, rfl, e⟩ := h; exact ⟨p, dx, _, rfl, e, r_getSp e (slF_s a b) q⟩
theorem ok_Slope_common (T : Tx K mg) : FnOk P w K mg base CX0 1 T.a_Slope_common T.d_Slope_common ["self"] (getSp T.C_Slope "_common") := by
  refine T.F_Slope_common.ok sc_Slope_common (fun vs H Q E h => ?_) (fun cdv A outer s H vs Q E hr h => ?_)
  · obtain ⟨a, dx, fs, v, rfl, _⟩ := h; rfl
  · obtain ⟨a, dx, fs, v, rfl, e, l, q⟩ := h
    refine ⟨_, (pss_one (ps_ret (pe_fld (pv 0) rfl))), ?_⟩
    refine Sx.r_st (σ' := [some (.ref a)]) rfl ?_
    walk_at "sx"
    exact ⟨a, _, dx, fs, v, rfl, e, T.cl_Slope, T.na_Slope_common, l, q⟩
theorem rd_c {C : Addr} {H : Hp} {v : V} {a b : Int} {Q : VK} {E : XK} (h : SlopeAt C H v a b) (q : Q (.int ((Nat.gcd a.natAbs b.natAbs : Nat) : Int)) H) : ∃ p dx fs, v = .ref p ∧ H p = some (.ins C dx fs) ∧ getSp C "_common" (.ref p :: []) H Q E := by
  obtain ⟨_, p, dx, rfl, e⟩ := h; exact ⟨p, dx, _, rfl, e, r_getSp e (slF_c a b) q⟩
def sp_Slope_exchanged (C : Addr) : Sp := fun vs H Q _ => ∃ v, ∃ a b : Int, vs = [v] ∧ SlopeAt C H v a b ∧ ∀ u H', Same H H' → SlopeAt C H' u b a → Q u H'
theorem ok_Slope_exchanged (T : Tx K mg) : FnOk P w K mg base CX0 5 T.a_Slope_exchanged T.d_Slope_exchanged ["self"] (sp_Slope_exchanged T.C_Slope) := by
  refine T.F_Slope_exchanged.ok sc_Slope_exchanged (fun vs H Q E h => ?_) (fun cdv A outer s H vs Q E hr h => ?_)
  · obtain ⟨v, a, b, rfl, _⟩ := h; rfl
  · obtain ⟨v, a, b, rfl, ⟨hb, p, dx, rfl, e⟩, q⟩ := h
    refine ⟨_, (pss_one (ps_ret (pe_make T.mk_Slope (ok_Slope_init T) (hr.mono (by decide)) (by rfl) T.g_Slope T.b_Slope_init .nil pass0 (pa_cons (pe_fld (pv 0) rfl) (pa_cons (pe_fld (pv 0) rfl) pa_nil))))), ?_⟩
    refine Sx.r_st (σ' := [some (.ref p)]) rfl ?_
    walk_at "sx"
    refine ⟨p, _, dx, _, _, rfl, e, T.cl_Slope, T.na_Slope_steps, slF_s a b, ?_⟩
    walk_at "sx"
    refine ⟨p, _, dx, _, _, rfl, e, T.cl_Slope, T.na_Slope_rises, slF_r a b, ?_⟩
    walk_at "sx"
    exact mk_slope ⟨hb.2.2.1, hb.2.2.2, hb.1, hb.2.1⟩ q
def sp_check_slope (C : Addr) : Sp := fun vs H Q _ => ∃ v, ∃ a b : Int, vs = [v] ∧ SlopeAt C H v a b ∧ Q .non H
theorem ok_check_slope (T : Tx K mg) : FnOk P w K mg base CX0 1 T.a_check_slope T.d_check_slope ["slope"] (sp_check_slope T.C_Slope) := by
  refine T.F_check_slope.ok sc_check_slope (fun vs H Q E h => ?_) (fun cdv A outer s H vs Q E hr h => ?_)
  · obtain ⟨v, a, b, rfl, _⟩ := h; rfl
  · obtain ⟨v, a, b, rfl, ⟨hb, p, dx, rfl, e⟩, q⟩ := h
    refine ⟨_, (pss_one (ps_if (pt_not (pt_val (pe_callB call_isi (by rfl) T.n_isinstance Sx.bt_isinstance (pa_cons (pv 0) (pa_cons (pe_glob (v := .ref T.C_Slope) (by rfl) T.g_Slope rfl) pa_nil))))) pss_never pss_nil)), ?_⟩
    refine Sx.r_st (σ' := [some (.ref p)]) rfl ?_
    walk_at "sxi"
    refine r_isi_own e T.cl_Slope T.ic_Slope T.cg T.ct T.mr_Slope T.ks_Slope ?_
    walk_at "sx"
    exact q
def sp_law_dice (K : PySem.W.Frag) : Sp := fun vs H Q _ => ∃ (a : Addr) (ns : List Int) (i : Nat), vs = [.ref a, .int i] ∧ SqL K H a (ns.map V.int) ∧ i ≤ 63 ∧ ∀ d H', Same H H' → H d = none → Dice H' d → Q (.ref d) H'
theorem ok_law_dice (T : Tx K mg) : FnOk P w K mg base CX0 1 T.a_law_dice T.d_law_dice ["_law_script", "_law_spot"] (sp_law_dice K) := by
  refine T.F_law_dice.ok sc_law_dice (fun vs H Q E h => ?_) (fun cdv A outer s H vs Q E hr h => ?_)
  · obtain ⟨a, ns, i, rfl, _⟩ := h; rfl
  · obtain ⟨a, ns, i, rfl, hS, hi, q⟩ := h
    refine ⟨_, (pss_cons (ps_set (i := 2) sc_law_dice.nd rfl (.inl rfl) (pe_ifExp (pt_cmpR op_lt (pv 1) (pe_callB Sx.c_len (by rfl) T.n_len Sx.bt_len (pa_cons (pv 0) pa_nil)) (nomark _)) (pe_callTy Sx.c_int (by rfl) T.n_int Sx.bt_int (pa_cons (pe_ix ix_list (pv 0) (pv 1) (fun _ _ => rfl)) pa_nil)) (pe_op op_add (pe_op Sx.op_mulA pe_int (pv 1)) pe_int)))
      (pss_cons (ps_set (i := 3) sc_law_dice.nd rfl (.inl rfl) (pe_op op_mod (pe_callB (Sx.c_max rfl) (by rfl) T.n_max Sx.bt_max (pa_cons pe_int (pa_cons (pe_op op_sub (pe_callB Sx.c_abs (by rfl) T.n_abs Sx.bt_abs (pa_cons (pv 2) pa_nil)) (pe_op op_pow pe_int pe_int)) pa_nil))) (pe_op Sx.op_mulA (pe_op op_pow pe_int pe_int) (pe_op op_pow pe_int pe_int))))
      (pss_one (ps_ret (pe_lst (pa_cons (pv 3) (pa_cons (pe_op op_add (pe_op op_add (pe_op op_add (pe_op Sx.op_mulA (pe_op op_mod (pe_callB Sx.c_abs (by rfl) T.n_abs Sx.bt_abs (pa_cons (pv 2) pa_nil)) pe_int) pe_int) (pe_op Sx.op_mulA pe_int (pv 1))) (pe_op Sx.op_mulA pe_int (pe_callTy Sx.c_int (by rfl) T.n_int Sx.bt_int (pa_cons (pe_cmpR op_lt (pv 2) pe_int (nomark _)) pa_nil)))) pe_int) (pa_cons pe_int pa_nil)))))))), ?_⟩
    refine Sx.r_st (σ' := [some (.ref a), some (.int i), none, none]) rfl ?_
    walk_at "sx"
    refine r_cutQ (fun v H1 => H1 = H ∧ ∃ x : Int, v = .int x) (fun Q' k => ?_) ?_
    · refine r_ifE ?_
      walk_at "sx"
      refine r_lenL hS ?_
      walk_at "sx"
      rw [List.length_map]
      refine ite_d (fun h => ?_) (fun h => ?_)
      · have h' : i < ns.length := by omega
        walk_at "sx"
        refine ⟨a, _, _, _, rfl, rfl, hS, atI_nat (j := i) (v := .int ns[i]) (by rw [List.getElem?_map, List.getElem?_eq_getElem h']; rfl), ?_⟩
        walk_at "sx"
        exact k _ _ ⟨rfl, _, rfl⟩
      · walk_at "sx"
        · exact k _ _ ⟨rfl, _, rfl⟩
        all_goals walk_at "sd"
    · rintro v H1 ⟨rfl, x, rfl⟩
      walk_at "sx"
      · refine ⟨sz _ (Nat.le_of_ble_eq_true rfl), fun d hd => ?_⟩
        exact q _ _ (same_new hd) hd ⟨_, _, _, upd_same⟩
      all_goals first | walk_at "sd" | exact cmA_w (by unfold CMulW; decide +kernel)
def sp_law_roll : Sp := fun vs H Q _ => ∃ (d : Addr) (n : Int), vs = [.ref d, .int n] ∧ Dice H d ∧ 0 < n ∧ n.natAbs.log2 < 9000 ∧ ∀ r H', 0 ≤ r → r < n → Kp d H H' → Q (.int r) H'
theorem ok_law_roll (T : Tx K mg) : FnOk P w K mg base CX0 1 T.a_law_roll T.d_law_roll ["_law_dice_here", "_law_total"] sp_law_roll := by
  refine T.F_law_roll.ok sc_law_roll (fun vs H Q E h => ?_) (fun cdv A outer s H vs Q E hr h => ?_)
  · obtain ⟨d, n, rfl, _⟩ := h; rfl
  · obtain ⟨d, n, rfl, ⟨x, y, z, hd⟩, hn, hl, q⟩ := h
    refine ⟨_, (pss_cons (ps_if (pt_cmpR op_gt (pe_ix ix_list (pv 0) pe_int (fun _ _ => rfl)) pe_int (nomark _)) (pss_cons (ps_set (i := 2) sc_law_roll.nd rfl (.inl rfl) (pe_op op_mod (pe_callTy Sx.c_int (by rfl) T.n_int Sx.bt_int (pa_cons (pe_ix ix_list (pv 0) pe_int (fun _ _ => rfl)) pa_nil)) (pv 1)))
      (pss_cons (ps_asg (pe_op op_fdivW (pe_ix ix_list (pv 0) pe_int (fun _ _ => rfl)) (pv 1)) (pg_sub (pv 0) pe_int set_list))
      (pss_one (ps_ret (pv 2))))) pss_nil)
      (pss_cons (ps_asg (pe_op op_add (pe_ix ix_list (pv 0) pe_int (fun _ _ => rfl)) pe_int) (pg_sub (pv 0) pe_int set_list))
      (pss_cons (ps_set (i := 3) sc_law_roll.nd rfl (.inl rfl) (pe_op op_mod (pe_callTy Sx.c_int (by rfl) T.n_int Sx.bt_int (pa_cons (pe_op op_add (pe_ix ix_list (pv 0) pe_int (fun _ _ => rfl)) (pe_op Sx.op_mulA pe_int (pe_ix ix_list (pv 0) pe_int (fun _ _ => rfl)))) pa_nil)) pe_int))
      (pss_cons (ps_set (i := 4) sc_law_roll.nd rfl (.inl rfl) (pe_op op_add (pe_op Sx.op_mulA (pe_op op_mod (pe_callTy Sx.c_int (by rfl) T.n_int Sx.bt_int (pa_cons (pe_op op_add (pe_op Sx.op_mulA (pv 3) (pv 3)) (pe_op Sx.op_mulA pe_int (pe_ix ix_list (pv 0) pe_int (fun _ _ => rfl)))) pa_nil)) pe_int) pe_int) (pv 3)))
      (pss_one (ps_ret (pe_op op_mod (pe_callTy Sx.c_int (by rfl) T.n_int Sx.bt_int (pa_cons (pe_op op_fdivW (pv 4) pe_int) pa_nil)) (pv 1)))))))), ?_⟩
    refine Sx.r_st (σ' := [some (.ref d), some (.int n), none, none, none]) rfl ?_
    walk_at "sxi"
    refine r_ixL hd (v := .int x) rfl ?_
    walk_at "sx"
    refine ite_d (fun h => ?_) (fun h => ?_)
    · walk_at "sx"
      refine r_ixL hd (v := .int x) rfl ?_
      walk_at "sx"
      · refine r_ixL hd (v := .int x) rfl ?_
        walk_at "sx"
        · refine r_setL hd (j := 0) rfl ?_
          walk_at "sx"
          refine q _ _ (Int.emod_nonneg _ (by omega)) (Int.emod_lt_of_pos _ hn) (Kp.put ⟨x, y, z, hd⟩)
        · exact ⟨hn, hl⟩
      · exact hn
    · walk_at "sx"
      refine r_ixL hd (v := .int z) rfl ?_
      walk_at "sx"
      refine r_setL hd (j := 2) rfl ?_
      walk_at "sx"
      refine r_ixL upd_same (v := .int y) rfl ?_
      walk_at "sx"
      refine r_ixL upd_same (v := .int (z + 1)) rfl ?_
      walk_at "sx"
      refine r_ixL upd_same (v := .int (z + 1)) rfl ?_
      walk_at "sx"
      · exact q _ _ (Int.emod_nonneg _ (by omega)) (Int.emod_lt_of_pos _ hn) (Kp.put ⟨x, y, z, hd⟩)
      all_goals walk_at "sd"
theorem log_small {n : Int} (h0 : 0 ≤ n) (h : n ≤ 1000) : n.natAbs.log2 < 9000 := PySem.Flt.log2_lt_of (by decide) (Nat.lt_of_le_of_lt (show n.natAbs ≤ 1000 by omega) (by decide +kernel))
def sp_law_pick : Sp := fun vs H Q _ => ∃ (d l : Addr) (xs : List V), vs = [.ref d, .ref l] ∧ Dice H d ∧ l ≠ d ∧ H l = some (.lst xs) ∧ 0 < xs.length ∧ xs.length ≤ 1000 ∧ ∀ v H', v ∈ xs → Kp d H H' → Q v H'
theorem ok_law_pick (T : Tx K mg) : FnOk P w K mg base CX0 2 T.a_law_pick T.d_law_pick ["_law_dice_here", "_law_items"] sp_law_pick := by
  refine T.F_law_pick.ok sc_law_pick (fun vs H Q E h => ?_) (fun cdv A outer s H vs Q E hr h => ?_)
  · obtain ⟨d, n, xs, rfl, _⟩ := h; rfl
  · obtain ⟨d, l, xs, rfl, hd, hld, hl, h0, hn, q⟩ := h
    refine ⟨_, (pss_one (ps_ret (pe_ix ix_list (pv 1) (pe_call (ok_law_roll T) (hr.mono (by decide)) (by rfl) T.g_law_roll T.F_law_roll.kp T.b_law_roll .nil pass0 (pa_cons (pv 0) (pa_cons (pe_callB Sx.c_len (by rfl) T.n_len Sx.bt_len (pa_cons (pv 1) pa_nil)) pa_nil))) (fun _ _ => rfl)))), ?_⟩
    refine Sx.r_st (σ' := [some (.ref d), some (.ref l)]) rfl ?_
    walk_at "sx"
    refine r_lenL (SqL.of hl) ?_
    walk_at "sx"
    refine ⟨d, xs.length, rfl, hd, by omega, ?_, fun r H' h1 h2 kp => ?_⟩
    · exact PySem.Flt.log2_lt_of (by decide) (Nat.lt_of_le_of_lt (show (xs.length : Int).natAbs ≤ 1000 by omega) (by decide +kernel))
    have hr : r.toNat < xs.length := by omega
    refine r_ixL (kp.k l _ hld hl) (v := xs[r.toNat]) ?_ ?_
    · have := atI_nat (xs := xs) (j := r.toNat) (v := xs[r.toNat]) (List.getElem?_eq_getElem hr)
      rw [Int.toNat_of_nonneg h1] at this; exact this
    exact q _ _ (List.getElem_mem hr) kp
def sp_law_any_slope : Sp := fun vs H Q _ => ∃ (d : Addr) (n : Int), vs = [.ref d, .int n] ∧ Dice H d ∧ 0 < n ∧ n ≤ 1000 ∧ ∀ p a b H', 1 ≤ a → a ≤ n → 1 ≤ b → b ≤ n → Kp d H H' → H' p = some (.tup [.int a, .int b]) → Q (.ref p) H'
theorem ok_law_any_slope (T : Tx K mg) : FnOk P w K mg base CX0 2 T.a_law_any_slope T.d_law_any_slope ["_law_dice_here", "_law_most"] sp_law_any_slope := by
  refine T.F_law_any_slope.ok sc_law_any_slope (fun vs H Q E h => ?_) (fun cdv A outer s H vs Q E hr h => ?_)
  · obtain ⟨d, n, rfl, _⟩ := h; rfl
  · obtain ⟨d, n, rfl, hd, h0, hn, q⟩ := h
    refine ⟨_, (pss_one (ps_ret (pe_tup (pa_cons (pe_op op_add pe_int (pe_call (ok_law_roll T) (hr.mono (by decide)) (by rfl) T.g_law_roll T.F_law_roll.kp T.b_law_roll .nil pass0 (pa_cons (pv 0) (pa_cons (pv 1) pa_nil)))) (pa_cons (pe_op op_add pe_int (pe_call (ok_law_roll T) (hr.mono (by decide)) (by rfl) T.g_law_roll T.F_law_roll.kp T.b_law_roll .nil pass0 (pa_cons (pv 0) (pa_cons (pv 1) pa_nil)))) pa_nil))))), ?_⟩
    refine Sx.r_st (σ' := [some (.ref d), some (.int n)]) rfl ?_
    walk_at "sx"
    refine ⟨d, n, rfl, hd, h0, log_small (by omega) hn, fun r H1 h1 h2 k1 => ?_⟩
    walk_at "sx"
    refine ⟨d, n, rfl, k1.d1, h0, log_small (by omega) hn, fun r2 H2 h3 h4 k2 => ?_⟩
    walk_at "sx"
    refine ⟨sz _ (Nat.le_of_ble_eq_true rfl), fun p hp => ?_⟩
    exact q p _ _ _ (by omega) (by omega) (by omega) (by omega) ((k1.trans k2).new hp) upd_same
/-! ### gcd by the law's own way -/
def sp_law_common : Sp := fun vs H Q _ => ∃ a b : Nat, vs = [.int a, .int b] ∧ 0 < a ∧ a ≤ 1000000 ∧ b ≤ 1000000 ∧ Q (.int ((Nat.gcd a b : Nat) : Int)) H
theorem ok_law_common (T : Tx K mg) : FnOk P w K mg base CX0 1 T.a_law_common T.d_law_common ["_law_one", "_law_other"] sp_law_common := by
  refine T.F_law_common.ok sc_law_common (fun vs H Q E h => ?_) (fun cdv A outer s H vs Q E hr h => ?_)
  · obtain ⟨a, b, rfl, _⟩ := h; rfl
  · obtain ⟨a, b, rfl, h0, ha, hb, q⟩ := h
    refine ⟨_, (pss_cons (ps_while PassesOwn.never (pt_cmpR op_gt (pv 1) pe_int (nomark _)) (pss_one (ps_par (i := 0) (j := 1) (by rfl) sc_law_common.nd rfl rfl (by decide) rfl rfl (pa_cons (pv 1) (pa_cons (pe_op op_sub (pv 0) (pe_op Sx.op_mulA (pe_op op_fdivW (pv 0) (pv 1)) (pv 1))) pa_nil)) (by rfl))))
      (pss_one (ps_ret (pv 0)))), ?_⟩
    refine Sx.r_st (σ' := [some (.int a), some (.int b)]) rfl ?_
    walk_at "sx"
    refine r_while (fun m σ' H' => H' = H ∧ ∃ x y : Nat, σ' = [some (.int x), some (.int y)] ∧ x ≤ 1000000 ∧ y ≤ 1000000 ∧ Nat.gcd x y = Nat.gcd a b ∧ y = m) b ⟨rfl, a, b, rfl, ha, hb, rfl, rfl⟩ ?_
    rintro m σ' H' ⟨rfl, x, y, rfl, hx, hy, hg, rfl⟩
    walk_at "sx"
    refine ite_d (fun h => ?_) (fun h => ?_)
    · refine ⟨fun σ2 H2 => H2 = H' ∧ σ2 = [some (.int y), some (.int ((x % y : Nat) : Int))], ?_, ?_⟩
      · rintro σ2 H2 ⟨rfl, rfl⟩
        have hy0 : 0 < y := by omega
        have hm := Nat.mod_lt x hy0
        refine ⟨x % y, hm, rfl, y, x % y, rfl, hy, by omega, ?_, rfl⟩
        rw [← hg, Nat.gcd_comm x y, Nat.gcd_comm y (x % y), ← Nat.gcd_rec]
      · have hy0 : 0 < y := by omega
        have e : (x : Int) - (x : Int) / (y : Int) * (y : Int) = ((x % y : Nat) : Int) := by
          have h1 := Int.mul_ediv_add_emod (x : Int) (y : Int)
          rw [Int.natCast_emod, Int.mul_comm ((x : Int) / (y : Int))]; omega
        walk_at "sx"
        · rw [e]; exact ⟨rfl, rfl⟩
        · exact cmA_r (by omega)
        · exact cdivw (b := 64) (by omega) (by omega) (by decide)
    · have hy0 : y = 0 := by omega
      subst hy0
      rw [Nat.gcd_zero_right] at hg
      walk_at "sx"
      rw [hg]; exact q
/-! ### choose -/
def sp_law_choose : Sp := fun vs H Q _ => ∃ n k : Nat, vs = [.int n, .int k] ∧ k ≤ n ∧ n ≤ 10000 ∧ Q (.int ((M3.chl n k : Nat) : Int)) H
theorem ok_law_choose (T : Tx K mg) : FnOk P w K mg base CX0 1 T.a_law_choose T.d_law_choose ["_law_whole", "_law_part"] sp_law_choose := by
  refine T.F_law_choose.ok sc_law_choose (fun vs H Q E h => ?_) (fun cdv A outer s H vs Q E hr h => ?_)
  · obtain ⟨n, k, rfl, _⟩ := h; rfl
  · obtain ⟨n, k, rfl, hk, hn, q⟩ := h
    refine ⟨_, (pss_cons (ps_set (i := 2) sc_law_choose.nd rfl (.inl rfl) pe_int)
      (pss_cons (ps_for PassesOwn.never rfl (pi_range1 (by rfl) T.n_range (pa_cons (pv 1) pa_nil)) (pg_name (i := 3) sc_law_choose.nd rfl (.inl rfl)) (pss_one (ps_set (i := 2) sc_law_choose.nd rfl (.inl rfl) (pe_op op_fdivW (pe_op Sx.op_mulA (pv 2) (pe_op op_sub (pv 0) (pv 3))) (pe_op op_add (pv 3) pe_int)))))
      (pss_one (ps_ret (pv 2))))), ?_⟩
    refine Sx.r_st (σ' := [some (.int n), some (.int k), none, none]) rfl ?_
    walk_at "sx"
    refine r_rng1 ?_ (by omega) (by omega)
    refine fr_range (fun i σ' H' => H' = H ∧ ∃ y, σ' = [some (.int n), some (.int k), some (.int ((M3.chl n i : Nat) : Int)), y]) ⟨rfl, none, rfl⟩ ?_ ?_
    · rintro i σ' H' hi ⟨rfl, y, rfl⟩
      have hi' : i < k := by omega
      walk_at "sx"
      · refine ⟨rfl, some (.int (0 + i)), ?_⟩
        have e : ((M3.chl n i : Nat) : Int) * ((n : Int) - (0 + (i : Int))) / (0 + (i : Int) + 1) = ((M3.chl n (i + 1) : Nat) : Int) := by
          show _ = ((M3.chl n i * (n - i) / (i + 1) : Nat) : Int)
          push_cast [Int.natCast_ediv, Int.natCast_sub (show i ≤ n by omega)]
          rw [Int.zero_add]
        rw [e]; rfl
      · exact cdivw (b := 64) (by omega) (by omega) (by decide)
      · exact cmA_r (by omega)
    · rintro σ' H' ⟨rfl, y, rfl⟩
      walk_at "sx"
      rw [show (k : Int).toNat = k by omega]; exact q
end
end Lw

namespace Lw
open PySem PySem.Spec PyProof.Rows L2 Sx
open C8 (pe_gc)
open SkE (call_repr_int call_str_str)
open RZ (pi_zipA)
section
variable {P : Program} {w : World} {K : PySem.W.Frag} {mg : Str → Option Value} {base : Heap}
/-! ### the rows of ends -/
/-- at p a list of n lists, the i-th one f i -/
def MatF (H : Hp) (p : Addr) (n : Nat) (f : Nat → List Nat) : Prop := ∃ ps : List Addr, ps.length = n ∧ H p = some (.lst (ps.map V.ref)) ∧ ∀ i q, ps[i]? = some q → q ≠ p ∧ H q = some (.lst ((f i).map fun x : Nat => V.int x))
def sp_law_ends : Sp := fun vs H Q _ => ∃ a b : Nat, vs = [.int a, .int b] ∧ 1 ≤ a ∧ a ≤ 60 ∧ 1 ≤ b ∧ b ≤ 60 ∧ ∀ p H', Same H H' → MatF H' p (a + 1) (M3.rowOf a b) → Q (.ref p) H'
theorem row_get {a b l m : Nat} (h : m ≤ b) : ((M3.rowOf a b l).map fun x : Nat => V.int x)[m]? = some (V.int ((M3.rowOf a b l).getD m 0 : Nat)) := by
  have hl := M3.rowOf_len a b l
  rw [List.getElem?_map, List.getD_eq_getElem?_getD, List.getElem?_eq_getElem (by omega)]; rfl
theorem row_take {a b l m : Nat} (h : m ≤ b) : (M3.rowOf a b l).take (m + 1) = (M3.rowOf a b l).take m ++ [(M3.rowOf a b l).getD m 0] := by
  have hl := M3.rowOf_len a b l
  rw [List.take_add_one, List.getD_eq_getElem?_getD, List.getElem?_eq_getElem (by omega)]; rfl
theorem row_0 {a b m : Nat} (h : m ≤ b) : (M3.rowOf a b 0).getD m 0 = 1 := by
  show (List.replicate (b + 1) 1).getD m 0 = 1
  rw [List.getD_eq_getElem?_getD, List.getElem?_replicate, if_pos (by omega)]; rfl
theorem row_s0 {a b l : Nat} : (M3.rowOf a b (l + 1)).getD 0 0 = (M3.rowOf a b l).getD 0 0 := M3.nextRow_get0 _ _ _
theorem row_ss {a b l m : Nat} (h : m + 1 ≤ b) : (M3.rowOf a b (l + 1)).getD (m + 1) 0 = (if b * (l + 1) ≤ a * m then (M3.rowOf a b (l + 1)).getD m 0 else 0) + (M3.rowOf a b l).getD (m + 1) 0 :=
  M3.nextRow_get _ _ _ _ (by rw [M3.rowOf_len]; omega)
/-- an end's number without the row ahead -/
def ent1 (a b l m : Nat) : Nat := match m with
  | 0 => if l = 0 then 1 else 0
  | m' + 1 => if b * l ≤ a * m' then (M3.rowOf a b l).getD m' 0 else 0
def ent2 (a b l m : Nat) : Nat := match l with
  | 0 => 0
  | l' + 1 => (M3.rowOf a b l').getD m 0
theorem ent_eq {a b : Nat} : ∀ l m, m ≤ b → ent1 a b l m + ent2 a b l m = (M3.rowOf a b l).getD m 0
  | 0, 0, h => by rw [row_0 h]; rfl
  | 0, m + 1, h => by
    have e : (M3.rowOf a b 0).getD m 0 = 1 := row_0 (by omega)
    rw [row_0 h]
    simp only [ent1, ent2, e, Nat.mul_zero, Nat.zero_le, if_true]
  | l + 1, 0, h => by
    rw [row_s0]
    show 0 + _ = _
    rw [Nat.zero_add]; rfl
  | l + 1, m + 1, h => by rw [row_ss h]; rfl
theorem ok_law_ends (T : Tx K mg) : FnOk P w K mg base CX0 1 T.a_law_ends T.d_law_ends ["_law_rises", "_law_steps"] sp_law_ends := by
  refine T.F_law_ends.ok sc_law_ends (fun vs H Q E h => ?_) (fun cdv A outer s H vs Q E hr h => ?_)
  · obtain ⟨a, b, rfl, _⟩ := h; rfl
  · obtain ⟨a, b, rfl, a1, a2, b1, b2, q⟩ := h
    refine ⟨_, (pss_cons (ps_set (i := 2) sc_law_ends.nd rfl (.inl rfl) (pe_lst pa_nil))
      (pss_cons (ps_for PassesOwn.never rfl (pi_range1 (by rfl) T.n_range (pa_cons (pe_op op_add (pv 0) pe_int) pa_nil)) (pg_name (i := 3) sc_law_ends.nd rfl (.inl rfl)) (pss_cons (ps_set (i := 4) sc_law_ends.nd rfl (.inl rfl) (pe_lst pa_nil))
      (pss_cons (ps_for PassesOwn.never rfl (pi_range1 (by rfl) T.n_range (pa_cons (pe_op op_add (pv 1) pe_int) pa_nil)) (pg_name (i := 5) sc_law_ends.nd rfl (.inl rfl)) (pss_cons (ps_set (i := 6) sc_law_ends.nd rfl (.inl rfl) (pe_callTy Sx.c_int (by rfl) T.n_int Sx.bt_int (pa_cons (pe_cmpR op_eq (pe_op op_add (pv 3) (pv 5)) pe_int (nomark _)) pa_nil)))
      (pss_cons (ps_if (PW.pt (pw_and (pt_cmpR op_gt (pv 5) pe_int (nomark _)) (pw_and1 (pt_cmpR op_ge (pe_op Sx.op_mulA (pv 0) (pe_op op_sub (pv 5) pe_int)) (pe_op Sx.op_mulA (pv 1) (pv 3)) (nomark _))))) (pss_one (ps_set (i := 6) sc_law_ends.nd rfl (.inl rfl) (pe_op op_add (pv 6) (pe_ix ix_list (pv 4) (pe_op op_sub (pv 5) pe_int) (fun _ _ => rfl))))) pss_nil)
      (pss_cons (ps_if (pt_cmpR op_gt (pv 3) pe_int (nomark _)) (pss_one (ps_set (i := 6) sc_law_ends.nd rfl (.inl rfl) (pe_op op_add (pv 6) (pe_ix ix_list (pe_ix ix_list (pv 2) (pe_op op_sub (pv 3) pe_int) (fun _ _ => rfl)) (pv 5) (fun _ _ => rfl))))) pss_nil)
      (pss_one (ps_expr (pe_bm PySem.F.plainAttrs_list PySem.F.slot_list_append PySem.F.type_list_append mt_append (pv 4) (pa_cons (pv 6) pa_nil))))))))
      (pss_one (ps_expr (pe_bm PySem.F.plainAttrs_list PySem.F.slot_list_append PySem.F.type_list_append mt_append (pv 2) (pa_cons (pv 4) pa_nil)))))))
      (pss_one (ps_ret (pv 2))))), ?_⟩
    refine Sx.r_st (σ' := [some (.int a), some (.int b), none, none, none, none, none]) rfl ?_
    walk_at "sx"
    refine ⟨Nat.zero_le _, fun p hp => ?_⟩
    walk_at "sx"
    refine r_rng1 ?_ (by omega) (by omega)
    refine fr_range (fun l σ' H' => Same H H' ∧ (∃ y3 y4 y5 y6, σ' = [some (.int a), some (.int b), some (.ref p), y3, y4, y5, y6]) ∧ MatF H' p l (M3.rowOf a b)) ⟨same_new hp, ⟨none, none, none, none, rfl⟩, [], rfl, upd_same, fun i q h => by simp at h⟩ ?_ ?_
    · rintro l σ' H1 hl ⟨sm, ⟨y3, y4, y5, y6, rfl⟩, ps, hps, hpp, hrows⟩
      have hl' : l ≤ a := by omega
      walk_at "sx"
      refine ⟨Nat.zero_le _, fun r hr => ?_⟩
      walk_at "sx"
      refine r_rng1 ?_ (by omega) (by omega)
      refine fr_range (fun m σ' H' => Same H1 H' ∧ (∃ y5 y6, σ' = [some (.int a), some (.int b), some (.ref p), some (.int l), some (.ref r), y5, y6]) ∧ H' r = some (.lst (((M3.rowOf a b l).take m).map fun x : Nat => V.int x))) ⟨same_new hr, ⟨y5, y6, by rw [Int.zero_add]; rfl⟩, upd_same⟩ ?_ ?_
      · rintro m σ' H2 hm ⟨sm2, ⟨y5, y6, rfl⟩, hrr⟩
        have hm' : m ≤ b := by omega
        walk_at "sx"
        have hne : p ≠ r := ne_of_none hpp hr
        refine r_cutS (fun σ3 H3 => H3 = H2 ∧ σ3 = [some (.int a), some (.int b), some (.ref p), some (.int l), some (.ref r), some (.int m), some (.int ((ent1 a b l m : Nat) : Int))]) (fun nx' k => ?_) ?_
        · refine r_ifs ?_
          walk_at "sx"
          refine ite_d (fun h => ?_) (fun h => ?_)
          · walk_at "sx"
            · refine ite_d (fun h2 => ?_) (fun h2 => ?_)
              · obtain ⟨m', rfl⟩ : ∃ m', m = m' + 1 := ⟨m - 1, by omega⟩
                walk_at "sx"
                refine r_ixL hrr (v := .int ((M3.rowOf a b l).getD m' 0 : Nat)) ?_ ?_
                · rw [show (0 : Int) + ((m' + 1 : Nat) : Int) - 1 = ((m' : Nat) : Int) by omega]
                  refine atI_nat ?_
                  rw [List.getElem?_map, List.getElem?_take, if_pos (by omega), ← List.getElem?_map]
                  exact row_get (by omega)
                walk_at "sx"
                refine k _ _ ⟨rfl, ?_⟩
                have e1 : ¬ ((l : Int) + (0 + ((m' + 1 : Nat) : Int)) = 0) := by omega
                have h3 : b * l ≤ a * m' := by
                  have : (b : Int) * l ≤ (a : Int) * (0 + ((m' + 1 : Nat) : Int) - 1) := h2
                  rw [show (0 : Int) + ((m' + 1 : Nat) : Int) - 1 = ((m' : Nat) : Int) by omega, ← Int.natCast_mul, ← Int.natCast_mul] at this
                  omega
                rw [decide_eq_false e1, Int.zero_add]
                simp only [ent1, h3, if_true]
                simp
              · walk_at "sx"
                refine k _ _ ⟨rfl, ?_⟩
                obtain ⟨m', rfl⟩ : ∃ m', m = m' + 1 := ⟨m - 1, by omega⟩
                have e1 : ¬ ((l : Int) + (0 + ((m' + 1 : Nat) : Int)) = 0) := by omega
                have h3 : ¬ b * l ≤ a * m' := by
                  have : ¬ (b : Int) * l ≤ (a : Int) * (0 + ((m' + 1 : Nat) : Int) - 1) := h2
                  rw [show (0 : Int) + ((m' + 1 : Nat) : Int) - 1 = ((m' : Nat) : Int) by omega, ← Int.natCast_mul, ← Int.natCast_mul] at this
                  omega
                rw [decide_eq_false e1, Int.zero_add]
                simp only [ent1, h3, if_false]
                simp
            all_goals walk_at "sd"
          · walk_at "sx"
            refine k _ _ ⟨rfl, ?_⟩
            have e0 : m = 0 := by omega
            subst e0
            by_cases hl0 : l = 0
            · subst hl0; rfl
            · rw [decide_eq_false (show ¬ ((l : Int) + (0 + ((0 : Nat) : Int)) = 0) by omega), Int.zero_add]
              simp only [ent1, hl0, if_false]
              simp
        · rintro σ3 H3 ⟨rfl, rfl⟩
          walk_at "sx"
          refine r_cutS (fun σ3 H4 => H4 = H3 ∧ σ3 = [some (.int a), some (.int b), some (.ref p), some (.int l), some (.ref r), some (.int m), some (.int (((M3.rowOf a b l).getD m 0 : Nat) : Int))]) (fun nx' k => ?_) ?_
          · refine r_ifs ?_
            walk_at "sx"
            refine ite_d (fun h => ?_) (fun h => ?_)
            · obtain ⟨l', rfl⟩ : ∃ l', l = l' + 1 := ⟨l - 1, by omega⟩
              have hps' : l' < ps.length := by omega
              walk_at "sx"
              refine r_ixL (sm2 _ _ hpp) (v := .ref ps[l']) ?_ ?_
              · rw [show ((l' + 1 : Nat) : Int) - 1 = ((l' : Nat) : Int) by omega]
                refine atI_nat ?_
                rw [List.getElem?_map, List.getElem?_eq_getElem hps']; rfl
              walk_at "sx"
              refine r_ixL (sm2 _ _ (hrows l' _ (List.getElem?_eq_getElem hps')).2) (atI_nat (j := m) (row_get hm')) ?_
              walk_at "sx"
              refine k _ _ ⟨rfl, ?_⟩
              rw [← ent_eq (a := a) (b := b) (l' + 1) m hm', Int.natCast_add]; rfl
            · walk_at "sx"
              refine k _ _ ⟨rfl, ?_⟩
              have e0 : l = 0 := by omega
              subst e0
              rw [← ent_eq (a := a) (b := b) 0 m hm']; rfl
          · rintro σ3 H4 ⟨rfl, rfl⟩
            walk_at "sx"
            refine ⟨tyL hrr, ?_⟩
            walk_at "sx"
            refine r_app hrr ?_ ?_
            · refine ⟨same_mut sm2 hr, ⟨_, _, rfl⟩, ?_⟩
              rw [upd_same, row_take hm', List.map_append]; rfl
            · rw [List.length_map, List.length_take]; exact sz' _ (by omega)
      · rintro σ3 H3 ⟨sm3, ⟨y5, y6, rfl⟩, hrr⟩
        rw [List.take_of_length_le (by rw [M3.rowOf_len]; omega)] at hrr
        walk_at "sx"
        refine ⟨tyL (sm3 _ _ hpp), ?_⟩
        walk_at "sx"
        refine r_app (sm3 _ _ hpp) ?_ ?_
        · have hne : p ≠ r := ne_of_none hpp hr
          refine ⟨same_mut (sm.trans sm3) hp, ⟨_, _, _, _, rfl⟩, ps ++ [r], by rw [List.length_append, hps]; rfl, by rw [upd_same, List.map_append]; rfl, fun i q hi => ?_⟩
          by_cases hil : i < ps.length
          · rw [List.getElem?_append_left hil] at hi
            obtain ⟨hq, h4⟩ := hrows i q hi
            refine ⟨hq, ?_⟩
            rw [upd_ne hq]; exact sm3 _ _ h4
          · rw [List.getElem?_append_right (by omega)] at hi
            have e : i = l := by
              rcases Nat.lt_or_ge (i - ps.length) 1 with h5 | h5
              · omega
              · rw [List.getElem?_eq_none (by simpa using h5)] at hi; cases hi
            subst e
            rw [show i - ps.length = 0 by omega] at hi
            cases hi
            exact ⟨hne.symm, by rw [upd_ne hne.symm]; exact hrr⟩
        · rw [List.length_map]; exact sz' _ (by omega)
    · rintro σ3 H3 ⟨sm3, ⟨y3, y4, y5, y6, rfl⟩, hm⟩
      walk_at "sx"
      exact q p H3 sm3 hm
end
end Lw

namespace Lw
open PySem PySem.Spec PyProof.Rows L2 Sx
open C8 (pe_gc)
open SkE (call_repr_int call_str_str)
open RZ (pi_zipA)
section
variable {P : Program} {w : World} {K : PySem.W.Frag} {mg : Str → Option Value} {base : Heap}
/-! ### way_count -/
def sp_way_count (C : Addr) : Sp := fun vs H Q _ => ∃ v, ∃ a b : Nat, vs = [v] ∧ SlopeAt C H v a b ∧ ∀ H', Same H H' → Q (.int ((M3.wc a b : Nat) : Int)) H'
theorem natsAt {l : List Nat} {i : Nat} (h : i < l.length) : (l.map fun x : Nat => V.int x)[i]? = some (V.int (l.getD i 0 : Nat)) := by
  rw [List.getElem?_map, List.getD_eq_getElem?_getD, List.getElem?_eq_getElem h]; rfl
theorem bz_bnd {a b i j : Nat} (h1 : 1 ≤ a) (h2 : a ≤ 60) (h3 : 1 ≤ b) (h4 : b ≤ 60) (hi : i ≤ Nat.gcd a b) (hj : j ≤ i) : (M3.bzC (a / Nat.gcd a b) (a / Nat.gcd a b + b / Nat.gcd a b) i).getD j 0 < 2 ^ 400 := by
  have h := M3.okT_all a b h1 h2 h3 h4
  unfold M3.okT at h
  rw [Bool.and_eq_true] at h
  have h5 := List.all_eq_true.mp h.2
  rw [M3.bzC_get _ _ i j hj, ← M3.bzC_get _ _ (Nat.gcd a b) j (by omega)]
  have hl := M3.bzC_len (a / Nat.gcd a b) (a / Nat.gcd a b + b / Nat.gcd a b) (Nat.gcd a b)
  have hm : (M3.bzC (a / Nat.gcd a b) (a / Nat.gcd a b + b / Nat.gcd a b) (Nat.gcd a b)).getD j 0 ∈ M3.bzC (a / Nat.gcd a b) (a / Nat.gcd a b + b / Nat.gcd a b) (Nat.gcd a b) := by
    rw [List.getD_eq_getElem?_getD, List.getElem?_eq_getElem (by omega)]; exact List.getElem_mem _
  have := h5 _ hm
  rw [Nat.blt_eq] at this
  exact this
theorem ok_way_count (T : Tx K mg) : FnOk P w K mg base CX0 3 T.a_way_count T.d_way_count ["slope"] (sp_way_count T.C_Slope) := by
  refine T.F_way_count.ok sc_way_count (fun vs H Q E h => ?_) (fun cdv A outer s H vs Q E hr h => ?_)
  · obtain ⟨v, a, b, rfl, _⟩ := h; rfl
  · obtain ⟨v, a, b, rfl, hS, q⟩ := h
    obtain ⟨a1, a2, b1, b2⟩ : 1 ≤ a ∧ a ≤ 60 ∧ 1 ≤ b ∧ b ≤ 60 := by have := hS.1; omega
    have g0 : 0 < Nat.gcd a b := Nat.gcd_pos_of_pos_left b a1
    have g1 : Nat.gcd a b ≤ a := Nat.gcd_le_left b a1
    refine ⟨_, (pss_cons (ps_expr (pe_call (ok_check_slope T) (hr.mono (by decide)) (by rfl) T.g_check_slope T.F_check_slope.kp T.b_check_slope .nil pass0 (pa_cons (pv 0) pa_nil)))
      (pss_cons (ps_set (i := 1) sc_way_count.nd rfl (.inl rfl) (pe_op op_fdivW (pe_prop (pv 0) T.cl_Slope T.pr_Slope_rises (ok_Slope_rises T) (hr.mono (by decide)) T.b_Slope_rises .nil pass0 rfl) (pe_prop (pv 0) T.cl_Slope T.pr_Slope_common (ok_Slope_common T) (hr.mono (by decide)) T.b_Slope_common .nil pass0 rfl)))
      (pss_cons (ps_set (i := 2) sc_way_count.nd rfl (.inl rfl) (pe_op op_add (pv 1) (pe_op op_fdivW (pe_prop (pv 0) T.cl_Slope T.pr_Slope_steps (ok_Slope_steps T) (hr.mono (by decide)) T.b_Slope_steps .nil pass0 rfl) (pe_prop (pv 0) T.cl_Slope T.pr_Slope_common (ok_Slope_common T) (hr.mono (by decide)) T.b_Slope_common .nil pass0 rfl))))
      (pss_cons (ps_set (i := 3) sc_way_count.nd rfl (.inl rfl) (pe_lst (pa_cons pe_int pa_nil)))
      (pss_cons (ps_for PassesOwn.never rfl (pi_range2 (by rfl) T.n_range (pa_cons pe_int (pa_cons (pe_op op_add (pe_prop (pv 0) T.cl_Slope T.pr_Slope_common (ok_Slope_common T) (hr.mono (by decide)) T.b_Slope_common .nil pass0 rfl) pe_int) pa_nil))) (pg_name (i := 4) sc_way_count.nd rfl (.inl rfl)) (pss_cons (ps_set (i := 5) sc_way_count.nd rfl (.inl rfl) pe_int)
      (pss_cons (ps_for PassesOwn.never rfl (pi_range2 (by rfl) T.n_range (pa_cons pe_int (pa_cons (pe_op op_add (pv 4) pe_int) pa_nil))) (pg_name (i := 6) sc_way_count.nd rfl (.inl rfl)) (pss_one (ps_set (i := 5) sc_way_count.nd rfl (.inl rfl) (pe_op op_add (pv 5) (pe_op Sx.op_mulA (pe_ix ix_list (pv 3) (pe_op op_sub (pv 4) (pv 6)) (fun _ _ => rfl)) (pe_op op_fdivW (pe_callBfun Sx.cr_comb (by rfl) T.i_comb (pa_cons (pe_op Sx.op_mulA (pv 6) (pv 2)) (pa_cons (pe_op Sx.op_mulA (pv 6) (pv 1)) pa_nil))) (pv 2)))))))
      (pss_one (ps_expr (pe_bm PySem.F.plainAttrs_list PySem.F.slot_list_append PySem.F.type_list_append mt_append (pv 3) (pa_cons (pe_op op_fdivW (pv 5) (pv 4)) pa_nil)))))))
      (pss_one (ps_ret (pe_ix ix_list (pv 3) (pe_prop (pv 0) T.cl_Slope T.pr_Slope_common (ok_Slope_common T) (hr.mono (by decide)) T.b_Slope_common .nil pass0 rfl) (fun _ _ => rfl))))))))), ?_⟩
    refine Sx.r_st (σ' := [some (v), none, none, none, none, none, none]) rfl ?_
    walk_at "sx"
    refine ⟨v, a, b, rfl, hS, ?_⟩
    walk_at "sx"
    refine rd_r hS ?_
    walk_at "sx"
    refine rd_c hS ?_
    walk_at "sx"
    · refine rd_s hS ?_
      walk_at "sx"
      refine rd_c hS ?_
      walk_at "sx"
      · refine ⟨by decide, fun c hc => ?_⟩
        walk_at "sx"
        refine rd_c (hS.mono (same_new hc)) ?_
        walk_at "sx"
        simp only [Int.natAbs_natCast, ← Int.natCast_ediv, ← Int.natCast_add]
        generalize hg : Nat.gcd a b = g at *
        generalize hr' : a / g = r at *
        generalize hL : r + b / g = L at *
        have r0 : 0 < r := by rw [← hr']; exact Nat.div_pos g1 g0
        have rb : r ≤ 60 := by rw [← hr']; exact Nat.le_trans (Nat.div_le_self a g) a2
        have L0 : r ≤ L := by rw [← hL]; exact Nat.le_add_right _ _
        have Lb : L ≤ 120 := by have := Nat.div_le_self b g; omega
        have bnd : ∀ i j, i ≤ g → j ≤ i → (M3.bzC r L i).getD j 0 < 2 ^ 400 := by
          intro i j hi hj
          have := bz_bnd (i := i) (j := j) a1 a2 b1 b2 (by rw [hg]; exact hi) hj
          rw [hg, hr', hL] at this; exact this
        refine r_rng2 ?_ ⟨by omega, by omega, by omega, by omega⟩
        refine fr_range (fun i σ' H' => Same H H' ∧ (∃ y4 y5 y6, σ' = [some v, some (.int r), some (.int L), some (.ref c), y4, y5, y6]) ∧ H' c = some (.lst ((M3.bzC r L i).map fun x : Nat => V.int x))) ⟨same_new hc, ⟨none, none, none, rfl⟩, upd_same⟩ ?_ ?_
        · rintro i σ' H1 hi ⟨sm, ⟨y4, y5, y6, rfl⟩, hcc⟩
          have hi' : i < g := by omega
          have hlen := M3.bzC_len r L i
          walk_at "sx"
          refine r_rng2 ?_ ⟨by omega, by omega, by omega, by omega⟩
          refine fr_range (fun k σ' H' => H' = H1 ∧ ∃ y6, σ' = [some v, some (.int r), some (.int L), some (.ref c), some (.int (1 + i)), some (.int ((M3.bzTot r L (M3.bzC r L i) (i + 1) k : Nat) : Int)), y6]) ⟨rfl, y6, rfl⟩ ?_ ?_
          · rintro k σ' H2 hk ⟨rfl, y6, rfl⟩
            have hk' : k ≤ i := by omega
            have e1 : (1 + (k : Int)) * (L : Int) = (((k + 1) * L : Nat) : Int) := by push_cast; rw [Int.add_comm]
            have e2 : (1 + (k : Int)) * (r : Int) = (((k + 1) * r : Nat) : Int) := by push_cast; rw [Int.add_comm]
            have kl : (k + 1) * L ≤ 60 * 120 := Nat.mul_le_mul (by omega) Lb
            have kr : (k + 1) * r ≤ (k + 1) * L := Nat.mul_le_mul_left _ L0
            walk_at "sx"
            refine r_ixL hcc (v := .int ((M3.bzC r L i).getD (i - k) 0 : Nat)) ?_ ?_
            · rw [show (1 : Int) + (i : Int) - (1 + (k : Int)) = ((i - k : Nat) : Int) by omega]
              exact atI_nat (natsAt (by omega))
            walk_at "sx"
            · refine r_comb ?_ ?_ ?_ ?_
              · rw [e1, e2, M3.mc_ch _ _ kr]
                walk_at "sx"
                · refine ⟨rfl, some (.int (1 + k)), ?_⟩
                  rw [← Int.natCast_ediv, ← Int.natCast_mul, ← Int.natCast_add]
                  show _ = [some v, some (.int r), some (.int L), some (.ref c), some (.int (1 + i)), some (.int ((M3.bzTot r L (M3.bzC r L i) (i + 1) k + (M3.bzC r L i).getD (i + 1 - (k + 1)) 0 * (M3.chl ((k + 1) * L) ((k + 1) * r) / L) : Nat) : Int)), some (.int (1 + k))]
                  rw [show i + 1 - (k + 1) = i - k by omega]; rfl
                · refine cmA_w (cmulw (a := 400) (b := 8000) ?_ ?_ (by decide))
                  · rw [Int.natAbs_natCast]; exact bnd i (i - k) (by omega) (by omega)
                  · rw [← Int.natCast_ediv, Int.natAbs_natCast]
                    refine Nat.lt_of_le_of_lt (Nat.div_le_self _ _) ?_
                    rw [M3.chl_eq]
                    exact Nat.lt_of_le_of_lt (M3.ch_le _ _) (Nat.pow_lt_pow_right (by decide) (by omega))
                · exact cdivw (b := 64) (by omega) (by omega) (by decide)
              · omega
              · omega
              · omega
            · exact cmA_l (by omega)
            · exact cmA_l (by omega)
          · rintro σ' H2 ⟨rfl, y6, rfl⟩
            walk_at "sx"
            refine ⟨tyL hcc, ?_⟩
            walk_at "sx"
            · refine r_app hcc ?_ ?_
              · refine ⟨same_mut sm hc, ⟨_, _, _, rfl⟩, ?_⟩
                rw [upd_same]
                have e3 : ((1 + (i : Int) + 1 - 1).toNat) = i + 1 := by omega
                rw [e3, show (1 : Int) + i = ((i + 1 : Nat) : Int) by omega, ← Int.natCast_ediv]
                show _ = some (HO.lst ((M3.bzC r L i ++ [M3.bzTot r L (M3.bzC r L i) (i + 1) (i + 1) / (i + 1)]).map fun x : Nat => V.int x))
                rw [List.map_append]; rfl
              · rw [List.length_map, hlen]; exact sz' _ (by omega)
            · exact cdivw (b := 64) (by omega) (by omega) (by decide)
        · rintro σ' H1 ⟨sm, ⟨y4, y5, y6, rfl⟩, hcc⟩
          have e3 : (((g : Int) + 1 - 1).toNat) = g := by omega
          rw [e3] at hcc
          walk_at "sx"
          refine rd_c (hS.mono sm) ?_
          refine r_ixL hcc (v := .int ((M3.bzC r L g).getD g 0 : Nat)) ?_ ?_
          · rw [Int.natAbs_natCast, Int.natAbs_natCast, hg]
            exact atI_nat (natsAt (by rw [M3.bzC_len]; omega))
          have e4 : M3.wc a b = (M3.bzC r L g).getD g 0 := by unfold M3.wc; rw [hg, hr', hL]
          rw [← e4]
          exact q _ sm
      · rw [Int.natAbs_natCast, Int.natAbs_natCast]
        exact cdivw (b := 64) (by omega) (by rw [Int.natAbs_natCast]; omega) (by decide)
    · rw [Int.natAbs_natCast, Int.natAbs_natCast]
      exact cdivw (b := 64) (by omega) (by rw [Int.natAbs_natCast]; omega) (by decide)
end
end Lw

namespace Lw
open PySem PySem.Spec PyProof.Rows L2 Sx
open C8 (pe_gc)
open SkE (call_repr_int call_str_str)
open RZ (pi_zipA)
section
variable {P : Program} {w : World} {K : PySem.W.Frag} {mg : Str → Option Value} {base : Heap}
def sp_law_sums_right : Sp := fun vs H Q _ => ∃ p q : Nat, vs = [.int p, .int q] ∧ 1 ≤ p ∧ p ≤ 60 ∧ 1 ≤ q ∧ q ≤ 60 ∧ Nat.gcd p q = 1 ∧ ∀ H', Same H H' → Q (.bl true) H'
/-- a part of the sum -/
def term (p q i j : Nat) : Int := ((M3.bz p (p + q) (i - j) * (M3.chl ((j + 1) * (p + q)) ((j + 1) * p) / (p + q)) : Nat) : Int)
theorem term_sum (p q i : Nat) : ((List.range (i + 1)).map (term p q i)).sum = ((M3.bzS p (p + q) (i + 1) (i + 1) : Nat) : Int) := by
  have h : ∀ k, k ≤ i + 1 → ((List.range k).map (term p q i)).sum = ((M3.bzS p (p + q) (i + 1) k : Nat) : Int) := by
    intro k
    induction k with
    | zero => intro _; rfl
    | succ k ih =>
      intro hk
      rw [List.range_succ, List.map_append, List.sum_append, ih (by omega)]
      show _ + (term p q i k + 0) = ((M3.bzS p (p + q) (i + 1) k + M3.bz p (p + q) (i + 1 - (k + 1)) * (M3.chl ((k + 1) * (p + q)) ((k + 1) * p) / (p + q)) : Nat) : Int)
      rw [show i + 1 - (k + 1) = i - k by omega, Int.natCast_add, Int.add_zero]; rfl
  exact h (i + 1) (Nat.le_refl _)
theorem bz_bnd' {p q M j : Nat} (hg : Nat.gcd p q = 1) (ok : ∀ m, 1 ≤ m → m ≤ M → M3.okT (m * p) (m * q) = true) (p1 : 1 ≤ p) (p2 : p ≤ 60) (q1 : 1 ≤ q) (q2 : q ≤ 60) (hMp : M * p ≤ 60) (hMq : M * q ≤ 60) (hj : j < M) : M3.bz p (p + q) j < 2 ^ 400 := by
  rcases Nat.eq_zero_or_pos j with z | z
  · subst z; exact Nat.one_lt_two_pow (by decide)
  · have h1 : j * p ≤ 60 := Nat.le_trans (Nat.mul_le_mul_right p (by omega)) hMp
    have h2 : j * q ≤ 60 := Nat.le_trans (Nat.mul_le_mul_right q (by omega)) hMq
    have := bz_bnd (a := j * p) (b := j * q) (i := j) (j := j) (Nat.mul_pos z p1) h1 (Nat.mul_pos z q1) h2 (by rw [Nat.gcd_mul_left, hg, Nat.mul_one]; exact Nat.le_refl _) (Nat.le_refl _)
    rw [Nat.gcd_mul_left, hg, Nat.mul_one, Nat.mul_div_cancel_left _ z, Nat.mul_div_cancel_left _ z] at this
    exact this
theorem ok_law_sums_right (T : Tx K mg) : FnOk P w K mg base CX0 5 T.a_law_sums_right T.d_law_sums_right ["_law_rises", "_law_steps"] sp_law_sums_right := by
  refine T.F_law_sums_right.ok sc_law_sums_right (fun vs H Q E h => ?_) (fun cdv A outer s H vs Q E hr h => ?_)
  · obtain ⟨p, q, rfl, _⟩ := h; rfl
  · obtain ⟨p, q, rfl, p1, p2, q1, q2, hg, k⟩ := h
    refine ⟨_, (pss_cons (ps_asg (pe_tup (pa_cons (pe_op op_fdivW pe_int (pe_callB (Sx.c_max rfl) (by rfl) T.n_max Sx.bt_max (pa_cons (pv 0) (pa_cons (pv 1) pa_nil)))) (pa_cons (pe_lst (pa_cons pe_int pa_nil)) (pa_cons (pe_op op_add (pv 0) (pv 1)) pa_nil)))) (pg_tup rfl (pgs_cons (pg_name (i := 2) sc_law_sums_right.nd rfl (.inl rfl)) (pgs_cons (pg_name (i := 3) sc_law_sums_right.nd rfl (.inr rfl)) (pgs_cons (pg_name (i := 4) sc_law_sums_right.nd rfl (.inr rfl)) pgs_nil)))))
      (pss_cons (ps_for PassesOwn.never rfl (pi_range2 (by rfl) T.n_range (pa_cons pe_int (pa_cons (pe_op op_add (pv 2) pe_int) pa_nil))) (pg_name (i := 5) sc_law_sums_right.nd rfl (.inr rfl)) (pss_cons (ps_expr (pe_bm PySem.F.plainAttrs_list PySem.F.slot_list_append PySem.F.type_list_append mt_append (pv 3) (pa_cons (pe_call (ok_way_count T) (hr.mono (by decide)) (by rfl) T.g_way_count T.F_way_count.kp T.b_way_count .nil pass0 (pa_cons (pe_make T.mk_Slope (ok_Slope_init T) (hr.mono (by decide)) (by rfl) T.g_Slope T.b_Slope_init .nil pass0 (pa_cons (pe_op Sx.op_mulA (pv 5) (pv 0)) (pa_cons (pe_op Sx.op_mulA (pv 5) (pv 1)) pa_nil))) pa_nil)) pa_nil)))
      (pss_cons (ps_setLc (i := 6) (own := [("_law_part", 7)]) (g := (gName 7)) (tt := tYes) rfl sc_law_sums_right.nd rfl rfl (sw_true rfl rfl rfl (by decide +kernel)) (pi_range2 (by rfl) T.n_range (pa_cons pe_int (pa_cons (pe_op op_add (pv 5) pe_int) pa_nil))) (blkOk_by (N := N_law_sums_right) (sc := defScope st_law_sums_right) (by decide +kernel)) (fun _ _ _ _ _ => (pg_name (i := 7) sc_law_sums_right.nd rfl (.inl rfl))) (fun _ _ _ _ _ => pts_nil) (fun _ _ _ _ _ => (pe_op op_fdivW (pe_op Sx.op_mulA (pe_ix (show IxR _ (rIxL K) from ix_list) (pv 3) (pe_op op_sub (pv 5) (pv 7)) (fun _ _ => rfl)) (pe_call (ok_law_choose T) (hr.mono (by decide)) (by rfl) T.g_law_choose T.F_law_choose.kp T.b_law_choose .nil pass0 (pa_cons (pe_op Sx.op_mulA (pv 7) (pv 4)) (pa_cons (pe_op Sx.op_mulA (pv 7) (pv 0)) pa_nil)))) (pv 4))))
      (pss_one (ps_if (pt_cmpR op_ne (pe_op Sx.op_mulA (pv 5) (pe_ix ix_list (pv 3) (pv 5) (fun _ _ => rfl))) (pe_callB (cr_sum rfl) (by rfl) T.n_sum Sx.bt_sum (pa_cons (pv 6) pa_nil)) (nomark _)) (pss_one (ps_ret pe_bl)) pss_nil)))))
      (pss_one (ps_ret (pe_cmpR op_eq (pe_op Sx.op_mulA (pe_ix ix_list (pv 3) pe_int (fun _ _ => rfl)) (pv 4)) (pe_call (ok_law_choose T) (hr.mono (by decide)) (by rfl) T.g_law_choose T.F_law_choose.kp T.b_law_choose .nil pass0 (pa_cons (pv 4) (pa_cons (pv 0) pa_nil))) (nomark _)))))), ?_⟩
    refine Sx.r_st (σ' := [some (.int p), some (.int q), none, none, none, none, none, none]) rfl ?_
    walk_at "sx"
    · refine ⟨sz _ (Nat.le_of_ble_eq_true rfl), fun c hc => ?_⟩
      walk_at "sx"
      refine ⟨sz _ (Nat.le_of_ble_eq_true rfl), fun t ht => ?_⟩
      refine r_gtup upd_same rfl ?_
      walk_at "sx"
      have hct : c ≠ t := by
        intro e; subst e; rw [upd_same] at ht; cases ht
      obtain ⟨M, hM⟩ : ∃ M : Nat, (60 : Int) / (if (q : Int) > (p : Int) then (q : Int) else (p : Int)) = M ∧ M * p ≤ 60 ∧ M * q ≤ 60 := by
        by_cases hpq : (q : Int) > (p : Int)
        · rw [if_pos hpq]
          refine ⟨60 / q, by rw [Int.natCast_ediv]; rfl, ?_, Nat.div_mul_le_self 60 q⟩
          exact Nat.le_trans (Nat.mul_le_mul_left _ (by omega)) (Nat.div_mul_le_self 60 q)
        · rw [if_neg hpq]
          refine ⟨60 / p, by rw [Int.natCast_ediv]; rfl, Nat.div_mul_le_self 60 p, ?_⟩
          exact Nat.le_trans (Nat.mul_le_mul_left _ (by omega)) (Nat.div_mul_le_self 60 p)
      obtain ⟨hM, hMp, hMq⟩ := hM
      have hM60 : M ≤ 60 := Nat.le_trans (Nat.le_mul_of_pos_right M (by omega)) hMp
      have hM1 : 1 ≤ M := by
        rcases Nat.eq_zero_or_pos M with z | z
        · subst z
          exfalso
          revert hM
          split <;> intro hM
          · have := Int.ediv_mul_le (60 : Int) (show (q : Int) ≠ 0 by omega); have := Int.lt_ediv_add_one_mul_self (60 : Int) (show (0 : Int) < q by omega); rw [hM] at this; omega
          · have := Int.lt_ediv_add_one_mul_self (60 : Int) (show (0 : Int) < p by omega); rw [hM] at this; omega
        · exact z
      rw [hM]
      have ok : ∀ m, 1 ≤ m → m ≤ M → M3.okT (m * p) (m * q) = true := fun m h1 h2 => M3.okT_all _ _ (Nat.mul_pos h1 p1) (Nat.le_trans (Nat.mul_le_mul_right p h2) hMp) (Nat.mul_pos h1 q1) (Nat.le_trans (Nat.mul_le_mul_right q h2) hMq)
      refine r_rng2 ?_ ⟨by omega, by omega, by omega, by omega⟩
      refine fr_range (fun i σ' H' => Same H H' ∧ (∃ y5 y6 y7, σ' = [some (.int p), some (.int q), some (.int M), some (.ref c), some (.int ((p + q : Nat) : Int)), y5, y6, y7]) ∧ H' c = some (.lst ((List.range (i + 1)).map fun j : Nat => V.int (M3.bz p (p + q) j : Nat)))) ⟨(same_new hc).trans (same_new ht), ⟨none, none, none, rfl⟩, by rw [upd_ne hct, upd_same]; rfl⟩ ?_ ?_
      · rintro i σ' H1 hi ⟨sm, ⟨y5, y6, y7, rfl⟩, hcc⟩
        have hi' : i + 1 ≤ M := by omega
        walk_at "sx"
        refine ⟨tyL hcc, ?_⟩
        walk_at "sx"
        · have e1 : (1 + (i : Int)) * (p : Int) = (((i + 1) * p : Nat) : Int) := by push_cast; rw [Int.add_comm]
          have e2 : (1 + (i : Int)) * (q : Int) = (((i + 1) * q : Nat) : Int) := by push_cast; rw [Int.add_comm]
          have b1 : (i + 1) * p ≤ 60 := Nat.le_trans (Nat.mul_le_mul_right p hi') hMp
          have b2 : (i + 1) * q ≤ 60 := Nat.le_trans (Nat.mul_le_mul_right q hi') hMq
          have b3 : 1 ≤ (i + 1) * p := Nat.mul_pos (Nat.succ_pos i) p1
          have b4 : 1 ≤ (i + 1) * q := Nat.mul_pos (Nat.succ_pos i) q1
          rw [e1, e2]
          refine mk_slope (a := (((i + 1) * p : Nat) : Int)) (b := (((i + 1) * q : Nat) : Int)) ⟨by omega, by omega, by omega, by omega⟩ (fun v H2 sm2 hv => ?_)
          walk_at "sx"
          refine ⟨v, (i + 1) * p, (i + 1) * q, rfl, hv, fun H3 sm3 => ?_⟩
          walk_at "sx"
          have hcc3 := sm3 _ _ (sm2 _ _ hcc)
          refine r_app hcc3 ?_ ?_
          · rw [M3.wc_mul hg (i + 1) (Nat.succ_pos i)]
            walk_at "sx"
            have hc4 : (upd H3 c (.lst ((List.range (i + 1)).map (fun j : Nat => V.int (M3.bz p (p + q) j : Nat)) ++ [V.int (M3.bz p (p + q) (i + 1) : Nat)]))) c = some (.lst ((List.range (i + 1 + 1)).map fun j : Nat => V.int (M3.bz p (p + q) j : Nat))) := by
              rw [upd_same, List.range_succ (n := i + 1), List.map_append]; rfl
            have sm4 : Same H (upd H3 c (.lst ((List.range (i + 1)).map (fun j : Nat => V.int (M3.bz p (p + q) j : Nat)) ++ [V.int (M3.bz p (p + q) (i + 1) : Nat)]))) := same_mut (sm.trans (sm2.trans sm3)) hc
            generalize upd H3 c (.lst ((List.range (i + 1)).map (fun j : Nat => V.int (M3.bz p (p + q) j : Nat)) ++ [V.int (M3.bz p (p + q) (i + 1) : Nat)])) = H4 at hc4 sm4 ⊢
            refine r_rng2 ?_ ⟨by omega, by omega, by omega, by omega⟩
            refine lw_range (fun D k H' => Same H4 H' ∧ H' D = some (.lst (((List.range k).map (term p q i)).map V.int))) (fun D hD => ⟨same_new hD, upd_same⟩) ?_ ?_
            · rintro D hD k H5 hk ⟨sm5, hd5⟩
              have hk' : k ≤ i := by omega
              have e3 : (1 + (k : Int)) * ((p + q : Nat) : Int) = (((k + 1) * (p + q) : Nat) : Int) := by push_cast; rw [Int.add_comm]
              have e4 : (1 + (k : Int)) * (p : Int) = (((k + 1) * p : Nat) : Int) := by push_cast; rw [Int.add_comm]
              have b5 : (k + 1) * (p + q) ≤ 120 := by
                have h1 : (k + 1) * p ≤ (i + 1) * p := Nat.mul_le_mul_right p (by omega)
                have h2 : (k + 1) * q ≤ (i + 1) * q := Nat.mul_le_mul_right q (by omega)
                rw [Nat.mul_add]; omega
              have b6 : (k + 1) * p ≤ (k + 1) * (p + q) := Nat.mul_le_mul_left _ (Nat.le_add_right p q)
              walk_at "sx"
              refine ⟨rfl, ?_⟩
              walk_at "sx"
              · refine r_ixL (sm5 _ _ hc4) (v := .int (M3.bz p (p + q) (i - k) : Nat)) ?_ ?_
                · rw [show (1 : Int) + (i : Int) - (1 + (k : Int)) = ((i - k : Nat) : Int) by omega]
                  refine atI_nat ?_
                  rw [List.getElem?_map, List.getElem?_range (by omega)]; rfl
                walk_at "sx"
                · rw [e3, e4]
                  refine ⟨(k + 1) * (p + q), (k + 1) * p, rfl, b6, by omega, ?_⟩
                  walk_at "sx"
                  · refine ⟨_, hd5, ?_, same_mut sm5 hD, ?_⟩
                    · rw [List.length_map, List.length_map, List.length_range]; exact sz' _ (by omega)
                    · rw [upd_same, List.range_succ, List.map_append, List.map_append, ← Int.natCast_mul, ← Int.natCast_ediv]
                      rw [Nat.mul_div_assoc _ (M3.ch_dvd (by rw [Nat.gcd_self_add_right]; exact hg) p1 (k + 1) (Nat.succ_pos k) (Nat.le_add_right p q))]
                      rfl
                  · exact cdivw (b := 64) (by omega) (by omega) (by decide)
                  · refine cmA_w (cmulw (a := 400) (b := 200) ?_ ?_ (by decide))
                    · rw [Int.natAbs_natCast]
                      exact bz_bnd' hg ok p1 p2 q1 q2 hMp hMq (by omega)
                    · rw [Int.natAbs_natCast, M3.chl_eq]
                      exact Nat.lt_of_le_of_lt (M3.ch_le _ _) (Nat.pow_lt_pow_right (by decide) (by omega))
                · exact cmA_l (by omega)
                · exact cmA_l (by omega)
            · rintro D hD H5 ⟨sm5, hd5⟩
              rw [show ((1 + (i : Int) + 1 - 1).toNat) = i + 1 by omega] at hd5
              walk_at "sx"
              refine r_ifs ?_
              walk_at "sx"
              · refine r_ixL (sm5 _ _ hc4) (v := .int (M3.bz p (p + q) (i + 1) : Nat)) ?_ ?_
                · rw [show (1 : Int) + (i : Int) = ((i + 1 : Nat) : Int) by omega]
                  refine atI_nat ?_
                  rw [List.getElem?_map, List.getElem?_range (by omega)]; rfl
                walk_at "sx"
                rotate_left
                · exact cmA_l (by omega)
                refine ⟨D, _, rfl, SqL.of hd5, ?_⟩
                walk_at "sx"
                refine ite_nd (fun h => (h ?_).elim) (fun h => ?_)
                · rw [term_sum, show (1 : Int) + (i : Int) = ((i + 1 : Nat) : Int) by omega, ← Int.natCast_mul, M3.bz_sum hg (i + 1) (Nat.succ_pos i) (ok _ (by omega) hi')]
                · walk_at "sx"
                  refine ⟨sm4.trans sm5, ⟨_, _, _, rfl⟩, sm5 _ _ hc4⟩
          · rw [List.length_map, List.length_range]; exact sz' _ (by omega)
        · exact cmA_l (by omega)
        · exact cmA_l (by omega)
      · rintro σ' H1 ⟨sm, ⟨y5, y6, y7, rfl⟩, hcc⟩
        rw [show (((M : Int) + 1 - 1).toNat) = M by omega] at hcc
        walk_at "sx"
        refine r_ixL hcc (v := .int (M3.bz p (p + q) 1 : Nat)) ?_ ?_
        · refine atI_nat (j := 1) ?_
          rw [List.getElem?_map, List.getElem?_range (by omega)]; rfl
        walk_at "sx"
        · refine ⟨p + q, p, rfl, by omega, by omega, ?_⟩
          walk_at "sx"
          rw [← Int.natCast_mul, M3.bz_1 hg p1, decide_eq_true rfl]
          exact k _ sm
        · exact cmA_r (by omega)
    · exact cdivw (b := 64) (by split <;> omega) (by split <;> omega) (by decide)
end
end Lw

namespace Lw
open PySem PySem.Spec PyProof.Rows L2 Sx
open C8 (pe_gc)
open SkE (call_repr_int call_str_str)
open RZ (pi_zipA)
section
variable {P : Program} {w : World} {K : PySem.W.Frag} {mg : Str → Option Value} {base : Heap}
theorem wc_ends {a b : Nat} (a1 : 1 ≤ a) (a2 : a ≤ 60) (b1 : 1 ≤ b) (b2 : b ≤ 60) : M3.wc a b = (M3.rowOf a b a).getD b 0 := by
  have h := M3.okT_all a b a1 a2 b1 b2
  unfold M3.okT at h
  rw [Bool.and_eq_true, Bool.and_eq_true] at h
  have h2 := h.1.1
  rw [beq_iff_eq] at h2
  rw [h2, ← M3.ends_eq (a := a) (b := b) a1 b1]; rfl
def sp_law_right : Sp := fun vs H Q _ => ∃ d : Addr, vs = [.ref d] ∧ Dice H d ∧ ∀ H', Kp d H H' → Q (.bl true) H'
theorem slF_no {a b : Int} {m : Str} (h1 : m ≠ "_rises") (h2 : m ≠ "_steps") (h3 : m ≠ "_common") : (slF a b).lookup m = none := by
  unfold slF; rw [lookup_putF, if_neg h3, lookup_putF, if_neg h2, lookup_putF, if_neg h1]; rfl
theorem md_slope {C : Addr} {H : Hp} {v : V} {a b : Int} {m : Str} {Pr : Prop} (h : SlopeAt C H v a b) (h1 : m ≠ "_rises") (h2 : m ≠ "_steps") (h3 : m ≠ "_common") (hp : Pr) : ∃ p dx fs, v = .ref p ∧ H p = some (.ins C dx fs) ∧ fs.lookup m = none ∧ Pr := by
  obtain ⟨_, p, dx, rfl, e⟩ := h
  exact ⟨p, dx, _, rfl, e, slF_no h1 h2 h3, hp⟩
theorem ok_law_right (T : Tx K mg) : FnOk P w K mg base CX0 6 T.a_law_right T.d_law_right ["_law_dice_here"] sp_law_right := by
  refine T.F_law_right.ok sc_law_right (fun vs H Q E h => ?_) (fun cdv A outer s H vs Q E hr h => ?_)
  · obtain ⟨d, rfl, _⟩ := h; rfl
  · obtain ⟨d, rfl, hd, q⟩ := h
    refine ⟨_, (pss_cons (ps_set (i := 1) sc_law_right.nd rfl (.inl rfl) (pe_call (ok_law_any_slope T) (hr.mono (by decide)) (by rfl) T.g_law_any_slope T.F_law_any_slope.kp T.b_law_any_slope .nil pass0 (pa_cons (pv 0) (pa_cons (pe_call (ok_law_pick T) (hr.mono (by decide)) (by rfl) T.g_law_pick T.F_law_pick.kp T.b_law_pick .nil pass0 (pa_cons (pv 0) (pa_cons (pe_lst (pa_cons pe_int (pa_cons pe_int (pa_cons pe_int pa_nil)))) pa_nil))) pa_nil))))
      (pss_cons (ps_par (i := 2) (j := 3) (by rfl) sc_law_right.nd rfl rfl (by decide) rfl rfl (pa_cons (pe_ix ix_tup (pv 1) pe_int (fun _ _ => rfl)) (pa_cons (pe_ix ix_tup (pv 1) pe_int (fun _ _ => rfl)) pa_nil)) (by rfl))
      (pss_cons (ps_set (i := 4) sc_law_right.nd rfl (.inl rfl) (pe_call (ok_way_count T) (hr.mono (by decide)) (by rfl) T.g_way_count T.F_way_count.kp T.b_way_count .nil pass0 (pa_cons (pe_make T.mk_Slope (ok_Slope_init T) (hr.mono (by decide)) (by rfl) T.g_Slope T.b_Slope_init .nil pass0 (pa_cons (pv 2) (pa_cons (pv 3) pa_nil))) pa_nil)))
      (pss_cons (ps_if (PW.pt (pw_or (pt_not (pt_val (pe_callB call_isi (by rfl) T.n_isinstance Sx.bt_isinstance (pa_cons (pv 4) (pa_cons (pe_bltn (v := .ty "int") (by rfl) T.n_int Sx.bt_int rfl) pa_nil))))) (pw_or1 (pt_cmpR op_ne (pv 4) (pe_ix ix_list (pe_ix ix_list (pe_call (ok_law_ends T) (hr.mono (by decide)) (by rfl) T.g_law_ends T.F_law_ends.kp T.b_law_ends .nil pass0 (pa_cons (pv 2) (pa_cons (pv 3) pa_nil))) (pv 2) (fun _ _ => rfl)) (pv 3) (fun _ _ => rfl)) (nomark _))))) (pss_one (ps_ret pe_bl)) pss_nil)
      (pss_cons (ps_set (i := 5) sc_law_right.nd rfl (.inl rfl) (pe_call (ok_law_common T) (hr.mono (by decide)) (by rfl) T.g_law_common T.F_law_common.kp T.b_law_common .nil pass0 (pa_cons (pv 2) (pa_cons (pv 3) pa_nil))))
      (pss_cons (ps_if (PW.pt (pw_or (pt_cmpR op_ne (pv 4) (pe_call (ok_way_count T) (hr.mono (by decide)) (by rfl) T.g_way_count T.F_way_count.kp T.b_way_count .nil pass0 (pa_cons (pe_make T.mk_Slope (ok_Slope_init T) (hr.mono (by decide)) (by rfl) T.g_Slope T.b_Slope_init .nil pass0 (pa_cons (pv 3) (pa_cons (pv 2) pa_nil))) pa_nil)) (nomark _)) (pw_or1 (pt_cmpR op_ne (pv 4) (pe_call (ok_way_count T) (hr.mono (by decide)) (by rfl) T.g_way_count T.F_way_count.kp T.b_way_count .nil pass0 (pa_cons (pe_meth0 (pe_make T.mk_Slope (ok_Slope_init T) (hr.mono (by decide)) (by rfl) T.g_Slope T.b_Slope_init .nil pass0 (pa_cons (pv 2) (pa_cons (pv 3) pa_nil))) T.cl_Slope T.me_Slope_exchanged (ok_Slope_exchanged T) (hr.mono (by decide)) T.b_Slope_exchanged .nil pass0) pa_nil)) (nomark _))))) (pss_one (ps_ret pe_bl)) pss_nil)
      (pss_one (ps_ret (pe_call (ok_law_sums_right T) (hr.mono (by decide)) (by rfl) T.g_law_sums_right T.F_law_sums_right.kp T.b_law_sums_right .nil pass0 (pa_cons (pe_op op_fdivW (pv 2) (pv 5)) (pa_cons (pe_op op_fdivW (pv 3) (pv 5)) pa_nil))))))))))), ?_⟩
    refine Sx.r_st (σ' := [some (.ref d), none, none, none, none, none]) rfl ?_
    walk_at "sx"
    refine ⟨by decide, fun l hl => ?_⟩
    walk_at "sx"
    have hld : l ≠ d := by
      obtain ⟨x, y, z, hd⟩ := hd
      exact (ne_of_none hd hl).symm
    have k0 : Kp d H (upd H l (.lst [.int 5, .int 12, .int 60])) := (Kp.refl hd).new hl
    refine ⟨d, l, _, rfl, k0.d1, hld, upd_same, by decide, by decide, fun v H1 hv k1 => ?_⟩
    obtain ⟨n, rfl, n0, n60⟩ : ∃ n : Int, v = .int n ∧ 0 < n ∧ n ≤ 60 := by
      simp only [List.mem_cons, List.not_mem_nil, or_false] at hv
      rcases hv with rfl | rfl | rfl <;> exact ⟨_, rfl, by decide, by decide⟩
    walk_at "sx"
    refine ⟨d, n, rfl, k1.d1, n0, by omega, fun p a b H2 a1 a2 b1 b2 k2 hp => ?_⟩
    obtain ⟨a, rfl⟩ : ∃ x : Nat, a = x := ⟨a.toNat, by omega⟩
    obtain ⟨b, rfl⟩ : ∃ x : Nat, b = x := ⟨b.toNat, by omega⟩
    have a1' : 1 ≤ a := by omega
    have a2' : a ≤ 60 := by omega
    have b1' : 1 ≤ b := by omega
    have b2' : b ≤ 60 := by omega
    walk_at "sx"
    refine r_ixT hp (v := .int a) rfl ?_
    walk_at "sx"
    refine r_ixT hp (v := .int b) rfl ?_
    walk_at "sx"
    refine mk_slope (a := (a : Int)) (b := (b : Int)) ⟨by omega, by omega, by omega, by omega⟩ (fun v H3 s3 hv => ?_)
    walk_at "sx"
    refine ⟨v, a, b, rfl, hv, fun H4 s4 => ?_⟩
    walk_at "sx"
    refine r_ifs ?_
    walk_at "sx"
    refine ⟨a, b, rfl, a1', a2', b1', b2', fun r H5 s5 hm => ?_⟩
    obtain ⟨ps, hps, hpp, hrows⟩ := hm
    walk_at "sx"
    have hpa : a < ps.length := by omega
    refine r_ixL hpp (atI_nat (j := a) (v := .ref ps[a]) (by rw [List.getElem?_map, List.getElem?_eq_getElem hpa]; rfl)) ?_
    walk_at "sx"
    refine r_ixL (hrows a _ (List.getElem?_eq_getElem hpa)).2 (atI_nat (j := b) (row_get (Nat.le_refl b))) ?_
    walk_at "sx"
    refine ite_nd (fun h => (h ?_).elim) (fun h => ?_)
    · rw [wc_ends a1' a2' b1' b2']
    walk_at "sx"
    refine ⟨a, b, rfl, a1', by omega, by omega, ?_⟩
    walk_at "sx"
    refine r_ifs ?_
    walk_at "sx"
    refine mk_slope (a := (b : Int)) (b := (a : Int)) ⟨by omega, by omega, by omega, by omega⟩ (fun v2 H6 s6 hv2 => ?_)
    walk_at "sx"
    refine ⟨v2, b, a, rfl, hv2, fun H7 s7 => ?_⟩
    walk_at "sx"
    refine ite_nd (fun h => (h ?_).elim) (fun h => ?_)
    · rw [M3.wc_swap]
    walk_at "sx"
    refine mk_slope (a := (a : Int)) (b := (b : Int)) ⟨by omega, by omega, by omega, by omega⟩ (fun v3 H8 s8 hv3 => ?_)
    refine md_slope hv3 (by decide +kernel) (by decide +kernel) (by decide +kernel) ?_
    walk_at "sx"
    refine ⟨v3, a, b, rfl, hv3, fun v4 H9 s9 hv4 => ?_⟩
    walk_at "sx"
    refine ⟨v4, b, a, rfl, hv4, fun H10 s10 => ?_⟩
    walk_at "sx"
    refine ite_nd (fun h => (h ?_).elim) (fun h => ?_)
    · rw [M3.wc_swap]
    have g0 : 0 < Nat.gcd a b := Nat.gcd_pos_of_pos_left b a1'
    have ga : Nat.gcd a b ≤ a := Nat.gcd_le_left b a1'
    have gb : Nat.gcd a b ≤ b := Nat.gcd_le_right a b1'
    walk_at "sx"
    · rw [← Int.natCast_ediv, ← Int.natCast_ediv]
      refine ⟨a / Nat.gcd a b, b / Nat.gcd a b, rfl, Nat.div_pos ga g0, Nat.le_trans (Nat.div_le_self _ _) a2', Nat.div_pos gb g0, Nat.le_trans (Nat.div_le_self _ _) b2', ?_, fun H11 s11 => q H11 (((((((((((k0.trans k1).trans k2).same s3).same s4).same s5).same s6).same s7).same s8).same s9).same s10).same s11)⟩
      rw [Nat.gcd_div (Nat.gcd_dvd_left a b) (Nat.gcd_dvd_right a b), Nat.div_self g0]
    · exact cdivw (b := 64) (by omega) (by omega) (by decide)
    · exact cdivw (b := 64) (by omega) (by omega) (by decide)
/-! ### the law -/
def spLaw (K : PySem.W.Frag) : Sp := fun vs H Q _ => ∃ (a : Addr) (ns : List Int), vs = [.ref a] ∧ SqL K H a (ns.map V.int) ∧ ns.length ≤ 63 ∧ ∀ H', Q (.bl true) H'
theorem wc_19 : M3.wc 1 9 = 1 := by decide +kernel
theorem wc_601 : M3.wc 60 1 = 1 := by decide +kernel
theorem wc_22 : M3.wc 2 2 = 2 := by decide +kernel
theorem wc_35 : M3.wc 3 5 = 7 := by decide +kernel
theorem ok_law (T : Tx K mg) : FnOk P w K mg base CX0 7 T.a_law T.d_law ["_law_script"] (spLaw K) := by
  refine T.F_law.ok sc_law (fun vs H Q E h => ?_) (fun cdv A outer s H vs Q E hr h => ?_)
  · obtain ⟨a, ns, rfl, _⟩ := h; rfl
  · obtain ⟨a, ns, rfl, hS, hl, q⟩ := h
    refine ⟨_, (pss_cons (ps_for PassesOwn.never rfl (pi_range1 (by rfl) T.n_range (pa_cons (pe_callB (Sx.c_max rfl) (by rfl) T.n_max Sx.bt_max (pa_cons pe_int (pa_cons (pe_callB (Sx.c_min rfl) (by rfl) T.n_min Sx.bt_min (pa_cons pe_int (pa_cons (pe_callB Sx.c_len (by rfl) T.n_len Sx.bt_len (pa_cons (pv 0) pa_nil)) pa_nil))) pa_nil))) pa_nil)) (pg_name (i := 1) sc_law.nd rfl (.inl rfl)) (pss_one (ps_if (pt_not (pt_val (pe_call (ok_law_right T) (hr.mono (by decide)) (by rfl) T.g_law_right T.F_law_right.kp T.b_law_right .nil pass0 (pa_cons (pe_call (ok_law_dice T) (hr.mono (by decide)) (by rfl) T.g_law_dice T.F_law_dice.kp T.b_law_dice .nil pass0 (pa_cons (pv 0) (pa_cons (pv 1) pa_nil))) pa_nil)))) (pss_one (ps_ret pe_bl)) pss_nil)))
      (pss_one (ps_ret (pe_cmpR (op_eqD hr.units) (pe_lst (pa_cons (pe_call (ok_way_count T) (hr.mono (by decide)) (by rfl) T.g_way_count T.F_way_count.kp T.b_way_count .nil pass0 (pa_cons (pe_make T.mk_Slope (ok_Slope_init T) (hr.mono (by decide)) (by rfl) T.g_Slope T.b_Slope_init .nil pass0 (pa_cons pe_int (pa_cons pe_int pa_nil))) pa_nil)) (pa_cons (pe_call (ok_way_count T) (hr.mono (by decide)) (by rfl) T.g_way_count T.F_way_count.kp T.b_way_count .nil pass0 (pa_cons (pe_make T.mk_Slope (ok_Slope_init T) (hr.mono (by decide)) (by rfl) T.g_Slope T.b_Slope_init .nil pass0 (pa_cons pe_int (pa_cons pe_int pa_nil))) pa_nil)) (pa_cons (pe_call (ok_way_count T) (hr.mono (by decide)) (by rfl) T.g_way_count T.F_way_count.kp T.b_way_count .nil pass0 (pa_cons (pe_make T.mk_Slope (ok_Slope_init T) (hr.mono (by decide)) (by rfl) T.g_Slope T.b_Slope_init .nil pass0 (pa_cons pe_int (pa_cons pe_int pa_nil))) pa_nil)) (pa_cons (pe_call (ok_way_count T) (hr.mono (by decide)) (by rfl) T.g_way_count T.F_way_count.kp T.b_way_count .nil pass0 (pa_cons (pe_make T.mk_Slope (ok_Slope_init T) (hr.mono (by decide)) (by rfl) T.g_Slope T.b_Slope_init .nil pass0 (pa_cons pe_int (pa_cons pe_int pa_nil))) pa_nil)) pa_nil))))) (pe_lst (pa_cons pe_int (pa_cons pe_int (pa_cons pe_int (pa_cons pe_int pa_nil))))) (nomark _))))), ?_⟩
    refine Sx.r_st (σ' := [some (.ref a), none]) rfl ?_
    walk_at "sx"
    refine r_lenL hS ?_
    walk_at "sx"
    obtain ⟨n, hn, hn6⟩ : ∃ n : Nat, (if (if ((ns.map V.int).length : Int) < 6 then ((ns.map V.int).length : Int) else 6) > 1 then (if ((ns.map V.int).length : Int) < 6 then ((ns.map V.int).length : Int) else 6) else 1) = n ∧ n ≤ 6 := by
      refine ⟨(if (if ((ns.map V.int).length : Int) < 6 then ((ns.map V.int).length : Int) else 6) > 1 then (if ((ns.map V.int).length : Int) < 6 then ((ns.map V.int).length : Int) else 6) else 1).toNat, ?_, ?_⟩
      · split <;> split <;> omega
      · split <;> split <;> omega
    rw [hn]
    refine r_rng1 ?_ (by omega) (by omega)
    refine fr_range (fun i σ' H' => Same H H' ∧ ∃ y, σ' = [some (.ref a), y]) ⟨Same.refl H, none, rfl⟩ ?_ ?_
    · rintro i σ' H1 hi ⟨sm, y, rfl⟩
      walk_at "sxi"
      refine ⟨a, ns, i, by rw [Int.zero_add]; rfl, sm.seq hS, by omega, fun d H2 sm2 hdn hd => ?_⟩
      walk_at "sx"
      refine ⟨d, rfl, hd, fun H3 k3 => ?_⟩
      walk_at "sx"
      refine ⟨fun c o e => k3.k c o ?_ (sm2 _ _ (sm _ _ e)), _, rfl⟩
      exact ne_of_none (sm _ _ e) hdn
    · rintro σ' H1 ⟨sm, y, rfl⟩
      walk_at "sx"
      refine mk_slope (a := 1) (b := 9) (by decide) (fun v1 H2 _ hv1 => ?_)
      walk_at "sx"
      refine ⟨v1, 1, 9, rfl, hv1, fun H3 _ => ?_⟩
      walk_at "sx"
      refine mk_slope (a := 60) (b := 1) (by decide) (fun v1 H4 _ hv1 => ?_)
      walk_at "sx"
      refine ⟨v1, 60, 1, rfl, hv1, fun H5 _ => ?_⟩
      walk_at "sx"
      refine mk_slope (a := 2) (b := 2) (by decide) (fun v1 H6 _ hv1 => ?_)
      walk_at "sx"
      refine ⟨v1, 2, 2, rfl, hv1, fun H7 _ => ?_⟩
      walk_at "sx"
      refine mk_slope (a := 3) (b := 5) (by decide) (fun v1 H8 _ hv1 => ?_)
      walk_at "sx"
      refine ⟨v1, 3, 5, rfl, hv1, fun H9 _ => ?_⟩
      walk_at "sx"
      refine ⟨sz _ (Nat.le_of_ble_eq_true rfl), fun p hp => ?_⟩
      walk_at "sx"
      refine ⟨sz _ (Nat.le_of_ble_eq_true rfl), fun p2 hp2 => ?_⟩
      rw [wc_19, wc_601, wc_22, wc_35]
      refine r_eqD (.lst (SqL.of (by rw [upd_ne (show p ≠ p2 from fun e => by subst e; rw [upd_same] at hp2; cases hp2), upd_same]; rfl)) (dpI [1, 1, 2, 7])) (.lst (SqL.of upd_same) (dpI [1, 1, 2, 7])) (by decide +kernel) (by decide +kernel) ?_
      rw [show PyData.eqv (.list ([1, 1, 2, 7].map PyData.int)) (.list ([1, 1, 2, 7].map PyData.int)) = true by decide +kernel]
      exact q _
end
end Lw

namespace Lw
open PySem PySem.Spec PyProof.Rows L2 Sx
open C8 (pe_gc)
open SkE (call_repr_int call_str_str)
open RZ (pi_zipA)
theorem all_mk {l : PySem.W.OpenLaw} {w : World} {K : PySem.W.Frag} {h : Heap} {mg : Str → Option Value} {fa : Addr} (X : K.In h) (G : h.Ns mainGlobals mg) (hfa : mg "law" = some (.ref fa))
    {C_Slope a_is_number a_is_whole_between a_Slope_init a_Slope_rises p_Slope_rises a_Slope_steps p_Slope_steps a_Slope_common p_Slope_common a_Slope_exchanged a_check_slope a_way_count a_law_dice a_law_roll a_law_pick a_law_any_slope a_law_common a_law_ends a_law_choose a_law_sums_right a_law_right a_law : Addr} {t_MAX_SIDE : Tok}
    {oc_is_number kV_is_number dc_is_number pm_is_number cd_is_number ct_is_number : Value} {od_is_number an_is_number : Option Addr} {sl_is_number : Array (Option Value)}
    {oc_is_whole_between kV_is_whole_between dc_is_whole_between pm_is_whole_between cd_is_whole_between ct_is_whole_between : Value} {od_is_whole_between an_is_whole_between : Option Addr} {sl_is_whole_between : Array (Option Value)}
    {oc_Slope_init kV_Slope_init dc_Slope_init pm_Slope_init cd_Slope_init ct_Slope_init : Value} {od_Slope_init an_Slope_init : Option Addr} {sl_Slope_init : Array (Option Value)}
    {oc_Slope_rises kV_Slope_rises dc_Slope_rises pm_Slope_rises cd_Slope_rises ct_Slope_rises : Value} {od_Slope_rises an_Slope_rises : Option Addr} {sl_Slope_rises : Array (Option Value)}
    {re_Slope_rises : List Value}
    {oc_Slope_steps kV_Slope_steps dc_Slope_steps pm_Slope_steps cd_Slope_steps ct_Slope_steps : Value} {od_Slope_steps an_Slope_steps : Option Addr} {sl_Slope_steps : Array (Option Value)}
    {re_Slope_steps : List Value}
    {oc_Slope_common kV_Slope_common dc_Slope_common pm_Slope_common cd_Slope_common ct_Slope_common : Value} {od_Slope_common an_Slope_common : Option Addr} {sl_Slope_common : Array (Option Value)}
    {re_Slope_common : List Value}
    {oc_Slope_exchanged kV_Slope_exchanged dc_Slope_exchanged pm_Slope_exchanged cd_Slope_exchanged ct_Slope_exchanged : Value} {od_Slope_exchanged an_Slope_exchanged : Option Addr} {sl_Slope_exchanged : Array (Option Value)}
    {oc_check_slope kV_check_slope dc_check_slope pm_check_slope cd_check_slope ct_check_slope : Value} {od_check_slope an_check_slope : Option Addr} {sl_check_slope : Array (Option Value)}
    {oc_way_count kV_way_count dc_way_count pm_way_count cd_way_count ct_way_count : Value} {od_way_count an_way_count : Option Addr} {sl_way_count : Array (Option Value)}
    {oc_law_dice kV_law_dice dc_law_dice pm_law_dice cd_law_dice ct_law_dice : Value} {od_law_dice an_law_dice : Option Addr} {sl_law_dice : Array (Option Value)}
    {oc_law_roll kV_law_roll dc_law_roll pm_law_roll cd_law_roll ct_law_roll : Value} {od_law_roll an_law_roll : Option Addr} {sl_law_roll : Array (Option Value)}
    {oc_law_pick kV_law_pick dc_law_pick pm_law_pick cd_law_pick ct_law_pick : Value} {od_law_pick an_law_pick : Option Addr} {sl_law_pick : Array (Option Value)}
    {oc_law_any_slope kV_law_any_slope dc_law_any_slope pm_law_any_slope cd_law_any_slope ct_law_any_slope : Value} {od_law_any_slope an_law_any_slope : Option Addr} {sl_law_any_slope : Array (Option Value)}
    {oc_law_common kV_law_common dc_law_common pm_law_common cd_law_common ct_law_common : Value} {od_law_common an_law_common : Option Addr} {sl_law_common : Array (Option Value)}
    {oc_law_ends kV_law_ends dc_law_ends pm_law_ends cd_law_ends ct_law_ends : Value} {od_law_ends an_law_ends : Option Addr} {sl_law_ends : Array (Option Value)}
    {oc_law_choose kV_law_choose dc_law_choose pm_law_choose cd_law_choose ct_law_choose : Value} {od_law_choose an_law_choose : Option Addr} {sl_law_choose : Array (Option Value)}
    {oc_law_sums_right kV_law_sums_right dc_law_sums_right pm_law_sums_right cd_law_sums_right ct_law_sums_right : Value} {od_law_sums_right an_law_sums_right : Option Addr} {sl_law_sums_right : Array (Option Value)}
    {oc_law_right kV_law_right dc_law_right pm_law_right cd_law_right ct_law_right : Value} {od_law_right an_law_right : Option Addr} {sl_law_right : Array (Option Value)}
    {oc_law kV_law dc_law pm_law cd_law ct_law : Value} {od_law an_law : Option Addr} {sl_law : Array (Option Value)}
    (g_Slope : PySem.W.nsIn K mainGlobals "Slope" = some (some (.ref C_Slope)))
    (g_is_number : PySem.W.nsIn K mainGlobals "is_number" = some (some (.ref a_is_number)))
    (l_is_number : K.lookup a_is_number = some ⟨oc_is_number, od_is_number, .func (PySem.W.fnOf "is_number" "is_number" (defArgs st_is_number) (defBody st_is_number) (defScope st_is_number) .none kV_is_number dc_is_number pm_is_number an_is_number cd_is_number ct_is_number), sl_is_number⟩)
    (c_is_number : PySem.W.codeIn K cd_is_number "is_number" = true)
    (k_is_number : PySem.W.keepIn K (.ref a_is_number) = true)
    (g_is_whole_between : PySem.W.nsIn K mainGlobals "is_whole_between" = some (some (.ref a_is_whole_between)))
    (l_is_whole_between : K.lookup a_is_whole_between = some ⟨oc_is_whole_between, od_is_whole_between, .func (PySem.W.fnOf "is_whole_between" "is_whole_between" (defArgs st_is_whole_between) (defBody st_is_whole_between) (defScope st_is_whole_between) .none kV_is_whole_between dc_is_whole_between pm_is_whole_between an_is_whole_between cd_is_whole_between ct_is_whole_between), sl_is_whole_between⟩)
    (c_is_whole_between : PySem.W.codeIn K cd_is_whole_between "is_whole_between" = true)
    (k_is_whole_between : PySem.W.keepIn K (.ref a_is_whole_between) = true)
    (m_Slope_init : PySem.W.findIn K (.ref C_Slope) "__init__" = some (some (.ref a_Slope_init)))
    (f_Slope_init : PySem.W.isFn K (.ref a_Slope_init) = true)
    (l_Slope_init : K.lookup a_Slope_init = some ⟨oc_Slope_init, od_Slope_init, .func (PySem.W.fnOf "__init__" "Slope.__init__" (defArgs st_Slope_init) (defBody st_Slope_init) (defScope st_Slope_init) .none kV_Slope_init dc_Slope_init pm_Slope_init an_Slope_init cd_Slope_init ct_Slope_init), sl_Slope_init⟩)
    (c_Slope_init : PySem.W.codeIn K cd_Slope_init "Slope.__init__" = true)
    (k_Slope_init : PySem.W.keepIn K (.ref a_Slope_init) = true)
    (pa_Slope_rises : PySem.W.findIn K (.ref C_Slope) "rises" = some (some (.ref p_Slope_rises)))
    (pg_Slope_rises : PySem.W.specialIn K (.ref p_Slope_rises) "__get__" = some (some (.builtin "property.__get__")))
    (pt_Slope_rises : PySem.W.takesIn K (.ref p_Slope_rises) = some true)
    (pq_Slope_rises : PySem.W.recIn K p_Slope_rises "property" = some (.ref a_Slope_rises :: re_Slope_rises))
    (l_Slope_rises : K.lookup a_Slope_rises = some ⟨oc_Slope_rises, od_Slope_rises, .func (PySem.W.fnOf "rises" "Slope.rises" (defArgs st_Slope_rises) (defBody st_Slope_rises) (defScope st_Slope_rises) .none kV_Slope_rises dc_Slope_rises pm_Slope_rises an_Slope_rises cd_Slope_rises ct_Slope_rises), sl_Slope_rises⟩)
    (c_Slope_rises : PySem.W.codeIn K cd_Slope_rises "Slope.rises" = true)
    (k_Slope_rises : PySem.W.keepIn K (.ref a_Slope_rises) = true)
    (pa_Slope_steps : PySem.W.findIn K (.ref C_Slope) "steps" = some (some (.ref p_Slope_steps)))
    (pg_Slope_steps : PySem.W.specialIn K (.ref p_Slope_steps) "__get__" = some (some (.builtin "property.__get__")))
    (pt_Slope_steps : PySem.W.takesIn K (.ref p_Slope_steps) = some true)
    (pq_Slope_steps : PySem.W.recIn K p_Slope_steps "property" = some (.ref a_Slope_steps :: re_Slope_steps))
    (l_Slope_steps : K.lookup a_Slope_steps = some ⟨oc_Slope_steps, od_Slope_steps, .func (PySem.W.fnOf "steps" "Slope.steps" (defArgs st_Slope_steps) (defBody st_Slope_steps) (defScope st_Slope_steps) .none kV_Slope_steps dc_Slope_steps pm_Slope_steps an_Slope_steps cd_Slope_steps ct_Slope_steps), sl_Slope_steps⟩)
    (c_Slope_steps : PySem.W.codeIn K cd_Slope_steps "Slope.steps" = true)
    (k_Slope_steps : PySem.W.keepIn K (.ref a_Slope_steps) = true)
    (pa_Slope_common : PySem.W.findIn K (.ref C_Slope) "common" = some (some (.ref p_Slope_common)))
    (pg_Slope_common : PySem.W.specialIn K (.ref p_Slope_common) "__get__" = some (some (.builtin "property.__get__")))
    (pt_Slope_common : PySem.W.takesIn K (.ref p_Slope_common) = some true)
    (pq_Slope_common : PySem.W.recIn K p_Slope_common "property" = some (.ref a_Slope_common :: re_Slope_common))
    (l_Slope_common : K.lookup a_Slope_common = some ⟨oc_Slope_common, od_Slope_common, .func (PySem.W.fnOf "common" "Slope.common" (defArgs st_Slope_common) (defBody st_Slope_common) (defScope st_Slope_common) .none kV_Slope_common dc_Slope_common pm_Slope_common an_Slope_common cd_Slope_common ct_Slope_common), sl_Slope_common⟩)
    (c_Slope_common : PySem.W.codeIn K cd_Slope_common "Slope.common" = true)
    (k_Slope_common : PySem.W.keepIn K (.ref a_Slope_common) = true)
    (m_Slope_exchanged : PySem.W.findIn K (.ref C_Slope) "exchanged" = some (some (.ref a_Slope_exchanged)))
    (f_Slope_exchanged : PySem.W.isFn K (.ref a_Slope_exchanged) = true)
    (l_Slope_exchanged : K.lookup a_Slope_exchanged = some ⟨oc_Slope_exchanged, od_Slope_exchanged, .func (PySem.W.fnOf "exchanged" "Slope.exchanged" (defArgs st_Slope_exchanged) (defBody st_Slope_exchanged) (defScope st_Slope_exchanged) .none kV_Slope_exchanged dc_Slope_exchanged pm_Slope_exchanged an_Slope_exchanged cd_Slope_exchanged ct_Slope_exchanged), sl_Slope_exchanged⟩)
    (c_Slope_exchanged : PySem.W.codeIn K cd_Slope_exchanged "Slope.exchanged" = true)
    (k_Slope_exchanged : PySem.W.keepIn K (.ref a_Slope_exchanged) = true)
    (g_check_slope : PySem.W.nsIn K mainGlobals "check_slope" = some (some (.ref a_check_slope)))
    (l_check_slope : K.lookup a_check_slope = some ⟨oc_check_slope, od_check_slope, .func (PySem.W.fnOf "check_slope" "check_slope" (defArgs st_check_slope) (defBody st_check_slope) (defScope st_check_slope) .none kV_check_slope dc_check_slope pm_check_slope an_check_slope cd_check_slope ct_check_slope), sl_check_slope⟩)
    (c_check_slope : PySem.W.codeIn K cd_check_slope "check_slope" = true)
    (k_check_slope : PySem.W.keepIn K (.ref a_check_slope) = true)
    (g_way_count : PySem.W.nsIn K mainGlobals "way_count" = some (some (.ref a_way_count)))
    (l_way_count : K.lookup a_way_count = some ⟨oc_way_count, od_way_count, .func (PySem.W.fnOf "way_count" "way_count" (defArgs st_way_count) (defBody st_way_count) (defScope st_way_count) .none kV_way_count dc_way_count pm_way_count an_way_count cd_way_count ct_way_count), sl_way_count⟩)
    (c_way_count : PySem.W.codeIn K cd_way_count "way_count" = true)
    (k_way_count : PySem.W.keepIn K (.ref a_way_count) = true)
    (g_law_dice : PySem.W.nsIn K mainGlobals "_law_dice" = some (some (.ref a_law_dice)))
    (l_law_dice : K.lookup a_law_dice = some ⟨oc_law_dice, od_law_dice, .func (PySem.W.fnOf "_law_dice" "_law_dice" (defArgs st_law_dice) (defBody st_law_dice) (defScope st_law_dice) .none kV_law_dice dc_law_dice pm_law_dice an_law_dice cd_law_dice ct_law_dice), sl_law_dice⟩)
    (c_law_dice : PySem.W.codeIn K cd_law_dice "_law_dice" = true)
    (k_law_dice : PySem.W.keepIn K (.ref a_law_dice) = true)
    (g_law_roll : PySem.W.nsIn K mainGlobals "_law_roll" = some (some (.ref a_law_roll)))
    (l_law_roll : K.lookup a_law_roll = some ⟨oc_law_roll, od_law_roll, .func (PySem.W.fnOf "_law_roll" "_law_roll" (defArgs st_law_roll) (defBody st_law_roll) (defScope st_law_roll) .none kV_law_roll dc_law_roll pm_law_roll an_law_roll cd_law_roll ct_law_roll), sl_law_roll⟩)
    (c_law_roll : PySem.W.codeIn K cd_law_roll "_law_roll" = true)
    (k_law_roll : PySem.W.keepIn K (.ref a_law_roll) = true)
    (g_law_pick : PySem.W.nsIn K mainGlobals "_law_pick" = some (some (.ref a_law_pick)))
    (l_law_pick : K.lookup a_law_pick = some ⟨oc_law_pick, od_law_pick, .func (PySem.W.fnOf "_law_pick" "_law_pick" (defArgs st_law_pick) (defBody st_law_pick) (defScope st_law_pick) .none kV_law_pick dc_law_pick pm_law_pick an_law_pick cd_law_pick ct_law_pick), sl_law_pick⟩)
    (c_law_pick : PySem.W.codeIn K cd_law_pick "_law_pick" = true)
    (k_law_pick : PySem.W.keepIn K (.ref a_law_pick) = true)
    (g_law_any_slope : PySem.W.nsIn K mainGlobals "_law_any_slope" = some (some (.ref a_law_any_slope)))
    (l_law_any_slope : K.lookup a_law_any_slope = some ⟨oc_law_any_slope, od_law_any_slope, .func (PySem.W.fnOf "_law_any_slope" "_law_any_slope" (defArgs st_law_any_slope) (defBody st_law_any_slope) (defScope st_law_any_slope) .none kV_law_any_slope dc_law_any_slope pm_law_any_slope an_law_any_slope cd_law_any_slope ct_law_any_slope), sl_law_any_slope⟩)
    (c_law_any_slope : PySem.W.codeIn K cd_law_any_slope "_law_any_slope" = true)
    (k_law_any_slope : PySem.W.keepIn K (.ref a_law_any_slope) = true)
    (g_law_common : PySem.W.nsIn K mainGlobals "_law_common" = some (some (.ref a_law_common)))
    (l_law_common : K.lookup a_law_common = some ⟨oc_law_common, od_law_common, .func (PySem.W.fnOf "_law_common" "_law_common" (defArgs st_law_common) (defBody st_law_common) (defScope st_law_common) .none kV_law_common dc_law_common pm_law_common an_law_common cd_law_common ct_law_common), sl_law_common⟩)
    (c_law_common : PySem.W.codeIn K cd_law_common "_law_common" = true)
    (k_law_common : PySem.W.keepIn K (.ref a_law_common) = true)
    (g_law_ends : PySem.W.nsIn K mainGlobals "_law_ends" = some (some (.ref a_law_ends)))
    (l_law_ends : K.lookup a_law_ends = some ⟨oc_law_ends, od_law_ends, .func (PySem.W.fnOf "_law_ends" "_law_ends" (defArgs st_law_ends) (defBody st_law_ends) (defScope st_law_ends) .none kV_law_ends dc_law_ends pm_law_ends an_law_ends cd_law_ends ct_law_ends), sl_law_ends⟩)
    (c_law_ends : PySem.W.codeIn K cd_law_ends "_law_ends" = true)
    (k_law_ends : PySem.W.keepIn K (.ref a_law_ends) = true)
    (g_law_choose : PySem.W.nsIn K mainGlobals "_law_choose" = some (some (.ref a_law_choose)))
    (l_law_choose : K.lookup a_law_choose = some ⟨oc_law_choose, od_law_choose, .func (PySem.W.fnOf "_law_choose" "_law_choose" (defArgs st_law_choose) (defBody st_law_choose) (defScope st_law_choose) .none kV_law_choose dc_law_choose pm_law_choose an_law_choose cd_law_choose ct_law_choose), sl_law_choose⟩)
    (c_law_choose : PySem.W.codeIn K cd_law_choose "_law_choose" = true)
    (k_law_choose : PySem.W.keepIn K (.ref a_law_choose) = true)
    (g_law_sums_right : PySem.W.nsIn K mainGlobals "_law_sums_right" = some (some (.ref a_law_sums_right)))
    (l_law_sums_right : K.lookup a_law_sums_right = some ⟨oc_law_sums_right, od_law_sums_right, .func (PySem.W.fnOf "_law_sums_right" "_law_sums_right" (defArgs st_law_sums_right) (defBody st_law_sums_right) (defScope st_law_sums_right) .none kV_law_sums_right dc_law_sums_right pm_law_sums_right an_law_sums_right cd_law_sums_right ct_law_sums_right), sl_law_sums_right⟩)
    (c_law_sums_right : PySem.W.codeIn K cd_law_sums_right "_law_sums_right" = true)
    (k_law_sums_right : PySem.W.keepIn K (.ref a_law_sums_right) = true)
    (g_law_right : PySem.W.nsIn K mainGlobals "_law_right" = some (some (.ref a_law_right)))
    (l_law_right : K.lookup a_law_right = some ⟨oc_law_right, od_law_right, .func (PySem.W.fnOf "_law_right" "_law_right" (defArgs st_law_right) (defBody st_law_right) (defScope st_law_right) .none kV_law_right dc_law_right pm_law_right an_law_right cd_law_right ct_law_right), sl_law_right⟩)
    (c_law_right : PySem.W.codeIn K cd_law_right "_law_right" = true)
    (k_law_right : PySem.W.keepIn K (.ref a_law_right) = true)
    (g_law : PySem.W.nsIn K mainGlobals "law" = some (some (.ref a_law)))
    (l_law : K.lookup a_law = some ⟨oc_law, od_law, .func (PySem.W.fnOf "law" "law" (defArgs st_law) (defBody st_law) (defScope st_law) .none kV_law dc_law pm_law an_law cd_law ct_law), sl_law⟩)
    (c_law : PySem.W.codeIn K cd_law "law" = true)
    (k_law : PySem.W.keepIn K (.ref a_law) = true)
    (c1_Slope : PySem.W.plainGet K C_Slope Str.empty = true)
    (c2_Slope : PySem.W.hasDictIn K C_Slope = true)
    (c3_Slope : PySem.W.plainOver K C_Slope = true)
    (c4_Slope : PySem.W.findIn K (.ref C_Slope) "__setattr__" = some (some (.builtin "object.__setattr__")))
    (c5_Slope : PySem.W.makesIn K C_Slope = true)
    (c6_Slope : PySem.W.keepIn K (.ref C_Slope) = true)
    (na_Slope_rises : PySem.W.findIn K (.ref C_Slope) "_rises" = some none)
    (na_Slope_steps : PySem.W.findIn K (.ref C_Slope) "_steps" = some none)
    (na_Slope_common : PySem.W.findIn K (.ref C_Slope) "_common" = some none)
    (ic_Slope : PySem.W.findIn K (.ref C_Slope) "__class__" = some (some (.builtin "object.__class__")))
    (mr_Slope : PySem.W.mroIn K C_Slope (.type "object") = some true)
    (cg : PySem.W.specialIn K (.builtin "object.__class__") "__get__" = some (some (.builtin "getset_descriptor.__get__")))
    (ct : PySem.W.takesIn K (.builtin "object.__class__") = some true)
    (n_abs : PySem.W.nsIn K mainGlobals "abs" = some none)
    (n_bool : PySem.W.nsIn K mainGlobals "bool" = some none)
    (n_int : PySem.W.nsIn K mainGlobals "int" = some none)
    (n_isinstance : PySem.W.nsIn K mainGlobals "isinstance" = some none)
    (n_len : PySem.W.nsIn K mainGlobals "len" = some none)
    (n_max : PySem.W.nsIn K mainGlobals "max" = some none)
    (n_min : PySem.W.nsIn K mainGlobals "min" = some none)
    (n_range : PySem.W.nsIn K mainGlobals "range" = some none)
    (n_sum : PySem.W.nsIn K mainGlobals "sum" = some none)
    (i_comb : PySem.W.nsIn K mainGlobals "comb" = some (some (.builtin "math.comb")))
    (i_gcd : PySem.W.nsIn K mainGlobals "gcd" = some (some (.builtin "math.gcd")))
    (qc_MAX_SIDE : PySem.W.nsIn K mainGlobals "MAX_SIDE" = some (some (.int 60 t_MAX_SIDE)))
    : ∃ fd : FuncData, (∀ (s : Shared) (v : Value), BindsTo s fd ⟨[v], []⟩ [("_law_script", v)]) ∧ ∀ base : Heap, K.In base → base.Ns mainGlobals mg → FnOk l.prog w K mg base CX0 7 fa fd ["_law_script"] (spLaw K) := by
  have e : fa = a_law := Value.ref.inj (Option.some.inj (hfa.symm.trans (PySem.W.mg_of X G g_law)))
  rw [e]
  let T : Tx K mg := {
    C_Slope := C_Slope,
    a_is_number := a_is_number,
    d_is_number := _,
    F_is_number := fun_mk (st := st_is_number) l_is_number c_is_number k_is_number,
    b_is_number := (fun_mk (st := st_is_number) l_is_number c_is_number k_is_number).binds (ps := ["value"]) fun _ _ _ _ _ _ us hl => match us, hl with | [_], _ => rfl,
    g_is_number := PySem.W.mg_of X G g_is_number,
    a_is_whole_between := a_is_whole_between,
    d_is_whole_between := _,
    F_is_whole_between := fun_mk (st := st_is_whole_between) l_is_whole_between c_is_whole_between k_is_whole_between,
    b_is_whole_between := (fun_mk (st := st_is_whole_between) l_is_whole_between c_is_whole_between k_is_whole_between).binds (ps := ["value", "least", "most"]) fun _ _ _ _ _ _ us hl => match us, hl with | [_, _, _], _ => rfl,
    g_is_whole_between := PySem.W.mg_of X G g_is_whole_between,
    a_Slope_init := a_Slope_init,
    d_Slope_init := _,
    F_Slope_init := fun_mk (st := st_Slope_init) l_Slope_init c_Slope_init k_Slope_init,
    b_Slope_init := (fun_mk (st := st_Slope_init) l_Slope_init c_Slope_init k_Slope_init).binds (ps := ["self", "rises", "steps"]) fun _ _ _ _ _ _ us hl => match us, hl with | [_, _, _], _ => rfl,
    a_Slope_rises := a_Slope_rises,
    d_Slope_rises := _,
    F_Slope_rises := fun_mk (st := st_Slope_rises) l_Slope_rises c_Slope_rises k_Slope_rises,
    b_Slope_rises := (fun_mk (st := st_Slope_rises) l_Slope_rises c_Slope_rises k_Slope_rises).binds (ps := ["self"]) fun _ _ _ _ _ _ us hl => match us, hl with | [_], _ => rfl,
    a_Slope_steps := a_Slope_steps,
    d_Slope_steps := _,
    F_Slope_steps := fun_mk (st := st_Slope_steps) l_Slope_steps c_Slope_steps k_Slope_steps,
    b_Slope_steps := (fun_mk (st := st_Slope_steps) l_Slope_steps c_Slope_steps k_Slope_steps).binds (ps := ["self"]) fun _ _ _ _ _ _ us hl => match us, hl with | [_], _ => rfl,
    a_Slope_common := a_Slope_common,
    d_Slope_common := _,
    F_Slope_common := fun_mk (st := st_Slope_common) l_Slope_common c_Slope_common k_Slope_common,
    b_Slope_common := (fun_mk (st := st_Slope_common) l_Slope_common c_Slope_common k_Slope_common).binds (ps := ["self"]) fun _ _ _ _ _ _ us hl => match us, hl with | [_], _ => rfl,
    a_Slope_exchanged := a_Slope_exchanged,
    d_Slope_exchanged := _,
    F_Slope_exchanged := fun_mk (st := st_Slope_exchanged) l_Slope_exchanged c_Slope_exchanged k_Slope_exchanged,
    b_Slope_exchanged := (fun_mk (st := st_Slope_exchanged) l_Slope_exchanged c_Slope_exchanged k_Slope_exchanged).binds (ps := ["self"]) fun _ _ _ _ _ _ us hl => match us, hl with | [_], _ => rfl,
    a_check_slope := a_check_slope,
    d_check_slope := _,
    F_check_slope := fun_mk (st := st_check_slope) l_check_slope c_check_slope k_check_slope,
    b_check_slope := (fun_mk (st := st_check_slope) l_check_slope c_check_slope k_check_slope).binds (ps := ["slope"]) fun _ _ _ _ _ _ us hl => match us, hl with | [_], _ => rfl,
    g_check_slope := PySem.W.mg_of X G g_check_slope,
    a_way_count := a_way_count,
    d_way_count := _,
    F_way_count := fun_mk (st := st_way_count) l_way_count c_way_count k_way_count,
    b_way_count := (fun_mk (st := st_way_count) l_way_count c_way_count k_way_count).binds (ps := ["slope"]) fun _ _ _ _ _ _ us hl => match us, hl with | [_], _ => rfl,
    g_way_count := PySem.W.mg_of X G g_way_count,
    a_law_dice := a_law_dice,
    d_law_dice := _,
    F_law_dice := fun_mk (st := st_law_dice) l_law_dice c_law_dice k_law_dice,
    b_law_dice := (fun_mk (st := st_law_dice) l_law_dice c_law_dice k_law_dice).binds (ps := ["_law_script", "_law_spot"]) fun _ _ _ _ _ _ us hl => match us, hl with | [_, _], _ => rfl,
    g_law_dice := PySem.W.mg_of X G g_law_dice,
    a_law_roll := a_law_roll,
    d_law_roll := _,
    F_law_roll := fun_mk (st := st_law_roll) l_law_roll c_law_roll k_law_roll,
    b_law_roll := (fun_mk (st := st_law_roll) l_law_roll c_law_roll k_law_roll).binds (ps := ["_law_dice_here", "_law_total"]) fun _ _ _ _ _ _ us hl => match us, hl with | [_, _], _ => rfl,
    g_law_roll := PySem.W.mg_of X G g_law_roll,
    a_law_pick := a_law_pick,
    d_law_pick := _,
    F_law_pick := fun_mk (st := st_law_pick) l_law_pick c_law_pick k_law_pick,
    b_law_pick := (fun_mk (st := st_law_pick) l_law_pick c_law_pick k_law_pick).binds (ps := ["_law_dice_here", "_law_items"]) fun _ _ _ _ _ _ us hl => match us, hl with | [_, _], _ => rfl,
    g_law_pick := PySem.W.mg_of X G g_law_pick,
    a_law_any_slope := a_law_any_slope,
    d_law_any_slope := _,
    F_law_any_slope := fun_mk (st := st_law_any_slope) l_law_any_slope c_law_any_slope k_law_any_slope,
    b_law_any_slope := (fun_mk (st := st_law_any_slope) l_law_any_slope c_law_any_slope k_law_any_slope).binds (ps := ["_law_dice_here", "_law_most"]) fun _ _ _ _ _ _ us hl => match us, hl with | [_, _], _ => rfl,
    g_law_any_slope := PySem.W.mg_of X G g_law_any_slope,
    a_law_common := a_law_common,
    d_law_common := _,
    F_law_common := fun_mk (st := st_law_common) l_law_common c_law_common k_law_common,
    b_law_common := (fun_mk (st := st_law_common) l_law_common c_law_common k_law_common).binds (ps := ["_law_one", "_law_other"]) fun _ _ _ _ _ _ us hl => match us, hl with | [_, _], _ => rfl,
    g_law_common := PySem.W.mg_of X G g_law_common,
    a_law_ends := a_law_ends,
    d_law_ends := _,
    F_law_ends := fun_mk (st := st_law_ends) l_law_ends c_law_ends k_law_ends,
    b_law_ends := (fun_mk (st := st_law_ends) l_law_ends c_law_ends k_law_ends).binds (ps := ["_law_rises", "_law_steps"]) fun _ _ _ _ _ _ us hl => match us, hl with | [_, _], _ => rfl,
    g_law_ends := PySem.W.mg_of X G g_law_ends,
    a_law_choose := a_law_choose,
    d_law_choose := _,
    F_law_choose := fun_mk (st := st_law_choose) l_law_choose c_law_choose k_law_choose,
    b_law_choose := (fun_mk (st := st_law_choose) l_law_choose c_law_choose k_law_choose).binds (ps := ["_law_whole", "_law_part"]) fun _ _ _ _ _ _ us hl => match us, hl with | [_, _], _ => rfl,
    g_law_choose := PySem.W.mg_of X G g_law_choose,
    a_law_sums_right := a_law_sums_right,
    d_law_sums_right := _,
    F_law_sums_right := fun_mk (st := st_law_sums_right) l_law_sums_right c_law_sums_right k_law_sums_right,
    b_law_sums_right := (fun_mk (st := st_law_sums_right) l_law_sums_right c_law_sums_right k_law_sums_right).binds (ps := ["_law_rises", "_law_steps"]) fun _ _ _ _ _ _ us hl => match us, hl with | [_, _], _ => rfl,
    g_law_sums_right := PySem.W.mg_of X G g_law_sums_right,
    a_law_right := a_law_right,
    d_law_right := _,
    F_law_right := fun_mk (st := st_law_right) l_law_right c_law_right k_law_right,
    b_law_right := (fun_mk (st := st_law_right) l_law_right c_law_right k_law_right).binds (ps := ["_law_dice_here"]) fun _ _ _ _ _ _ us hl => match us, hl with | [_], _ => rfl,
    g_law_right := PySem.W.mg_of X G g_law_right,
    a_law := a_law,
    d_law := _,
    F_law := fun_mk (st := st_law) l_law c_law k_law,
    b_law := (fun_mk (st := st_law) l_law c_law k_law).binds (ps := ["_law_script"]) fun _ _ _ _ _ _ us hl => match us, hl with | [_], _ => rfl,
    g_law := PySem.W.mg_of X G g_law,
    g_Slope := PySem.W.mg_of X G g_Slope,
    cl_Slope := ⟨c1_Slope, c2_Slope, c3_Slope, c4_Slope⟩,
    na_Slope_rises := na_Slope_rises,
    na_Slope_steps := na_Slope_steps,
    na_Slope_common := na_Slope_common,
    mk_Slope := ⟨c5_Slope, m_Slope_init, f_Slope_init, c6_Slope⟩,
    me_Slope_exchanged := ⟨m_Slope_exchanged, f_Slope_exchanged, k_Slope_exchanged⟩,
    p_Slope_rises := p_Slope_rises,
    pr_Slope_rises := ⟨pa_Slope_rises, pg_Slope_rises, pt_Slope_rises, ⟨_, pq_Slope_rises⟩⟩,
    p_Slope_steps := p_Slope_steps,
    pr_Slope_steps := ⟨pa_Slope_steps, pg_Slope_steps, pt_Slope_steps, ⟨_, pq_Slope_steps⟩⟩,
    p_Slope_common := p_Slope_common,
    pr_Slope_common := ⟨pa_Slope_common, pg_Slope_common, pt_Slope_common, ⟨_, pq_Slope_common⟩⟩,
    ic_Slope := ic_Slope,
    mr_Slope := mr_Slope,
    ks_Slope := Sx.kit_self,
    cg := cg,
    ct := ct,
    n_abs := PySem.W.mg_none_of X G n_abs,
    n_bool := PySem.W.mg_none_of X G n_bool,
    n_int := PySem.W.mg_none_of X G n_int,
    n_isinstance := PySem.W.mg_none_of X G n_isinstance,
    n_len := PySem.W.mg_none_of X G n_len,
    n_max := PySem.W.mg_none_of X G n_max,
    n_min := PySem.W.mg_none_of X G n_min,
    n_range := PySem.W.mg_none_of X G n_range,
    n_sum := PySem.W.mg_none_of X G n_sum,
    i_comb := PySem.W.mg_of X G i_comb,
    i_gcd := PySem.W.mg_of X G i_gcd,
    c_MAX_SIDE := ⟨_, PySem.W.mg_of X G qc_MAX_SIDE, ⟨_, rfl⟩⟩
  }
  exact ⟨_, fun s v => .of_eq rfl, fun base _ _ => ok_law T⟩
theorem walk {l : PySem.W.OpenLaw} {q : Program} {loose : List Str} {XP : (Str → Option Value) → Heap → Prop} {YP : World → Heap → Prop} {d : DefRec} {K : Params → PySem.W.Frag} (hn : l.most = some 63) (hdf : d.params.defaults = [])
    (hY : ∀ (w : World) (h : Heap), YP w h → (K w.params).In h)
    (F : ∀ (w : World) (mg : Str → Option Value) (fa : Addr) (h : Heap), (K w.params).In h → h.Ns mainGlobals mg → mg d.name = some (.ref fa) →
      ∃ fd : FuncData, (∀ (s : Shared) (u : Value), BindsTo s fd ⟨[u], []⟩ [("_law_script", u)]) ∧ ∀ base : Heap, (K w.params).In base → base.Ns mainGlobals mg → FnOk l.prog w (K w.params) mg base CX0 7 fa fd ["_law_script"] (spLaw (K w.params))) :
    PySem.W.WalkO q loose XP YP l.row.toRowW d [] (fun f vs => PySem.call f vs) :=
  L2.walk_of (n := 63) (k := 7) (x := "_law_script") (CX := fun _ => CX0) (sp := fun w => spLaw (K w.params)) hn (by decide) hdf ⟨rfl, by decide, by decide⟩ hY F (fun _ _ a ns hl _ hS => ⟨a, ns, rfl, hS, hl, fun _ => rfl⟩) fun _ _ _ _ _ z => z
end Lw
open PySem PySem.W PyProof.Rows
set_option maxRecDepth 100000 in
set_option maxHeartbeats 0 in
theorem PySem.Challenge.cw_slantways_k03_whole_numbers_of_ways_holds : PySem.Challenge.rw_slantways_k03_whole_numbers_of_ways.Holds := by
  w_on; o_law; k_head; (case hw => w_witness2)
  k_fill
  refine Lw.walk (l := PySem.Challenge.rw_slantways_k03_whole_numbers_of_ways) rfl rfl (fun w h Y => PySem.W.kIn_of Y) ?F
  case F =>
    intro w mg fa h KX G hmg
    refine' Lw.all_mk KX G hmg ?g_Slope ?g_is_number ?l_is_number ?c_is_number ?k_is_number ?g_is_whole_between ?l_is_whole_between ?c_is_whole_between ?k_is_whole_between ?m_Slope_init ?f_Slope_init ?l_Slope_init ?c_Slope_init ?k_Slope_init ?pa_Slope_rises ?pg_Slope_rises ?pt_Slope_rises ?pq_Slope_rises ?l_Slope_rises ?c_Slope_rises ?k_Slope_rises ?pa_Slope_steps ?pg_Slope_steps ?pt_Slope_steps ?pq_Slope_steps ?l_Slope_steps ?c_Slope_steps ?k_Slope_steps ?pa_Slope_common ?pg_Slope_common ?pt_Slope_common ?pq_Slope_common ?l_Slope_common ?c_Slope_common ?k_Slope_common ?m_Slope_exchanged ?f_Slope_exchanged ?l_Slope_exchanged ?c_Slope_exchanged ?k_Slope_exchanged ?g_check_slope ?l_check_slope ?c_check_slope ?k_check_slope ?g_way_count ?l_way_count ?c_way_count ?k_way_count ?g_law_dice ?l_law_dice ?c_law_dice ?k_law_dice ?g_law_roll ?l_law_roll ?c_law_roll ?k_law_roll ?g_law_pick ?l_law_pick ?c_law_pick ?k_law_pick ?g_law_any_slope ?l_law_any_slope ?c_law_any_slope ?k_law_any_slope ?g_law_common ?l_law_common ?c_law_common ?k_law_common ?g_law_ends ?l_law_ends ?c_law_ends ?k_law_ends ?g_law_choose ?l_law_choose ?c_law_choose ?k_law_choose ?g_law_sums_right ?l_law_sums_right ?c_law_sums_right ?k_law_sums_right ?g_law_right ?l_law_right ?c_law_right ?k_law_right ?g_law ?l_law ?c_law ?k_law ?c1_Slope ?c2_Slope ?c3_Slope ?c4_Slope ?c5_Slope ?c6_Slope ?na_Slope_rises ?na_Slope_steps ?na_Slope_common ?ic_Slope ?mr_Slope ?cg ?ct ?n_abs ?n_bool ?n_int ?n_isinstance ?n_len ?n_max ?n_min ?n_range ?n_sum ?i_comb ?i_gcd ?qc_MAX_SIDE
    (case g_Slope => k_is)
    (case g_is_number => k_is)
    (case l_is_number => k_is)
    (case c_is_number => k_is)
    (case k_is_number => k_is)
    (case g_is_whole_between => k_is)
    (case l_is_whole_between => k_is)
    (case c_is_whole_between => k_is)
    (case k_is_whole_between => k_is)
    (case m_Slope_init => k_is)
    (case f_Slope_init => k_is)
    (case l_Slope_init => k_is)
    (case c_Slope_init => k_is)
    (case k_Slope_init => k_is)
    (case pa_Slope_rises => k_is)
    (case pg_Slope_rises => k_is)
    (case pt_Slope_rises => k_is)
    (case pq_Slope_rises => k_is)
    (case l_Slope_rises => k_is)
    (case c_Slope_rises => k_is)
    (case k_Slope_rises => k_is)
    (case pa_Slope_steps => k_is)
    (case pg_Slope_steps => k_is)
    (case pt_Slope_steps => k_is)
    (case pq_Slope_steps => k_is)
    (case l_Slope_steps => k_is)
    (case c_Slope_steps => k_is)
    (case k_Slope_steps => k_is)
    (case pa_Slope_common => k_is)
    (case pg_Slope_common => k_is)
    (case pt_Slope_common => k_is)
    (case pq_Slope_common => k_is)
    (case l_Slope_common => k_is)
    (case c_Slope_common => k_is)
    (case k_Slope_common => k_is)
    (case m_Slope_exchanged => k_is)
    (case f_Slope_exchanged => k_is)
    (case l_Slope_exchanged => k_is)
    (case c_Slope_exchanged => k_is)
    (case k_Slope_exchanged => k_is)
    (case g_check_slope => k_is)
    (case l_check_slope => k_is)
    (case c_check_slope => k_is)
    (case k_check_slope => k_is)
    (case g_way_count => k_is)
    (case l_way_count => k_is)
    (case c_way_count => k_is)
    (case k_way_count => k_is)
    (case g_law_dice => k_is)
    (case l_law_dice => k_is)
    (case c_law_dice => k_is)
    (case k_law_dice => k_is)
    (case g_law_roll => k_is)
    (case l_law_roll => k_is)
    (case c_law_roll => k_is)
    (case k_law_roll => k_is)
    (case g_law_pick => k_is)
    (case l_law_pick => k_is)
    (case c_law_pick => k_is)
    (case k_law_pick => k_is)
    (case g_law_any_slope => k_is)
    (case l_law_any_slope => k_is)
    (case c_law_any_slope => k_is)
    (case k_law_any_slope => k_is)
    (case g_law_common => k_is)
    (case l_law_common => k_is)
    (case c_law_common => k_is)
    (case k_law_common => k_is)
    (case g_law_ends => k_is)
    (case l_law_ends => k_is)
    (case c_law_ends => k_is)
    (case k_law_ends => k_is)
    (case g_law_choose => k_is)
    (case l_law_choose => k_is)
    (case c_law_choose => k_is)
    (case k_law_choose => k_is)
    (case g_law_sums_right => k_is)
    (case l_law_sums_right => k_is)
    (case c_law_sums_right => k_is)
    (case k_law_sums_right => k_is)
    (case g_law_right => k_is)
    (case l_law_right => k_is)
    (case c_law_right => k_is)
    (case k_law_right => k_is)
    (case g_law => k_is)
    (case l_law => k_is)
    (case c_law => k_is)
    (case k_law => k_is)
    (case c1_Slope => k_is)
    (case c2_Slope => k_is)
    (case c3_Slope => k_is)
    (case c4_Slope => k_is)
    (case c5_Slope => k_is)
    (case c6_Slope => k_is)
    (case na_Slope_rises => k_is)
    (case na_Slope_steps => k_is)
    (case na_Slope_common => k_is)
    (case ic_Slope => k_is)
    (case mr_Slope => k_is)
    (case cg => k_is)
    (case ct => k_is)
    (case n_abs => k_is)
    (case n_bool => k_is)
    (case n_int => k_is)
    (case n_isinstance => k_is)
    (case n_len => k_is)
    (case n_max => k_is)
    (case n_min => k_is)
    (case n_range => k_is)
    (case n_sum => k_is)
    (case i_comb => k_is)
    (case i_gcd => k_is)
    (case qc_MAX_SIDE => k_is)
