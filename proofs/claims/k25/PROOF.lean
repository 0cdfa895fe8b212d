import PyProof.Rows.All
import Wide.All
import OpenK.AllK
import Wide.FinOn
import HandS.Head3
import HandS.HeadHook1
import HandS.HeadEnd
import HandS.Words
import HandS.ForMost
import HandS.Wide
import HandS.Gcd
import HandS.Property
import HandS.IsInst
import HandS.Codes
import HandS.TupAny
import HandS.Style
import HandS.RaiseMore
import HandS.SortInts
import HandS.StrMore
import HandS.Conv
import HandS.Zip
import HandS.Rev
import HandS.FStr
import KE.GoesEnum
import PyProof.ListStr
import PyProof.StrOps2
import HandS.Iter
import HandS.Walk
import HandS.SlotsOwn
import KE.LtData
import PyProof.Rows.StrRev
import HandS.WordsList
import KE.KExcInit
import HandS.ExcInit
import HandS.ExcField
import HandS.ExcOwn
import HandS.Lambda
import HandS.EndTab
import KE.KNestM
import HandS.TryMany
import OpenK.KMeth
import OpenK.KOps
import KE.KOpsOwn
import KE.KCallOwn
import KE.KFmtOwn
import HandS.DictComp
import HandS.Defaults
import HandS.ClsMeth
import KE.DataMinMax
import PyProof.SumWalkG
import PyProof.WalksMore
import KE.GoesMore
import PySem.Challenge.RW_slantways_k25_whole_turned_heaps
set_option Elab.async false
set_option linter.all false
set_option maxRecDepth 100000
set_option maxHeartbeats 4000000
/-! Hx: a head by one run of the kernel, told by looks of one's own at the objects of a list of addresses. -/
namespace Hx
open PySem PySem.Spec PyProof.Rows L2 He
/-! ### reading objects -/
def oV (K : PySem.W.Frag) (a : Addr) : Obj := (K.lookup a).getD default
def fdV (K : PySem.W.Frag) (a : Addr) : FuncData := match (oV K a).data with
  | .func fd => fd
  | _ => default
def edV (K : PySem.W.Frag) (a : Addr) : Addr := match (fdV K a).defaults with
  | .ref e => e
  | _ => 0
def e1V (K : PySem.W.Frag) (a : Addr) : Addr := match (oV K (edV K a)).data with
  | .seq its _ => (match its.toList with
    | [.ref e] => e
    | _ => 0)
  | _ => 0
def nV (K : PySem.W.Frag) (a : Addr) : Nat := match (oV K a).data with
  | .seq _ n => n
  | _ => 0
/-- the function behind a property, a class method -/
def raV (K : PySem.W.Frag) (p : Addr) (kind : String) : Addr := match PySem.W.recIn K p kind with
  | some (.ref a :: _) => a
  | _ => 0
def reV (K : PySem.W.Frag) (p : Addr) (kind : String) : List Value := match PySem.W.recIn K p kind with
  | some (_ :: r) => r
  | _ => []
def refA : Value → Addr
  | .ref a => a
  | _ => 0
def isRef : Value → Bool
  | .ref _ => true
  | _ => false
theorem ref_of {v : Value} (h : isRef v = true) : v = .ref (refA v) := by
  cases v with
  | ref a => rfl
  | _ => cases h
def caV (K : PySem.W.Frag) (C : Addr) (m : Str) : Addr := match PySem.W.findCls K (.ref C) (.type "type") m with
  | some (.get _ p _ _) => refA p
  | _ => 0
def itV (K : PySem.W.Frag) (x : Str) : Tok := match PySem.W.nsIn K mainGlobals x with
  | some (some (.int _ t)) => t
  | some (some (.str _ t)) => t
  | _ => default
/-! ### looks -/
def isFun (K : PySem.W.Frag) (a : Addr) : Bool := match K.lookup a with
  | some ⟨_, _, .func _, _⟩ => true
  | _ => false
def dfl0 (K : PySem.W.Frag) (a : Addr) : Bool := match (fdV K a).defaults with
  | .none => true
  | _ => false
def seq1 (K : PySem.W.Frag) (a : Addr) : Bool := match K.lookup a with
  | some ⟨_, _, .seq its _, _⟩ => (match its.toList with
    | [.ref _] => true
    | _ => false)
  | _ => false
def tup0 (K : PySem.W.Frag) (a : Addr) : Bool := (K.lookup a).isSome && ((match (oV K a).cls with
  | .type c => decide (c = "tuple")
  | _ => false) && match (oV K a).data with
    | .seq its _ => its.toList.isEmpty
    | _ => false)
def dfl1 (K : PySem.W.Frag) (a : Addr) : Bool := (match (fdV K a).defaults with
  | .ref _ => true
  | _ => false)
def recB (K : PySem.W.Frag) (p : Addr) (kind : String) : Bool := match PySem.W.recIn K p kind with
  | some (.ref _ :: _) => true
  | _ => false
def clsB (K : PySem.W.Frag) (C : Addr) (m : Str) : Bool := match PySem.W.findCls K (.ref C) (.type "type") m with
  | some (.get g p n d) => isRef p && (decide (g = .builtin "classmethod.__get__") && (decide (n = .none) && decide (d = .ref C)))
  | _ => false
def intB (K : PySem.W.Frag) (x : Str) (i : Int) : Bool := match PySem.W.nsIn K mainGlobals x with
  | some (some (.int j _)) => decide (j = i)
  | _ => false
def strB (K : PySem.W.Frag) (x z : Str) : Bool := match PySem.W.nsIn K mainGlobals x with
  | some (some (.str y _)) => decide (y = z)
  | _ => false
def codeB (K : PySem.W.Frag) (a c : Addr) : Bool := match (fdV K a).code with
  | .ref d => decide (d = c)
  | _ => false
abbrev FnV : Type := Str × Str × Arguments × FuncBody × Scope × Addr × List (Str × Addr) × Addr
def fnV (K : PySem.W.Frag) (a : Addr) : FnV := ((fdV K a).name, (fdV K a).qualname, (fdV K a).params, (fdV K a).body, (fdV K a).scope, (fdV K a).globals, (fdV K a).closure, (fdV K a).builtins)
def fnE (nm ql : Str) (ar : Arguments) (bd : List Stmt) (sc : Scope) : FnV := (nm, ql, ar, .stmts bd, sc, mainGlobals, [], builtinsNs)
section
variable {K : PySem.W.Frag} {a p C : Addr} {m : Str} {kind : String} {nm ql : Str} {ar : Arguments} {bd : List Stmt} {sc : Scope}
theorem look_fun (f : isFun K a = true) : K.lookup a = some ⟨(oV K a).cls, (oV K a).dict, .func (fdV K a), (oV K a).slots⟩ := by
  unfold isFun at f
  unfold fdV oV
  cases q : K.lookup a with
  | none => rw [q] at f; cases f
  | some o =>
    obtain ⟨oc, od, dt, sl⟩ := o
    rw [q] at f
    cases dt with
    | func fd => rfl
    | _ => cases f
theorem fd_is (e : fnV K a = fnE nm ql ar bd sc) : fdV K a = PySem.W.fnOf nm ql ar bd sc (fdV K a).defaults (fdV K a).kwdefaults (fdV K a).doc (fdV K a).pyModule (fdV K a).annotations (fdV K a).code (fdV K a).closureTuple := by
  unfold fnV fnE at e
  generalize fdV K a = fd at e ⊢
  obtain ⟨n1, n2, n3, n4, n5, n6, n7, n8, n9, n10, n11, n12, n13, n14, n15⟩ := fd
  simp only [Prod.mk.injEq] at e
  obtain ⟨rfl, rfl, rfl, rfl, rfl, rfl, rfl, rfl⟩ := e
  rfl
theorem fn_l (f : isFun K a = true) (e : fnV K a = fnE nm ql ar bd sc) (d : dfl0 K a = true) : K.lookup a = some ⟨(oV K a).cls, (oV K a).dict, .func (PySem.W.fnOf nm ql ar bd sc .none (fdV K a).kwdefaults (fdV K a).doc (fdV K a).pyModule (fdV K a).annotations (fdV K a).code (fdV K a).closureTuple), (oV K a).slots⟩ := by
  have h := look_fun f
  have g := fd_is e
  have d0 : (fdV K a).defaults = .none := by
    unfold dfl0 at d
    cases q : (fdV K a).defaults with
    | none => rfl
    | _ => rw [q] at d; cases d
  rw [d0] at g
  rw [← g]
  exact h
theorem fn_l1 (f : isFun K a = true) (e : fnV K a = fnE nm ql ar bd sc) (d : dfl1 K a = true) : K.lookup a = some ⟨(oV K a).cls, (oV K a).dict, .func (PySem.W.fnOf nm ql ar bd sc (.ref (edV K a)) (fdV K a).kwdefaults (fdV K a).doc (fdV K a).pyModule (fdV K a).annotations (fdV K a).code (fdV K a).closureTuple), (oV K a).slots⟩ := by
  have h := look_fun f
  have g := fd_is e
  have d0 : (fdV K a).defaults = .ref (edV K a) := by
    unfold dfl1 at d
    unfold edV
    cases q : (fdV K a).defaults with
    | ref => rfl
    | _ => rw [q] at d; cases d
  rw [d0] at g
  rw [← g]
  exact h
theorem ld_of (d : seq1 K (edV K a) = true) : K.lookup (edV K a) = some ⟨(oV K (edV K a)).cls, (oV K (edV K a)).dict, .seq #[.ref (e1V K a)] (nV K (edV K a)), (oV K (edV K a)).slots⟩ := by
  unfold e1V nV
  generalize edV K a = ed at d ⊢
  unfold seq1 at d
  unfold oV
  cases q : K.lookup ed with
  | none => rw [q] at d; cases d
  | some o =>
    obtain ⟨oc, od, dt, sl⟩ := o
    rw [q] at d
    cases dt with
    | seq its n =>
      obtain ⟨its⟩ := its
      match its, d with
      | [.ref e], _ => rfl
    | _ => cases d
theorem le_of {e : Addr} (d : tup0 K e = true) : K.lookup e = some ⟨.type "tuple", (oV K e).dict, .seq #[] (nV K e), (oV K e).slots⟩ := by
  unfold tup0 at d
  obtain ⟨h1, h2⟩ := ba d
  obtain ⟨h2, h3⟩ := ba h2
  have h : K.lookup e = some (oV K e) := by
    unfold oV
    obtain ⟨o, ho⟩ := Option.isSome_iff_exists.mp h1
    rw [ho]; rfl
  rw [h]
  unfold nV
  generalize oV K e = o at h2 h3
  obtain ⟨oc, od, dt, sl⟩ := o
  cases oc with
  | type c =>
    obtain rfl := of_decide_eq_true h2
    cases dt with
    | seq its n =>
      obtain ⟨its⟩ := its
      cases its with
      | nil => rfl
      | cons x r => cases h3
    | _ => cases h3
  | _ => cases h2
theorem rec_of (d : recB K p kind = true) : PySem.W.recIn K p kind = some (.ref (raV K p kind) :: reV K p kind) := by
  unfold recB at d
  unfold raV reV
  generalize PySem.W.recIn K p kind = r at d ⊢
  match r, d with
  | some (.ref _ :: _), _ => rfl
theorem cls_of (d : clsB K C m = true) : PySem.W.findCls K (.ref C) (.type "type") m = some (.get (.builtin "classmethod.__get__") (.ref (caV K C m)) .none (.ref C)) := by
  unfold clsB at d
  unfold caV
  generalize PySem.W.findCls K (.ref C) (.type "type") m = r at d ⊢
  cases r with
  | none => cases d
  | some f =>
    cases f with
    | val v => cases d
    | get g p n c =>
      obtain ⟨h1, h2⟩ := ba (show (isRef p && (decide (g = .builtin "classmethod.__get__") && (decide (n = .none) && decide (c = .ref C)))) = true from d)
      obtain ⟨h2, h3⟩ := ba h2
      obtain ⟨h3, h4⟩ := ba h3
      rw [of_decide_eq_true h2, of_decide_eq_true h3, of_decide_eq_true h4]
      have e := ref_of h1
      exact congrArg (fun x => some (PySem.W.CFound.get (.builtin "classmethod.__get__") x .none (.ref C))) e
theorem int_of {x : Str} {i : Int} (d : intB K x i = true) : PySem.W.nsIn K mainGlobals x = some (some (.int i (itV K x))) := by
  unfold intB at d
  unfold itV
  generalize PySem.W.nsIn K mainGlobals x = r at d ⊢
  match r, d with
  | some (some (.int j _)), d => obtain rfl := of_decide_eq_true d; rfl
theorem str_of {x z : Str} (d : strB K x z = true) : PySem.W.nsIn K mainGlobals x = some (some (.str z (itV K x))) := by
  unfold strB at d
  unfold itV
  generalize PySem.W.nsIn K mainGlobals x = r at d ⊢
  match r, d with
  | some (some (.str j _)), d => obtain rfl := of_decide_eq_true d; rfl
theorem code_of {c : Addr} (d : codeB K a c = true) : (fdV K a).code = .ref c := by
  unfold codeB at d
  generalize (fdV K a).code = r at d ⊢
  match r, d with
  | .ref e, d => rw [of_decide_eq_true d]
end
/-! ### the Hook -/
abbrev Al : Type := List Bool × List FnV × List (Option Obj)
def obsK (cs : PySem.W.Frag → List Bool) (fs : PySem.W.Frag → List Addr) (ts : PySem.W.Frag → List Addr) (g : Addr → Option Obj) (K : PySem.W.Frag) : Al := (cs K, (fs K).map (fnV K), (ts K).map g)
def valK (nc : Nat) (fv : List FnV) (nt : Nat) : Al := (List.replicate nc true, fv, List.replicate nt (some (PySem.W.tabObj #[])))
def obsX (cs : PySem.W.Frag → List Bool) (fs : PySem.W.Frag → List Addr) (ts : PySem.W.Frag → List Addr) (as : List Addr) (g : Addr → Option Obj) : Al := obsK cs fs ts g (frG g as)
structure Says (cs : PySem.W.Frag → List Bool) (fs : PySem.W.Frag → List Addr) (fv : List FnV) (K : PySem.W.Frag) : Prop where
  looks : ∀ (i : Nat) (b : Bool), (cs K)[i]? = some b → b = true
  funs : (fs K).map (fnV K) = fv
theorem all_true : ∀ {l : List Bool} {n : Nat}, l = List.replicate n true → ∀ (i : Nat) (b : Bool), l[i]? = some b → b = true := by
  rintro l n rfl i b h
  exact List.eq_of_mem_replicate (List.mem_of_getElem? h)
theorem tab_map {h : Addr → Option Obj} : ∀ {ts : List Addr} {n : Nat} {o : Option Obj}, ts.map h = List.replicate n o → ∀ t ∈ ts, h t = o := by
  intro ts n o e t m
  exact List.eq_of_mem_replicate (by rw [← e]; exact List.mem_map.mpr ⟨t, m, rfl⟩)
def hookX (cs : PySem.W.Frag → List Bool) (fs : PySem.W.Frag → List Addr) (ts : PySem.W.Frag → List Addr) (as : List Addr) (nc : Nat) (fv : List FnV) (nt : Nat) : PySem.W.Hook where
  α := Al
  obs := fun s => obsX cs fs ts as s.heap.get?
  val := fun _ => valK nc fv nt
  says := fun _ h => ∃ K : PySem.W.Frag, K.In h ∧ Says cs fs fv K ∧ ∀ t ∈ ts K, h.get? t = some (PySem.W.tabObj #[])
  of := fun _ s e => by
    obtain ⟨e1, e2⟩ := Prod.mk.inj e
    obtain ⟨e2, e3⟩ := Prod.mk.inj e2
    exact ⟨_, frG_in, ⟨all_true e1, e2⟩, tab_map e3⟩
  keeps := fun _ _ _ ⟨K, hK, c, t⟩ k => ⟨K, PySem.W.Frag.In.keeps hK k, c, fun b m => k _ _ (t b m)⟩
theorem obs_eq {cs : PySem.W.Frag → List Bool} {fs ts : PySem.W.Frag → List Addr} {as : List Addr} {nc : Nat} {fv : List FnV} {nt : Nat} (s : PySem.W.SharedT) : obsX cs fs ts as (HandSHeadRun.getT s) = (hookX cs fs ts as nc fv nt).obs s.abs := by
  have e : HandSHeadRun.getT s = s.abs.heap.get? := funext (HandSHeadRun.getT_eq s)
  rw [e]; rfl
section
variable {cs : PySem.W.Frag → List Bool} {fs : PySem.W.Frag → List Addr} {fv : List FnV} {K : PySem.W.Frag}
theorem Says.at (c : Says cs fs fv K) (i : Nat) {b : Bool} (h : (cs K)[i]? = some b) : b = true := c.looks i b h
theorem Says.is (c : Says cs fs fv K) (i : Nat) {p : Prop} [Decidable p] (h : (cs K)[i]? = some (decide p)) : p := of_decide_eq_true (c.looks i _ h)
theorem Says.fn (c : Says cs fs fv K) (i : Nat) {a : Addr} {v : FnV} (h : (fs K)[i]? = some a) (h2 : fv[i]? = some v) : fnV K a = v := by
  have e := c.funs
  have e2 : ((fs K).map (fnV K))[i]? = fv[i]? := by rw [e]
  rw [List.getElem?_map, h, h2] at e2
  exact Option.some.inj e2
end
end Hx

namespace Hd
open PySem PySem.Spec PyProof.Rows L2
def top (i : Nat) : Stmt := PySem.Challenge.pw_slantways_k25_whole_turned_heaps.main.body.getD i (.Pass ⟨0, 0, 0, 0⟩)
abbrev st_is_number : Stmt := top 13
abbrev st_is_whole_between : Stmt := top 14
abbrev st_is_ascending : Stmt := top 15
abbrev st_Slope_init : Stmt := inClass (top 20) 0
abbrev st_Slope_rises : Stmt := inClass (top 20) 2
abbrev st_Slope_steps : Stmt := inClass (top 20) 3
abbrev st_Slope_common : Stmt := inClass (top 20) 4
abbrev st_Slope_is_coprime : Stmt := inClass (top 20) 5
abbrev st_Slope_half : Stmt := inClass (top 20) 6
abbrev st_Slope_exchanged : Stmt := inClass (top 20) 7
abbrev st_Slope_eq : Stmt := inClass (top 20) 8
abbrev st_Way_init : Stmt := inClass (top 21) 0
abbrev st_Way_slope : Stmt := inClass (top 21) 1
abbrev st_Way_text : Stmt := inClass (top 21) 2
abbrev st_Way_levels : Stmt := inClass (top 21) 3
abbrev st_Way_exchanged : Stmt := inClass (top 21) 5
abbrev st_Way_eq : Stmt := inClass (top 21) 9
abbrev st_check_slope : Stmt := top 22
abbrev st_check_way : Stmt := top 23
abbrev st_check_coprime : Stmt := top 24
abbrev st_check_coprime_way : Stmt := top 25
abbrev st_letter_levels : Stmt := top 26
abbrev st_is_word : Stmt := top 27
abbrev st_is_way : Stmt := top 28
abbrev st_Shelf_init : Stmt := inClass (top 30) 0
abbrev st_Shelf_of_way : Stmt := inClass (top 30) 1
abbrev st_Shelf_slope : Stmt := inClass (top 30) 3
abbrev st_Shelf_gaps : Stmt := inClass (top 30) 4
abbrev st_Shelf_way : Stmt := inClass (top 30) 8
abbrev st_Shelf_dual : Stmt := inClass (top 30) 9
abbrev st_Shelf_exchanged : Stmt := inClass (top 30) 10
abbrev st_Shelf_eq : Stmt := inClass (top 30) 19
abbrev st_check_shelf : Stmt := top 31
abbrev st_way_with_rises : Stmt := top 33
abbrev st_least_members : Stmt := top 34
abbrev st_with_more : Stmt := top 35
abbrev st_sides : Stmt := top 36
abbrev st_members_below : Stmt := top 37
abbrev st_gaps_of : Stmt := top 38
abbrev st_is_gaps : Stmt := top 39
abbrev st_Heap_init : Stmt := inClass (top 42) 0
abbrev st_Heap_of_first_hooks : Stmt := inClass (top 42) 1
abbrev st_Heap_rows : Stmt := inClass (top 42) 2
abbrev st_Heap_size : Stmt := inClass (top 42) 3
abbrev st_Heap_first_hooks : Stmt := inClass (top 42) 4
abbrev st_Heap_turned : Stmt := inClass (top 42) 5
abbrev st_Heap_hooks : Stmt := inClass (top 42) 6
abbrev st_Heap_len : Stmt := inClass (top 42) 13
abbrev st_Heap_eq : Stmt := inClass (top 42) 16
abbrev st_check_heap : Stmt := top 43
abbrev st_is_heap_rows : Stmt := top 44
abbrev st_rows_of_hooks : Stmt := top 45
abbrev st_heap_of : Stmt := top 46
abbrev st_shelf_of : Stmt := top 47
abbrev st_law_dice : Stmt := top 49
abbrev st_law_roll : Stmt := top 50
abbrev st_law_slope : Stmt := top 51
abbrev st_law_way : Stmt := top 52
abbrev st_law_levels : Stmt := top 53
abbrev st_law_makers : Stmt := top 54
abbrev st_law_gaps : Stmt := top 55
abbrev st_law_squares : Stmt := top 56
abbrev st_law_rows_of : Stmt := top 57
abbrev st_law_turned_rows : Stmt := top 58
abbrev st_law_gaps_of : Stmt := top 59
abbrev st_law_dual : Stmt := top 60
abbrev st_law : Stmt := top 61
namespace Lk
def C_Slope (K : PySem.W.Frag) : Addr := He.ga K "Slope"
def C_Way (K : PySem.W.Frag) : Addr := He.ga K "Way"
def C_Shelf (K : PySem.W.Frag) : Addr := He.ga K "Shelf"
def C_Heap (K : PySem.W.Frag) : Addr := He.ga K "Heap"
def a_is_number (K : PySem.W.Frag) : Addr := He.ga K "is_number"
def a_is_whole_between (K : PySem.W.Frag) : Addr := He.ga K "is_whole_between"
def a_is_ascending (K : PySem.W.Frag) : Addr := He.ga K "is_ascending"
def a_Slope_init (K : PySem.W.Frag) : Addr := He.ma K (C_Slope K) "__init__"
def p_Slope_rises (K : PySem.W.Frag) : Addr := He.ma K (C_Slope K) "rises"
def a_Slope_rises (K : PySem.W.Frag) : Addr := Hx.raV K (p_Slope_rises K) "property"
def p_Slope_steps (K : PySem.W.Frag) : Addr := He.ma K (C_Slope K) "steps"
def a_Slope_steps (K : PySem.W.Frag) : Addr := Hx.raV K (p_Slope_steps K) "property"
def p_Slope_common (K : PySem.W.Frag) : Addr := He.ma K (C_Slope K) "common"
def a_Slope_common (K : PySem.W.Frag) : Addr := Hx.raV K (p_Slope_common K) "property"
def p_Slope_is_coprime (K : PySem.W.Frag) : Addr := He.ma K (C_Slope K) "is_coprime"
def a_Slope_is_coprime (K : PySem.W.Frag) : Addr := Hx.raV K (p_Slope_is_coprime K) "property"
def p_Slope_half (K : PySem.W.Frag) : Addr := He.ma K (C_Slope K) "half"
def a_Slope_half (K : PySem.W.Frag) : Addr := Hx.raV K (p_Slope_half K) "property"
def a_Slope_exchanged (K : PySem.W.Frag) : Addr := He.ma K (C_Slope K) "exchanged"
def a_Slope_eq (K : PySem.W.Frag) : Addr := He.ma K (C_Slope K) "__eq__"
def a_Way_init (K : PySem.W.Frag) : Addr := He.ma K (C_Way K) "__init__"
def p_Way_slope (K : PySem.W.Frag) : Addr := He.ma K (C_Way K) "slope"
def a_Way_slope (K : PySem.W.Frag) : Addr := Hx.raV K (p_Way_slope K) "property"
def p_Way_text (K : PySem.W.Frag) : Addr := He.ma K (C_Way K) "text"
def a_Way_text (K : PySem.W.Frag) : Addr := Hx.raV K (p_Way_text K) "property"
def p_Way_levels (K : PySem.W.Frag) : Addr := He.ma K (C_Way K) "levels"
def a_Way_levels (K : PySem.W.Frag) : Addr := Hx.raV K (p_Way_levels K) "property"
def a_Way_exchanged (K : PySem.W.Frag) : Addr := He.ma K (C_Way K) "exchanged"
def a_Way_eq (K : PySem.W.Frag) : Addr := He.ma K (C_Way K) "__eq__"
def a_check_slope (K : PySem.W.Frag) : Addr := He.ga K "check_slope"
def a_check_way (K : PySem.W.Frag) : Addr := He.ga K "check_way"
def a_check_coprime (K : PySem.W.Frag) : Addr := He.ga K "check_coprime"
def a_check_coprime_way (K : PySem.W.Frag) : Addr := He.ga K "check_coprime_way"
def a_letter_levels (K : PySem.W.Frag) : Addr := He.ga K "letter_levels"
def a_is_word (K : PySem.W.Frag) : Addr := He.ga K "is_word"
def a_is_way (K : PySem.W.Frag) : Addr := He.ga K "is_way"
def a_Shelf_init (K : PySem.W.Frag) : Addr := He.ma K (C_Shelf K) "__init__"
def ed_Shelf_init (K : PySem.W.Frag) : Addr := Hx.edV K (a_Shelf_init K)
def e_Shelf_init (K : PySem.W.Frag) : Addr := Hx.e1V K (a_Shelf_init K)
def p_Shelf_of_way (K : PySem.W.Frag) : Addr := Hx.caV K (C_Shelf K) "of_way"
def a_Shelf_of_way (K : PySem.W.Frag) : Addr := Hx.raV K (p_Shelf_of_way K) "classmethod"
def p_Shelf_slope (K : PySem.W.Frag) : Addr := He.ma K (C_Shelf K) "slope"
def a_Shelf_slope (K : PySem.W.Frag) : Addr := Hx.raV K (p_Shelf_slope K) "property"
def p_Shelf_gaps (K : PySem.W.Frag) : Addr := He.ma K (C_Shelf K) "gaps"
def a_Shelf_gaps (K : PySem.W.Frag) : Addr := Hx.raV K (p_Shelf_gaps K) "property"
def a_Shelf_way (K : PySem.W.Frag) : Addr := He.ma K (C_Shelf K) "way"
def a_Shelf_dual (K : PySem.W.Frag) : Addr := He.ma K (C_Shelf K) "dual"
def a_Shelf_exchanged (K : PySem.W.Frag) : Addr := He.ma K (C_Shelf K) "exchanged"
def a_Shelf_eq (K : PySem.W.Frag) : Addr := He.ma K (C_Shelf K) "__eq__"
def a_check_shelf (K : PySem.W.Frag) : Addr := He.ga K "check_shelf"
def a_way_with_rises (K : PySem.W.Frag) : Addr := He.ga K "way_with_rises"
def a_least_members (K : PySem.W.Frag) : Addr := He.ga K "least_members"
def a_with_more (K : PySem.W.Frag) : Addr := He.ga K "with_more"
def a_sides (K : PySem.W.Frag) : Addr := He.ga K "sides"
def a_members_below (K : PySem.W.Frag) : Addr := He.ga K "members_below"
def a_gaps_of (K : PySem.W.Frag) : Addr := He.ga K "gaps_of"
def a_is_gaps (K : PySem.W.Frag) : Addr := He.ga K "is_gaps"
def a_Heap_init (K : PySem.W.Frag) : Addr := He.ma K (C_Heap K) "__init__"
def ed_Heap_init (K : PySem.W.Frag) : Addr := Hx.edV K (a_Heap_init K)
def e_Heap_init (K : PySem.W.Frag) : Addr := Hx.e1V K (a_Heap_init K)
def p_Heap_of_first_hooks (K : PySem.W.Frag) : Addr := Hx.caV K (C_Heap K) "of_first_hooks"
def a_Heap_of_first_hooks (K : PySem.W.Frag) : Addr := Hx.raV K (p_Heap_of_first_hooks K) "classmethod"
def p_Heap_rows (K : PySem.W.Frag) : Addr := He.ma K (C_Heap K) "rows"
def a_Heap_rows (K : PySem.W.Frag) : Addr := Hx.raV K (p_Heap_rows K) "property"
def p_Heap_size (K : PySem.W.Frag) : Addr := He.ma K (C_Heap K) "size"
def a_Heap_size (K : PySem.W.Frag) : Addr := Hx.raV K (p_Heap_size K) "property"
def p_Heap_first_hooks (K : PySem.W.Frag) : Addr := He.ma K (C_Heap K) "first_hooks"
def a_Heap_first_hooks (K : PySem.W.Frag) : Addr := Hx.raV K (p_Heap_first_hooks K) "property"
def a_Heap_turned (K : PySem.W.Frag) : Addr := He.ma K (C_Heap K) "turned"
def a_Heap_hooks (K : PySem.W.Frag) : Addr := He.ma K (C_Heap K) "hooks"
def a_Heap_len (K : PySem.W.Frag) : Addr := He.ma K (C_Heap K) "__len__"
def a_Heap_eq (K : PySem.W.Frag) : Addr := He.ma K (C_Heap K) "__eq__"
def a_check_heap (K : PySem.W.Frag) : Addr := He.ga K "check_heap"
def a_is_heap_rows (K : PySem.W.Frag) : Addr := He.ga K "is_heap_rows"
def a_rows_of_hooks (K : PySem.W.Frag) : Addr := He.ga K "rows_of_hooks"
def a_heap_of (K : PySem.W.Frag) : Addr := He.ga K "heap_of"
def a_shelf_of (K : PySem.W.Frag) : Addr := He.ga K "shelf_of"
def a_law_dice (K : PySem.W.Frag) : Addr := He.ga K "_law_dice"
def a_law_roll (K : PySem.W.Frag) : Addr := He.ga K "_law_roll"
def a_law_slope (K : PySem.W.Frag) : Addr := He.ga K "_law_slope"
def a_law_way (K : PySem.W.Frag) : Addr := He.ga K "_law_way"
def a_law_levels (K : PySem.W.Frag) : Addr := He.ga K "_law_levels"
def a_law_makers (K : PySem.W.Frag) : Addr := He.ga K "_law_makers"
def a_law_gaps (K : PySem.W.Frag) : Addr := He.ga K "_law_gaps"
def a_law_squares (K : PySem.W.Frag) : Addr := He.ga K "_law_squares"
def a_law_rows_of (K : PySem.W.Frag) : Addr := He.ga K "_law_rows_of"
def a_law_turned_rows (K : PySem.W.Frag) : Addr := He.ga K "_law_turned_rows"
def a_law_gaps_of (K : PySem.W.Frag) : Addr := He.ga K "_law_gaps_of"
def a_law_dual (K : PySem.W.Frag) : Addr := He.ga K "_law_dual"
def a_law (K : PySem.W.Frag) : Addr := He.ga K "law"
end Lk
def looks0 (K : PySem.W.Frag) : List Bool := [decide (PySem.W.nsIn K mainGlobals "Slope" = some (some (.ref (Lk.C_Slope K)))),
  decide (PySem.W.nsIn K mainGlobals "Way" = some (some (.ref (Lk.C_Way K)))),
  decide (PySem.W.nsIn K mainGlobals "Shelf" = some (some (.ref (Lk.C_Shelf K)))),
  decide (PySem.W.nsIn K mainGlobals "Heap" = some (some (.ref (Lk.C_Heap K)))),
  decide (PySem.W.nsIn K mainGlobals "is_number" = some (some (.ref (Lk.a_is_number K)))),
  Hx.isFun K (Lk.a_is_number K),
  Hx.dfl0 K (Lk.a_is_number K),
  PySem.W.codeIn K (Hx.fdV K (Lk.a_is_number K)).code "is_number",
  PySem.W.keepIn K (.ref (Lk.a_is_number K)),
  decide (PySem.W.nsIn K mainGlobals "is_whole_between" = some (some (.ref (Lk.a_is_whole_between K)))),
  Hx.isFun K (Lk.a_is_whole_between K),
  Hx.dfl0 K (Lk.a_is_whole_between K),
  PySem.W.codeIn K (Hx.fdV K (Lk.a_is_whole_between K)).code "is_whole_between",
  PySem.W.keepIn K (.ref (Lk.a_is_whole_between K)),
  decide (PySem.W.nsIn K mainGlobals "is_ascending" = some (some (.ref (Lk.a_is_ascending K)))),
  Hx.isFun K (Lk.a_is_ascending K),
  Hx.dfl0 K (Lk.a_is_ascending K),
  PySem.W.codeIn K (Hx.fdV K (Lk.a_is_ascending K)).code "is_ascending",
  PySem.W.keepIn K (.ref (Lk.a_is_ascending K)),
  decide (PySem.W.findIn K (.ref (Lk.C_Slope K)) "__init__" = some (some (.ref (Lk.a_Slope_init K)))),
  PySem.W.isFn K (.ref (Lk.a_Slope_init K)),
  Hx.isFun K (Lk.a_Slope_init K),
  Hx.dfl0 K (Lk.a_Slope_init K),
  PySem.W.codeIn K (Hx.fdV K (Lk.a_Slope_init K)).code "Slope.__init__",
  PySem.W.keepIn K (.ref (Lk.a_Slope_init K)),
  decide (PySem.W.findIn K (.ref (Lk.C_Slope K)) "rises" = some (some (.ref (Lk.p_Slope_rises K)))),
  decide (PySem.W.specialIn K (.ref (Lk.p_Slope_rises K)) "__get__" = some (some (.builtin "property.__get__"))),
  decide (PySem.W.takesIn K (.ref (Lk.p_Slope_rises K)) = some true),
  Hx.recB K (Lk.p_Slope_rises K) "property",
  Hx.isFun K (Lk.a_Slope_rises K)]
def looks1 (K : PySem.W.Frag) : List Bool := [Hx.dfl0 K (Lk.a_Slope_rises K),
  PySem.W.codeIn K (Hx.fdV K (Lk.a_Slope_rises K)).code "Slope.rises",
  PySem.W.keepIn K (.ref (Lk.a_Slope_rises K)),
  decide (PySem.W.findIn K (.ref (Lk.C_Slope K)) "steps" = some (some (.ref (Lk.p_Slope_steps K)))),
  decide (PySem.W.specialIn K (.ref (Lk.p_Slope_steps K)) "__get__" = some (some (.builtin "property.__get__"))),
  decide (PySem.W.takesIn K (.ref (Lk.p_Slope_steps K)) = some true),
  Hx.recB K (Lk.p_Slope_steps K) "property",
  Hx.isFun K (Lk.a_Slope_steps K),
  Hx.dfl0 K (Lk.a_Slope_steps K),
  PySem.W.codeIn K (Hx.fdV K (Lk.a_Slope_steps K)).code "Slope.steps",
  PySem.W.keepIn K (.ref (Lk.a_Slope_steps K)),
  decide (PySem.W.findIn K (.ref (Lk.C_Slope K)) "common" = some (some (.ref (Lk.p_Slope_common K)))),
  decide (PySem.W.specialIn K (.ref (Lk.p_Slope_common K)) "__get__" = some (some (.builtin "property.__get__"))),
  decide (PySem.W.takesIn K (.ref (Lk.p_Slope_common K)) = some true),
  Hx.recB K (Lk.p_Slope_common K) "property",
  Hx.isFun K (Lk.a_Slope_common K),
  Hx.dfl0 K (Lk.a_Slope_common K),
  PySem.W.codeIn K (Hx.fdV K (Lk.a_Slope_common K)).code "Slope.common",
  PySem.W.keepIn K (.ref (Lk.a_Slope_common K)),
  decide (PySem.W.findIn K (.ref (Lk.C_Slope K)) "is_coprime" = some (some (.ref (Lk.p_Slope_is_coprime K)))),
  decide (PySem.W.specialIn K (.ref (Lk.p_Slope_is_coprime K)) "__get__" = some (some (.builtin "property.__get__"))),
  decide (PySem.W.takesIn K (.ref (Lk.p_Slope_is_coprime K)) = some true),
  Hx.recB K (Lk.p_Slope_is_coprime K) "property",
  Hx.isFun K (Lk.a_Slope_is_coprime K),
  Hx.dfl0 K (Lk.a_Slope_is_coprime K),
  PySem.W.codeIn K (Hx.fdV K (Lk.a_Slope_is_coprime K)).code "Slope.is_coprime",
  PySem.W.keepIn K (.ref (Lk.a_Slope_is_coprime K)),
  decide (PySem.W.findIn K (.ref (Lk.C_Slope K)) "half" = some (some (.ref (Lk.p_Slope_half K)))),
  decide (PySem.W.specialIn K (.ref (Lk.p_Slope_half K)) "__get__" = some (some (.builtin "property.__get__"))),
  decide (PySem.W.takesIn K (.ref (Lk.p_Slope_half K)) = some true)]
def looks2 (K : PySem.W.Frag) : List Bool := [Hx.recB K (Lk.p_Slope_half K) "property",
  Hx.isFun K (Lk.a_Slope_half K),
  Hx.dfl0 K (Lk.a_Slope_half K),
  PySem.W.codeIn K (Hx.fdV K (Lk.a_Slope_half K)).code "Slope.half",
  PySem.W.keepIn K (.ref (Lk.a_Slope_half K)),
  decide (PySem.W.findIn K (.ref (Lk.C_Slope K)) "exchanged" = some (some (.ref (Lk.a_Slope_exchanged K)))),
  PySem.W.isFn K (.ref (Lk.a_Slope_exchanged K)),
  Hx.isFun K (Lk.a_Slope_exchanged K),
  Hx.dfl0 K (Lk.a_Slope_exchanged K),
  PySem.W.codeIn K (Hx.fdV K (Lk.a_Slope_exchanged K)).code "Slope.exchanged",
  PySem.W.keepIn K (.ref (Lk.a_Slope_exchanged K)),
  decide (PySem.W.findIn K (.ref (Lk.C_Slope K)) "__eq__" = some (some (.ref (Lk.a_Slope_eq K)))),
  PySem.W.isFn K (.ref (Lk.a_Slope_eq K)),
  Hx.isFun K (Lk.a_Slope_eq K),
  Hx.dfl0 K (Lk.a_Slope_eq K),
  PySem.W.codeIn K (Hx.fdV K (Lk.a_Slope_eq K)).code "Slope.__eq__",
  PySem.W.keepIn K (.ref (Lk.a_Slope_eq K)),
  decide (PySem.W.findIn K (.ref (Lk.C_Way K)) "__init__" = some (some (.ref (Lk.a_Way_init K)))),
  PySem.W.isFn K (.ref (Lk.a_Way_init K)),
  Hx.isFun K (Lk.a_Way_init K),
  Hx.dfl0 K (Lk.a_Way_init K),
  PySem.W.codeIn K (Hx.fdV K (Lk.a_Way_init K)).code "Way.__init__",
  PySem.W.keepIn K (.ref (Lk.a_Way_init K)),
  decide (PySem.W.findIn K (.ref (Lk.C_Way K)) "slope" = some (some (.ref (Lk.p_Way_slope K)))),
  decide (PySem.W.specialIn K (.ref (Lk.p_Way_slope K)) "__get__" = some (some (.builtin "property.__get__"))),
  decide (PySem.W.takesIn K (.ref (Lk.p_Way_slope K)) = some true),
  Hx.recB K (Lk.p_Way_slope K) "property",
  Hx.isFun K (Lk.a_Way_slope K),
  Hx.dfl0 K (Lk.a_Way_slope K),
  PySem.W.codeIn K (Hx.fdV K (Lk.a_Way_slope K)).code "Way.slope"]
def looks3 (K : PySem.W.Frag) : List Bool := [PySem.W.keepIn K (.ref (Lk.a_Way_slope K)),
  decide (PySem.W.findIn K (.ref (Lk.C_Way K)) "text" = some (some (.ref (Lk.p_Way_text K)))),
  decide (PySem.W.specialIn K (.ref (Lk.p_Way_text K)) "__get__" = some (some (.builtin "property.__get__"))),
  decide (PySem.W.takesIn K (.ref (Lk.p_Way_text K)) = some true),
  Hx.recB K (Lk.p_Way_text K) "property",
  Hx.isFun K (Lk.a_Way_text K),
  Hx.dfl0 K (Lk.a_Way_text K),
  PySem.W.codeIn K (Hx.fdV K (Lk.a_Way_text K)).code "Way.text",
  PySem.W.keepIn K (.ref (Lk.a_Way_text K)),
  decide (PySem.W.findIn K (.ref (Lk.C_Way K)) "levels" = some (some (.ref (Lk.p_Way_levels K)))),
  decide (PySem.W.specialIn K (.ref (Lk.p_Way_levels K)) "__get__" = some (some (.builtin "property.__get__"))),
  decide (PySem.W.takesIn K (.ref (Lk.p_Way_levels K)) = some true),
  Hx.recB K (Lk.p_Way_levels K) "property",
  Hx.isFun K (Lk.a_Way_levels K),
  Hx.dfl0 K (Lk.a_Way_levels K),
  PySem.W.codeIn K (Hx.fdV K (Lk.a_Way_levels K)).code "Way.levels",
  PySem.W.keepIn K (.ref (Lk.a_Way_levels K)),
  decide (PySem.W.findIn K (.ref (Lk.C_Way K)) "exchanged" = some (some (.ref (Lk.a_Way_exchanged K)))),
  PySem.W.isFn K (.ref (Lk.a_Way_exchanged K)),
  Hx.isFun K (Lk.a_Way_exchanged K),
  Hx.dfl0 K (Lk.a_Way_exchanged K),
  PySem.W.codeIn K (Hx.fdV K (Lk.a_Way_exchanged K)).code "Way.exchanged",
  PySem.W.keepIn K (.ref (Lk.a_Way_exchanged K)),
  decide (PySem.W.findIn K (.ref (Lk.C_Way K)) "__eq__" = some (some (.ref (Lk.a_Way_eq K)))),
  PySem.W.isFn K (.ref (Lk.a_Way_eq K)),
  Hx.isFun K (Lk.a_Way_eq K),
  Hx.dfl0 K (Lk.a_Way_eq K),
  PySem.W.codeIn K (Hx.fdV K (Lk.a_Way_eq K)).code "Way.__eq__",
  PySem.W.keepIn K (.ref (Lk.a_Way_eq K)),
  decide (PySem.W.nsIn K mainGlobals "check_slope" = some (some (.ref (Lk.a_check_slope K))))]
def looks4 (K : PySem.W.Frag) : List Bool := [Hx.isFun K (Lk.a_check_slope K),
  Hx.dfl0 K (Lk.a_check_slope K),
  PySem.W.codeIn K (Hx.fdV K (Lk.a_check_slope K)).code "check_slope",
  PySem.W.keepIn K (.ref (Lk.a_check_slope K)),
  decide (PySem.W.nsIn K mainGlobals "check_way" = some (some (.ref (Lk.a_check_way K)))),
  Hx.isFun K (Lk.a_check_way K),
  Hx.dfl0 K (Lk.a_check_way K),
  PySem.W.codeIn K (Hx.fdV K (Lk.a_check_way K)).code "check_way",
  PySem.W.keepIn K (.ref (Lk.a_check_way K)),
  decide (PySem.W.nsIn K mainGlobals "check_coprime" = some (some (.ref (Lk.a_check_coprime K)))),
  Hx.isFun K (Lk.a_check_coprime K),
  Hx.dfl0 K (Lk.a_check_coprime K),
  PySem.W.codeIn K (Hx.fdV K (Lk.a_check_coprime K)).code "check_coprime",
  PySem.W.keepIn K (.ref (Lk.a_check_coprime K)),
  decide (PySem.W.nsIn K mainGlobals "check_coprime_way" = some (some (.ref (Lk.a_check_coprime_way K)))),
  Hx.isFun K (Lk.a_check_coprime_way K),
  Hx.dfl0 K (Lk.a_check_coprime_way K),
  PySem.W.codeIn K (Hx.fdV K (Lk.a_check_coprime_way K)).code "check_coprime_way",
  PySem.W.keepIn K (.ref (Lk.a_check_coprime_way K)),
  decide (PySem.W.nsIn K mainGlobals "letter_levels" = some (some (.ref (Lk.a_letter_levels K)))),
  Hx.isFun K (Lk.a_letter_levels K),
  Hx.dfl0 K (Lk.a_letter_levels K),
  PySem.W.codeIn K (Hx.fdV K (Lk.a_letter_levels K)).code "letter_levels",
  PySem.W.keepIn K (.ref (Lk.a_letter_levels K)),
  decide (PySem.W.nsIn K mainGlobals "is_word" = some (some (.ref (Lk.a_is_word K)))),
  Hx.isFun K (Lk.a_is_word K),
  Hx.dfl0 K (Lk.a_is_word K),
  PySem.W.codeIn K (Hx.fdV K (Lk.a_is_word K)).code "is_word",
  PySem.W.keepIn K (.ref (Lk.a_is_word K)),
  decide (PySem.W.nsIn K mainGlobals "is_way" = some (some (.ref (Lk.a_is_way K))))]
def looks5 (K : PySem.W.Frag) : List Bool := [Hx.isFun K (Lk.a_is_way K),
  Hx.dfl0 K (Lk.a_is_way K),
  PySem.W.codeIn K (Hx.fdV K (Lk.a_is_way K)).code "is_way",
  PySem.W.keepIn K (.ref (Lk.a_is_way K)),
  decide (PySem.W.findIn K (.ref (Lk.C_Shelf K)) "__init__" = some (some (.ref (Lk.a_Shelf_init K)))),
  PySem.W.isFn K (.ref (Lk.a_Shelf_init K)),
  Hx.isFun K (Lk.a_Shelf_init K),
  Hx.dfl1 K (Lk.a_Shelf_init K),
  Hx.seq1 K (Hx.edV K (Lk.a_Shelf_init K)),
  Hx.tup0 K (Hx.e1V K (Lk.a_Shelf_init K)),
  PySem.W.codeIn K (Hx.fdV K (Lk.a_Shelf_init K)).code "Shelf.__init__",
  PySem.W.keepIn K (.ref (Lk.a_Shelf_init K)),
  Hx.clsB K (Lk.C_Shelf K) "of_way",
  Hx.recB K (Lk.p_Shelf_of_way K) "classmethod",
  PySem.W.fnIn K (Lk.a_Shelf_of_way K),
  Hx.isFun K (Lk.a_Shelf_of_way K),
  Hx.dfl0 K (Lk.a_Shelf_of_way K),
  PySem.W.codeIn K (Hx.fdV K (Lk.a_Shelf_of_way K)).code "Shelf.of_way",
  PySem.W.keepIn K (.ref (Lk.a_Shelf_of_way K)),
  decide (PySem.W.findIn K (.ref (Lk.C_Shelf K)) "slope" = some (some (.ref (Lk.p_Shelf_slope K)))),
  decide (PySem.W.specialIn K (.ref (Lk.p_Shelf_slope K)) "__get__" = some (some (.builtin "property.__get__"))),
  decide (PySem.W.takesIn K (.ref (Lk.p_Shelf_slope K)) = some true),
  Hx.recB K (Lk.p_Shelf_slope K) "property",
  Hx.isFun K (Lk.a_Shelf_slope K),
  Hx.dfl0 K (Lk.a_Shelf_slope K),
  PySem.W.codeIn K (Hx.fdV K (Lk.a_Shelf_slope K)).code "Shelf.slope",
  PySem.W.keepIn K (.ref (Lk.a_Shelf_slope K)),
  decide (PySem.W.findIn K (.ref (Lk.C_Shelf K)) "gaps" = some (some (.ref (Lk.p_Shelf_gaps K)))),
  decide (PySem.W.specialIn K (.ref (Lk.p_Shelf_gaps K)) "__get__" = some (some (.builtin "property.__get__"))),
  decide (PySem.W.takesIn K (.ref (Lk.p_Shelf_gaps K)) = some true)]
def looks6 (K : PySem.W.Frag) : List Bool := [Hx.recB K (Lk.p_Shelf_gaps K) "property",
  Hx.isFun K (Lk.a_Shelf_gaps K),
  Hx.dfl0 K (Lk.a_Shelf_gaps K),
  PySem.W.codeIn K (Hx.fdV K (Lk.a_Shelf_gaps K)).code "Shelf.gaps",
  PySem.W.keepIn K (.ref (Lk.a_Shelf_gaps K)),
  decide (PySem.W.findIn K (.ref (Lk.C_Shelf K)) "way" = some (some (.ref (Lk.a_Shelf_way K)))),
  PySem.W.isFn K (.ref (Lk.a_Shelf_way K)),
  Hx.isFun K (Lk.a_Shelf_way K),
  Hx.dfl0 K (Lk.a_Shelf_way K),
  PySem.W.codeIn K (Hx.fdV K (Lk.a_Shelf_way K)).code "Shelf.way",
  PySem.W.keepIn K (.ref (Lk.a_Shelf_way K)),
  decide (PySem.W.findIn K (.ref (Lk.C_Shelf K)) "dual" = some (some (.ref (Lk.a_Shelf_dual K)))),
  PySem.W.isFn K (.ref (Lk.a_Shelf_dual K)),
  Hx.isFun K (Lk.a_Shelf_dual K),
  Hx.dfl0 K (Lk.a_Shelf_dual K),
  PySem.W.codeIn K (Hx.fdV K (Lk.a_Shelf_dual K)).code "Shelf.dual",
  PySem.W.keepIn K (.ref (Lk.a_Shelf_dual K)),
  decide (PySem.W.findIn K (.ref (Lk.C_Shelf K)) "exchanged" = some (some (.ref (Lk.a_Shelf_exchanged K)))),
  PySem.W.isFn K (.ref (Lk.a_Shelf_exchanged K)),
  Hx.isFun K (Lk.a_Shelf_exchanged K),
  Hx.dfl0 K (Lk.a_Shelf_exchanged K),
  PySem.W.codeIn K (Hx.fdV K (Lk.a_Shelf_exchanged K)).code "Shelf.exchanged",
  PySem.W.keepIn K (.ref (Lk.a_Shelf_exchanged K)),
  decide (PySem.W.findIn K (.ref (Lk.C_Shelf K)) "__eq__" = some (some (.ref (Lk.a_Shelf_eq K)))),
  PySem.W.isFn K (.ref (Lk.a_Shelf_eq K)),
  Hx.isFun K (Lk.a_Shelf_eq K),
  Hx.dfl0 K (Lk.a_Shelf_eq K),
  PySem.W.codeIn K (Hx.fdV K (Lk.a_Shelf_eq K)).code "Shelf.__eq__",
  PySem.W.keepIn K (.ref (Lk.a_Shelf_eq K)),
  decide (PySem.W.nsIn K mainGlobals "check_shelf" = some (some (.ref (Lk.a_check_shelf K))))]
def looks7 (K : PySem.W.Frag) : List Bool := [Hx.isFun K (Lk.a_check_shelf K),
  Hx.dfl0 K (Lk.a_check_shelf K),
  PySem.W.codeIn K (Hx.fdV K (Lk.a_check_shelf K)).code "check_shelf",
  PySem.W.keepIn K (.ref (Lk.a_check_shelf K)),
  decide (PySem.W.nsIn K mainGlobals "way_with_rises" = some (some (.ref (Lk.a_way_with_rises K)))),
  Hx.isFun K (Lk.a_way_with_rises K),
  Hx.dfl0 K (Lk.a_way_with_rises K),
  PySem.W.codeIn K (Hx.fdV K (Lk.a_way_with_rises K)).code "way_with_rises",
  PySem.W.keepIn K (.ref (Lk.a_way_with_rises K)),
  decide (PySem.W.nsIn K mainGlobals "least_members" = some (some (.ref (Lk.a_least_members K)))),
  Hx.isFun K (Lk.a_least_members K),
  Hx.dfl0 K (Lk.a_least_members K),
  PySem.W.codeIn K (Hx.fdV K (Lk.a_least_members K)).code "least_members",
  PySem.W.keepIn K (.ref (Lk.a_least_members K)),
  decide (PySem.W.nsIn K mainGlobals "with_more" = some (some (.ref (Lk.a_with_more K)))),
  Hx.isFun K (Lk.a_with_more K),
  Hx.dfl0 K (Lk.a_with_more K),
  PySem.W.codeIn K (Hx.fdV K (Lk.a_with_more K)).code "with_more",
  PySem.W.keepIn K (.ref (Lk.a_with_more K)),
  decide (PySem.W.nsIn K mainGlobals "sides" = some (some (.ref (Lk.a_sides K)))),
  Hx.isFun K (Lk.a_sides K),
  Hx.dfl0 K (Lk.a_sides K),
  PySem.W.codeIn K (Hx.fdV K (Lk.a_sides K)).code "sides",
  PySem.W.keepIn K (.ref (Lk.a_sides K)),
  decide (PySem.W.nsIn K mainGlobals "members_below" = some (some (.ref (Lk.a_members_below K)))),
  Hx.isFun K (Lk.a_members_below K),
  Hx.dfl0 K (Lk.a_members_below K),
  PySem.W.codeIn K (Hx.fdV K (Lk.a_members_below K)).code "members_below",
  PySem.W.keepIn K (.ref (Lk.a_members_below K)),
  decide (PySem.W.nsIn K mainGlobals "gaps_of" = some (some (.ref (Lk.a_gaps_of K))))]
def looks8 (K : PySem.W.Frag) : List Bool := [Hx.isFun K (Lk.a_gaps_of K),
  Hx.dfl0 K (Lk.a_gaps_of K),
  PySem.W.codeIn K (Hx.fdV K (Lk.a_gaps_of K)).code "gaps_of",
  PySem.W.keepIn K (.ref (Lk.a_gaps_of K)),
  decide (PySem.W.nsIn K mainGlobals "is_gaps" = some (some (.ref (Lk.a_is_gaps K)))),
  Hx.isFun K (Lk.a_is_gaps K),
  Hx.dfl0 K (Lk.a_is_gaps K),
  PySem.W.codeIn K (Hx.fdV K (Lk.a_is_gaps K)).code "is_gaps",
  PySem.W.keepIn K (.ref (Lk.a_is_gaps K)),
  decide (PySem.W.findIn K (.ref (Lk.C_Heap K)) "__init__" = some (some (.ref (Lk.a_Heap_init K)))),
  PySem.W.isFn K (.ref (Lk.a_Heap_init K)),
  Hx.isFun K (Lk.a_Heap_init K),
  Hx.dfl1 K (Lk.a_Heap_init K),
  Hx.seq1 K (Hx.edV K (Lk.a_Heap_init K)),
  Hx.tup0 K (Hx.e1V K (Lk.a_Heap_init K)),
  PySem.W.codeIn K (Hx.fdV K (Lk.a_Heap_init K)).code "Heap.__init__",
  PySem.W.keepIn K (.ref (Lk.a_Heap_init K)),
  Hx.clsB K (Lk.C_Heap K) "of_first_hooks",
  Hx.recB K (Lk.p_Heap_of_first_hooks K) "classmethod",
  PySem.W.fnIn K (Lk.a_Heap_of_first_hooks K),
  Hx.isFun K (Lk.a_Heap_of_first_hooks K),
  Hx.dfl0 K (Lk.a_Heap_of_first_hooks K),
  PySem.W.codeIn K (Hx.fdV K (Lk.a_Heap_of_first_hooks K)).code "Heap.of_first_hooks",
  PySem.W.keepIn K (.ref (Lk.a_Heap_of_first_hooks K)),
  decide (PySem.W.findIn K (.ref (Lk.C_Heap K)) "rows" = some (some (.ref (Lk.p_Heap_rows K)))),
  decide (PySem.W.specialIn K (.ref (Lk.p_Heap_rows K)) "__get__" = some (some (.builtin "property.__get__"))),
  decide (PySem.W.takesIn K (.ref (Lk.p_Heap_rows K)) = some true),
  Hx.recB K (Lk.p_Heap_rows K) "property",
  Hx.isFun K (Lk.a_Heap_rows K),
  Hx.dfl0 K (Lk.a_Heap_rows K)]
def looks9 (K : PySem.W.Frag) : List Bool := [PySem.W.codeIn K (Hx.fdV K (Lk.a_Heap_rows K)).code "Heap.rows",
  PySem.W.keepIn K (.ref (Lk.a_Heap_rows K)),
  decide (PySem.W.findIn K (.ref (Lk.C_Heap K)) "size" = some (some (.ref (Lk.p_Heap_size K)))),
  decide (PySem.W.specialIn K (.ref (Lk.p_Heap_size K)) "__get__" = some (some (.builtin "property.__get__"))),
  decide (PySem.W.takesIn K (.ref (Lk.p_Heap_size K)) = some true),
  Hx.recB K (Lk.p_Heap_size K) "property",
  Hx.isFun K (Lk.a_Heap_size K),
  Hx.dfl0 K (Lk.a_Heap_size K),
  PySem.W.codeIn K (Hx.fdV K (Lk.a_Heap_size K)).code "Heap.size",
  PySem.W.keepIn K (.ref (Lk.a_Heap_size K)),
  decide (PySem.W.findIn K (.ref (Lk.C_Heap K)) "first_hooks" = some (some (.ref (Lk.p_Heap_first_hooks K)))),
  decide (PySem.W.specialIn K (.ref (Lk.p_Heap_first_hooks K)) "__get__" = some (some (.builtin "property.__get__"))),
  decide (PySem.W.takesIn K (.ref (Lk.p_Heap_first_hooks K)) = some true),
  Hx.recB K (Lk.p_Heap_first_hooks K) "property",
  Hx.isFun K (Lk.a_Heap_first_hooks K),
  Hx.dfl0 K (Lk.a_Heap_first_hooks K),
  PySem.W.codeIn K (Hx.fdV K (Lk.a_Heap_first_hooks K)).code "Heap.first_hooks",
  PySem.W.keepIn K (.ref (Lk.a_Heap_first_hooks K)),
  decide (PySem.W.findIn K (.ref (Lk.C_Heap K)) "turned" = some (some (.ref (Lk.a_Heap_turned K)))),
  PySem.W.isFn K (.ref (Lk.a_Heap_turned K)),
  Hx.isFun K (Lk.a_Heap_turned K),
  Hx.dfl0 K (Lk.a_Heap_turned K),
  PySem.W.codeIn K (Hx.fdV K (Lk.a_Heap_turned K)).code "Heap.turned",
  PySem.W.keepIn K (.ref (Lk.a_Heap_turned K)),
  decide (PySem.W.findIn K (.ref (Lk.C_Heap K)) "hooks" = some (some (.ref (Lk.a_Heap_hooks K)))),
  PySem.W.isFn K (.ref (Lk.a_Heap_hooks K)),
  Hx.isFun K (Lk.a_Heap_hooks K),
  Hx.dfl0 K (Lk.a_Heap_hooks K),
  PySem.W.codeIn K (Hx.fdV K (Lk.a_Heap_hooks K)).code "Heap.hooks",
  PySem.W.keepIn K (.ref (Lk.a_Heap_hooks K))]
def looks10 (K : PySem.W.Frag) : List Bool := [decide (PySem.W.findIn K (.ref (Lk.C_Heap K)) "__len__" = some (some (.ref (Lk.a_Heap_len K)))),
  PySem.W.isFn K (.ref (Lk.a_Heap_len K)),
  Hx.isFun K (Lk.a_Heap_len K),
  Hx.dfl0 K (Lk.a_Heap_len K),
  PySem.W.codeIn K (Hx.fdV K (Lk.a_Heap_len K)).code "Heap.__len__",
  PySem.W.keepIn K (.ref (Lk.a_Heap_len K)),
  decide (PySem.W.findIn K (.ref (Lk.C_Heap K)) "__eq__" = some (some (.ref (Lk.a_Heap_eq K)))),
  PySem.W.isFn K (.ref (Lk.a_Heap_eq K)),
  Hx.isFun K (Lk.a_Heap_eq K),
  Hx.dfl0 K (Lk.a_Heap_eq K),
  PySem.W.codeIn K (Hx.fdV K (Lk.a_Heap_eq K)).code "Heap.__eq__",
  PySem.W.keepIn K (.ref (Lk.a_Heap_eq K)),
  decide (PySem.W.nsIn K mainGlobals "check_heap" = some (some (.ref (Lk.a_check_heap K)))),
  Hx.isFun K (Lk.a_check_heap K),
  Hx.dfl0 K (Lk.a_check_heap K),
  PySem.W.codeIn K (Hx.fdV K (Lk.a_check_heap K)).code "check_heap",
  PySem.W.keepIn K (.ref (Lk.a_check_heap K)),
  decide (PySem.W.nsIn K mainGlobals "is_heap_rows" = some (some (.ref (Lk.a_is_heap_rows K)))),
  Hx.isFun K (Lk.a_is_heap_rows K),
  Hx.dfl0 K (Lk.a_is_heap_rows K),
  PySem.W.codeIn K (Hx.fdV K (Lk.a_is_heap_rows K)).code "is_heap_rows",
  PySem.W.keepIn K (.ref (Lk.a_is_heap_rows K)),
  decide (PySem.W.nsIn K mainGlobals "rows_of_hooks" = some (some (.ref (Lk.a_rows_of_hooks K)))),
  Hx.isFun K (Lk.a_rows_of_hooks K),
  Hx.dfl0 K (Lk.a_rows_of_hooks K),
  PySem.W.codeIn K (Hx.fdV K (Lk.a_rows_of_hooks K)).code "rows_of_hooks",
  PySem.W.keepIn K (.ref (Lk.a_rows_of_hooks K)),
  decide (PySem.W.nsIn K mainGlobals "heap_of" = some (some (.ref (Lk.a_heap_of K)))),
  Hx.isFun K (Lk.a_heap_of K),
  Hx.dfl0 K (Lk.a_heap_of K)]
def looks11 (K : PySem.W.Frag) : List Bool := [PySem.W.codeIn K (Hx.fdV K (Lk.a_heap_of K)).code "heap_of",
  PySem.W.keepIn K (.ref (Lk.a_heap_of K)),
  decide (PySem.W.nsIn K mainGlobals "shelf_of" = some (some (.ref (Lk.a_shelf_of K)))),
  Hx.isFun K (Lk.a_shelf_of K),
  Hx.dfl0 K (Lk.a_shelf_of K),
  PySem.W.codeIn K (Hx.fdV K (Lk.a_shelf_of K)).code "shelf_of",
  PySem.W.keepIn K (.ref (Lk.a_shelf_of K)),
  decide (PySem.W.nsIn K mainGlobals "_law_dice" = some (some (.ref (Lk.a_law_dice K)))),
  Hx.isFun K (Lk.a_law_dice K),
  Hx.dfl0 K (Lk.a_law_dice K),
  PySem.W.codeIn K (Hx.fdV K (Lk.a_law_dice K)).code "_law_dice",
  PySem.W.keepIn K (.ref (Lk.a_law_dice K)),
  decide (PySem.W.nsIn K mainGlobals "_law_roll" = some (some (.ref (Lk.a_law_roll K)))),
  Hx.isFun K (Lk.a_law_roll K),
  Hx.dfl0 K (Lk.a_law_roll K),
  PySem.W.codeIn K (Hx.fdV K (Lk.a_law_roll K)).code "_law_roll",
  PySem.W.keepIn K (.ref (Lk.a_law_roll K)),
  decide (PySem.W.nsIn K mainGlobals "_law_slope" = some (some (.ref (Lk.a_law_slope K)))),
  Hx.isFun K (Lk.a_law_slope K),
  Hx.dfl0 K (Lk.a_law_slope K),
  PySem.W.codeIn K (Hx.fdV K (Lk.a_law_slope K)).code "_law_slope",
  PySem.W.keepIn K (.ref (Lk.a_law_slope K)),
  decide (PySem.W.nsIn K mainGlobals "_law_way" = some (some (.ref (Lk.a_law_way K)))),
  Hx.isFun K (Lk.a_law_way K),
  Hx.dfl0 K (Lk.a_law_way K),
  PySem.W.codeIn K (Hx.fdV K (Lk.a_law_way K)).code "_law_way",
  PySem.W.keepIn K (.ref (Lk.a_law_way K)),
  decide (PySem.W.nsIn K mainGlobals "_law_levels" = some (some (.ref (Lk.a_law_levels K)))),
  Hx.isFun K (Lk.a_law_levels K),
  Hx.dfl0 K (Lk.a_law_levels K)]
def looks12 (K : PySem.W.Frag) : List Bool := [PySem.W.codeIn K (Hx.fdV K (Lk.a_law_levels K)).code "_law_levels",
  PySem.W.keepIn K (.ref (Lk.a_law_levels K)),
  decide (PySem.W.nsIn K mainGlobals "_law_makers" = some (some (.ref (Lk.a_law_makers K)))),
  Hx.isFun K (Lk.a_law_makers K),
  Hx.dfl0 K (Lk.a_law_makers K),
  PySem.W.codeIn K (Hx.fdV K (Lk.a_law_makers K)).code "_law_makers",
  PySem.W.keepIn K (.ref (Lk.a_law_makers K)),
  decide (PySem.W.nsIn K mainGlobals "_law_gaps" = some (some (.ref (Lk.a_law_gaps K)))),
  Hx.isFun K (Lk.a_law_gaps K),
  Hx.dfl0 K (Lk.a_law_gaps K),
  PySem.W.codeIn K (Hx.fdV K (Lk.a_law_gaps K)).code "_law_gaps",
  PySem.W.keepIn K (.ref (Lk.a_law_gaps K)),
  decide (PySem.W.nsIn K mainGlobals "_law_squares" = some (some (.ref (Lk.a_law_squares K)))),
  Hx.isFun K (Lk.a_law_squares K),
  Hx.dfl0 K (Lk.a_law_squares K),
  PySem.W.codeIn K (Hx.fdV K (Lk.a_law_squares K)).code "_law_squares",
  PySem.W.keepIn K (.ref (Lk.a_law_squares K)),
  decide (PySem.W.nsIn K mainGlobals "_law_rows_of" = some (some (.ref (Lk.a_law_rows_of K)))),
  Hx.isFun K (Lk.a_law_rows_of K),
  Hx.dfl0 K (Lk.a_law_rows_of K),
  PySem.W.codeIn K (Hx.fdV K (Lk.a_law_rows_of K)).code "_law_rows_of",
  PySem.W.keepIn K (.ref (Lk.a_law_rows_of K)),
  decide (PySem.W.nsIn K mainGlobals "_law_turned_rows" = some (some (.ref (Lk.a_law_turned_rows K)))),
  Hx.isFun K (Lk.a_law_turned_rows K),
  Hx.dfl0 K (Lk.a_law_turned_rows K),
  PySem.W.codeIn K (Hx.fdV K (Lk.a_law_turned_rows K)).code "_law_turned_rows",
  PySem.W.keepIn K (.ref (Lk.a_law_turned_rows K)),
  decide (PySem.W.nsIn K mainGlobals "_law_gaps_of" = some (some (.ref (Lk.a_law_gaps_of K)))),
  Hx.isFun K (Lk.a_law_gaps_of K),
  Hx.dfl0 K (Lk.a_law_gaps_of K)]
def looks13 (K : PySem.W.Frag) : List Bool := [PySem.W.codeIn K (Hx.fdV K (Lk.a_law_gaps_of K)).code "_law_gaps_of",
  PySem.W.keepIn K (.ref (Lk.a_law_gaps_of K)),
  decide (PySem.W.nsIn K mainGlobals "_law_dual" = some (some (.ref (Lk.a_law_dual K)))),
  Hx.isFun K (Lk.a_law_dual K),
  Hx.dfl0 K (Lk.a_law_dual K),
  PySem.W.codeIn K (Hx.fdV K (Lk.a_law_dual K)).code "_law_dual",
  PySem.W.keepIn K (.ref (Lk.a_law_dual K)),
  decide (PySem.W.nsIn K mainGlobals "law" = some (some (.ref (Lk.a_law K)))),
  Hx.isFun K (Lk.a_law K),
  Hx.dfl0 K (Lk.a_law K),
  PySem.W.codeIn K (Hx.fdV K (Lk.a_law K)).code "law",
  PySem.W.keepIn K (.ref (Lk.a_law K)),
  PySem.W.plainGet K (Lk.C_Slope K) Str.empty,
  PySem.W.hasDictIn K (Lk.C_Slope K),
  PySem.W.plainOver K (Lk.C_Slope K),
  decide (PySem.W.findIn K (.ref (Lk.C_Slope K)) "__setattr__" = some (some (.builtin "object.__setattr__"))),
  PySem.W.makesIn K (Lk.C_Slope K),
  PySem.W.keepIn K (.ref (Lk.C_Slope K)),
  decide (PySem.W.findIn K (.ref (Lk.C_Slope K)) "_rises" = some none),
  decide (PySem.W.findIn K (.ref (Lk.C_Slope K)) "_steps" = some none),
  decide (PySem.W.findIn K (.ref (Lk.C_Slope K)) "_common" = some none),
  PySem.W.plainGet K (Lk.C_Way K) Str.empty,
  PySem.W.hasDictIn K (Lk.C_Way K),
  PySem.W.plainOver K (Lk.C_Way K),
  decide (PySem.W.findIn K (.ref (Lk.C_Way K)) "__setattr__" = some (some (.builtin "object.__setattr__"))),
  PySem.W.makesIn K (Lk.C_Way K),
  PySem.W.keepIn K (.ref (Lk.C_Way K)),
  decide (PySem.W.findIn K (.ref (Lk.C_Way K)) "_slope" = some none),
  decide (PySem.W.findIn K (.ref (Lk.C_Way K)) "_text" = some none),
  decide (PySem.W.findIn K (.ref (Lk.C_Way K)) "_levels" = some none)]
def looks14 (K : PySem.W.Frag) : List Bool := [decide (PySem.W.findIn K (.ref (Lk.C_Way K)) "_runs" = some none),
  decide (PySem.W.findIn K (.ref (Lk.C_Way K)) "_key" = some none),
  PySem.W.plainGet K (Lk.C_Shelf K) Str.empty,
  PySem.W.hasDictIn K (Lk.C_Shelf K),
  PySem.W.plainOver K (Lk.C_Shelf K),
  decide (PySem.W.findIn K (.ref (Lk.C_Shelf K)) "__setattr__" = some (some (.builtin "object.__setattr__"))),
  PySem.W.makesIn K (Lk.C_Shelf K),
  PySem.W.keepIn K (.ref (Lk.C_Shelf K)),
  PySem.W.readsIn K (Lk.C_Shelf K) (.type "type"),
  decide (PySem.W.specialIn K (.ref (Lk.C_Shelf K)) "__getattribute__" = some (some (.builtin "type.__getattribute__"))),
  decide (PySem.W.findIn K (.ref (Lk.C_Shelf K)) "_slope" = some none),
  decide (PySem.W.findIn K (.ref (Lk.C_Shelf K)) "_gaps" = some none),
  decide (PySem.W.findIn K (.ref (Lk.C_Shelf K)) "_gap_table" = some none),
  decide (PySem.W.findIn K (.ref (Lk.C_Shelf K)) "_rise_makers" = some none),
  decide (PySem.W.findIn K (.ref (Lk.C_Shelf K)) "_step_makers" = some none),
  decide (PySem.W.findIn K (.ref (Lk.C_Shelf K)) "_makers" = some none),
  PySem.W.plainGet K (Lk.C_Heap K) Str.empty,
  PySem.W.hasDictIn K (Lk.C_Heap K),
  PySem.W.plainOver K (Lk.C_Heap K),
  decide (PySem.W.findIn K (.ref (Lk.C_Heap K)) "__setattr__" = some (some (.builtin "object.__setattr__"))),
  PySem.W.makesIn K (Lk.C_Heap K),
  PySem.W.keepIn K (.ref (Lk.C_Heap K)),
  PySem.W.readsIn K (Lk.C_Heap K) (.type "type"),
  decide (PySem.W.specialIn K (.ref (Lk.C_Heap K)) "__getattribute__" = some (some (.builtin "type.__getattribute__"))),
  decide (PySem.W.findIn K (.ref (Lk.C_Heap K)) "_rows" = some none),
  decide (PySem.W.findIn K (.ref (Lk.C_Heap K)) "_size" = some none),
  decide (PySem.W.findIn K (.ref (Lk.C_Heap K)) "_first_hooks" = some none),
  decide (PySem.W.findIn K (.ref (Lk.C_Heap K)) "_key" = some none),
  decide (PySem.W.findIn K (.ref (Lk.C_Slope K)) "__class__" = some (some (.builtin "object.__class__"))),
  decide (PySem.W.mroIn K (Lk.C_Slope K) (.type "object") = some true)]
def looks15 (K : PySem.W.Frag) : List Bool := [decide (PySem.W.findIn K (.ref (Lk.C_Slope K)) "__ne__" = some (some (.builtin "object.__ne__"))),
  decide (PySem.W.findIn K (.ref (Lk.C_Way K)) "__class__" = some (some (.builtin "object.__class__"))),
  decide (PySem.W.mroIn K (Lk.C_Way K) (.type "object") = some true),
  decide (PySem.W.findIn K (.ref (Lk.C_Way K)) "__ne__" = some (some (.builtin "object.__ne__"))),
  decide (PySem.W.findIn K (.ref (Lk.C_Shelf K)) "__class__" = some (some (.builtin "object.__class__"))),
  decide (PySem.W.mroIn K (Lk.C_Shelf K) (.type "object") = some true),
  decide (PySem.W.findIn K (.ref (Lk.C_Shelf K)) "__ne__" = some (some (.builtin "object.__ne__"))),
  decide (PySem.W.findIn K (.ref (Lk.C_Heap K)) "__class__" = some (some (.builtin "object.__class__"))),
  decide (PySem.W.mroIn K (Lk.C_Heap K) (.type "object") = some true),
  decide (PySem.W.findIn K (.ref (Lk.C_Heap K)) "__ne__" = some (some (.builtin "object.__ne__"))),
  decide (PySem.W.specialIn K (.builtin "object.__class__") "__get__" = some (some (.builtin "getset_descriptor.__get__"))),
  decide (PySem.W.takesIn K (.builtin "object.__class__") = some true),
  decide (PySem.W.nsIn K mainGlobals "abs" = some none),
  decide (PySem.W.nsIn K mainGlobals "any" = some none),
  decide (PySem.W.nsIn K mainGlobals "bool" = some none),
  decide (PySem.W.nsIn K mainGlobals "enumerate" = some none),
  decide (PySem.W.nsIn K mainGlobals "int" = some none),
  decide (PySem.W.nsIn K mainGlobals "isinstance" = some none),
  decide (PySem.W.nsIn K mainGlobals "len" = some none),
  decide (PySem.W.nsIn K mainGlobals "list" = some none),
  decide (PySem.W.nsIn K mainGlobals "max" = some none),
  decide (PySem.W.nsIn K mainGlobals "min" = some none),
  decide (PySem.W.nsIn K mainGlobals "range" = some none),
  decide (PySem.W.nsIn K mainGlobals "sorted" = some none),
  decide (PySem.W.nsIn K mainGlobals "str" = some none),
  decide (PySem.W.nsIn K mainGlobals "sum" = some none),
  decide (PySem.W.nsIn K mainGlobals "tuple" = some none),
  decide (PySem.W.nsIn K mainGlobals "zip" = some none),
  decide (PySem.W.nsIn K mainGlobals "gcd" = some (some (.builtin "math.gcd"))),
  Hx.intB K "GREATEST" (999999999999999999999999999999999999999999999999999999999999)]
def looks16 (K : PySem.W.Frag) : List Bool := [Hx.intB K "MAX_SIDE" (60),
  Hx.intB K "MAX_ROW" (60)]
def looks (K : PySem.W.Frag) : List Bool := looks0 K ++ looks1 K ++ looks2 K ++ looks3 K ++ looks4 K ++ looks5 K ++ looks6 K ++ looks7 K ++ looks8 K ++ looks9 K ++ looks10 K ++ looks11 K ++ looks12 K ++ looks13 K ++ looks14 K ++ looks15 K ++ looks16 K
def funs0 (K : PySem.W.Frag) : List Addr := [(Lk.a_is_number K),
  (Lk.a_is_whole_between K),
  (Lk.a_is_ascending K),
  (Lk.a_Slope_init K),
  (Lk.a_Slope_rises K),
  (Lk.a_Slope_steps K),
  (Lk.a_Slope_common K),
  (Lk.a_Slope_is_coprime K),
  (Lk.a_Slope_half K),
  (Lk.a_Slope_exchanged K),
  (Lk.a_Slope_eq K),
  (Lk.a_Way_init K),
  (Lk.a_Way_slope K),
  (Lk.a_Way_text K),
  (Lk.a_Way_levels K),
  (Lk.a_Way_exchanged K),
  (Lk.a_Way_eq K),
  (Lk.a_check_slope K),
  (Lk.a_check_way K),
  (Lk.a_check_coprime K),
  (Lk.a_check_coprime_way K),
  (Lk.a_letter_levels K),
  (Lk.a_is_word K),
  (Lk.a_is_way K),
  (Lk.a_Shelf_init K),
  (Lk.a_Shelf_of_way K),
  (Lk.a_Shelf_slope K),
  (Lk.a_Shelf_gaps K),
  (Lk.a_Shelf_way K),
  (Lk.a_Shelf_dual K)]
def funs1 (K : PySem.W.Frag) : List Addr := [(Lk.a_Shelf_exchanged K),
  (Lk.a_Shelf_eq K),
  (Lk.a_check_shelf K),
  (Lk.a_way_with_rises K),
  (Lk.a_least_members K),
  (Lk.a_with_more K),
  (Lk.a_sides K),
  (Lk.a_members_below K),
  (Lk.a_gaps_of K),
  (Lk.a_is_gaps K),
  (Lk.a_Heap_init K),
  (Lk.a_Heap_of_first_hooks K),
  (Lk.a_Heap_rows K),
  (Lk.a_Heap_size K),
  (Lk.a_Heap_first_hooks K),
  (Lk.a_Heap_turned K),
  (Lk.a_Heap_hooks K),
  (Lk.a_Heap_len K),
  (Lk.a_Heap_eq K),
  (Lk.a_check_heap K),
  (Lk.a_is_heap_rows K),
  (Lk.a_rows_of_hooks K),
  (Lk.a_heap_of K),
  (Lk.a_shelf_of K),
  (Lk.a_law_dice K),
  (Lk.a_law_roll K),
  (Lk.a_law_slope K),
  (Lk.a_law_way K),
  (Lk.a_law_levels K),
  (Lk.a_law_makers K)]
def funs2 (K : PySem.W.Frag) : List Addr := [(Lk.a_law_gaps K),
  (Lk.a_law_squares K),
  (Lk.a_law_rows_of K),
  (Lk.a_law_turned_rows K),
  (Lk.a_law_gaps_of K),
  (Lk.a_law_dual K),
  (Lk.a_law K)]
def funs (K : PySem.W.Frag) : List Addr := funs0 K ++ funs1 K ++ funs2 K
def funv0 : List Hx.FnV := [Hx.fnE "is_number" "is_number" (L2.defArgs st_is_number) (L2.defBody st_is_number) (L2.defScope st_is_number),
  Hx.fnE "is_whole_between" "is_whole_between" (L2.defArgs st_is_whole_between) (L2.defBody st_is_whole_between) (L2.defScope st_is_whole_between),
  Hx.fnE "is_ascending" "is_ascending" (L2.defArgs st_is_ascending) (L2.defBody st_is_ascending) (L2.defScope st_is_ascending),
  Hx.fnE "__init__" "Slope.__init__" (L2.defArgs st_Slope_init) (L2.defBody st_Slope_init) (L2.defScope st_Slope_init),
  Hx.fnE "rises" "Slope.rises" (L2.defArgs st_Slope_rises) (L2.defBody st_Slope_rises) (L2.defScope st_Slope_rises),
  Hx.fnE "steps" "Slope.steps" (L2.defArgs st_Slope_steps) (L2.defBody st_Slope_steps) (L2.defScope st_Slope_steps),
  Hx.fnE "common" "Slope.common" (L2.defArgs st_Slope_common) (L2.defBody st_Slope_common) (L2.defScope st_Slope_common),
  Hx.fnE "is_coprime" "Slope.is_coprime" (L2.defArgs st_Slope_is_coprime) (L2.defBody st_Slope_is_coprime) (L2.defScope st_Slope_is_coprime),
  Hx.fnE "half" "Slope.half" (L2.defArgs st_Slope_half) (L2.defBody st_Slope_half) (L2.defScope st_Slope_half),
  Hx.fnE "exchanged" "Slope.exchanged" (L2.defArgs st_Slope_exchanged) (L2.defBody st_Slope_exchanged) (L2.defScope st_Slope_exchanged),
  Hx.fnE "__eq__" "Slope.__eq__" (L2.defArgs st_Slope_eq) (L2.defBody st_Slope_eq) (L2.defScope st_Slope_eq),
  Hx.fnE "__init__" "Way.__init__" (L2.defArgs st_Way_init) (L2.defBody st_Way_init) (L2.defScope st_Way_init),
  Hx.fnE "slope" "Way.slope" (L2.defArgs st_Way_slope) (L2.defBody st_Way_slope) (L2.defScope st_Way_slope),
  Hx.fnE "text" "Way.text" (L2.defArgs st_Way_text) (L2.defBody st_Way_text) (L2.defScope st_Way_text),
  Hx.fnE "levels" "Way.levels" (L2.defArgs st_Way_levels) (L2.defBody st_Way_levels) (L2.defScope st_Way_levels),
  Hx.fnE "exchanged" "Way.exchanged" (L2.defArgs st_Way_exchanged) (L2.defBody st_Way_exchanged) (L2.defScope st_Way_exchanged),
  Hx.fnE "__eq__" "Way.__eq__" (L2.defArgs st_Way_eq) (L2.defBody st_Way_eq) (L2.defScope st_Way_eq),
  Hx.fnE "check_slope" "check_slope" (L2.defArgs st_check_slope) (L2.defBody st_check_slope) (L2.defScope st_check_slope),
  Hx.fnE "check_way" "check_way" (L2.defArgs st_check_way) (L2.defBody st_check_way) (L2.defScope st_check_way),
  Hx.fnE "check_coprime" "check_coprime" (L2.defArgs st_check_coprime) (L2.defBody st_check_coprime) (L2.defScope st_check_coprime),
  Hx.fnE "check_coprime_way" "check_coprime_way" (L2.defArgs st_check_coprime_way) (L2.defBody st_check_coprime_way) (L2.defScope st_check_coprime_way),
  Hx.fnE "letter_levels" "letter_levels" (L2.defArgs st_letter_levels) (L2.defBody st_letter_levels) (L2.defScope st_letter_levels),
  Hx.fnE "is_word" "is_word" (L2.defArgs st_is_word) (L2.defBody st_is_word) (L2.defScope st_is_word),
  Hx.fnE "is_way" "is_way" (L2.defArgs st_is_way) (L2.defBody st_is_way) (L2.defScope st_is_way),
  Hx.fnE "__init__" "Shelf.__init__" (L2.defArgs st_Shelf_init) (L2.defBody st_Shelf_init) (L2.defScope st_Shelf_init),
  Hx.fnE "of_way" "Shelf.of_way" (L2.defArgs st_Shelf_of_way) (L2.defBody st_Shelf_of_way) (L2.defScope st_Shelf_of_way),
  Hx.fnE "slope" "Shelf.slope" (L2.defArgs st_Shelf_slope) (L2.defBody st_Shelf_slope) (L2.defScope st_Shelf_slope),
  Hx.fnE "gaps" "Shelf.gaps" (L2.defArgs st_Shelf_gaps) (L2.defBody st_Shelf_gaps) (L2.defScope st_Shelf_gaps),
  Hx.fnE "way" "Shelf.way" (L2.defArgs st_Shelf_way) (L2.defBody st_Shelf_way) (L2.defScope st_Shelf_way),
  Hx.fnE "dual" "Shelf.dual" (L2.defArgs st_Shelf_dual) (L2.defBody st_Shelf_dual) (L2.defScope st_Shelf_dual)]
def funv1 : List Hx.FnV := [Hx.fnE "exchanged" "Shelf.exchanged" (L2.defArgs st_Shelf_exchanged) (L2.defBody st_Shelf_exchanged) (L2.defScope st_Shelf_exchanged),
  Hx.fnE "__eq__" "Shelf.__eq__" (L2.defArgs st_Shelf_eq) (L2.defBody st_Shelf_eq) (L2.defScope st_Shelf_eq),
  Hx.fnE "check_shelf" "check_shelf" (L2.defArgs st_check_shelf) (L2.defBody st_check_shelf) (L2.defScope st_check_shelf),
  Hx.fnE "way_with_rises" "way_with_rises" (L2.defArgs st_way_with_rises) (L2.defBody st_way_with_rises) (L2.defScope st_way_with_rises),
  Hx.fnE "least_members" "least_members" (L2.defArgs st_least_members) (L2.defBody st_least_members) (L2.defScope st_least_members),
  Hx.fnE "with_more" "with_more" (L2.defArgs st_with_more) (L2.defBody st_with_more) (L2.defScope st_with_more),
  Hx.fnE "sides" "sides" (L2.defArgs st_sides) (L2.defBody st_sides) (L2.defScope st_sides),
  Hx.fnE "members_below" "members_below" (L2.defArgs st_members_below) (L2.defBody st_members_below) (L2.defScope st_members_below),
  Hx.fnE "gaps_of" "gaps_of" (L2.defArgs st_gaps_of) (L2.defBody st_gaps_of) (L2.defScope st_gaps_of),
  Hx.fnE "is_gaps" "is_gaps" (L2.defArgs st_is_gaps) (L2.defBody st_is_gaps) (L2.defScope st_is_gaps),
  Hx.fnE "__init__" "Heap.__init__" (L2.defArgs st_Heap_init) (L2.defBody st_Heap_init) (L2.defScope st_Heap_init),
  Hx.fnE "of_first_hooks" "Heap.of_first_hooks" (L2.defArgs st_Heap_of_first_hooks) (L2.defBody st_Heap_of_first_hooks) (L2.defScope st_Heap_of_first_hooks),
  Hx.fnE "rows" "Heap.rows" (L2.defArgs st_Heap_rows) (L2.defBody st_Heap_rows) (L2.defScope st_Heap_rows),
  Hx.fnE "size" "Heap.size" (L2.defArgs st_Heap_size) (L2.defBody st_Heap_size) (L2.defScope st_Heap_size),
  Hx.fnE "first_hooks" "Heap.first_hooks" (L2.defArgs st_Heap_first_hooks) (L2.defBody st_Heap_first_hooks) (L2.defScope st_Heap_first_hooks),
  Hx.fnE "turned" "Heap.turned" (L2.defArgs st_Heap_turned) (L2.defBody st_Heap_turned) (L2.defScope st_Heap_turned),
  Hx.fnE "hooks" "Heap.hooks" (L2.defArgs st_Heap_hooks) (L2.defBody st_Heap_hooks) (L2.defScope st_Heap_hooks),
  Hx.fnE "__len__" "Heap.__len__" (L2.defArgs st_Heap_len) (L2.defBody st_Heap_len) (L2.defScope st_Heap_len),
  Hx.fnE "__eq__" "Heap.__eq__" (L2.defArgs st_Heap_eq) (L2.defBody st_Heap_eq) (L2.defScope st_Heap_eq),
  Hx.fnE "check_heap" "check_heap" (L2.defArgs st_check_heap) (L2.defBody st_check_heap) (L2.defScope st_check_heap),
  Hx.fnE "is_heap_rows" "is_heap_rows" (L2.defArgs st_is_heap_rows) (L2.defBody st_is_heap_rows) (L2.defScope st_is_heap_rows),
  Hx.fnE "rows_of_hooks" "rows_of_hooks" (L2.defArgs st_rows_of_hooks) (L2.defBody st_rows_of_hooks) (L2.defScope st_rows_of_hooks),
  Hx.fnE "heap_of" "heap_of" (L2.defArgs st_heap_of) (L2.defBody st_heap_of) (L2.defScope st_heap_of),
  Hx.fnE "shelf_of" "shelf_of" (L2.defArgs st_shelf_of) (L2.defBody st_shelf_of) (L2.defScope st_shelf_of),
  Hx.fnE "_law_dice" "_law_dice" (L2.defArgs st_law_dice) (L2.defBody st_law_dice) (L2.defScope st_law_dice),
  Hx.fnE "_law_roll" "_law_roll" (L2.defArgs st_law_roll) (L2.defBody st_law_roll) (L2.defScope st_law_roll),
  Hx.fnE "_law_slope" "_law_slope" (L2.defArgs st_law_slope) (L2.defBody st_law_slope) (L2.defScope st_law_slope),
  Hx.fnE "_law_way" "_law_way" (L2.defArgs st_law_way) (L2.defBody st_law_way) (L2.defScope st_law_way),
  Hx.fnE "_law_levels" "_law_levels" (L2.defArgs st_law_levels) (L2.defBody st_law_levels) (L2.defScope st_law_levels),
  Hx.fnE "_law_makers" "_law_makers" (L2.defArgs st_law_makers) (L2.defBody st_law_makers) (L2.defScope st_law_makers)]
def funv2 : List Hx.FnV := [Hx.fnE "_law_gaps" "_law_gaps" (L2.defArgs st_law_gaps) (L2.defBody st_law_gaps) (L2.defScope st_law_gaps),
  Hx.fnE "_law_squares" "_law_squares" (L2.defArgs st_law_squares) (L2.defBody st_law_squares) (L2.defScope st_law_squares),
  Hx.fnE "_law_rows_of" "_law_rows_of" (L2.defArgs st_law_rows_of) (L2.defBody st_law_rows_of) (L2.defScope st_law_rows_of),
  Hx.fnE "_law_turned_rows" "_law_turned_rows" (L2.defArgs st_law_turned_rows) (L2.defBody st_law_turned_rows) (L2.defScope st_law_turned_rows),
  Hx.fnE "_law_gaps_of" "_law_gaps_of" (L2.defArgs st_law_gaps_of) (L2.defBody st_law_gaps_of) (L2.defScope st_law_gaps_of),
  Hx.fnE "_law_dual" "_law_dual" (L2.defArgs st_law_dual) (L2.defBody st_law_dual) (L2.defScope st_law_dual),
  Hx.fnE "law" "law" (L2.defArgs st_law) (L2.defBody st_law) (L2.defScope st_law)]
def funv : List Hx.FnV := funv0 ++ funv1 ++ funv2
def tabl0 (K : PySem.W.Frag) : List Addr := []
def tabl (K : PySem.W.Frag) : List Addr := tabl0 K
def adrs0 : List Addr := [2,
  3,
  43,
  45,
  46,
  48,
  49,
  50,
  57,
  58,
  59,
  60,
  63,
  70,
  71,
  72,
  75,
  82,
  83,
  84,
  87,
  94,
  95,
  96,
  99,
  106,
  107,
  108,
  111,
  118]
def adrs1 : List Addr := [120,
  121,
  123,
  124,
  125,
  126,
  127,
  128,
  131,
  138,
  140,
  141,
  143,
  144,
  145,
  146,
  147,
  148,
  151,
  158,
  160,
  161,
  163,
  164,
  165,
  166,
  167,
  168,
  171,
  173]
def adrs2 : List Addr := [174,
  176,
  177,
  178,
  180,
  181,
  183,
  184,
  185,
  187,
  188,
  190,
  191,
  192,
  195,
  196,
  204,
  206,
  207,
  209,
  210,
  211,
  213,
  214,
  216,
  217,
  218,
  219,
  220,
  221]
def adrs3 : List Addr := [223,
  224,
  226,
  227,
  228,
  229,
  231,
  232,
  234,
  235,
  236,
  237,
  239,
  240,
  242,
  243,
  244,
  245,
  247,
  248,
  250,
  251,
  252,
  253,
  255,
  256,
  258,
  259,
  260,
  261]
def adrs4 : List Addr := [263,
  264,
  266,
  267,
  268,
  270,
  271,
  273,
  274,
  275,
  277,
  278,
  280,
  281,
  282,
  283,
  284,
  285,
  286,
  296,
  299,
  300,
  301,
  303,
  304,
  306,
  307,
  308,
  309,
  311]
def adrs5 : List Addr := [312,
  314,
  315,
  316,
  317,
  319,
  320,
  322,
  323,
  324,
  325,
  327,
  328,
  330,
  331,
  332,
  333,
  336,
  337,
  338,
  340,
  341,
  343,
  344,
  345,
  347,
  348,
  350,
  351,
  352]
def adrs6 : List Addr := [354,
  355,
  357,
  358,
  359,
  361,
  362,
  364,
  365,
  366,
  368,
  369,
  371,
  372,
  373,
  374,
  375,
  376,
  377,
  380,
  382,
  383,
  385,
  386,
  387,
  389,
  390,
  392,
  393,
  394]
def adrs7 : List Addr := [396,
  397,
  399,
  400,
  401,
  403,
  404,
  406,
  407,
  408,
  410,
  411,
  413,
  414,
  415,
  417,
  418,
  420,
  421,
  422,
  425,
  426,
  434,
  435,
  436,
  439,
  440,
  441,
  443,
  444]
def adrs8 : List Addr := [446,
  447,
  448,
  449,
  450,
  451,
  453,
  454,
  456,
  457,
  458,
  459,
  460,
  461,
  463,
  464,
  466,
  467,
  468,
  469,
  471,
  472,
  474,
  475,
  476,
  477,
  479,
  480,
  482,
  483]
def adrs9 : List Addr := [484,
  485,
  487,
  488,
  490,
  491,
  492,
  493,
  495,
  496,
  498,
  499,
  500,
  501,
  503,
  504,
  506,
  507,
  508,
  511,
  512,
  513,
  515,
  516,
  518,
  519,
  520,
  522,
  523,
  525]
def adrs10 : List Addr := [526,
  527,
  529,
  530,
  532,
  533,
  534,
  536,
  537,
  539,
  540,
  541,
  543,
  544,
  546,
  547,
  548,
  550,
  551,
  553,
  554,
  555,
  558,
  559,
  560,
  563,
  564,
  565,
  567,
  568]
def adrs11 : List Addr := [570,
  571,
  572,
  574,
  575,
  577,
  578,
  579,
  581,
  582,
  584,
  585,
  586,
  587,
  588,
  589,
  590,
  593,
  595,
  596,
  598,
  599,
  600,
  602,
  603,
  605,
  606,
  607,
  609,
  610]
def adrs12 : List Addr := [612,
  613,
  614,
  617,
  618,
  619,
  622,
  623,
  624,
  626,
  627,
  629,
  630,
  631,
  634,
  635,
  636,
  638,
  639,
  641,
  642,
  643,
  646,
  647,
  655,
  656,
  657,
  660,
  661,
  662]
def adrs13 : List Addr := [665,
  666,
  667,
  668,
  669,
  670,
  672,
  673,
  675,
  676,
  677,
  678,
  680,
  681,
  683,
  684,
  685,
  686,
  688,
  689,
  691,
  692,
  693,
  694,
  697,
  698,
  699,
  702,
  703,
  704]
def adrs14 : List Addr := [706,
  707,
  709,
  710,
  711,
  713,
  714,
  716,
  717,
  718,
  720,
  721,
  723,
  724,
  725,
  727,
  728,
  730,
  731,
  732,
  734,
  735,
  737,
  738,
  739,
  741,
  742,
  744,
  745,
  746]
def adrs15 : List Addr := [748,
  749,
  751,
  752,
  753,
  755,
  756,
  758,
  759,
  760,
  762,
  763,
  765,
  766,
  767,
  769,
  770,
  772,
  773,
  774,
  777,
  778,
  779,
  780,
  781,
  782,
  783,
  786,
  788,
  789]
def adrs16 : List Addr := [791,
  792,
  793,
  795,
  796,
  798,
  799,
  800,
  803,
  804,
  805,
  807,
  808,
  810,
  811,
  812,
  814,
  815,
  817,
  818,
  819,
  821,
  822,
  824,
  825,
  826,
  828,
  829,
  831,
  832]
def adrs17 : List Addr := [833,
  835,
  836,
  838,
  839,
  840,
  842,
  843,
  845,
  846,
  847,
  849,
  850,
  852,
  853,
  854,
  857,
  858,
  859,
  862,
  863,
  864,
  867,
  868,
  869,
  872,
  873,
  874,
  877,
  878]
def adrs18 : List Addr := [879,
  881,
  882,
  884,
  885,
  886,
  889,
  890,
  891,
  893,
  894,
  896,
  897]
def adrs : List Addr := adrs0 ++ adrs1 ++ adrs2 ++ adrs3 ++ adrs4 ++ adrs5 ++ adrs6 ++ adrs7 ++ adrs8 ++ adrs9 ++ adrs10 ++ adrs11 ++ adrs12 ++ adrs13 ++ adrs14 ++ adrs15 ++ adrs16 ++ adrs17 ++ adrs18
def loose0 : List PySem.Str := ["_wall",
  "__name__",
  "SlantError",
  "InvalidSlope",
  "InvalidWay",
  "InvalidShelf",
  "InvalidHeap",
  "InvalidNumber",
  "TooMany",
  "Refused",
  "GREATEST",
  "is_number",
  "is_whole_between",
  "is_ascending",
  "spaced",
  "MAX_SIDE",
  "Slope",
  "Way",
  "check_slope",
  "check_way",
  "check_coprime",
  "check_coprime_way",
  "letter_levels",
  "is_word",
  "is_way",
  "Shelf",
  "check_shelf",
  "check_like",
  "way_with_rises",
  "least_members"]
def loose1 : List PySem.Str := ["with_more",
  "sides",
  "members_below",
  "gaps_of",
  "is_gaps",
  "MAX_ROW",
  "Heap",
  "check_heap",
  "is_heap_rows",
  "rows_of_hooks",
  "heap_of",
  "shelf_of",
  "_law_dice",
  "_law_roll",
  "_law_slope",
  "_law_way",
  "_law_levels",
  "_law_makers",
  "_law_gaps",
  "_law_squares",
  "_law_rows_of",
  "_law_turned_rows",
  "_law_gaps_of",
  "_law_dual"]
def loose : List PySem.Str := loose0 ++ loose1
abbrev hk : PySem.W.Hook := Hx.hookX looks funs tabl adrs 482 funv 0
def ob (s : PySem.W.SharedT) : Hx.Al := Hx.obsX looks funs tabl adrs (HandSHeadRun.getT s)
theorem ob_eq (s : PySem.W.SharedT) : ob s = hk.obs s.abs := Hx.obs_eq s
abbrev qv : Program := PySem.W.view (PySem.W.OpenLaw.row PySem.Challenge.rw_slantways_k25_whole_turned_heaps).prog [0, 61]
theorem run (w : World) : HandSHeadRun.RunEqI (PySem.W.OpenLaw.row PySem.Challenge.rw_slantways_k25_whole_turned_heaps) qv hk ob 60000 loose w := by
  unfold HandSHeadRun.RunEqI
  kernel_rfl
end Hd

/-! Sx: small steps over readings, heaps that only grow, dice. -/
namespace Sx
open PySem PySem.Spec PyProof.Rows L2

/-! ### the built-ins by name -/
theorem bt_len : bootBuiltins "len" = some (.builtin "len") := by decide +kernel
theorem bt_abs : bootBuiltins "abs" = some (.builtin "abs") := by decide +kernel
theorem bt_max : bootBuiltins "max" = some (.builtin "max") := by decide +kernel
theorem bt_min : bootBuiltins "min" = some (.builtin "min") := by decide +kernel
theorem bt_sum : bootBuiltins "sum" = some (.builtin "sum") := by decide +kernel
theorem bt_any : bootBuiltins "any" = some (.builtin "any") := by decide +kernel
theorem bt_all : bootBuiltins "all" = some (.builtin "all") := by decide +kernel
theorem bt_sorted : bootBuiltins "sorted" = some (.builtin "sorted") := by decide +kernel
theorem bt_isinstance : bootBuiltins "isinstance" = some (.builtin "isinstance") := by decide +kernel
theorem bt_ord : bootBuiltins "ord" = some (.builtin "ord") := by decide +kernel
theorem bt_chr : bootBuiltins "chr" = some (.builtin "chr") := by decide +kernel
theorem bt_repr : bootBuiltins "repr" = some (.builtin "repr") := by decide +kernel
theorem bt_int : bootBuiltins "int" = some (.type "int") := by decide +kernel
theorem bt_str : bootBuiltins "str" = some (.type "str") := by decide +kernel
theorem bt_bool : bootBuiltins "bool" = some (.type "bool") := by decide +kernel
theorem bt_list : bootBuiltins "list" = some (.type "list") := by decide +kernel
theorem bt_tuple : bootBuiltins "tuple" = some (.type "tuple") := by decide +kernel
theorem bt_range : bootBuiltins "range" = some (.type "range") := by decide +kernel

/-! ### steps: one lemma for each head of a reading -/
section
variable {σ : L2.St} {H : Hp} {nx bk ct : L2.St → Hp → Prop} {rt Q : VK} {ta tb tc te : TE} {tt uu : TT} {t u : TS} {tl : TA} {x y v : V} {r : R2}
theorem r_st {t : TS} {D : Ends} {σ σ' : L2.St} {H : Hp} (e : σ = σ') (h : t D σ' H) : t D σ H := by rw [e]; exact h
theorem r_seq (h : t ⟨u ⟨nx, rt, bk, ct⟩, rt, bk, ct⟩ σ H) : tSeq t u ⟨nx, rt, bk, ct⟩ σ H := h
theorem r_next (h : nx σ H) : tNext ⟨nx, rt, bk, ct⟩ σ H := h
theorem r_break (h : bk σ H) : tBreak ⟨nx, rt, bk, ct⟩ σ H := h
theorem r_cont (h : ct σ H) : tCont ⟨nx, rt, bk, ct⟩ σ H := h
theorem r_asg {g : TG} (h : te σ H fun x H1 => g x σ H1 nx) : tAsg te g ⟨nx, rt, bk, ct⟩ σ H := h
theorem r_name {i : Nat} {k : L2.St → Hp → Prop} (h : k (σ.set i (some v)) H) : gName i v σ H k := h
theorem r_ret (h : te σ H rt) : tRet te ⟨nx, rt, bk, ct⟩ σ H := h
theorem r_retN (h : rt .non H) : tRetN ⟨nx, rt, bk, ct⟩ σ H := h
theorem r_drop (h : te σ H fun _ H1 => nx σ H1) : tDrop te ⟨nx, rt, bk, ct⟩ σ H := h
theorem r_ifs (h : tt σ H fun b H1 => if b = true then t ⟨nx, rt, bk, ct⟩ σ H1 else u ⟨nx, rt, bk, ct⟩ σ H1) : tIfS tt t u ⟨nx, rt, bk, ct⟩ σ H := h
theorem r_par {i j : Nat} (h : tl σ H fun vs H1 => ∃ v w, vs = [v, w] ∧ nx ((σ.set i (some v)).set j (some w)) H1) : tPar i j tl ⟨nx, rt, bk, ct⟩ σ H := h
theorem r_par3 {i j l : Nat} (h : tl σ H fun vs H1 => ∃ u v w, vs = [u, v, w] ∧ nx (((σ.set i (some u)).set j (some v)).set l (some w)) H1) : tPar3 i j l tl ⟨nx, rt, bk, ct⟩ σ H := h
theorem r_two {P : V → V → Prop} {a b : V} (h : P a b) : ∃ v w, [a, b] = [v, w] ∧ P v w := ⟨a, b, rfl, h⟩
theorem r_three {P : V → V → V → Prop} {a b c : V} (h : P a b c) : ∃ u v w, [a, b, c] = [u, v, w] ∧ P u v w := ⟨a, b, c, rfl, h⟩
theorem r_var {i : Nat} (e : σ[i]? = some (some v)) (h : Q v H) : tVar i σ H Q := ⟨v, e, h⟩
theorem r_c (h : Q v H) : tC v σ H Q := h
theorem r_op (h : ta σ H fun x H1 => tb σ H1 fun y H2 => r x y H2 Q) : tOp r ta tb σ H Q := h
theorem r_un {f : V → Hp → VK → Prop} (h : ta σ H fun x H1 => f x H1 Q) : tUn f ta σ H Q := h
theorem r_I0 {g : Int → Int → V} {i j : Int} (h : Q (g i j) H) : rI0 g (.int i) (.int j) H Q := ⟨i, j, rfl, rfl, h⟩
theorem r_I {C : Int → Int → Prop} {g : Int → Int → V} {i j : Int} (hc : C i j) (h : Q (g i j) H) : rI C g (.int i) (.int j) H Q := ⟨i, j, rfl, rfl, hc, h⟩
theorem r_U {g : Int → V} {i : Int} (h : Q (g i) H) : rU g (.int i) H Q := ⟨i, rfl, h⟩
theorem dI {i j : Int} : decide (V.int i = V.int j) = decide (i = j) := by simp
theorem dS {i j : Str} : decide (V.str i = V.str j) = decide (i = j) := by simp
theorem dB {i j : Bool} : decide (V.bl i = V.bl j) = decide (i = j) := by simp
theorem r_eqI {i j : Int} (h : Q (.bl (decide (i = j))) H) : rEq (.int i) (.int j) H Q := ⟨rfl, by rw [dI]; exact h⟩
theorem r_neI {i j : Int} (h : Q (.bl (!decide (i = j))) H) : rNe (.int i) (.int j) H Q := ⟨rfl, by rw [dI]; exact h⟩
theorem r_eqS {i j : Str} (h : Q (.bl (decide (i = j))) H) : rEq (.str i) (.str j) H Q := ⟨rfl, by rw [dS]; exact h⟩
theorem r_neS {i j : Str} (h : Q (.bl (!decide (i = j))) H) : rNe (.str i) (.str j) H Q := ⟨rfl, by rw [dS]; exact h⟩
theorem r_eqB {i j : Bool} (h : Q (.bl (decide (i = j))) H) : rEq (.bl i) (.bl j) H Q := ⟨rfl, by rw [dB]; exact h⟩
theorem r_neB {i j : Bool} (h : Q (.bl (!decide (i = j))) H) : rNe (.bl i) (.bl j) H Q := ⟨rfl, by rw [dB]; exact h⟩
theorem r_test {Q : Bool → Hp → Prop} (h : ta σ H fun x H1 => ∃ k, x = .bl k ∧ Q k H1) : tTest ta σ H Q := h
theorem r_B {Q : Bool → Hp → Prop} (h : ta σ H fun x H1 => ∃ k, x = .bl k ∧ Q k H1) : tB ta σ H Q := h
theorem r_bl {P : Bool → Prop} {b : Bool} (h : P b) : ∃ k, V.bl b = .bl k ∧ P k := ⟨b, rfl, h⟩
theorem r_and {Q : Bool → Hp → Prop} (h : tt σ H fun c H1 => if c = true then uu σ H1 Q else Q false H1) : tAnd tt uu σ H Q := h
theorem r_or {Q : Bool → Hp → Prop} (h : tt σ H fun c H1 => if c = true then Q true H1 else uu σ H1 Q) : tOr tt uu σ H Q := h
theorem r_not {Q : Bool → Hp → Prop} (h : tt σ H fun c H1 => Q (!c) H1) : tNot tt σ H Q := h
theorem r_andV (h : ta σ H fun x H1 => ∃ c, x = .bl c ∧ if c = true then tb σ H1 Q else Q (.bl false) H1) : tAndV ta tb σ H Q := h
theorem r_orV (h : ta σ H fun x H1 => ∃ c, x = .bl c ∧ if c = true then Q (.bl true) H1 else tb σ H1 Q) : tOrV ta tb σ H Q := h
theorem r_notV (h : ta σ H fun x H1 => ∃ c, x = .bl c ∧ Q (.bl (!c)) H1) : tNotV ta σ H Q := h
theorem r_ifE (h : tt σ H fun c H1 => if c = true then ta σ H1 Q else tb σ H1 Q) : tIf tt ta tb σ H Q := h
theorem r_chain {r r' : R2} (h : ta σ H fun x H1 => tb σ H1 fun y H2 => r x y H2 fun z H3 => ∃ k, z = .bl k ∧ (if k = true then tc σ H3 fun w' H4 => r' y w' H4 Q else Q (.bl false) H3)) : tChain r r' ta tb tc σ H Q := h
theorem r_nil {Q : List V → Hp → Prop} (h : Q [] H) : tNil σ H Q := h
theorem r_cons {Q : List V → Hp → Prop} (h : ta σ H fun x H1 => tl σ H1 fun xs H2 => Q (x :: xs) H2) : tCons ta tl σ H Q := h
theorem r_call {sp : Sp} {E : XK} (h : tl σ H fun vs H1 => sp (vs ++ []) H1 Q E) : tCall sp [] E tl σ H Q := h
theorem r_cb {f : List V → Hp → VK → Prop} (h : tl σ H fun vs H1 => f vs H1 Q) : tCB f tl σ H Q := h
def MakeP (C : Addr) (sp : Sp) (E : XK) (vs : List V) (H1 : Hp) (Q : VK) : Prop := ∀ x dx, H1 x = none → H1 dx = none → dx ≠ x → sp (.ref x :: (vs ++ [])) (upd (upd H1 dx (.own x)) x (.ins C dx [])) (fun v H2 => v = .non ∧ Q (.ref x) H2) E
theorem r_make {C : Addr} {sp : Sp} {E : XK} (h : tl σ H fun vs H1 => MakeP C sp E vs H1 Q) : tMake C sp [] E tl σ H Q := h
theorem r_tup (h : tl σ H fun xs H1 => xs.length ≤ sizeLine ∧ ∀ p, H1 p = none → Q (.ref p) (upd H1 p (.tup xs))) : tTup tl σ H Q := h
theorem r_lst (h : tl σ H fun xs H1 => xs.length ≤ sizeLine ∧ ∀ p, H1 p = none → Q (.ref p) (upd H1 p (.lst xs))) : tLst tl σ H Q := h
theorem r_prop {C : Addr} {sp : Sp} {E : XK} {dx a : Addr} {fs : List (Str × V)} (e : H a = some (.ins C dx fs)) (h : sp [.ref a] H Q E) : ∃ a' dx fs, V.ref a = .ref a' ∧ H a' = some (.ins C dx fs) ∧ sp (.ref a' :: []) H Q E := ⟨a, dx, fs, rfl, e, h⟩
theorem r_tprop {C : Addr} {sp : Sp} {E : XK} (h : ta σ H fun x H1 => ∃ a dx fs, x = .ref a ∧ H1 a = some (.ins C dx fs) ∧ sp (.ref a :: []) H1 Q E) : tProp C sp [] E ta σ H Q := h
theorem r_meth {C : Addr} {m : Str} {sp : Sp} {E : XK} (h : ta σ H fun x H1 => ∃ a dx fs, x = .ref a ∧ H1 a = some (.ins C dx fs) ∧ fs.lookup m = none ∧ tl σ H1 fun vs H2 => sp (x :: (vs ++ [])) H2 Q E) : tMeth C m sp [] E ta tl σ H Q := h
theorem r_getSp {C : Addr} {f : Str} {E : XK} {a dx : Addr} {fs : List (Str × V)} (e : H a = some (.ins C dx fs)) (l : fs.lookup f = some v) (h : Q v H) : getSp C f [.ref a] H Q E := ⟨a, dx, fs, v, rfl, e, l, h⟩
theorem r_fld {K : PySem.W.Frag} {f : Str} (h : ta σ H fun x H1 => ∃ a C dx fs v, x = .ref a ∧ H1 a = some (.ins C dx fs) ∧ Cls K C ∧ NoAttr K C f ∧ fs.lookup f = some v ∧ Q v H1) : tFld K ta f σ H Q := h
theorem r_BM {K : PySem.W.Frag} {T : String} {f : V → List V → Hp → VK → Prop} (h : ta σ H fun x H1 => tyV K T x H1 ∧ tl σ H1 fun xs H2 => f x xs H2 Q) : tBM K T f ta tl σ H Q := h
theorem r_BM0 {K : PySem.W.Frag} {T : String} {f : V → List V → Hp → VK → Prop} (h : ta σ H fun x H1 => tyV K T x H1 ∧ f x [] H1 Q) : tBM0 K T f ta σ H Q := h
theorem r_sub {ti : TE} {s : TSet} {k : L2.St → Hp → Prop} (h : ta σ H fun o H1 => ti σ H1 fun i H2 => s o i v H2 fun H3 => k σ H3) : gSub ta ti s v σ H k := h
theorem r_sl {f : V → Option Int → Option Int → Hp → VK → Prop} {t1 t2 : TO} (h : te σ H fun x H1 => t1 σ H1 fun l H2 => t2 σ H2 fun u H3 => f x l u H3 Q) : tSl f te t1 t2 σ H Q := h
theorem r_noPart {Q : Option Int → Hp → Prop} (h : Q none H) : tNoPart σ H Q := h
theorem r_part {Q : Option Int → Hp → Prop} (h : te σ H fun x H1 => ∃ i, x = .int i ∧ Q (some i) H1) : tPart te σ H Q := h
theorem r_int {P : Int → Prop} {i : Int} (h : P i) : ∃ j, V.int i = .int j ∧ P j := ⟨i, rfl, h⟩
theorem iteNT {A B : Prop} {i : Decidable ((!true) = true)} (h : B) : @ite Prop ((!true) = true) i A B := by
  rw [if_neg (fun z => nomatch z)]; exact h
theorem iteNF {A B : Prop} {i : Decidable ((!false) = true)} (h : A) : @ite Prop ((!false) = true) i A B := by
  rw [if_pos (show (!false) = true from rfl)]; exact h
theorem iteT' {A B : Prop} {i : Decidable (true = true)} (h : A) : @ite Prop (true = true) i A B := by
  rw [if_pos rfl]; exact h
theorem iteF' {A B : Prop} {i : Decidable (false = true)} (h : B) : @ite Prop (false = true) i A B := by
  rw [if_neg Bool.false_ne_true]; exact h
theorem r_cutQ {t : TE} (S : V → Hp → Prop) (h : ∀ Q' : VK, (∀ v H1, S v H1 → Q' v H1) → t σ H Q') (k : ∀ v H1, S v H1 → Q v H1) : t σ H Q := h Q k
theorem r_cutS {t : TS} (S : L2.St → Hp → Prop) (h : ∀ nx', (∀ σ H, S σ H → nx' σ H) → t ⟨nx', rt, bk, ct⟩ σ H) (k : ∀ σ H, S σ H → nx σ H) : t ⟨nx, rt, bk, ct⟩ σ H := h nx k
theorem ite_d {p A B : Prop} {j : Decidable p} {i : Decidable (@decide p j = true)} (h1 : p → A) (h2 : ¬ p → B) : @ite Prop (@decide p j = true) i A B := by
  by_cases h : p
  · rw [if_pos (decide_eq_true h)]; exact h1 h
  · rw [if_neg (by rw [decide_eq_false h]; exact Bool.false_ne_true)]; exact h2 h
theorem ite_nd {p A B : Prop} {j : Decidable p} {i : Decidable ((!@decide p j) = true)} (h1 : ¬ p → A) (h2 : p → B) : @ite Prop ((!@decide p j) = true) i A B := by
  by_cases h : p
  · rw [if_neg (by rw [decide_eq_true h]; exact Bool.false_ne_true)]; exact h2 h
  · rw [if_pos (by rw [decide_eq_false h]; rfl)]; exact h1 h
theorem ite_b {b : Bool} {A B : Prop} {i : Decidable (b = true)} (h1 : b = true → A) (h2 : b = false → B) : @ite Prop (b = true) i A B := by
  cases b with
  | true => rw [if_pos rfl]; exact h1 rfl
  | false => rw [if_neg Bool.false_ne_true]; exact h2 rfl
end

/-! ### more steps -/
section
variable {σ : L2.St} {H : Hp} {Q : VK} {v x y : V} {K : PySem.W.Frag}
theorem r_isi_int_bool {i : Int} (h : Q (.bl false) H) : rIsi K [.int i, .ty "bool"] H Q := ⟨_, _, _, _, false, rfl, .ty _, .base (.int i), kit_ty (by decide +kernel), h⟩
theorem r_isi_int_int {i : Int} (h : Q (.bl true) H) : rIsi K [.int i, .ty "int"] H Q := ⟨_, _, _, _, true, rfl, .ty _, .base (.int i), kit_ty (by decide +kernel), h⟩
theorem r_isi_str_str {i : Str} (h : Q (.bl true) H) : rIsi K [.str i, .ty "str"] H Q := ⟨_, _, _, _, true, rfl, .ty _, .base (.str i), kit_ty (by decide +kernel), h⟩
theorem r_isi_own {a C dx : Addr} {fs : List (Str × V)} {b : Bool} {D : Addr} (e : H a = some (.ins C dx fs)) (cl : Cls K C) (ha : PySem.W.findIn K (.ref C) "__class__" = some (some (.builtin "object.__class__")))
    (hn : PySem.W.specialIn K (.builtin "object.__class__") "__get__" = some (some (.builtin "getset_descriptor.__get__"))) (htk : PySem.W.takesIn K (.builtin "object.__class__") = some true) (hm : PySem.W.mroIn K C (.type "object") = some true)
    (ks : PySem.W.kitOne K (.ref C) (.ref D) = some b) (h : Q (.bl b) H) : rIsi K [.ref a, .ref D] H Q := ⟨_, _, _, _, b, rfl, .own D, .base (.ins e cl ha hn htk hm), ks, h⟩
theorem r_Ih {C : Int → Int → Prop} {g : Int → Int → V} {i j : Int} (h : Q (g i j) H) (hc : C i j) : rI C g (.int i) (.int j) H Q := ⟨i, j, rfl, rfl, hc, h⟩
theorem r_ixL {p : Addr} {xs : List V} {i : Int} (hp : H p = some (.lst xs)) (a : atI xs i = some v) (h : Q v H) : rIxL K (.ref p) (.int i) H Q := ⟨p, xs, i, v, rfl, rfl, SqL.of hp, a, h⟩
theorem r_ixT {p : Addr} {xs : List V} {i : Int} (hp : H p = some (.tup xs)) (a : atI xs i = some v) (h : Q v H) : rIxT K (.ref p) (.int i) H Q := ⟨p, xs, i, v, rfl, rfl, SqT.of hp, a, h⟩
theorem r_sFld {K : PySem.W.Frag} {f : Str} {ta tv : TE} {σ : L2.St} {nx bk ct : L2.St → Hp → Prop} {rt : VK} (h : tv σ H fun y H1 => ta σ H1 fun x H2 => ∃ a C dx fs, x = .ref a ∧ H2 a = some (.ins C dx fs) ∧ Cls K C ∧ NoAttr K C f ∧ fs.length < 1000 ∧ nx σ (upd H2 a (.ins C dx (putF f y fs)))) : sFld K ta tv f ⟨nx, rt, bk, ct⟩ σ H := h
theorem len1 {f : Str} {v : V} : (putF f v []).length < 1000 := Nat.lt_of_le_of_lt (length_putF f v []) (by decide)
theorem len2 {f g : Str} {v w : V} : (putF f v (putF g w [])).length < 1000 := Nat.lt_of_le_of_lt (Nat.le_trans (length_putF f v _) (Nat.succ_le_succ (length_putF g w []))) (by decide)
theorem len3 {f g k : Str} {v w u : V} : (putF f v (putF g w (putF k u []))).length < 1000 := Nat.lt_of_le_of_lt (Nat.le_trans (length_putF f v _) (Nat.succ_le_succ (Nat.le_trans (length_putF g w _) (Nat.succ_le_succ (length_putF k u []))))) (by decide)
theorem len4 {f g k j : Str} {v w u t : V} : (putF f v (putF g w (putF k u (putF j t [])))).length < 1000 := Nat.lt_of_le_of_lt (Nat.le_trans (length_putF f v _) (Nat.succ_le_succ (Nat.le_trans (length_putF g w _) (Nat.succ_le_succ (Nat.le_trans (length_putF k u _) (Nat.succ_le_succ (length_putF j t []))))))) (by decide)
theorem r_insput {K : PySem.W.Frag} {f : Str} {y : V} {nx : L2.St → Hp → Prop} {σ : L2.St} {a C dx : Addr} {fs : List (Str × V)} (e : H a = some (.ins C dx fs)) (cl : Cls K C) (na : NoAttr K C f) (hl : fs.length < 1000) (h : nx σ (upd H a (.ins C dx (putF f y fs)))) :
    ∃ a' C dx fs, V.ref a = .ref a' ∧ H a' = some (.ins C dx fs) ∧ Cls K C ∧ NoAttr K C f ∧ fs.length < 1000 ∧ nx σ (upd H a' (.ins C dx (putF f y fs))) := ⟨a, C, dx, fs, rfl, e, cl, na, hl, h⟩
theorem r_setL {p : Addr} {xs : List V} {i : Int} {j : Nat} {Q : Hp → Prop} (hp : H p = some (.lst xs)) (a : ixN xs.length i = some j) (h : Q (upd H p (.lst (xs.set j v)))) : rSetL (.ref p) (.int i) v H Q := ⟨p, xs, i, j, rfl, rfl, hp, a, h⟩
theorem tyL {l : Addr} {xs : List V} (h : H l = some (.lst xs)) : tyV K "list" (.ref l) H := .inl ⟨rfl, xs, SqL.of h⟩
theorem r_app {l : Addr} {xs : List V} (hp : H l = some (.lst xs)) (h : Q .non (upd H l (.lst (xs ++ [v])))) (hl : xs.length < sizeLine) : rAppend (.ref l) [v] H Q := ⟨l, xs, v, rfl, rfl, hp, hl, h⟩
theorem r_gcd {a b : Int} (h : Q (.int ((Nat.gcd a.natAbs b.natAbs : Nat) : Int)) H) : rGcd [.int a, .int b] H Q := ⟨a, b, rfl, h⟩
theorem sz (n : Nat) (h : n ≤ 100000) : n ≤ sizeLine := Nat.le_trans h (by decide)
theorem sz' (n : Nat) (h : n < 100000) : n < sizeLine := Nat.lt_of_lt_of_le h (by decide)
theorem cmulw {i j : Int} {a b : Nat} (ha : i.natAbs < 2 ^ a) (hb : j.natAbs < 2 ^ b) (h : a + b ≤ 100000) (h0 : 0 < a := by decide) (h1 : 0 < b := by decide) : CMulW i j := wide_mul ha hb h0 h1 (by omega)
theorem cdivw {i j : Int} {b : Nat} (h : 0 < j) (hb : j.natAbs < 2 ^ b) (h9 : b ≤ 9000) (h0 : 0 < b := by decide) : CDivW i j := wide_div h hb h0 h9
/-- * of two ints, one of them small, or both not too great -/
def CMulA (i j : Int) : Prop := CMul i j ∨ CMulW i j
theorem op_mulA {X : Cx} : OpR X (binaryOp .Mult) (rI CMulA fun i j => .int (i * j)) := opI fun _ _ _ _ _ _ _ hc q => mul_int q (by
  rcases hc with h | h
  · exact h.ok
  · exact h.ok)
theorem cmA_l {i j : Int} (h : -(2 ^ 64) < i ∧ i < 2 ^ 64) : CMulA i j := .inl (.inl h)
theorem cmA_r {i j : Int} (h : -(2 ^ 64) < j ∧ j < 2 ^ 64) : CMulA i j := .inl (.inr h)
theorem cmA_w {i j : Int} (h : CMulW i j) : CMulA i j := .inr h
/-- comb, perm -/
theorem r_gtup {p : Addr} {xs : List V} {n : Nat} {t : TGs} {k : L2.St → Hp → Prop} (hp : H p = some (.tup xs)) (hl : xs.length = n) (h : t xs σ H k) : gTup K n t (.ref p) σ H k := ⟨p, xs, rfl, SqT.of hp, hl, h⟩
theorem r_gcons {t : TG} {u : TGs} {r : List V} {k : L2.St → Hp → Prop} (h : t v σ H fun σ' H' => u r σ' H' k) : gCons t u (v :: r) σ H k := ⟨v, r, rfl, h⟩
theorem r_gnil {k : L2.St → Hp → Prop} (h : k σ H) : gNil [] σ H k := ⟨rfl, h⟩
def rComb : List V → Hp → VK → Prop := fun vs H Q => ∃ a b : Int, vs = [.int a, .int b] ∧ 0 ≤ a ∧ 0 ≤ b ∧ a ≤ 18000 ∧ Q (.int (PySem.W.mcComb a b)) H
theorem cr_comb {X : Cx} : CallR X (.builtin "math.comb") rComb := by
  intro pins s σ H vs us Q I r h
  obtain ⟨a, b, rfl, ha, hb, h8, q⟩ := h
  obtain ⟨t, u, rfl⟩ := Vals.int2 r
  exact PySem.W.mc_comb ha hb (by omega) (.inr h8) fun _ => ⟨.int _, H, I.tok _, ⟨_, rfl⟩, q⟩
theorem r_comb {a b : Int} (h : Q (.int (PySem.W.mcComb a b)) H) (ha : 0 ≤ a) (hb : 0 ≤ b) (h8 : a ≤ 18000) : rComb [.int a, .int b] H Q := ⟨a, b, rfl, ha, hb, h8, h⟩
end

/-! ### readings by names -/
section
variable {X : Cx} {σ : L2.St} {H : Hp} {Q : VK} {K : PySem.W.Frag}
def qInt : List V → Hp → VK → Prop := fun xs H Q => (∃ i, xs = [.int i] ∧ Q (.int i) H) ∨ ∃ k, xs = [.bl k] ∧ Q (.int (if k then 1 else 0)) H
theorem c_int : CallR X (.type "int") qInt := call_int1
theorem r_int1 {i : Int} (h : Q (.int i) H) : qInt [.int i] H Q := .inl ⟨i, rfl, h⟩
theorem r_intB {k : Bool} (h : Q (.int (if k then 1 else 0)) H) : qInt [.bl k] H Q := .inr ⟨k, rfl, h⟩
def qAbs : List V → Hp → VK → Prop := fun xs H Q => ∃ i, xs = [.int i] ∧ Q (.int (if i < 0 then -i else i)) H
theorem c_abs : CallR X (.builtin "abs") qAbs := call_abs
theorem r_abs {i : Int} (h : Q (.int (if i < 0 then -i else i)) H) : qAbs [.int i] H Q := ⟨i, rfl, h⟩
def qMax : List V → Hp → VK → Prop := fun xs H Q => ∃ i j, xs = [.int i, .int j] ∧ Q (.int (if j > i then j else i)) H
theorem c_max (hc : X.calm = true) : CallR X (.builtin "max") qMax := call_max2 hc
theorem r_max {i j : Int} (h : Q (.int (if j > i then j else i)) H) : qMax [.int i, .int j] H Q := ⟨i, j, rfl, h⟩
def qMin : List V → Hp → VK → Prop := fun xs H Q => ∃ i j, xs = [.int i, .int j] ∧ Q (.int (if j < i then j else i)) H
theorem c_min (hc : X.calm = true) : CallR X (.builtin "min") qMin := call_min2 hc
theorem r_min {i j : Int} (h : Q (.int (if j < i then j else i)) H) : qMin [.int i, .int j] H Q := ⟨i, j, rfl, h⟩
def qLen (K : PySem.W.Frag) : List V → Hp → VK → Prop := fun xs H Q => ∃ p ys, xs = [.ref p] ∧ (SqL K H p ys ∨ SqT K H p ys) ∧ Q (.int ys.length) H
theorem c_len : CallR X (.builtin "len") (qLen X.K) := call_len_seq
theorem r_lenL {p : Addr} {ys : List V} (q : SqL K H p ys) (h : Q (.int ys.length) H) : qLen K [.ref p] H Q := ⟨p, ys, rfl, .inl q, h⟩
theorem r_lenT {p : Addr} {ys : List V} (q : SqT K H p ys) (h : Q (.int ys.length) H) : qLen K [.ref p] H Q := ⟨p, ys, rfl, .inr q, h⟩
def qLenS : List V → Hp → VK → Prop := fun xs H Q => ∃ z, xs = [.str z] ∧ z.length ≤ sizeLine ∧ Q (.int z.length) H
theorem c_lenS : CallR X (.builtin "len") qLenS := call_len_str
theorem r_lenS {z : Str} (h : Q (.int z.length) H) (hz : z.length ≤ sizeLine) : qLenS [.str z] H Q := ⟨z, rfl, hz, h⟩
def qLstOf (K : PySem.W.Frag) : List V → Hp → VK → Prop := fun xs H Q => ∃ p ys, xs = [.ref p] ∧ (SqL K H p ys ∨ SqT K H p ys) ∧ ∀ l, H l = none → Q (.ref l) (upd H l (.lst ys))
theorem c_lstOf : CallR X (.type "list") (qLstOf X.K) := call_list_of
theorem r_lstOfL {p : Addr} {ys : List V} (q : SqL K H p ys) (h : ∀ l, H l = none → Q (.ref l) (upd H l (.lst ys))) : qLstOf K [.ref p] H Q := ⟨p, ys, rfl, .inl q, h⟩
theorem r_lstOfT {p : Addr} {ys : List V} (q : SqT K H p ys) (h : ∀ l, H l = none → Q (.ref l) (upd H l (.lst ys))) : qLstOf K [.ref p] H Q := ⟨p, ys, rfl, .inr q, h⟩
def qTupOf (K : PySem.W.Frag) : List V → Hp → VK → Prop := fun xs H Q => ∃ p ys, xs = [.ref p] ∧ ((SqL K H p ys ∧ ∀ l, H l = none → Q (.ref l) (upd H l (.tup ys))) ∨ (SqT K H p ys ∧ Q (.ref p) H))
theorem c_tupOf : CallR X (.type "tuple") (qTupOf X.K) := call_tuple_of
theorem r_tupOfL {p : Addr} {ys : List V} (q : SqL K H p ys) (h : ∀ l, H l = none → Q (.ref l) (upd H l (.tup ys))) : qTupOf K [.ref p] H Q := ⟨p, ys, rfl, .inl ⟨q, h⟩⟩
theorem r_tupOfT {p : Addr} {ys : List V} (q : SqT K H p ys) (h : Q (.ref p) H) : qTupOf K [.ref p] H Q := ⟨p, ys, rfl, .inr ⟨q, h⟩⟩
def qStrI : List V → Hp → VK → Prop := fun xs H Q => ∃ i, xs = [.int i] ∧ i.natAbs.log2 < 1920 ∧ Q (.str (toString i)) H
theorem c_strI : CallR X (.type "str") qStrI := call_str_int
theorem r_strI {i : Int} (h : Q (.str (toString i)) H) (hi : i.natAbs.log2 < 1920) : qStrI [.int i] H Q := ⟨i, rfl, hi, h⟩
def qStrS : List V → Hp → VK → Prop := fun xs H Q => ∃ a, xs = [.str a] ∧ Q (.str a) H
theorem c_strS : CallR X (.type "str") qStrS := SkE.call_str_str
theorem r_strS {a : Str} (h : Q (.str a) H) : qStrS [.str a] H Q := ⟨a, rfl, h⟩
def qAddS : R2 := fun x y H Q => ∃ i j, x = .str i ∧ y = .str j ∧ i.length + j.length ≤ sizeLine ∧ Q (.str (i ++ j)) H
theorem o_addS : OpR X (binaryOp .Add) qAddS := op_add_str
theorem r_addS {i j : Str} (h : Q (.str (i ++ j)) H) (hz : i.length + j.length ≤ sizeLine) : qAddS (.str i) (.str j) H Q := ⟨i, j, rfl, rfl, hz, h⟩
def qLtS : R2 := fun x y H Q => ∃ i j, x = .str i ∧ y = .str j ∧ Q (.bl (decide (i.cps.toList < j.cps.toList))) H
theorem o_ltS : OpR X (compareOp .Lt) qLtS := op_lt_str
theorem r_ltS {i j : Str} (h : Q (.bl (decide (i.cps.toList < j.cps.toList))) H) : qLtS (.str i) (.str j) H Q := ⟨i, j, rfl, rfl, h⟩
def qAddIB : R2 := fun x y H Q => ∃ i k, x = .int i ∧ y = .bl k ∧ Q (.int (i + b2i k)) H
theorem o_addIB : OpR X (binaryOp .Add) qAddIB := op_add_ib
def qIsN : R2 := fun x y H Q => y = .non ∧ Q (.bl (decide (x = .non))) H
theorem o_isN : OpR X (compareOp .Is) qIsN := op_isN
def qNotN : R2 := fun x y H Q => y = .non ∧ Q (.bl (!decide (x = .non))) H
theorem o_notN : OpR X (compareOp .IsNot) qNotN := op_notN
def qCntS : V → List V → Hp → VK → Prop := fun x xs H Q => ∃ a b, x = .str a ∧ xs = [.str b] ∧ Q (.int (Txt.count a b)) H
theorem m_cntS : MtR X "str.count" qCntS := mt_count
theorem r_cntS {a b : Str} (h : Q (.int (Txt.count a b)) H) : qCntS (.str a) [.str b] H Q := ⟨a, b, rfl, rfl, h⟩
def qFindS : V → List V → Hp → VK → Prop := fun x xs H Q => ∃ a b, x = .str a ∧ xs = [.str b] ∧ Q (.int (Txt.find a b)) H
theorem m_findS : MtR X "str.find" qFindS := mt_find
theorem r_findS {a b : Str} (h : Q (.int (Txt.find a b)) H) : qFindS (.str a) [.str b] H Q := ⟨a, b, rfl, rfl, h⟩
def qFind3 : V → List V → Hp → VK → Prop := fun x xs H Q => ∃ (a b : Str) (i : Int), x = .str a ∧ xs = [.str b, .int i] ∧ Q (.int (Txt.find3 a b i)) H
theorem m_find3 : MtR X "str.find" qFind3 := mt_find3
theorem r_find3 {a b : Str} {i : Int} (h : Q (.int (Txt.find3 a b i)) H) : qFind3 (.str a) [.str b, .int i] H Q := ⟨a, b, i, rfl, rfl, h⟩
def qSplit : V → List V → Hp → VK → Prop := fun x xs H Q => ∃ a b, x = .str a ∧ xs = [.str b] ∧ (b.length == 0) = false ∧ a.length + 2 ≤ sizeLine ∧ rNewStrs (Txt.split a b) H Q
theorem m_split : MtR X "str.split" qSplit := mt_split
def qJoin (K : PySem.W.Frag) : V → List V → Hp → VK → Prop := fun x xs H Q => ∃ a p, ∃ ys : List Str, x = .str a ∧ xs = [.ref p] ∧ (SqL K H p (ys.map V.str) ∨ SqT K H p (ys.map V.str)) ∧ (ys.map (·.length)).sum + ys.length * a.length ≤ 16777216 ∧ Q (.str (Txt.join a ys)) H
theorem m_join : MtR X "str.join" (qJoin X.K) := mt_join
theorem r_joinL {a : Str} {p : Addr} {ys : List Str} (q : SqL K H p (ys.map V.str)) (h : Q (.str (Txt.join a ys)) H) (hz : (ys.map (·.length)).sum + ys.length * a.length ≤ 16777216) : qJoin K (.str a) [.ref p] H Q := ⟨a, p, ys, rfl, rfl, .inl q, hz, h⟩
theorem tyS {a : Str} : tyV K "str" (.str a) H := rfl
end
/-! ### loops -/
section
variable {σ : L2.St} {H : Hp} {nx bk ct : L2.St → Hp → Prop} {rt Q : VK} {ta te : TE} {tt : TT} {tb : TS} {tl : TA} {g : TG} {K : PySem.W.Frag}
def FR (J : It) (g : TG) (tb : TS) (D : Ends) (σ : L2.St) (H1 : Hp) : Prop := ∃ W : Nat → Nat → L2.St → Hp → Prop, (∃ m, W 0 m σ H1) ∧ ∀ i m σ H, W i m σ H →
  (J.stop i H ∧ D.nx σ H) ∨ (J.go i H ∧ ∃ N : L2.St → Hp → Prop, (∀ σ' H', N σ' H' → ∃ m', m' < m ∧ W (i + 1) m' σ' H') ∧ ∀ x H', J.yld i H x H' → g x σ H' fun σ2 H2 => tb { D with nx := N, ct := N, bk := D.nx } σ2 H2)
theorem r_for1 {D : Ends} (h : tl σ H fun vs H1 => ∃ j : Int, vs = [.int j] ∧ -(2 ^ 62) ≤ j ∧ j < 2 ^ 62 ∧ FR (Itr 0 j.toNat) g tb D σ H1) : tFor (iRng1 tl) g tb D σ H := h
theorem r_for2 {D : Ends} (h : tl σ H fun vs H1 => ∃ i j : Int, vs = [.int i, .int j] ∧ (-(2 ^ 62) ≤ i ∧ i < 2 ^ 62 ∧ -(2 ^ 62) ≤ j ∧ j < 2 ^ 62) ∧ FR (Itr i (j - i).toNat) g tb D σ H1) : tFor (iRng2 tl) g tb D σ H := h
theorem r_forL {D : Ends} (h : te σ H fun x H1 => ∃ a, x = .ref a ∧ (∃ xs, SqL K H1 a xs) ∧ FR (Itl K a) g tb D σ H1) : tFor (iList K te) g tb D σ H := h
theorem r_forT {D : Ends} (h : te σ H fun x H1 => ∃ a, x = .ref a ∧ (∃ xs, SqT K H1 a xs) ∧ FR (Itt K a) g tb D σ H1) : tFor (iTup K te) g tb D σ H := h
theorem r_forS {D : Ends} (h : te σ H fun v H1 => ∃ x, v = .str x ∧ FR (Its x) g tb D σ H1) : tFor (iStr te) g tb D σ H := h
theorem r_rng1 {P : Int → Prop} {x : Int} (h : P x) (h1 : -(2 ^ 62) ≤ x) (h2 : x < 2 ^ 62) : ∃ j : Int, [V.int x] = [.int j] ∧ -(2 ^ 62) ≤ j ∧ j < 2 ^ 62 ∧ P j := ⟨x, rfl, h1, h2, h⟩
theorem r_rng2 {P : Int → Int → Prop} {x y : Int} (h : P x y) (h1 : -(2 ^ 62) ≤ x ∧ x < 2 ^ 62 ∧ -(2 ^ 62) ≤ y ∧ y < 2 ^ 62) : ∃ i j : Int, [V.int x, V.int y] = [.int i, .int j] ∧ (-(2 ^ 62) ≤ i ∧ i < 2 ^ 62 ∧ -(2 ^ 62) ≤ j ∧ j < 2 ^ 62) ∧ P i j := ⟨x, y, rfl, h1, h⟩
theorem r_seqL {P : Addr → Prop} {a : Addr} {xs : List V} (q : SqL K H a xs) (h : P a) : ∃ b, V.ref a = .ref b ∧ (∃ xs, SqL K H b xs) ∧ P b := ⟨a, rfl, ⟨xs, q⟩, h⟩
theorem r_seqT {P : Addr → Prop} {a : Addr} {xs : List V} (q : SqT K H a xs) (h : P a) : ∃ b, V.ref a = .ref b ∧ (∃ xs, SqT K H b xs) ∧ P b := ⟨a, rfl, ⟨xs, q⟩, h⟩
theorem r_seqS {P : Str → Prop} {x : Str} (h : P x) : ∃ y, V.str x = .str y ∧ P y := ⟨x, rfl, h⟩
theorem fr_range {lo : Int} {n : Nat} (Pv : Nat → L2.St → Hp → Prop) (h0 : Pv 0 σ H) (hs : ∀ i σ H, i < n → Pv i σ H → g (.int (lo + i)) σ H fun σ2 H2 => tb ⟨Pv (i + 1), rt, nx, Pv (i + 1)⟩ σ2 H2)
    (hd : ∀ σ H, Pv n σ H → nx σ H) : FR (Itr lo n) g tb ⟨nx, rt, bk, ct⟩ σ H := for_range Pv h0 hs hd
theorem fr_list {a : Addr} {xs : List V} (Pv : Nat → L2.St → Hp → Prop) (h0 : Pv 0 σ H) (hl : ∀ i σ H, i ≤ xs.length → Pv i σ H → SqL K H a xs) (hs : ∀ i x σ H, xs[i]? = some x → Pv i σ H → g x σ H fun σ2 H2 => tb ⟨Pv (i + 1), rt, nx, Pv (i + 1)⟩ σ2 H2)
    (hd : ∀ σ H, Pv xs.length σ H → nx σ H) : FR (Itl K a) g tb ⟨nx, rt, bk, ct⟩ σ H := for_list Pv h0 hl hs hd
theorem fr_tup {a : Addr} {xs : List V} (Pv : Nat → L2.St → Hp → Prop) (h0 : Pv 0 σ H) (hl : ∀ i σ H, i ≤ xs.length → Pv i σ H → SqT K H a xs) (hs : ∀ i x σ H, xs[i]? = some x → Pv i σ H → g x σ H fun σ2 H2 => tb ⟨Pv (i + 1), rt, nx, Pv (i + 1)⟩ σ2 H2)
    (hd : ∀ σ H, Pv xs.length σ H → nx σ H) : FR (Itt K a) g tb ⟨nx, rt, bk, ct⟩ σ H := for_tup Pv h0 hl hs hd
theorem fr_str {x : Str} (Pv : Nat → L2.St → Hp → Prop) (h0 : Pv 0 σ H) (hs : ∀ i c σ H, x.cps[i]? = some c → Pv i σ H → g (.str ⟨#[c]⟩) σ H fun σ2 H2 => tb ⟨Pv (i + 1), rt, nx, Pv (i + 1)⟩ σ2 H2)
    (hd : ∀ σ H, Pv x.cps.size σ H → nx σ H) : FR (Its x) g tb ⟨nx, rt, bk, ct⟩ σ H := by
  refine ⟨fun i m σ H => m = x.cps.size - i ∧ i ≤ x.cps.size ∧ Pv i σ H, ⟨x.cps.size, by simp, Nat.zero_le _, h0⟩, ?_⟩
  rintro i m σ H ⟨rfl, hi, p⟩
  by_cases hlt : i < x.cps.size
  · refine .inr ⟨hlt, Pv (i + 1), fun σ' H' p' => ⟨x.cps.size - (i + 1), by omega, rfl, hlt, p'⟩, fun y H' z => ?_⟩
    obtain ⟨e, c, hc, e2⟩ := z
    subst e e2
    exact hs i c σ _ hc p
  · have e : i = x.cps.size := by omega
    subst e
    exact .inl ⟨Nat.le_refl _, hd σ H p⟩
def LCW (J : It) (g : TG) (tt : TT) (te : TE) (vs : List Nat) (σ : L2.St) (H1 : Hp) (Q : VK) : Prop := ∀ D, H1 D = none → ∃ W : Nat → Nat → Hp → Prop, (∃ m, W 0 m (upd H1 D (.lst []))) ∧ ∀ i m H, W i m H →
  (J.stop i H ∧ Q (.ref D) H) ∨ (J.go i H ∧ ∃ Nx : Hp → Prop, (∀ H', Nx H' → ∃ m', m' < m ∧ W (i + 1) m' H') ∧ ∀ x H', J.yld i H x H' → g x (wipe σ vs) H' fun σ2 H2 => wipe σ2 vs = wipe σ vs ∧ tt σ2 H2 fun b H3 =>
    if b = true then te σ2 H3 fun y H4 => ∃ acc, H4 D = some (.lst acc) ∧ acc.length < sizeLine ∧ Nx (upd H4 D (.lst (acc ++ [y]))) else Nx H3)
variable {vs : List Nat}
theorem r_lc1 (h : tl σ H fun us H1 => ∃ j : Int, us = [.int j] ∧ -(2 ^ 62) ≤ j ∧ j < 2 ^ 62 ∧ LCW (Itr 0 j.toNat) g tt te vs σ H1 Q) : tLc (iRng1 tl) g tt te vs σ H Q := h
theorem r_lc2 (h : tl σ H fun us H1 => ∃ i j : Int, us = [.int i, .int j] ∧ (-(2 ^ 62) ≤ i ∧ i < 2 ^ 62 ∧ -(2 ^ 62) ≤ j ∧ j < 2 ^ 62) ∧ LCW (Itr i (j - i).toNat) g tt te vs σ H1 Q) : tLc (iRng2 tl) g tt te vs σ H Q := h
theorem r_lcL (h : ta σ H fun x H1 => ∃ a, x = .ref a ∧ (∃ xs, SqL K H1 a xs) ∧ LCW (Itl K a) g tt te vs σ H1 Q) : tLc (iList K ta) g tt te vs σ H Q := h
theorem r_lcT (h : ta σ H fun x H1 => ∃ a, x = .ref a ∧ (∃ xs, SqT K H1 a xs) ∧ LCW (Itt K a) g tt te vs σ H1 Q) : tLc (iTup K ta) g tt te vs σ H Q := h
theorem r_lcS (h : ta σ H fun v H1 => ∃ x, v = .str x ∧ LCW (Its x) g tt te vs σ H1 Q) : tLc (iStr ta) g tt te vs σ H Q := h
theorem lw_range {lo : Int} {n : Nat} (Pv : Addr → Nat → Hp → Prop) (h0 : ∀ D, H D = none → Pv D 0 (upd H D (.lst [])))
    (hs : ∀ D, H D = none → ∀ i H, i < n → Pv D i H → g (.int (lo + i)) (wipe σ vs) H fun σ2 H2 => wipe σ2 vs = wipe σ vs ∧ tt σ2 H2 fun b H3 =>
      if b = true then te σ2 H3 fun y H4 => ∃ acc, H4 D = some (.lst acc) ∧ acc.length < sizeLine ∧ Pv D (i + 1) (upd H4 D (.lst (acc ++ [y]))) else Pv D (i + 1) H3) (hd : ∀ D, H D = none → ∀ H, Pv D n H → Q (.ref D) H) : LCW (Itr lo n) g tt te vs σ H Q :=
  fun D hD => lc_range (Pv D) (h0 D hD) (hs D hD) (hd D hD)
theorem lw_list {a : Addr} {xs : List V} (Pv : Addr → Nat → Hp → Prop) (h0 : ∀ D, H D = none → Pv D 0 (upd H D (.lst []))) (hl : ∀ D, H D = none → ∀ i H, i ≤ xs.length → Pv D i H → SqL K H a xs)
    (hs : ∀ D, H D = none → ∀ i x H, xs[i]? = some x → Pv D i H → g x (wipe σ vs) H fun σ2 H2 => wipe σ2 vs = wipe σ vs ∧ tt σ2 H2 fun b H3 =>
      if b = true then te σ2 H3 fun y H4 => ∃ acc, H4 D = some (.lst acc) ∧ acc.length < sizeLine ∧ Pv D (i + 1) (upd H4 D (.lst (acc ++ [y]))) else Pv D (i + 1) H3) (hd : ∀ D, H D = none → ∀ H, Pv D xs.length H → Q (.ref D) H) : LCW (Itl K a) g tt te vs σ H Q :=
  fun D hD => lc_list (Pv D) (h0 D hD) (hl D hD) (hs D hD) (hd D hD)
theorem lw_tup {a : Addr} {xs : List V} (Pv : Addr → Nat → Hp → Prop) (h0 : ∀ D, H D = none → Pv D 0 (upd H D (.lst []))) (hl : ∀ D, H D = none → ∀ i H, i ≤ xs.length → Pv D i H → SqT K H a xs)
    (hs : ∀ D, H D = none → ∀ i x H, xs[i]? = some x → Pv D i H → g x (wipe σ vs) H fun σ2 H2 => wipe σ2 vs = wipe σ vs ∧ tt σ2 H2 fun b H3 =>
      if b = true then te σ2 H3 fun y H4 => ∃ acc, H4 D = some (.lst acc) ∧ acc.length < sizeLine ∧ Pv D (i + 1) (upd H4 D (.lst (acc ++ [y]))) else Pv D (i + 1) H3) (hd : ∀ D, H D = none → ∀ H, Pv D xs.length H → Q (.ref D) H) : LCW (Itt K a) g tt te vs σ H Q :=
  fun D hD => lc_tup (Pv D) (h0 D hD) (hl D hD) (hs D hD) (hd D hD)
theorem r_while {c : TT} (W : Nat → L2.St → Hp → Prop) (m : Nat) (w0 : W m σ H) (hs : ∀ m σ H, W m σ H → c σ H fun b H1 => if b = true then ∃ N : L2.St → Hp → Prop, (∀ σ' H', N σ' H' → ∃ m', m' < m ∧ W m' σ' H') ∧ tb ⟨N, rt, nx, N⟩ σ H1 else nx σ H1) : tWhile c tb ⟨nx, rt, bk, ct⟩ σ H := ⟨W, ⟨m, w0⟩, hs⟩
theorem r_yes {Q : Bool → Hp → Prop} (h : Q true H) : tYes σ H Q := h
theorem r_wh {c : TT} {D : Ends} (h : tWhile c tb D σ H) : tWhile c tb D σ H := h
end
/-! ### heaps -/
theorem same_new {H : Hp} {p : Addr} {o : HO} (h : H p = none) : Same H (upd H p o) := fun b x e => by
  rw [upd_ne (ne_of_none e h)]; exact e
theorem same_mut {H H' : Hp} {p : Addr} {o : HO} (s : Same H H') (h : H p = none) : Same H (upd H' p o) := fun b x e => by
  rw [upd_ne (ne_of_none e h)]; exact s b x e
theorem same_tup {H H' : Hp} {p : Addr} {o : HO} (s : Same H H') (e : H p = some o) : H' p = some o := s p o e

/-- lists of ints, as data -/
theorem dpI {K : PySem.W.Frag} {H : Hp} : ∀ ns : List Int, DpAll K H (ns.map V.int) (ns.map PyData.int)
  | [] => .nil
  | n :: ns => .cons (.int n) (dpI ns)
theorem dpS {K : PySem.W.Frag} {H : Hp} : ∀ ns : List Str, DpAll K H (ns.map V.str) (ns.map PyData.str)
  | [] => .nil
  | n :: ns => .cons (.str n) (dpS ns)
theorem r_eqD {K : PySem.W.Frag} {H : Hp} {Q : VK} {x y : V} {d e : PyData} (hx : Dp K H x d) (hy : Dp K H y e) (h1 : SeqAt.shaped d = true) (h2 : SeqAt.shaped e = true) (h : Q (.bl (PyData.eqv d e)) H) : rEqD K x y H Q := ⟨d, e, hx, hy, h1, h2, h⟩
theorem r_neD {K : PySem.W.Frag} {H : Hp} {Q : VK} {x y : V} {d e : PyData} (hx : Dp K H x d) (hy : Dp K H y e) (h1 : SeqAt.shaped d = true) (h2 : SeqAt.shaped e = true) (h : Q (.bl (!PyData.eqv d e)) H) : rNeD K x y H Q := ⟨d, e, hx, hy, h1, h2, h⟩
theorem kit_self {K : PySem.W.Frag} {t : Value} : PySem.W.kitOne K t t = some true := if_pos (beq_self_eq_true t)
/-- a list of three ints -/
def Dice (H : Hp) (d : Addr) : Prop := ∃ x y z : Int, H d = some (.lst [.int x, .int y, .int z])
/-- all but the dice at d stands as it stood -/
structure Kp (d : Addr) (H H' : Hp) : Prop where
  k : ∀ b o, b ≠ d → H b = some o → H' b = some o
  d0 : Dice H d
  d1 : Dice H' d
theorem Kp.refl {d : Addr} {H : Hp} (h : Dice H d) : Kp d H H := ⟨fun _ _ _ e => e, h, h⟩
theorem Kp.trans {d : Addr} {H H1 H2 : Hp} (a : Kp d H H1) (b : Kp d H1 H2) : Kp d H H2 := ⟨fun c o n e => b.k c o n (a.k c o n e), a.d0, b.d1⟩
theorem Kp.same {d : Addr} {H H1 H2 : Hp} (a : Kp d H H1) (b : Same H1 H2) : Kp d H H2 := ⟨fun c o n e => b c o (a.k c o n e), a.d0, let ⟨x, y, z, h⟩ := a.d1; ⟨x, y, z, b _ _ h⟩⟩
theorem Kp.of {d : Addr} {H H1 : Hp} (h : Dice H d) (b : Same H H1) : Kp d H H1 := (Kp.refl h).same b
theorem Kp.put {d : Addr} {H : Hp} {x y z : Int} (h : Dice H d) : Kp d H (upd H d (.lst [.int x, .int y, .int z])) := ⟨fun b o n e => by rw [upd_ne n]; exact e, h, ⟨x, y, z, upd_same⟩⟩
theorem Kp.put' {d : Addr} {H H1 : Hp} {x y z : Int} (a : Kp d H H1) : Kp d H (upd H1 d (.lst [.int x, .int y, .int z])) := a.trans (Kp.put a.d1)
theorem Kp.tup {d : Addr} {H H1 : Hp} (a : Kp d H H1) {p : Addr} {xs : List V} (e : H p = some (.tup xs)) : H1 p = some (.tup xs) := a.k p _ (by
  obtain ⟨x, y, z, h⟩ := a.d0
  exact ne_of e h (fun q => nomatch q)) e
theorem Kp.ins {d : Addr} {H H1 : Hp} (a : Kp d H H1) {p C dx : Addr} {fs : List (Str × V)} (e : H p = some (.ins C dx fs)) : H1 p = some (.ins C dx fs) := a.k p _ (by
  obtain ⟨x, y, z, h⟩ := a.d0
  exact ne_of e h (fun q => nomatch q)) e
theorem Kp.free {d : Addr} {H H1 : Hp} (a : Kp d H H1) {p : Addr} (e : H1 p = none) : H p = none := by
  cases q : H p with
  | none => rfl
  | some o =>
    by_cases h : p = d
    · obtain ⟨x, y, z, h'⟩ := a.d1
      rw [h, h'] at e; cases e
    · rw [a.k p o h q] at e; cases e
theorem Kp.new {d : Addr} {H H1 : Hp} (a : Kp d H H1) {p : Addr} {o : HO} (e : H1 p = none) : Kp d H (upd H1 p o) := a.same (same_new e)
theorem Kp.mut {d : Addr} {H H1 : Hp} (a : Kp d H H1) {p : Addr} {o : HO} (e : H p = none) : Kp d H (upd H1 p o) := ⟨fun b x n q => by
    rw [upd_ne (ne_of_none q e)]; exact a.k b x n q, a.d0, by
    obtain ⟨x, y, z, h⟩ := a.d0
    obtain ⟨x', y', z', h'⟩ := a.d1
    exact ⟨x', y', z', by rw [upd_ne (ne_of_none h e)]; exact h'⟩⟩
end Sx

/-! Sy: more steps: texts times numbers, a text's letters as a list, tuples gone through by number. -/
namespace Sy
open PySem PySem.Spec PyProof.Rows L2 Sx
open Sem (wp)
theorem bt_enumerate : bootBuiltins "enumerate" = some (.type "enumerate") := by decide +kernel
/-! ### text * number -/
def times (a : Str) (n : Nat) : Str := ⟨(List.replicate n a.cps).foldl (· ++ ·) #[]⟩
theorem times_one (a : Str) : times a 1 = a := by
  unfold times; simp [List.replicate]
def qMulS : R2 := fun x y H Q => ∃ (a : Str) (n : Int), x = .str a ∧ y = .int n ∧ 0 < a.length ∧ a.length ≤ 1000 ∧ 1 ≤ n ∧ n ≤ 1000 ∧ Q (.str (times a n.toNat)) H
theorem times_len (a : Str) (n : Nat) : (times a n).length = n * a.length := by
  have h : ∀ (l : List (Array Nat)) (z : Array Nat), (l.foldl (· ++ ·) z).size = z.size + (l.map Array.size).sum := by
    intro l
    induction l with
    | nil => intro z; simp
    | cons x l ih => intro z; rw [List.foldl_cons, ih, Array.size_append, List.map_cons, List.sum_cons]; omega
  show ((List.replicate n a.cps).foldl (· ++ ·) #[]).size = n * a.cps.size
  rw [h]; simp
section
variable {X : Cx}
theorem op_strmul : OpR X (binaryOp .Mult) qMulS := by
  intro pins s σ H x y v u Q I rx ry h
  obtain ⟨a, n, rfl, rfl, a0, a1, n0, n1, q⟩ := h
  obtain ⟨t, rfl⟩ := rx
  obtain ⟨t', rfl⟩ := ry
  have m1 : ((a.length : Int)) ≤ 1000 := by omega
  have big : (1000 : Int) ≤ (2 ^ 63 - 1) / n := by
    rw [Int.le_ediv_iff_mul_le (by omega)]
    exact Int.le_trans (Int.mul_le_mul_of_nonneg_left n1 (by decide)) (by decide)
  refine P.mul_str ?_ (fun _ _ => by omega) (fun _ _ => ?_) ?_
  · rw [decide_eq_false (by omega), decide_eq_false (by omega)]; rfl
  · show decide (_ > _) = false
    have m2 : a.length * n.toNat ≤ 1000 * 1000 := Nat.mul_le_mul a1 (by omega)
    exact decide_eq_false (Nat.not_lt.mpr (Nat.le_trans m2 (by rw [sizeLine_eq]; decide)))
  · rw [if_neg (by omega)]
    by_cases e : (n == 1 || a.length == 0) = true
    · rw [if_pos e]
      have e1 : n = 1 := by
        rw [Bool.or_eq_true, beq_iff_eq, beq_iff_eq] at e
        omega
      subst e1
      rw [show ((1 : Int).toNat) = 1 from rfl, times_one] at q
      exact ⟨.str a, H, I, ⟨t, rfl⟩, q⟩
    · rw [if_neg e]
      refine ⟨?_, .str (times a n.toNat), H, I.tok _, ⟨_, rfl⟩, q⟩
      have m2 : n.toNat * a.length ≤ 1000 * 1000 := Nat.mul_le_mul (by omega) a1
      have l := times_len a n.toNat
      unfold times at l
      rw [l, sizeLine_eq]; omega
theorem r_mulS {a : Str} {n : Int} {H : Hp} {Q : VK} (h : Q (.str (times a n.toNat)) H) (a0 : 0 < a.length ∧ a.length ≤ 1000) (n0 : 1 ≤ n ∧ n ≤ 1000) : qMulS (.str a) (.int n) H Q := ⟨a, n, rfl, rfl, a0.1, a0.2, n0.1, n0.2, h⟩
/-! ### list(text) -/
def letters (a : Str) : List V := a.cps.toList.map fun c => V.str ⟨#[c]⟩
def qListS : List V → Hp → VK → Prop := fun xs H Q => ∃ a : Str, xs = [.str a] ∧ a.length ≤ 100000 ∧ ∀ l, H l = none → Q (.ref l) (upd H l (.lst (letters a)))
theorem letters_vals {a : Str} {its : Array Value} (h : ItemsOf (SignAt a) its a.cps.size) : Vals (letters a) its.toList := by
  obtain ⟨hs, hi⟩ := h
  have main : ∀ (cs : List Nat) (vs : List Value), cs.length = vs.length → (∀ (j : Nat) (v : Value), vs[j]? = some v → ∃ (c : Nat) (u : Tok), cs[j]? = some c ∧ v = Value.str ⟨#[c]⟩ u) → Vals (cs.map fun c => V.str ⟨#[c]⟩) vs := by
    intro cs
    induction cs with
    | nil => intro vs hl _; cases vs with
      | nil => exact .nil
      | cons _ _ => cases hl
    | cons c cs ih => intro vs hl hv; cases vs with
      | nil => cases hl
      | cons v vs =>
        refine .cons ?_ (ih vs (Nat.succ.inj hl) fun j w hw => hv (j + 1) w hw)
        obtain ⟨c', u, e, rfl⟩ := hv 0 v rfl
        cases e
        exact ⟨u, rfl⟩
  refine main _ _ (by rw [Array.length_toList, Array.length_toList, hs]) fun j v hj => ?_
  rw [Array.getElem?_toList] at hj
  obtain ⟨c, u, e, rfl⟩ := hi j v hj
  exact ⟨c, u, by rw [Array.getElem?_toList]; exact e, rfl⟩
theorem letters_len (a : Str) : (letters a).length = a.length := by
  unfold letters; rw [List.length_map, Array.length_toList]; rfl
theorem call_list_str (hc : X.calm = true) : CallR X (.type "list") qListS := by
  intro pins s σ H xs us Q I r h
  obtain ⟨a, rfl, hl, q⟩ := h
  obtain ⟨u, rfl, rx⟩ := vals1 r
  obtain ⟨t, rfl⟩ := rx
  have big : a.length ≤ sizeLine := by rw [sizeLine_eq]; omega
  refine PySem.call_list_str (I.ok.hd hc) a t (hn := big) ?_
  intro h2 tk acc room keep got its
  refine ⟨.ref s.heap.objs.size, upd H s.heap.objs.size (.lst (letters a)), ?_, rfl, q _ (I.hok.fresh (Nat.le_refl _))⟩
  refine I.laid keep (Nat.le_refl _) ?_
  exact ⟨by rw [letters_len]; exact big, acc.toList, room, letters_vals its, got⟩
theorem r_listS {a : Str} {H : Hp} {Q : VK} (h : ∀ l, H l = none → Q (.ref l) (upd H l (.lst (letters a)))) (hl : a.length ≤ 100000) : qListS [.str a] H Q := ⟨a, rfl, hl, h⟩
end

/-! ### enumerate(tuple) -/
section
variable {P : Program} {w : World} {K : PySem.W.Frag}
/-- the tuple at a, each item behind its number in a new pair -/
def Itn (K : PySem.W.Frag) (a : Addr) : It :=
  ⟨fun i H => ∃ ys z, SqT K H a ys ∧ ys[i]? = some z,
   fun i H v H2 => ∃ p z, v = V.ref p ∧ H p = none ∧ H2 = upd H p (.tup [.int (i : Nat), z]) ∧ (∀ ys, SqT K H a ys → ys[i]? = some z),
   fun i H => ∃ ys : List V, SqT K H a ys ∧ ys.length = i⟩
theorem turn_number {tgs : List Expr} {q : Nat} {at' : Pos} (a en it : Addr) :
    Turn P w K (.Tuple tgs q at') (Itn K a) [en, it] en (fun i g => (∃ last, IsEnum g en it ((i : Nat) : Int) last) ∧ g.IsTupleIter it a i ∧ en ≠ it) where
  mem := List.mem_cons_self ..
  obj := fun i g ⟨⟨last, x1⟩, x2, _⟩ b m => by
    rcases List.mem_cons.mp m with rfl | m
    · exact ⟨_, x1, nofun⟩
    · cases List.mem_singleton.mp m
      obtain ⟨ob, y1, y2, y3⟩ := x2
      exact ⟨ob, y1, fun v z => by rw [y3] at z; exact nomatch z⟩
  keep := fun i g g' ⟨⟨last, x1⟩, x2, x3⟩ same => ⟨⟨last, same en (List.mem_cons_self ..) _ x1⟩, x2.at fun ob z => same it (by simp) ob z, x3⟩
  item := by
    rintro X rfl rfl rfl calm i pins s σ H E I free ⟨⟨last, x1⟩, x2, apart⟩ ⟨ys, z, at1, at2⟩
    obtain ⟨vs, rel, tp, _⟩ := I.tuple at1
    have tp' : s.heap.IsTuple a vs.toArray := tp
    obtain ⟨u, hu, ru⟩ := rel.get at2
    have lt : i < vs.toArray.size := by
      obtain ⟨q1, _⟩ := List.getElem?_eq_some_iff.mp hu
      rw [List.size_toArray]; exact q1
    have hdif : ∀ c : Addr, (∃ ob, s.heap.get? c = some ob ∧ ob.cls ≠ .type "tuple") → a ≠ c := by
      rintro c ⟨ob, y1, y2⟩ rfl
      obtain ⟨ob2, y4, y5, _⟩ := tp'
      rw [y1] at y4; cases y4
      exact y2 y5
    have below : ∀ b ∈ [en, it], b < s.heap.objs.size := fun b m => by
      rcases List.mem_cons.mp m with rfl | m
      · exact Heap.lt_size x1
      · cases List.mem_singleton.mp m
        obtain ⟨ob, y1, _⟩ := x2
        exact Heap.lt_size y1
    have dif : a ≠ it := by
      obtain ⟨ob, y1, y2, _⟩ := x2
      exact hdif it ⟨ob, y1, by rw [y2]; decide⟩
    have dif2 : en ∉ [it, a] := by
      intro z
      rcases List.mem_cons.mp z with z | z
      · exact apart z
      · exact hdif en ⟨_, x1, fun z => absurd (show Value.type "enumerate" = Value.type "tuple" from z) (by decide)⟩ (List.mem_singleton.mp z).symm
    have drawn := Draws.tuple (prog := X.prog) (w := X.w) (A := X.A.in1) (I.ok.hd calm) it a dif vs.toArray
    refine wpAny_pyNext_enum_itemD drawn x1 ⟨x2, tp'⟩ lt apart dif2 ?_
    rintro w1 g1 k1 pw out ⟨it1, tp1⟩ new1 size1 others
    have ew : w1 = u := by
      have e1 : vs.toArray[i]? = some w1 := pw
      rw [List.getElem?_toArray, hu] at e1
      exact (Option.some.inj e1).symm
    subst ew
    refine ⟨_, rfl, wpAny_letOwnedTupleGo_enum (s := { s with heap := g1, toks := k1 + 1 }) out fun g2 en2 but => ?_⟩
    have far : s.heap.objs.size ≠ en := Nat.ne_of_gt (below en (List.mem_cons_self ..))
    have new2 := (but.2 _ far).trans new1
    have I2 : Inv X pins σ (upd H s.heap.objs.size (.tup [.int (i : Nat), z])) { s with heap := g2, toks := k1 + 1 } := by
      refine I.turnedNew (ch := [en, it]) ?_ free (Nat.le_refl _) ?_
      · intro b ob m y
        exact (but.2 b fun e => m (e ▸ List.mem_cons_self ..)).trans (others b ob (fun e => m (e ▸ List.mem_cons_self ..)) (fun e => m (by rw [e]; simp)) y)
      · exact ⟨by rw [sizeLine_eq]; exact (by decide : 2 ≤ 16777216), _, .cons ⟨k1, rfl⟩ (.cons ru .nil), _, new2, rfl, _, rfl⟩
    refine ⟨.ref s.heap.objs.size, _, I2, rfl, ⟨_, z, rfl, I.hok.fresh (Nat.le_refl _), rfl, fun zs hz => ?_⟩, ⟨⟨w1, ?_⟩, it1.at fun ob y => (but.2 it (Ne.symm apart)).trans y, apart⟩, fun b m => ?_⟩
    · rw [I.tuple_inj hz at1]; exact at2
    · rw [Int.natCast_add]; exact en2
    · rw [upd_ne (Nat.ne_of_lt (below b m))]
      exact (free b m).1
  done := by
    rintro X rfl rfl rfl calm i pins s σ H E I free ⟨⟨last, x1⟩, x2, apart⟩ ⟨ys, at1, rfl⟩
    obtain ⟨vs, rel, tp, _⟩ := I.tuple at1
    have tp' : s.heap.IsTuple a vs.toArray := tp
    have dif : a ≠ it := by
      rintro rfl
      obtain ⟨ob, y1, y2, _⟩ := x2
      obtain ⟨ob2, y4, y5, _⟩ := tp'
      rw [y1] at y4; cases y4
      rw [y2] at y5; exact absurd y5 (by decide)
    have drawn := Draws.tuple (prog := X.prog) (w := X.w) (A := X.A.in1) (I.ok.hd calm) it a dif vs.toArray
    have size1 : ys.length = vs.toArray.size := by rw [List.size_toArray]; exact rel.length
    obtain ⟨f0, f1, f2, f3, f4, f5⟩ := free it (by simp)
    refine wpAny_pyNext_enum_endD drawn x1 ⟨size1 ▸ x2, tp'⟩ fun g ext => ⟨rfl, ?_⟩
    exact I.turned (t' := s.toks) (fun b ob m y => ext b ob m y) f0 f1 f3 f4 f5
  self := fun A i s Q E ⟨⟨_, x1⟩, _⟩ h => wpAny_pyIter_enum x1 h
def iNum (K : PySem.W.Frag) (ta : TA) : TI := fun σ H R => ta σ H fun vs H1 => ∃ a ys, vs = [V.ref a] ∧ SqT K H1 a ys ∧ R (Itn K a) H1
theorem walk_num {a : Addr} {ys : List V} : Walk (Itn K a) ys.length (fun H => SqT K H a ys) (YPair (fun i => some (.int (i : Nat))) (fun i => ys[i]?)) := by
  constructor
  · intro i H hi q; exact ⟨ys, ys[i], q, List.getElem?_eq_getElem hi⟩
  · intro H q; exact ⟨ys, q, rfl⟩
  · rintro i H v H2 _ q ⟨p, z, rfl, h1, h2, h3⟩
    exact ⟨p, .int (i : Nat), z, rfl, h1, h2, rfl, h3 ys q⟩
end
set_option maxHeartbeats 1000000 in
theorem meets_number {v : Value} {ob : Obj} {G : Heap → Prop} (B : Begins v ob G) :
    Meets (Builtin.«enumerate.__new__» ⟨[.type "enumerate", v], []⟩) (fun _ R s => G s.heap ∧
      R (.ok (.ret (.ref (s.heap.push ob).objs.size))) { s with heap := (s.heap.push ob).push { cls := .type "enumerate", data := .fields #[.none, .bool false, .ref s.heap.objs.size, rawInt 0, .none, .none] } }) := by
  refine Meets.of_wp fun prog w A R st hh => ?_
  obtain ⟨hp, gl, dp, tk, ext⟩ := st
  obtain ⟨hG, hR⟩ := hh
  have kin := sub_enumerate
  have begin' : ∀ {A2 : Around} {E2 : Value → Shared → Prop} {Q2 : Value → Shared → Prop}, Q2 (.ref hp.objs.size) ⟨hp.push ob, gl, dp, tk, ext⟩ → wpAny (model prog w) A2 (pyIter v) Q2 E2 ⟨hp, gl, dp, tk, ext⟩ := by
    intro A2 E2 Q2 q2
    exact B.iter prog w A2 E2 ⟨hp, gl, dp, tk, ext⟩ Q2 hG q2
  wp_walk using begin'
  apply wpAny_stack_any
  intro stk
  apply wpAny_pure
  split
  · rename_i c _ _ _ _ _
    cases (c == Value.type "enumerate") <;> (wp_walk using begin'; exact ⟨_, rfl, hR⟩)
  · wp_walk using begin'
    exact ⟨_, rfl, hR⟩
section
variable {X : Cx}
theorem pi_enumT {e : Expr} {ta : TA} {p pos tpos : Pos} {tgs : List Expr} {q : Nat} (hg : Gl X "enumerate") (hm : X.mg "enumerate" = none) (ha : PA X [e] ta) (na : starEach [e] X.env = [(false, eval e X.env)] := by rfl) :
    PI X (.Tuple tgs q tpos) (.Call (.Name "enumerate" p) [e] [] pos) (iNum X.K ta) := by
  constructor
  intro pins s σ H R I h
  refine Call_ (ld_blt I hg hm bt_enumerate (PyProof.Rows.callWith_type1 (thn (ha.run pos pins s σ H _ I h) ?_) na rfl))
  rintro us s1 ⟨vs, H1, I1, r1, a, ys, rfl, hq, next⟩
  obtain ⟨u, rfl, rx⟩ := vals1 r1
  obtain rfl : u = .ref a := rx
  obtain ⟨its, rel, tp, _⟩ := I1.tuple hq
  have tp' : s1.heap.IsTuple a its.toArray := tp
  have B := begins_tuple a its.toArray
  refine callType_new F.called_enumerate (by decide) (F.typeCall_enumerate_1 _) (F.newCall_enumerate_1 _) (fun ob => F.args_object_init_2 ob _) F.entry_enumerate_new (meets_number B) ⟨tp', ?_⟩
  let t1 := s1.heap.push { cls := .type "tuple_iterator", data := .fields #[.ref a, .int 0 0] }
  have n1 : t1.objs.size = s1.heap.objs.size + 1 := Heap.size_push ..
  show _ ∧ _
  rw [n1]
  have x1 : IsEnum (t1.push { cls := .type "enumerate", data := .fields #[.none, .bool false, .ref s1.heap.objs.size, rawInt 0, .none, .none] }) (s1.heap.objs.size + 1) s1.heap.objs.size 0 .none := by
    have z := Heap.get?_push_size t1 (o := { cls := .type "enumerate", data := .fields #[.none, .bool false, .ref s1.heap.objs.size, rawInt 0, .none, .none] }) rfl
    rw [n1] at z; exact z
  have same : ∀ b ob, s1.heap.get? b = some ob → (t1.push { cls := .type "enumerate", data := .fields #[.none, .bool false, .ref s1.heap.objs.size, rawInt 0, .none, .none] }).get? b = some ob :=
    fun b ob z => Heap.get?_push_of_some _ (Heap.get?_push_of_some _ z)
  refine ⟨⟨_, x1, rfl⟩, wpAny_pyIter_enum x1 ?_⟩
  have it1 : (t1.push { cls := .type "enumerate", data := .fields #[.none, .bool false, .ref s1.heap.objs.size, rawInt 0, .none, .none] }).IsTupleIter s1.heap.objs.size a 0 :=
    ⟨_, Heap.get?_push_of_some _ (Heap.get?_push_size _ rfl), rfl, rfl⟩
  refine ⟨s1.heap.objs.size + 1, [s1.heap.objs.size + 1, s1.heap.objs.size], _, Itn X.K a, H1, rfl, I1.kept (t' := s1.toks) same, turn_number a (s1.heap.objs.size + 1) s1.heap.objs.size, ⟨⟨.none, x1⟩, it1, Nat.succ_ne_self _⟩, ?_, next⟩
  intro b m
  have le : s1.heap.objs.size ≤ b := by
    rcases List.mem_cons.mp m with rfl | m
    · exact Nat.le_succ _
    · exact Nat.le_of_eq (List.mem_singleton.mp m).symm
  exact I1.fpOk le (I1.hok.fresh le)
end
/-! ### any walk, for loops and comprehensions -/
section
variable {σ : L2.St} {H : Hp} {nx bk ct : L2.St → Hp → Prop} {rt Q : VK} {te : TE} {tt : TT} {tb : TS} {tl : TA} {g : TG} {K : PySem.W.Frag} {J : It} {n : Nat} {G : Hp → Prop} {Y : Nat → Hp → V → Hp → Prop} {vs : List Nat}
theorem fr_it (w : Walk J n G Y) (Pv : Nat → L2.St → Hp → Prop) (h0 : Pv 0 σ H) (hG : ∀ i σ H, i ≤ n → Pv i σ H → G H)
    (hs : ∀ i x σ H H', i < n → Pv i σ H → Y i H x H' → g x σ H' fun σ2 H2 => tb ⟨Pv (i + 1), rt, nx, Pv (i + 1)⟩ σ2 H2) (hd : ∀ σ H, Pv n σ H → nx σ H) : FR J g tb ⟨nx, rt, bk, ct⟩ σ H := for_it w Pv h0 hG hs hd
theorem lw_it (w : Walk J n G Y) (Pv : Addr → Nat → Hp → Prop) (h0 : ∀ D, H D = none → Pv D 0 (upd H D (.lst []))) (hG : ∀ D, H D = none → ∀ i H, i ≤ n → Pv D i H → G H)
    (hs : ∀ D, H D = none → ∀ i x H H', i < n → Pv D i H → Y i H x H' → g x (wipe σ vs) H' fun σ2 H2 => wipe σ2 vs = wipe σ vs ∧ tt σ2 H2 fun b H3 =>
      if b = true then te σ2 H3 fun y H4 => ∃ acc, H4 D = some (.lst acc) ∧ acc.length < sizeLine ∧ Pv D (i + 1) (upd H4 D (.lst (acc ++ [y]))) else Pv D (i + 1) H3) (hd : ∀ D, H D = none → ∀ H, Pv D n H → Q (.ref D) H) : LCW J g tt te vs σ H Q :=
  fun D hD => lc_it w (Pv D) (h0 D hD) (hG D hD) (hs D hD) (hd D hD)
theorem r_lcN (h : tl σ H fun us H1 => ∃ a ys, us = [V.ref a] ∧ SqT K H1 a ys ∧ LCW (Itn K a) g tt te vs σ H1 Q) : tLc (iNum K tl) g tt te vs σ H Q := h
theorem r_forN {D : Ends} (h : tl σ H fun us H1 => ∃ a ys, us = [V.ref a] ∧ SqT K H1 a ys ∧ FR (Itn K a) g tb D σ H1) : tFor (iNum K tl) g tb D σ H := h
theorem r_lcE (h : tl σ H fun us H1 => ∃ a ys, us = [V.ref a] ∧ SqL K H1 a ys ∧ LCW (Ite K a) g tt te vs σ H1 Q) : tLc (iEnum K tl) g tt te vs σ H Q := h
theorem r_forE {D : Ends} (h : tl σ H fun us H1 => ∃ a ys, us = [V.ref a] ∧ SqL K H1 a ys ∧ FR (Ite K a) g tb D σ H1) : tFor (iEnum K tl) g tb D σ H := h
theorem r_seqN {a : Addr} {ys : List V} {Pr : Addr → Prop} (q : SqT K H a ys) (h : Pr a) : ∃ b zs, [V.ref a] = [V.ref b] ∧ SqT K H b zs ∧ Pr b := ⟨a, ys, rfl, q, h⟩
theorem r_seqE {a : Addr} {ys : List V} {Pr : Addr → Prop} (q : SqL K H a ys) (h : Pr a) : ∃ b zs, [V.ref a] = [V.ref b] ∧ SqL K H b zs ∧ Pr b := ⟨a, ys, rfl, q, h⟩
end
end Sy

/-! Me: equal tuples and lists of plain data. -/
namespace Me
open PySem PySem.Spec PyProof.Rows L2 Sx
theorem lay_ints : ∀ ns : List Int, PyData.canLayAll0 (ns.map PyData.int) = true
  | [] => rfl
  | n :: ns => by
    have h := lay_ints ns
    simp only [List.map_cons, PyData.canLayAll0, PyData.canLay0, h, Bool.and_self]
theorem deep_ints : ∀ ns : List Int, PyData.depthAll (ns.map PyData.int) ≤ 1
  | [] => by simp [PyData.depthAll]
  | n :: ns => by
    have h := deep_ints ns
    simp only [List.map_cons, PyData.depthAll, PyData.depth]
    omega
theorem lay_strs : ∀ ns : List Str, ns.all PyData.strOk = true → PyData.canLayAll0 (ns.map PyData.str) = true
  | [], _ => rfl
  | n :: ns, k => by
    rw [List.all_cons, Bool.and_eq_true] at k
    have h := lay_strs ns k.2
    simp only [List.map_cons, PyData.canLayAll0, PyData.canLay0, h, k.1, Bool.and_self]
theorem deep_strs : ∀ ns : List Str, PyData.depthAll (ns.map PyData.str) ≤ 1
  | [] => by simp [PyData.depthAll]
  | n :: ns => by
    have h := deep_strs ns
    simp only [List.map_cons, PyData.depthAll, PyData.depth]
    omega
theorem tup_ok {ds : List PyData} (h1 : PyData.canLayAll0 ds = true) (h2 : PyData.depthAll ds ≤ 40) : SeqAt.shaped (.tuple ds) = true := by
  unfold SeqAt.shaped
  rw [Bool.and_eq_true, decide_eq_true_iff]
  refine ⟨by simpa [PyData.canLay0] using h1, ?_⟩
  simp only [PyData.depth]; omega
theorem lst_ok {ds : List PyData} (h1 : PyData.canLayAll0 ds = true) (h2 : PyData.depthAll ds ≤ 40) : SeqAt.shaped (.list ds) = true := by
  unfold SeqAt.shaped
  rw [Bool.and_eq_true, decide_eq_true_iff]
  refine ⟨by simpa [PyData.canLay0] using h1, ?_⟩
  simp only [PyData.depth]; omega
section
variable {K : PySem.W.Frag} {H : Hp} {Q : VK} {a b : Addr} {ns : List Int} {ts : List Str}
theorem sh_tupI : SeqAt.shaped (.tuple (ns.map PyData.int)) = true := tup_ok (lay_ints ns) (Nat.le_trans (deep_ints ns) (by decide))
theorem sh_lstI : SeqAt.shaped (.list (ns.map PyData.int)) = true := lst_ok (lay_ints ns) (Nat.le_trans (deep_ints ns) (by decide))
theorem sh_tupS (hs : ts.all PyData.strOk = true) : SeqAt.shaped (.tuple (ts.map PyData.str)) = true := tup_ok (lay_strs ts hs) (Nat.le_trans (deep_strs ts) (by decide))
theorem sh_lstS (hs : ts.all PyData.strOk = true) : SeqAt.shaped (.list (ts.map PyData.str)) = true := lst_ok (lay_strs ts hs) (Nat.le_trans (deep_strs ts) (by decide))
theorem eqv_same {d : PyData} (h : SeqAt.shaped d = true) : PyData.eqv d d = true := SeqAt.eqv_refl d (SeqAt.canLay_of_shaped h)
/-- two tuples of the same ints are equal -/
theorem eq_tupI (h1 : H a = some (.tup (ns.map V.int))) (h2 : H b = some (.tup (ns.map V.int))) (h : Q (.bl true) H) : rEqD K (.ref a) (.ref b) H Q :=
  r_eqD (.tup (SqT.of h1) (dpI ns)) (.tup (SqT.of h2) (dpI ns)) sh_tupI sh_tupI (by rw [eqv_same sh_tupI]; exact h)
theorem ne_tupI (h1 : H a = some (.tup (ns.map V.int))) (h2 : H b = some (.tup (ns.map V.int))) (h : Q (.bl false) H) : rNeD K (.ref a) (.ref b) H Q :=
  r_neD (.tup (SqT.of h1) (dpI ns)) (.tup (SqT.of h2) (dpI ns)) sh_tupI sh_tupI (by rw [eqv_same sh_tupI]; exact h)
theorem eq_lstI (h1 : H a = some (.lst (ns.map V.int))) (h2 : H b = some (.lst (ns.map V.int))) (h : Q (.bl true) H) : rEqD K (.ref a) (.ref b) H Q :=
  r_eqD (.lst (SqL.of h1) (dpI ns)) (.lst (SqL.of h2) (dpI ns)) sh_lstI sh_lstI (by rw [eqv_same sh_lstI]; exact h)
theorem ne_lstI (h1 : H a = some (.lst (ns.map V.int))) (h2 : H b = some (.lst (ns.map V.int))) (h : Q (.bl false) H) : rNeD K (.ref a) (.ref b) H Q :=
  r_neD (.lst (SqL.of h1) (dpI ns)) (.lst (SqL.of h2) (dpI ns)) sh_lstI sh_lstI (by rw [eqv_same sh_lstI]; exact h)
/-- any two values that read the same -/
theorem ne_same {x y : V} {d : PyData} (hx : Dp K H x d) (hy : Dp K H y d) (hs : SeqAt.shaped d = true) (h : Q (.bl false) H) : rNeD K x y H Q :=
  r_neD hx hy hs hs (by rw [eqv_same hs]; exact h)
theorem eq_same {x y : V} {d : PyData} (hx : Dp K H x d) (hy : Dp K H y d) (hs : SeqAt.shaped d = true) (h : Q (.bl true) H) : rEqD K x y H Q :=
  r_eqD hx hy hs hs (by rw [eqv_same hs]; exact h)
end
end Me

/-! Sw: comparisons by own defs, data that are less, texts turned round. -/
namespace Sw
open PySem PySem.Spec PyProof.Rows L2 Sx Sy
open Sem (wp)
section
variable {X : Cx}
/-! ### less, for data -/
def qLtD (K : PySem.W.Frag) : R2 := fun x y H Q => ∃ d e, Dp K H x d ∧ Dp K H y e ∧ PySem.W.alike d e = true ∧ d ≠ .none ∧ d.depth ≤ 60 ∧ Q (.bl (PySem.W.dataLt d e)) H
theorem op_ltD (hu : X.A.units + 64 < cLine) : OpR X (compareOp .Lt) (qLtD X.K) := by
  intro pins s σ H x y v u Q I rx ry h
  obtain ⟨d, e, hd, he, al, nn, dp, q⟩ := h
  obtain ⟨as, h1⟩ := Dp.reads I d x v hd rx
  obtain ⟨bs, h2⟩ := Dp.reads I e y u he ry
  have room : X.A.units + min d.depth e.depth < cLine := by
    have := Nat.min_le_left d.depth e.depth
    omega
  exact PySem.W.rcLt_alike d e X.A s v u as bs h1 h2 al nn room X.prog X.w X.xe _ ⟨.bl _, H, I, rfl, q⟩
theorem r_ltD {K : PySem.W.Frag} {x y : V} {d e : PyData} {H : Hp} {Q : VK} (hx : Dp K H x d) (hy : Dp K H y e) (al : PySem.W.alike d e = true) (nn : d ≠ .none) (dp : d.depth ≤ 60) (h : Q (.bl (PySem.W.dataLt d e)) H) : qLtD K x y H Q := ⟨d, e, hx, hy, al, nn, dp, h⟩
/-! ### text[::-1] -/
def tBack (te : TE) : TE := fun σ H Q => te σ H fun x H1 => ∃ l : List Nat, x = .str ⟨l.toArray⟩ ∧ l.length ≤ 100000 ∧ Q (.str ⟨l.reverse.toArray⟩) H1
theorem picked_back (l : List Nat) : (Builtin.Str.strSliceIndices none none (-1) (⟨l.toArray⟩ : Str).length).filterMap ((⟨l.toArray⟩ : Str).cps[·]?) = l.reverse := by
  have e : (⟨l.toArray⟩ : Str).length = l.length := by simp [Str.length]
  rw [e, picked_rev]
  apply List.ext_getElem?
  intro i
  rw [filterMap_get _ _ (by
    intro j hj
    obtain ⟨k, hk, rfl⟩ := List.mem_map.mp hj
    have := List.mem_range.mp hk
    simp; omega), List.map_map, List.getElem?_map]
  by_cases h : i < l.length
  · rw [List.getElem?_range h, List.getElem?_reverse h]
    have h2 : l.length - 1 - i < l.length := by omega
    simp [Array.getD, h2]
  · rw [List.getElem?_eq_none (by simpa using h), List.getElem?_eq_none (by simpa using h)]; rfl
theorem pe_revS {e : Expr} {te : TE} {k : Nat} {p1 p2 p3 pos : Pos} (he : PE X e te) : PE X (.Subscript e (.Slice none none (some (.UnaryOp .USub (.Constant (.int 1) k p1) p2)) p3) pos) (tBack te) := by
  constructor
  intro pins s σ H Q I h
  refine Subscript_ (thn (he.run pins s σ H _ I h) ?_)
  rintro v s1 ⟨x, H1, I1, r1, l, rfl, hl, q⟩
  obtain ⟨t, rfl⟩ := r1
  have step : PO X (some (.UnaryOp .USub (.Constant (.int 1) k p1) p2)) (tPart (tUn (rU fun i => .int (-i)) (tC (.int 1)))) := po_some (pe_un un_neg pe_int)
  refine wpAny_Slice (thn (po_none.run pins s1 σ H1 (fun o H2 => o = none ∧ H2 = H1) I1 ⟨rfl, rfl⟩) ?_)
  rintro v1 s2 ⟨o1, H2, I2, w1, rfl, rfl⟩
  refine thn (po_none.run pins s2 σ H2 (fun o H3 => o = none ∧ H3 = H2) I2 ⟨rfl, rfl⟩) ?_
  rintro v2 s3 ⟨o2, H3, I3, w2, rfl, rfl⟩
  refine thn (step.run pins s3 σ H3 (fun o H4 => o = some (-1) ∧ H4 = H3) I3 ⟨1, rfl, -1, rfl, rfl, rfl⟩) ?_
  rintro v3 s4 ⟨o3, H4, I4, w3, rfl, rfl⟩
  obtain ⟨b1, rfl, e1⟩ := IsPart.raw w1
  obtain ⟨b2, rfl, e2⟩ := IsPart.raw w2
  obtain ⟨b3, rfl, e3⟩ := IsPart.raw w3
  have n1 : b1 = none := Option.map_eq_none_iff.mp e1
  have n2 : b2 = none := Option.map_eq_none_iff.mp e2
  obtain ⟨⟨i3, t3⟩, rfl, e4⟩ := Option.map_eq_some_iff.mp e3
  subst n1 n2
  obtain rfl : i3 = -1 := e4
  have I5 : Inv X pins σ H4 { s4 with heap := s4.heap.push { cls := .type "slice", data := .fields #[partValue none, partValue none, partValue (some (-1, t3))] } } := I4.kept (t' := s4.toks) fun b ob z => Heap.get?_push_of_some _ z
  refine tail_any (ops := [.str ⟨l.toArray⟩ t, .ref s4.heap.objs.size]) (typeIs_str _ _ _) F.slot_str_getitem.lookup ?_ (by with_unfolding_all rfl)
  refine wpAny_getItem_str_slice (l := none) (u := none) (st := some (-1, t3)) ⟨_, Heap.get?_push_size _ rfl, rfl, rfl⟩ rfl ?_
  have made : sliceMade ⟨l.toArray⟩ t none none (some (-1, t3)) = .str ⟨l.reverse.toArray⟩ := by
    unfold sliceMade slicePicked
    rw [if_neg (by intro z; rw [Bool.and_eq_true] at z; exact absurd (show ((-1 : Int) == 1) = true from z.1) (by decide))]
    show Made.str ⟨((Builtin.Str.strSliceIndices none none (-1) (⟨l.toArray⟩ : Str).length).filterMap ((⟨l.toArray⟩ : Str).cps[·]?)).toArray⟩ = _
    rw [picked_back]
  rw [made]
  refine ⟨?_, .str _, H4, I5.tok _, ⟨_, rfl⟩, q⟩
  show l.reverse.toArray.size ≤ _
  rw [List.size_toArray, List.length_reverse, sizeLine_eq]; omega
theorem r_back {te : TE} {σ : L2.St} {H : Hp} {Q : VK} (h : te σ H fun x H1 => ∃ l : List Nat, x = .str ⟨l.toArray⟩ ∧ l.length ≤ 100000 ∧ Q (.str ⟨l.reverse.toArray⟩) H1) : tBack te σ H Q := h
/-! ### x == y, x < y by an own def -/
def qOwn (C : Addr) (sp : Sp) : R2 := fun x y H Q => ∃ a dx fs b dy gs, x = .ref a ∧ y = .ref b ∧ H a = some (.ins C dx fs) ∧ H b = some (.ins C dy gs) ∧ sp [x, y] H Q C8.E0
/-- what a class's own comparisons stand on -/
structure OwnOp (K : PySem.W.Frag) (C : Addr) (m : Str) (g : Addr) : Prop where
  at' : PySem.W.findIn K (.ref C) m = some (some (.ref g))
  fn : PySem.W.isFn K (.ref g) = true
variable {P : Program} {n : Nat} {sp : Sp} {C g : Addr} {fd : FuncData} {ps : List Str}
theorem op_own {op : CmpOp} (hop : ∀ a b, compareOp op a b = richCompare op a b) (o : OwnOp X.K C (cmpInfo op).2.1 g) (F : FnOk X.prog X.w X.K X.mg X.base C8.CX0 n g fd ps sp) (hr : Room n X.A) (bd : Binds X.K fd ps []) : OpR X (compareOp op) (qOwn C sp) := by
  intro pins s σ H x y v u Q I rx ry h
  obtain ⟨a, dx, fs, b, dy, gs, rfl, rfl, ha, hb, q⟩ := h
  obtain rfl : v = .ref a := rx
  obtain rfl : u = .ref b := ry
  obtain ⟨mA, J, _⟩ := ins_get I.hok ha
  obtain ⟨mB, J2, _⟩ := ins_get I.hok hb
  obtain ⟨od, J, _⟩ := J.look
  obtain ⟨od2, J2, _⟩ := J2.look
  obtain ⟨m, fr⟩ := I.fr
  rw [hop]
  refine PySem.W.cmp_K (op := op) (tb := .ref C) hr.units0 fr I.ok.mod.kin J J2.type (by simp [PySem.W.notFirst]) o.at' o.fn ?_
  have len := F.len _ _ _ _ q
  have both : Vals [V.ref a, V.ref b] [Value.ref a, Value.ref b] := .cons rfl (.cons rfl .nil)
  have bind := bd s [.ref a, .ref b] I.kIn (by simpa using len)
  refine wpAny_call (codeAny_mono (F.run X.A X.stack s H ⟨[.ref a, .ref b], []⟩ [.ref a, .ref b] [.ref a, .ref b] Q C8.E0 hr I.env0 (by simpa using bind) both q) ?_)
  intro r s2 hq
  cases r with
  | error e => exact False.elim hq
  | ok fl =>
    cases fl with
    | ret z =>
      obtain ⟨v, H2, I2, rz, qz⟩ := I.after hq
      exact SlX.cmpback rz ⟨v, H2, I2, rz, qz⟩
    | next => exact hq.elim
    | brk => exact hq.elim
    | cont => exact hq.elim
end
end Sw
namespace Sw
open PySem PySem.Spec PyProof.Rows L2 Sx Sy
/-! ### x != y by an own == -/
section
variable {M : Model} {prog : Program} {w : World} {A : Around} {E : Value → Shared → Prop} {s : Shared} {K : PySem.W.Frag} {x C : Addr} {ox : Obj} {od : Option Obj}
theorem bound_ne {args : List Value} {Q : Option Value → Shared → Prop} (X : K.In s.heap) (I : PySem.W.InstAt s.heap x ox C od) (hs : PySem.W.findIn K (.ref C) "__ne__" = some (some (.builtin "object.__ne__")))
    (h : wpAny M A (call (.builtin "object.__ne__") (.ref x :: args)) (fun v => Q (some v)) E s) : wpAny M A (callSpecialIfBound? (.ref x) "__ne__" args) Q E s := by
  have last : wpAny M A (call (.builtin "object.__ne__") ([.ref x] ++ args) >>= fun v => pure (some v)) Q E s := wpAny_bind (wpAny_mono h (fun v s2 h2 => wpAny_pure h2) fun _ _ e => e)
  simp only [callSpecialIfBound?, bindSpecialIfBound?]
  apply wpAny_holding
  refine wpAny_bind (wpAny_bind (wpAny_bind (I.type.here ((PySem.W.looks_findIn X hs).here ?_))))
  apply wpAny_bind
  refine wpAny_askSetting (wpAny_ite ?_)
  split
  · exact wpAny_bind (wpAny_of_eq (F.cmp_object.ne.bind _) (wpAny_pure (by exact last)))
  · exact wpAny_tryCatch (wpAny_bind (wpAny_of_eq (F.cmp_object.ne.bind _) (wpAny_pure (by exact last))))
theorem call_ne {f : Addr} {b : Value} {Q : Value → Shared → Prop} (X : K.In s.heap) (I : PySem.W.InstAt s.heap x ox C od) (hm : PySem.W.mroIn K C (.type "object") = some true) (hu : A.in1.units < cLine)
    (hs : PySem.W.findIn K (.ref C) "__eq__" = some (some (.ref f))) (hf : PySem.W.isFn K (.ref f) = true)
    (h : wpAny (model prog w) A.in1 (call (.ref f) [.ref x, b]) (fun v s' => ∃ k, v = .bool k ∧ Q (.bool (!k)) s') E s) : wpAny (model prog w) A (call (.builtin "object.__ne__") [.ref x, b]) Q E s := by
  refine wpAny_call (codeAny_call_builtin F.cmp_object.ne.plain F.cmpEntry_ne (PySem.W.check_slot F.cmpKind_ne F.cmpSplit_ne (I.type.andThen (PySem.W.looks_mroIn X hm)) (F.cmpArgs_ne _ _) ?_))
  unfold Builtin.«object.__ne__»
  refine wpAny_bind (m := slotArgs "__ne__" 1 ⟨[.ref x, b], []⟩) (wpAny_of_eq (a := (Value.ref x, [b])) rfl ?_)
  show wpAny _ _ (cRoomFor "comparison" [.ref x, b] >>= _) _ _ _
  refine wpAny_bind (wpAny_cRoomFor hu ?_)
  show wpAny _ _ (callSpecialIfBound? (.ref x) "__eq__" [b] >>= _) _ _ _
  refine wpAny_bind (PySem.W.ifBound_K X I hs hf (wpAny_mono h ?_ fun _ _ e => e))
  rintro v s2 ⟨k, rfl, hq⟩
  refine wpAny_bind (wpAny_truthy_bool ?_)
  exact wpAny_pure hq
end
end Sw
namespace Sw
open PySem PySem.Spec PyProof.Rows L2 Sx Sy
section
variable {prog : Program} {w : World} {A : Around} {E : Value → Shared → Prop} {s : Shared} {K : PySem.W.Frag} {x y C : Addr} {ox oy : Obj} {od oe : Option Obj} {b : Value}
theorem differ {f : Addr} {Q : Value → Shared → Prop} (hu : A.in1.units < cLine) (hu0 : A.units < cLine) (X : K.In s.heap) (I : PySem.W.InstAt s.heap x ox C od) (J : PySem.W.InstAt s.heap y oy C oe) (hm : PySem.W.mroIn K C (.type "object") = some true)
    (hn : PySem.W.findIn K (.ref C) "__ne__" = some (some (.builtin "object.__ne__"))) (hs : PySem.W.findIn K (.ref C) "__eq__" = some (some (.ref f))) (hf : PySem.W.isFn K (.ref f) = true)
    (h : wpAny (model prog w) A.in1 (call (.ref f) [.ref x, .ref y]) (fun v s' => ∃ k, v = .bool k ∧ Q (.bool (!k)) s') E s) : wpAny (model prog w) A (richCompare .NotEq (.ref x) (.ref y)) Q E s := by
  have try1 : wpAny (model prog w) A (tryCompare (.ref x) "__ne__" (.ref y)) (fun r s' => ∃ k : Bool, r = some (.bool k) ∧ Q (.bool k) s') E s := by
    have t : wpAny (model prog w) A (call (.builtin "object.__ne__") [.ref x, .ref y]) (fun v s' => ∃ k : Bool, v = .bool k ∧ Q (.bool k) s') E s := by
      refine call_ne X I hm hu hs hf (wpAny_mono h ?_ fun _ _ e => e)
      rintro v s2 ⟨k, rfl, q⟩
      exact ⟨k, rfl, !k, rfl, q⟩
    unfold tryCompare
    refine wpAny_bind (bound_ne X I hn (wpAny_mono t ?_ fun _ _ e => e))
    rintro v s2 ⟨k, rfl, q⟩
    exact wpAny_pure ⟨k, rfl, q⟩
  unfold richCompare
  simp only [oneThing_ref]
  apply wpAny_holding
  refine wpAny_bind (wpAny_cRoomFor hu0 ?_)
  refine wpAny_bind (I.type.here (wpAny_bind (J.type.here ?_)))
  split
  · rename_i q
    exact absurd q (by simp)
  · apply wpAny_bind
    apply wpAny_pure
    simp only [Bool.false_eq_true, if_false]
    refine wpAny_bind (wpAny_mono try1 ?_ fun _ _ e => e)
    rintro r s2 ⟨k, rfl, q⟩
    exact wpAny_pure q
end
section
variable {X : Cx} {n : Nat} {sp : Sp} {C g : Addr} {fd : FuncData} {ps : List Str}
def qOwnNe (C : Addr) (sp : Sp) : R2 := fun x y H Q => ∃ a dx fs b dy gs, x = .ref a ∧ y = .ref b ∧ H a = some (.ins C dx fs) ∧ H b = some (.ins C dy gs) ∧ sp [x, y] H (fun z H' => ∃ k, z = .bl k ∧ Q (.bl (!k)) H') C8.E0
theorem op_ownNe (o : OwnOp X.K C "__eq__" g) (hm : PySem.W.mroIn X.K C (.type "object") = some true) (hn : PySem.W.findIn X.K (.ref C) "__ne__" = some (some (.builtin "object.__ne__")))
    (F : FnOk X.prog X.w X.K X.mg X.base C8.CX0 n g fd ps sp) (hr : Room (n + 1) X.A) (bd : Binds X.K fd ps []) : OpR X (compareOp .NotEq) (qOwnNe C sp) := by
  intro pins s σ H x y v u Q I rx ry h
  obtain ⟨a, dx, fs, b, dy, gs, rfl, rfl, ha, hb, q⟩ := h
  obtain rfl : v = .ref a := rx
  obtain rfl : u = .ref b := ry
  obtain ⟨mA, J, _⟩ := ins_get I.hok ha
  obtain ⟨mB, J2, _⟩ := ins_get I.hok hb
  obtain ⟨od, J, _⟩ := J.look
  obtain ⟨od2, J2, _⟩ := J2.look
  refine differ hr.in1.units0 hr.units0 I.kIn J J2 hm hn o.at' o.fn ?_
  have len := F.len _ _ _ _ q
  have both : Vals [V.ref a, V.ref b] [Value.ref a, Value.ref b] := .cons rfl (.cons rfl .nil)
  have bind := bd s [.ref a, .ref b] I.kIn (by simpa using len)
  refine wpAny_call (codeAny_mono (F.run X.A.in1 X.stack s H ⟨[.ref a, .ref b], []⟩ [.ref a, .ref b] [.ref a, .ref b] _ C8.E0 hr.in1 I.env0.in1 (by simpa using bind) both q) ?_)
  intro r s2 hq
  cases r with
  | error e => exact False.elim hq
  | ok fl =>
    cases fl with
    | ret z =>
      obtain ⟨v, H2, I2, rz, k, rfl, qz⟩ := I.after hq
      obtain rfl : z = .bool k := rz
      exact ⟨k, rfl, .bl (!k), H2, I2, rfl, qz⟩
    | next => exact hq.elim
    | brk => exact hq.elim
    | cont => exact hq.elim
end
end Sw

/-! Sz: zip over three tuples. -/
namespace Sw
open PySem PySem.Spec PyProof.Rows L2 Sx Sy
open Sem (wp)
/-- the tuples at a, b, c side by side, their items in new triples -/
def It3 (K : PySem.W.Frag) (a b c : Addr) : It :=
  ⟨fun i H => ∃ (xs ys zs : List V) (x y z : V), SqT K H a xs ∧ SqT K H b ys ∧ SqT K H c zs ∧ xs[i]? = some x ∧ ys[i]? = some y ∧ zs[i]? = some z,
   fun i H v H2 => ∃ p x y z, v = V.ref p ∧ H p = none ∧ H2 = upd H p (.tup [x, y, z]) ∧ (∀ xs, SqT K H a xs → xs[i]? = some x) ∧ (∀ ys, SqT K H b ys → ys[i]? = some y) ∧ (∀ zs, SqT K H c zs → zs[i]? = some z),
   fun i H => ∃ xs ys zs : List V, SqT K H a xs ∧ SqT K H b ys ∧ SqT K H c zs ∧ i = min (min xs.length ys.length) zs.length⟩
def At3 (N a b c : Nat) (i : Nat) (h : Heap) : Prop :=
  IsZip h (N + 5 : Nat) (N + 3 : Nat) (N + 4 : Nat) .none ∧ IsTupOf3 h (N + 3 : Nat) (.ref N) (.ref (N + 1 : Nat)) (.ref (N + 2 : Nat)) ∧ (∃ a1 a2 a3, IsTupOf3 h (N + 4 : Nat) a1 a2 a3) ∧ h.IsTupleIter N a i ∧ h.IsTupleIter (N + 1 : Nat) b i ∧ h.IsTupleIter (N + 2 : Nat) c i
def six (N : Nat) : List Addr := [(N + 5 : Nat), (N + 3 : Nat), (N + 4 : Nat), N, (N + 1 : Nat), (N + 2 : Nat)]
theorem six_mem {N : Nat} {b : Addr} : b ∈ six N ↔ b = N + 5 ∨ b = N + 3 ∨ b = N + 4 ∨ b = N ∨ b = N + 1 ∨ b = N + 2 := by unfold six; simp
section
variable {P : Program} {w : World} {K : PySem.W.Frag}
theorem walks3 {A : Around} (hh : A.handled = none) (N a b c : Nat) (ha : a < N) (hb : b < N) (hc : c < N) (xs ys zs : Array Value) :
    WalksT P w A (N + 5 : Nat) ((N + 5 : Nat) :: (N + 3 : Nat) :: (N + 4 : Nat) :: ([N, a] ++ [(N + 1 : Nat), b] ++ [(N + 2 : Nat), c])) [(N + 5 : Nat), (N + 4 : Nat), N, (N + 1 : Nat), (N + 2 : Nat)] (min (min xs.size ys.size) zs.size)
      (fun i vals => ∃ x1 x2 x3, xs[i]? = some x1 ∧ ys[i]? = some x2 ∧ zs[i]? = some x3 ∧ vals = #[x1, x2, x3])
      (fun i h => IsZip h (N + 5 : Nat) (N + 3 : Nat) (N + 4 : Nat) .none ∧ IsTupOf3 h (N + 3 : Nat) (.ref N) (.ref (N + 1 : Nat)) (.ref (N + 2 : Nat)) ∧ (∃ a1 a2 a3, IsTupOf3 h (N + 4 : Nat) a1 a2 a3) ∧ (h.IsTupleIter N a i ∧ h.IsTuple a xs) ∧ (h.IsTupleIter (N + 1 : Nat) b i ∧ h.IsTuple b ys) ∧ (h.IsTupleIter (N + 2 : Nat) c i ∧ h.IsTuple c zs))
      (fun i T h => IsZip h (N + 5 : Nat) (N + 3 : Nat) (N + 4 : Nat) (rawInt T) ∧ IsTupOf3 h (N + 3 : Nat) (.ref N) (.ref (N + 1 : Nat)) (.ref (N + 2 : Nat)) ∧ (∃ a1 a2 a3, IsTupOf3 h (N + 4 : Nat) a1 a2 a3) ∧ (h.IsTupleIter N a (i + 1) ∧ h.IsTuple a xs) ∧ (h.IsTupleIter (N + 1 : Nat) b (i + 1) ∧ h.IsTuple b ys) ∧ (h.IsTupleIter (N + 2 : Nat) c (i + 1) ∧ h.IsTuple c zs) ∧ T ≠ (N + 5 : Nat) ∧ T ≠ (N + 4 : Nat) ∧ T ≠ N ∧ T ≠ (N + 1 : Nat) ∧ T ≠ (N + 2 : Nat)) := by
  have D1 := Draws.tuple (prog := P) (w := w) (A := A.in1) hh N a (Nat.ne_of_lt ha) xs
  have D2 := Draws.tuple (prog := P) (w := w) (A := A.in1) hh (N + 1 : Nat) b (show (b : Nat) ≠ N + 1 by omega) ys
  have D3 := Draws.tuple (prog := P) (w := w) (A := A.in1) hh (N + 2 : Nat) c (show (c : Nat) ≠ N + 2 by omega) zs
  have sep := zip_sep3 (N := N) (fp1 := [a]) (fp2 := [b]) (fp3 := [c]) (by intro q m; cases List.mem_singleton.mp m; exact ha) (by intro q m; cases List.mem_singleton.mp m; exact hb) (by intro q m; cases List.mem_singleton.mp m; exact hc)
  exact WalksT.zipD3 sep D1 D2 D3
theorem turn_zip3 {tgs : List Expr} {q : Nat} {at' : Pos} {N a b c : Nat} (ha : a < N) (hb : b < N) (hc : c < N) :
    Turn P w K (.Tuple tgs q at') (It3 K a b c) (six N) (N + 5 : Nat) (fun i g => At3 N a b c i g) where
  mem := List.mem_cons_self ..
  obj := fun i g ⟨x1, x2, ⟨a1, a2, a3, x3⟩, x4, x5, x6⟩ e m => by
    have it : ∀ e t : Addr, g.IsTupleIter e t i → ∃ o, g.get? e = some o ∧ ∀ v, o.data ≠ .cell v := fun e t z => by
      obtain ⟨ob, y1, y2, y3⟩ := z
      exact ⟨ob, y1, fun v z => by rw [y3] at z; exact nomatch z⟩
    rcases six_mem.mp m with rfl | rfl | rfl | rfl | rfl | rfl
    · exact ⟨_, x1, nofun⟩
    · exact ⟨_, x2, nofun⟩
    · exact ⟨_, x3, nofun⟩
    · exact it _ _ x4
    · exact it _ _ x5
    · exact it _ _ x6
  keep := fun i g g' ⟨x1, x2, ⟨a1, a2, a3, x3⟩, x4, x5, x6⟩ same =>
    ⟨same _ (six_mem.mpr (by simp)) _ x1, same _ (six_mem.mpr (by simp)) _ x2, ⟨a1, a2, a3, same _ (six_mem.mpr (by simp)) _ x3⟩, x4.at fun ob z => same _ (six_mem.mpr (by simp)) ob z, x5.at fun ob z => same _ (six_mem.mpr (by simp)) ob z, x6.at fun ob z => same _ (six_mem.mpr (by simp)) ob z⟩
  item := by
    rintro X rfl rfl rfl calm i pins s σ H E I free st ⟨xs, ys, zs, x, y, z, h1, h2, h3, g1, g2, g3⟩
    obtain ⟨x1, x2, x3, x4, x5, x6⟩ := st
    obtain ⟨us, r1, t1, _⟩ := I.tuple h1
    obtain ⟨vs, r2, t2, _⟩ := I.tuple h2
    obtain ⟨ws, r3, t3, _⟩ := I.tuple h3
    obtain ⟨u, hu, ru⟩ := r1.get g1
    obtain ⟨v, hv, rv⟩ := r2.get g2
    obtain ⟨o, ho, ro⟩ := r3.get g3
    have W := walks3 (P := X.prog) (w := X.w) (A := X.A) (I.ok.hd calm) N a b c ha hb hc us.toArray vs.toArray ws.toArray
    have lt : i < min (min us.toArray.size vs.toArray.size) ws.toArray.size := by
      obtain ⟨l1, _⟩ := List.getElem?_eq_some_iff.mp hu
      obtain ⟨l2, _⟩ := List.getElem?_eq_some_iff.mp hv
      obtain ⟨l3, _⟩ := List.getElem?_eq_some_iff.mp ho
      simp only [List.size_toArray]; omega
    refine W.item i s _ _ lt ⟨x1, x2, x3, ⟨x4, t1⟩, ⟨x5, t2⟩, x6, t3⟩ ?_
    rintro T vals g tk ⟨b1, b2, b3, c1, c2, c3, rfl⟩ big tup mid others
    have e1 : b1 = u := by rw [List.getElem?_toArray, hu] at c1; exact (Option.some.inj c1).symm
    have e2 : b2 = v := by rw [List.getElem?_toArray, hv] at c2; exact (Option.some.inj c2).symm
    have e3 : b3 = o := by rw [List.getElem?_toArray, ho] at c3; exact (Option.some.inj c3).symm
    subst e1 e2 e3
    refine ⟨_, rfl, W.go tgs q at' i T { s with heap := g, toks := tk } _ _ mid ?_⟩
    rintro gg ⟨k1, k2, k3, ⟨k4, _⟩, ⟨k5, _⟩, k6, _⟩ others2
    have sub : ∀ e, e ∈ [((N + 5 : Nat) : Addr), (N + 4 : Nat), N, (N + 1 : Nat), (N + 2 : Nat)] → e ∈ six N := by
      intro e m
      rw [six_mem]
      simp only [List.mem_cons, List.not_mem_nil, or_false] at m
      rcases m with rfl | rfl | rfl | rfl | rfl <;> simp
    have apart := W.apart i T g mid
    obtain ⟨ot, d1, d2, d3⟩ := tup
    obtain ⟨slots, d3⟩ := d3
    have new : ObjOk X.prog X.w (upd H T (.tup [x, y, z])) gg T (.tup [x, y, z]) :=
      ⟨by rw [sizeLine_eq]; exact (by decide : 3 ≤ 16777216), [b1, b2, b3], .cons ru (.cons rv (.cons ro .nil)), ⟨ot, others2 T ot apart d1, d2, slots, d3⟩⟩
    have I2 : Inv X pins σ (upd H T (.tup [x, y, z])) { s with heap := gg, toks := tk } := by
      refine I.turnedNew (ch := [((N + 5 : Nat) : Addr), (N + 4 : Nat), N, (N + 1 : Nat), (N + 2 : Nat)]) (fun e ob m w1 => others2 e ob m (others e ob m w1)) (fun e m => free e (sub e m)) big new
    refine ⟨.ref T, _, I2, rfl, ⟨T, x, y, z, rfl, I.hok.fresh big, rfl, ?_, ?_, ?_⟩, ⟨k1, k2, k3, k4, k5, k6⟩, ?_⟩
    · intro q1 q2; rw [I.tuple_inj q2 h1]; exact g1
    · intro q1 q2; rw [I.tuple_inj q2 h2]; exact g2
    · intro q1 q2; rw [I.tuple_inj q2 h3]; exact g3
    · intro e m
      have ne : e ≠ T := by
        rintro rfl
        have old : s.heap.get? e ≠ none := by
          rcases six_mem.mp m with rfl | rfl | rfl | rfl | rfl | rfl
          · rw [show s.heap.get? (N + 5 : Nat) = some _ from x1]; simp
          · rw [show s.heap.get? (N + 3 : Nat) = some _ from x2]; simp
          · obtain ⟨_, _, _, x3⟩ := x3
            rw [show s.heap.get? (N + 4 : Nat) = some _ from x3]; simp
          · obtain ⟨ob, y1, _⟩ := x4; rw [y1]; simp
          · obtain ⟨ob, y1, _⟩ := x5; rw [y1]; simp
          · obtain ⟨ob, y1, _⟩ := x6; rw [y1]; simp
        cases old' : s.heap.get? e with
        | none => exact old old'
        | some ob => exact absurd (Heap.lt_size old') (Nat.not_lt.mpr big)
      rw [upd_ne ne]
      exact (free e m).1
  done := by
    rintro X rfl rfl rfl calm i pins s σ H E I free ⟨x1, x2, x3, x4, x5, x6⟩ ⟨xs, ys, zs, h1, h2, h3, rfl⟩
    obtain ⟨us, r1, t1, _⟩ := I.tuple h1
    obtain ⟨vs, r2, t2, _⟩ := I.tuple h2
    obtain ⟨ws, r3, t3, _⟩ := I.tuple h3
    have W := walks3 (P := X.prog) (w := X.w) (A := X.A) (I.ok.hd calm) N a b c ha hb hc us.toArray vs.toArray ws.toArray
    have e1 : xs.length = us.toArray.size := by rw [List.size_toArray]; exact r1.length
    have e2 : ys.length = vs.toArray.size := by rw [List.size_toArray]; exact r2.length
    have e3 : zs.length = ws.toArray.size := by rw [List.size_toArray]; exact r3.length
    rw [e1, e2, e3] at x4 x5 x6
    refine W.done s _ _ ⟨x1, x2, x3, ⟨x4, t1⟩, ⟨x5, t2⟩, x6, t3⟩ ?_
    intro g tk others
    refine ⟨rfl, I.turnedL (ch := [((N + 5 : Nat) : Addr), (N + 4 : Nat), N, (N + 1 : Nat), (N + 2 : Nat)]) others fun e m => free e ?_⟩
    rw [six_mem]
    simp only [List.mem_cons, List.not_mem_nil, or_false] at m
    rcases m with rfl | rfl | rfl | rfl | rfl <;> simp
  self := fun A i s Q E ⟨x1, _⟩ h => wpAny_pyIter_zip x1 h
end
def iZip3 (K : PySem.W.Frag) (ta : TA) : TI := fun σ H R => ta σ H fun vs H1 => ∃ a b c xs ys zs, vs = [V.ref a, V.ref b, V.ref c] ∧ SqT K H1 a xs ∧ SqT K H1 b ys ∧ SqT K H1 c zs ∧ R (It3 K a b c) H1
theorem pi_zip3 {X : Cx} {e1 e2 e3 : Expr} {ta : TA} {p pos tpos : Pos} {tgs : List Expr} {q : Nat} (hg : Gl X "zip") (hm : X.mg "zip" = none) (ha : PA X [e1, e2, e3] ta)
    (na : starEach [e1, e2, e3] X.env = (false, eval e1 X.env) :: starEach [e2, e3] X.env := by rfl) (nb : (backTo pos (starEach [e2, e3] X.env)).any (·.1) = false := by rfl) :
    PI X (.Tuple tgs q tpos) (.Call (.Name "zip" p) [e1, e2, e3] [] pos) (iZip3 X.K ta) := by
  constructor
  intro pins s σ H R I h
  refine Call_ (ld_blt I hg hm PyProof.Rows.boot_zip (PyProof.Rows.callWith_type1 (thn (ha.run pos pins s σ H _ I h) ?_) na nb))
  rintro us s1 ⟨vs, H1, I1, rr, a, b, c, xs, ys, zs, rfl, h1, h2, h3, next⟩
  obtain ⟨u1, us, rfl⟩ : ∃ u t, us = u :: t := by cases rr; exact ⟨_, _, rfl⟩
  cases rr with | cons ra rr =>
  cases rr with | cons rb rr =>
  cases rr with | cons rc rr =>
  cases rr
  cases ra
  cases rb
  cases rc
  obtain ⟨l1, r1, t1, _⟩ := I1.tuple h1
  obtain ⟨l2, r2, t2, _⟩ := I1.tuple h2
  obtain ⟨l3, r3, t3, _⟩ := I1.tuple h3
  have below : ∀ {t : Addr} {vs : Array Value}, s1.heap.IsTuple t vs → t < s1.heap.objs.size := by
    rintro t vs ⟨ob, y1, _⟩
    exact Heap.lt_size y1
  refine zip_begins3 (begins_tuple a l1.toArray) (begins_tuple b l2.toArray) (begins_tuple c l3.toArray) t1 t2 t3 ?_
  intro g x1 x2 x3 y1 y2 y3 size same
  refine wpAny_pyIter_zip x1 ?_
  refine ⟨_, six s1.heap.objs.size, _, It3 X.K a b c, H1, rfl, I1.kept (t' := s1.toks) same, turn_zip3 (below t1) (below t2) (below t3), ⟨x1, x2, ⟨_, _, _, x3⟩, ⟨_, y1, rfl, rfl⟩, ⟨_, y2, rfl, rfl⟩, ⟨_, y3, rfl, rfl⟩⟩, ?_, next⟩
  intro e m
  have le : s1.heap.objs.size ≤ e := by
    rcases six_mem.mp m with rfl | rfl | rfl | rfl | rfl | rfl
    · exact Nat.le_add_right _ _
    · exact Nat.le_add_right _ _
    · exact Nat.le_add_right _ _
    · exact Nat.le_refl _
    · exact Nat.le_add_right _ _
    · exact Nat.le_add_right _ _
  exact I1.fpOk le (I1.hok.fresh le)
/-- a new triple -/
def YTri (xs ys zs : Nat → Option V) : Nat → Hp → V → Hp → Prop := fun i H v H2 => ∃ p x y z, v = V.ref p ∧ H p = none ∧ H2 = upd H p (.tup [x, y, z]) ∧ xs i = some x ∧ ys i = some y ∧ zs i = some z
theorem walk_zip3 {K : PySem.W.Frag} {a b c : Addr} {xs ys zs : List V} {n : Nat} (h1 : xs.length = n) (h2 : ys.length = n) (h3 : zs.length = n) : Walk (It3 K a b c) n (fun H => SqT K H a xs ∧ SqT K H b ys ∧ SqT K H c zs) (YTri (fun i => xs[i]?) (fun i => ys[i]?) (fun i => zs[i]?)) := by
  constructor
  · intro i H hi q
    exact ⟨xs, ys, zs, xs[i], ys[i], zs[i], q.1, q.2.1, q.2.2, List.getElem?_eq_getElem _, List.getElem?_eq_getElem _, List.getElem?_eq_getElem _⟩
  · intro H q
    exact ⟨xs, ys, zs, q.1, q.2.1, q.2.2, by omega⟩
  · rintro i H v H2 _ q ⟨p, x, y, z, rfl, k1, k2, k3, k4, k5⟩
    exact ⟨p, x, y, z, rfl, k1, k2, k3 xs q.1, k4 ys q.2.1, k5 zs q.2.2⟩
section
variable {σ : L2.St} {H : Hp} {Q : VK} {te : TE} {tt : TT} {tl : TA} {g : TG} {K : PySem.W.Frag} {vs : List Nat}
theorem r_lc3 (h : tl σ H fun us H1 => ∃ a b c xs ys zs, us = [V.ref a, V.ref b, V.ref c] ∧ SqT K H1 a xs ∧ SqT K H1 b ys ∧ SqT K H1 c zs ∧ LCW (It3 K a b c) g tt te vs σ H1 Q) : tLc (iZip3 K tl) g tt te vs σ H Q := h
end
end Sw

/-! Mw: words of two letters: levels, turns, periods, the lowest places. -/
namespace Mw
open PySem PySem.Builtin PySem.Builtin.Str
open SX (S)
/-! ### texts -/
theorem cnt_count (c : Nat) : ∀ l : List Nat, PyProof.Rows.cnt c l = (l.count c : Nat)
  | [] => rfl
  | n :: l => by
    rw [PyProof.Rows.cnt_cons, cnt_count c l, List.count_cons]
    by_cases h : n = c
    · subst h; simp [Int.add_comm]
    · simp [h]
theorem count_S (a : List Nat) (c : Nat) : Txt.count (S a) ⟨#[c]⟩ = (a.count c : Nat) := by
  rw [PyProof.Rows.count_is]; exact cnt_count c a
theorem sub_iff (a b : List Nat) (i : Nat) : subAt (S a) (S b) i = true ↔ (a.drop i).take b.length = b := by
  unfold subAt
  rw [beq_iff_eq, SX.S_len]
  constructor
  · intro h
    have h2 := congrArg Array.toList h
    rw [Array.toList_extract] at h2
    simpa [List.extract_eq_take_drop] using h2
  · intro h
    apply Array.toList_inj.mp
    rw [Array.toList_extract]
    simpa [List.extract_eq_take_drop] using h
theorem full_run (s sub : Str) (hi limit : Nat) : ∀ (l : List Nat) (st : Array Nat × Nat), limit ≤ st.fst.size → (forIn l st (StrLaws.occBody s sub hi limit)).run.fst = st.fst
  | [], st, h => rfl
  | a :: l, st, h => by
    rw [List.forIn_cons]
    unfold StrLaws.occBody
    rw [if_neg (by omega)]
    exact full_run s sub hi limit l (st.fst, st.snd) h
theorem first_run (s sub : Str) (hi k : Nat) (hk : k + sub.length ≤ hi) (hs : subAt s sub k = true) : ∀ (m cur free : Nat), free ≤ cur → cur ≤ k → k < cur + m → (∀ j, cur ≤ j → j < k → subAt s sub j = false) →
    (forIn (List.range' cur m) ((#[] : Array Nat), free) (StrLaws.occBody s sub hi 1)).run.fst = #[k]
  | 0, cur, free, _, _, h, _ => by omega
  | m + 1, cur, free, hf, hc, h, hn => by
    rw [List.range'_succ, List.forIn_cons]
    unfold StrLaws.occBody
    by_cases e : cur = k
    · subst e
      rw [if_pos ⟨⟨⟨by simp, hf⟩, hk⟩, hs⟩]
      exact full_run s sub hi 1 _ (#[cur], _) (Nat.le_refl 1)
    · rw [if_neg (fun z => by rw [hn cur (Nat.le_refl _) (by omega)] at z; exact absurd z.2 Bool.false_ne_true)]
      exact first_run s sub hi k hk hs m (cur + 1) free (by omega) (by omega) (by omega) fun j h1 h2 => hn j (by omega) h2
theorem find3_S {a b : List Nat} {lo k : Nat} (h1 : lo ≤ k) (h2 : k + b.length ≤ a.length) (h3 : (a.drop k).take b.length = b) (h4 : ∀ j, lo ≤ j → j < k → (a.drop j).take b.length ≠ b) : Txt.find3 (S a) (S b) (lo : Int) = k := by
  have hl : (S a).length = a.length := SX.S_len a
  have hb : (S b).length = b.length := SX.S_len b
  unfold Txt.find3
  have hlo : fromIndex (S a).length (lo : Int) = lo := by
    unfold fromIndex; omega
  rw [hlo, StrLaws.occ_eq]
  rw [first_run (S a) (S b) _ k (by rw [hb, hl]; exact h2) ((sub_iff a b k).mpr h3) _ lo lo (Nat.le_refl _) h1 (by rw [hl]; omega) fun j h5 h6 => by
    cases e : subAt (S a) (S b) j with
    | false => rfl
    | true => exact absurd ((sub_iff a b j).mp e) (h4 j h5 h6)]
/-! ### turns -/
def rot (k : Nat) (l : List Nat) : List Nat := l.drop k ++ l.take k
theorem rot_len {k : Nat} {l : List Nat} : (rot k l).length = l.length := by
  unfold rot; rw [List.length_append, List.length_drop, List.length_take]; omega
theorem rot_count {k c : Nat} {l : List Nat} : (rot k l).count c = l.count c := by
  unfold rot
  rw [List.count_append, Nat.add_comm, ← List.count_append, List.take_append_drop]
theorem rot_full {l : List Nat} : rot l.length l = l := by unfold rot; simp
theorem rot_zero {l : List Nat} : rot 0 l = l := by unfold rot; simp
theorem twice {l : List Nat} {k : Nat} (h : k ≤ l.length) : ((l ++ l).drop k).take l.length = rot k l := by
  unfold rot
  rw [List.drop_append_of_le_length h, List.take_append, List.take_of_length_le (by rw [List.length_drop]; omega), List.length_drop]
  congr 2; omega
/-- the letter at i, all around -/
def ring (l : List Nat) (i : Nat) : Option Nat := l[i % l.length]?
theorem rot_get {l : List Nat} {k i : Nat} (hk : k ≤ l.length) (hi : i < l.length) : (rot k l)[i]? = ring l (i + k) := by
  unfold rot ring
  by_cases h : i < l.length - k
  · rw [List.getElem?_append_left (by rw [List.length_drop]; exact h), List.getElem?_drop, Nat.mod_eq_of_lt (by omega), Nat.add_comm]
  · rw [List.getElem?_append_right (by rw [List.length_drop]; omega), List.length_drop, List.getElem?_take, if_pos (by omega)]
    congr 1
    rw [Nat.mod_eq_sub_mod (by omega), Nat.mod_eq_of_lt (by omega)]; omega
theorem ring_mod {l : List Nat} {i : Nat} : ring l (i % l.length) = ring l i := by unfold ring; rw [Nat.mod_mod]
theorem ring_add {l : List Nat} {i : Nat} : ring l (i + l.length) = ring l i := by unfold ring; rw [Nat.add_mod_right]
/-- turned by j it is itself: all letters all around come again after j -/
theorem rot_iff {l : List Nat} {j : Nat} (hj : j ≤ l.length) : rot j l = l ↔ ∀ i, ring l (i + j) = ring l i := by
  constructor
  · intro h i
    rcases Nat.eq_zero_or_pos l.length with e | e
    · have : l = [] := List.length_eq_zero_iff.mp e
      subst this; rfl
    · have hm := Nat.mod_lt i e
      rw [← ring_mod (i := i)]
      have e1 : ring l (i + j) = ring l (i % l.length + j) := by unfold ring; rw [Nat.mod_add_mod]
      rw [e1, ← rot_get hj hm, h]
      unfold ring; rw [Nat.mod_mod]
  · intro h
    apply List.ext_getElem?
    intro i
    by_cases hi : i < l.length
    · rw [rot_get hj hi, h]; unfold ring; rw [Nat.mod_eq_of_lt hi]
    · rw [List.getElem?_eq_none (by rw [rot_len]; omega), List.getElem?_eq_none (by omega)]
theorem ring_rot {l : List Nat} {p : Nat} (hp : p ≤ l.length) (i : Nat) : ring (rot p l) i = ring l (i + p) := by
  rcases Nat.eq_zero_or_pos l.length with e | e
  · have : l = [] := List.length_eq_zero_iff.mp e
    subst this; simp [rot, ring]
  · have hm := Nat.mod_lt i e
    show (rot p l)[i % (rot p l).length]? = _
    rw [rot_len, rot_get hp hm]
    unfold ring; rw [Nat.mod_add_mod]
theorem rot_rot_iff {l : List Nat} {p j : Nat} (hp : p ≤ l.length) (hj : j ≤ l.length) : rot j (rot p l) = rot p l ↔ rot j l = l := by
  rw [rot_iff (by rw [rot_len]; exact hj), rot_iff hj]
  constructor
  · intro h i
    rcases Nat.eq_zero_or_pos l.length with e | e
    · have : l = [] := List.length_eq_zero_iff.mp e
      subst this; rfl
    · have h2 := h (i + (l.length - p))
      rw [ring_rot hp, ring_rot hp, show i + (l.length - p) + j + p = (i + j) + l.length by omega, show i + (l.length - p) + p = i + l.length by omega, ring_add, ring_add] at h2
      exact h2
  · intro h i
    rw [ring_rot hp, ring_rot hp, show i + j + p = (i + p) + j by omega]
    exact h _
/-- k is the least number of letters, at least 1, by which l is turned into itself -/
def IsPer (l : List Nat) (k : Nat) : Prop := 1 ≤ k ∧ k ≤ l.length ∧ rot k l = l ∧ ∀ j, 1 ≤ j → j < k → rot j l ≠ l
theorem IsPer.unique {l : List Nat} {j k : Nat} (h : IsPer l j) (h' : IsPer l k) : j = k := by
  rcases Nat.lt_trichotomy j k with z | z | z
  · exact absurd h.2.2.1 (h'.2.2.2 j h.1 z)
  · exact z
  · exact absurd h'.2.2.1 (h.2.2.2 k h'.1 z)
theorem least {p : Nat → Prop} : ∀ n, p n → ∃ k, k ≤ n ∧ p k ∧ ∀ j, j < k → ¬ p j := by
  intro n
  induction n using Nat.strongRecOn with
  | _ n ih =>
    intro h
    by_cases e : ∃ j, j < n ∧ p j
    · obtain ⟨j, h1, h2⟩ := e
      obtain ⟨k, h3, h4, h5⟩ := ih j h1 h2
      exact ⟨k, by omega, h4, h5⟩
    · exact ⟨n, Nat.le_refl _, h, fun j h1 h2 => e ⟨j, h1, h2⟩⟩
theorem per_exists {l : List Nat} (h : 0 < l.length) : ∃ k, IsPer l k := by
  obtain ⟨k, h1, ⟨h2, h3⟩, h4⟩ := least (p := fun k => 1 ≤ k ∧ rot k l = l) l.length ⟨h, rot_full⟩
  exact ⟨k, h2, h1, h3, fun j h5 h6 h7 => h4 j h6 ⟨h5, h7⟩⟩
theorem per_find {l : List Nat} {k : Nat} (h : IsPer l k) : Txt.find3 (S (l ++ l)) (S l) 1 = k := by
  refine find3_S (lo := 1) h.1 (by rw [List.length_append]; have := h.2.1; omega) ?_ ?_
  · rw [twice h.2.1]; exact h.2.2.1
  · intro j h1 h2
    rw [twice (by have := h.2.1; omega)]
    exact h.2.2.2 j h1 h2
theorem per_rot {l : List Nat} {p k : Nat} (hp : p ≤ l.length) (h : IsPer l k) : IsPer (rot p l) k := by
  refine ⟨h.1, by rw [rot_len]; exact h.2.1, (rot_rot_iff hp h.2.1).mpr h.2.2.1, fun j h1 h2 h3 => ?_⟩
  exact h.2.2.2 j h1 h2 ((rot_rot_iff hp (by have := h.2.1; omega)).mp h3)
theorem ring_mul {l : List Nat} {k : Nat} (h : ∀ i, ring l (i + k) = ring l i) : ∀ q i, ring l (i + k * q) = ring l i
  | 0, i => by rw [Nat.mul_zero, Nat.add_zero]
  | q + 1, i => by rw [Nat.mul_succ, ← Nat.add_assoc, h, ring_mul h q]
theorem per_dvd {l : List Nat} {k : Nat} (h : IsPer l k) : k ∣ l.length := by
  have hk := (rot_iff h.2.1).mp h.2.2.1
  apply Nat.dvd_of_mod_eq_zero
  rcases Nat.eq_zero_or_pos (l.length % k) with e | e
  · exact e
  · exfalso
    have hlt := Nat.mod_lt l.length h.1
    refine h.2.2.2 _ e hlt ((rot_iff (Nat.mod_le _ _)).mpr fun i => ?_)
    rw [← ring_mul hk (l.length / k), Nat.add_assoc, Nat.mod_add_div, ring_add]
/-- how many of the first m letters all around are c -/
def upto (l : List Nat) (c : Nat) : Nat → Nat
  | 0 => 0
  | m + 1 => upto l c m + if ring l m = some c then 1 else 0
theorem upto_take (l : List Nat) (c : Nat) : ∀ m, m ≤ l.length → upto l c m = (l.take m).count c
  | 0, _ => by simp [upto]
  | m + 1, h => by
    have hm : m < l.length := h
    rw [upto, upto_take l c m (by omega), List.take_add_one, List.count_append]
    unfold ring
    rw [Nat.mod_eq_of_lt hm, List.getElem?_eq_getElem hm]
    congr 1
    by_cases e : l[m] = c
    · simp [e]
    · simp [e]
theorem upto_add {l : List Nat} {c k : Nat} (h : ∀ i, ring l (i + k) = ring l i) : ∀ m, upto l c (m + k) = upto l c k + upto l c m
  | 0 => by rw [Nat.zero_add]; rfl
  | m + 1 => by
    rw [show m + 1 + k = (m + k) + 1 by omega, upto, upto_add h m, h, upto]; omega
theorem upto_mul {l : List Nat} {c k : Nat} (h : ∀ i, ring l (i + k) = ring l i) : ∀ q, upto l c (q * k) = q * upto l c k
  | 0 => by rw [Nat.zero_mul, Nat.zero_mul]; rfl
  | q + 1 => by rw [Nat.add_mul, Nat.one_mul, upto_add h, upto_mul h q, Nat.add_mul]; omega
theorem per_count {l : List Nat} {c k : Nat} (h : IsPer l k) : (l.length / k) ∣ l.count c := by
  have hk := (rot_iff h.2.1).mp h.2.2.1
  have e : upto l c l.length = l.count c := by rw [upto_take l c _ (Nat.le_refl _), List.take_length]
  obtain ⟨q, hq⟩ := per_dvd h
  rw [← e, hq, Nat.mul_div_cancel_left _ h.1, Nat.mul_comm k q, upto_mul hk]
  exact Nat.dvd_mul_right _ _
/-! ### levels -/
/-- the level behind all letters -/
def lev (a b : Nat) (l : List Nat) : Int := (b : Int) * (l.count 114 : Nat) - (a : Int) * (l.length - l.count 114 : Nat)
theorem lev_nil {a b : Nat} : lev a b [] = 0 := by simp [lev]
theorem cnt_le (l : List Nat) : l.count 114 ≤ l.length := List.count_le_length
theorem lev_append {a b : Nat} (u v : List Nat) : lev a b (u ++ v) = lev a b u + lev a b v := by
  have h1 := cnt_le u
  have h2 := cnt_le v
  unfold lev
  rw [List.count_append, List.length_append, Int.ofNat_sub (by omega), Int.ofNat_sub h1, Int.ofNat_sub h2]
  push_cast
  rw [Int.mul_add, Int.mul_sub, Int.mul_sub, Int.mul_sub, Int.mul_add, Int.mul_add]; omega
theorem lev_one {a b c : Nat} : lev a b [c] = if c = 114 then (b : Int) else -(a : Int) := by
  unfold lev
  by_cases h : c = 114
  · subst h; simp
  · simp [h]
theorem lev_snoc {a b c : Nat} {u : List Nat} : lev a b (u ++ [c]) = lev a b u + if c = 114 then (b : Int) else -(a : Int) := by rw [lev_append, lev_one]
theorem lev_take {a b c i : Nat} {l : List Nat} (h : l[i]? = some c) : lev a b (l.take (i + 1)) = lev a b (l.take i) + if c = 114 then (b : Int) else -(a : Int) := by
  rw [List.take_add_one, h]; exact lev_snoc
theorem lev_abs {a b : Nat} {l : List Nat} (ha : a ≤ 60) (hb : b ≤ 60) (hl : l.length ≤ 1000) : (lev a b l).natAbs ≤ 60000 := by
  have h1 := cnt_le l
  have h2 : b * l.count 114 ≤ 60 * 1000 := Nat.mul_le_mul hb (by omega)
  have h3 : a * (l.length - l.count 114) ≤ 60 * 1000 := Nat.mul_le_mul ha (by omega)
  unfold lev
  rw [← Int.natCast_mul, ← Int.natCast_mul]; omega
/-- the levels ahead of all letters -/
def lvs (a b : Nat) (l : List Nat) : List Int := (List.range l.length).map fun i => lev a b (l.take i)
theorem lvs_len {a b : Nat} {l : List Nat} : (lvs a b l).length = l.length := by unfold lvs; simp
theorem lvs_get {a b i : Nat} {l : List Nat} (h : i < l.length) : (lvs a b l)[i]? = some (lev a b (l.take i)) := by
  unfold lvs; rw [List.getElem?_map, List.getElem?_range h]; rfl
/-- a word of a rises and b steps -/
def Wd (a b : Nat) (l : List Nat) : Prop := l.count 114 = a ∧ l.count 115 = b ∧ l.length = a + b
theorem Wd.rot {a b k : Nat} {l : List Nat} (h : Wd a b l) : Wd a b (rot k l) := ⟨by rw [rot_count]; exact h.1, by rw [rot_count]; exact h.2.1, by rw [rot_len]; exact h.2.2⟩
theorem lev_word {a b : Nat} {l : List Nat} (h : Wd a b l) : lev a b l = 0 := by
  unfold lev
  rw [h.1, h.2.2, show a + b - a = b by omega, Int.mul_comm]; omega
/-- levels of the turned word -/
theorem lvs_rot {a b p : Nat} {l : List Nat} (h : Wd a b l) (hp : p < l.length) :
    lvs a b (rot p l) = ((lvs a b l).drop p ++ (lvs a b l).take p).map fun x => x - lev a b (l.take p) := by
  apply List.ext_getElem?
  intro i
  have split : lev a b l = lev a b (l.take p) + lev a b (l.drop p) := by rw [← lev_append, List.take_append_drop]
  rw [lev_word h] at split
  by_cases hi : i < l.length
  · rw [lvs_get (by rw [rot_len]; exact hi), List.getElem?_map]
    unfold rot
    by_cases h1 : i < l.length - p
    · rw [List.getElem?_append_left (by rw [List.length_drop, lvs_len]; exact h1), List.getElem?_drop, lvs_get (by omega), List.take_append_of_le_length (by rw [List.length_drop]; omega)]
      show some _ = some _
      congr 1
      rw [List.take_add, lev_append]
      show lev a b ((l.drop p).take i) = lev a b (l.take p) + lev a b ((l.drop p).take i) - lev a b (l.take p)
      omega
    · rw [List.getElem?_append_right (by rw [List.length_drop, lvs_len]; omega), List.length_drop, lvs_len, List.getElem?_take, if_pos (by omega), lvs_get (by omega), List.take_append, List.take_of_length_le (by rw [List.length_drop]; omega), List.length_drop, List.take_take, lev_append]
      show some _ = some _
      congr 1
      rw [Nat.min_eq_left (by omega)]
      show lev a b (l.drop p) + lev a b (l.take (i - (l.length - p))) = lev a b (l.take (i - (l.length - p))) - lev a b (l.take p)
      omega
  · rw [List.getElem?_eq_none (by rw [lvs_len, rot_len]; omega), List.getElem?_eq_none (by rw [List.length_map, List.length_append, List.length_drop, List.length_take, lvs_len]; omega)]
/-- the places with the level m -/
def places (m : Int) : List Int → List Nat := fun ns => (List.range ns.length).filter fun i => decide (ns.getD i 0 = m)
theorem places_step {m : Int} {ns : List Int} {i : Nat} : (List.range (i + 1)).filter (fun i => decide (ns.getD i 0 = m)) = (List.range i).filter (fun i => decide (ns.getD i 0 = m)) ++ if ns.getD i 0 = m then [i] else [] := by
  rw [List.range_succ, List.filter_append]
  congr 1
  rw [List.filter_cons]
  by_cases h : ns.getD i 0 = m
  · rw [if_pos (decide_eq_true h), if_pos h]; rfl
  · rw [if_neg (by rw [decide_eq_false h]; exact Bool.false_ne_true), if_neg h]; rfl
theorem min_unique {ns : List Int} {m k : Int} (h1 : m ∈ ns) (h2 : ∀ y, y ∈ ns → m ≤ y) (h3 : k ∈ ns) (h4 : ∀ y, y ∈ ns → k ≤ y) : m = k := by
  have := h2 k h3; have := h4 m h1; omega
end Mw
namespace Mw
open PySem PySem.Builtin PySem.Builtin.Str L2
open SX (S)
theorem lit_r : ("r" : Str) = ⟨#[114]⟩ := by decide +kernel
theorem lit_s : ("s" : Str) = ⟨#[115]⟩ := by decide +kernel
theorem is_r {c : Nat} : ((⟨#[c]⟩ : Str) = ("r" : Str)) ↔ c = 114 := by
  rw [lit_r]
  constructor
  · intro h
    have := congrArg (fun x : Str => x.cps.toList) h
    simpa using this
  · rintro rfl; rfl
theorem is_s {c : Nat} : ((⟨#[c]⟩ : Str) = ("s" : Str)) ↔ c = 115 := by
  rw [lit_s]
  constructor
  · intro h
    have := congrArg (fun x : Str => x.cps.toList) h
    simpa using this
  · rintro rfl; rfl
theorem cut_from {a : List Nat} {i : Int} (h : 0 ≤ i) : cutS (S a) (some i) none = S (a.drop i.toNat) := by rw [C8.cutS_slice, SX.slice_from h]
theorem cut_to {a : List Nat} {i : Int} (h : 0 ≤ i) : cutS (S a) none (some i) = S (a.take i.toNat) := by rw [C8.cutS_slice, SX.slice_to h]
theorem S_get {l : List Nat} {i : Nat} : (S l).cps[i]? = l[i]? := by simp [S]
theorem S_size {l : List Nat} : (S l).cps.size = l.length := by simp [S]
theorem S_eq {a b : List Nat} : (S a = S b) ↔ a = b := ⟨SX.S_inj, fun h => by rw [h]⟩
theorem ints_snoc {ns : List Int} {i : Nat} {x : Int} (h : ns[i]? = some x) : (ns.take (i + 1)).map V.int = (ns.take i).map V.int ++ [V.int x] := by
  rw [List.take_add_one, h, List.map_append]; rfl
theorem lvs_snoc {a b i : Nat} {l : List Nat} (h : i < l.length) : ((lvs a b l).take (i + 1)).map V.int = ((lvs a b l).take i).map V.int ++ [V.int (lev a b (l.take i))] := ints_snoc (lvs_get h)
theorem r_slS {z : Str} {lo hi : Option Int} {H : Hp} {Q : VK} (h : Q (.str (cutS z lo hi)) H) (hz : z.length ≤ sizeLine) : rSlS (.str z) lo hi H Q := ⟨z, rfl, hz, h⟩
theorem small_S {l : List Nat} (h : l.length ≤ 1000) : (S l).length ≤ sizeLine := by rw [SX.S_len, sizeLine_eq]; omega
theorem small2 {a b : List Nat} (h : a.length + b.length ≤ 2000) : (S a).length + (S b).length ≤ sizeLine := by rw [SX.S_len, SX.S_len, sizeLine_eq]; omega
end Mw
namespace Mw
open PySem PySem.Builtin PySem.Builtin.Str L2 Sx Sy
open SX (S)
theorem times_S (c n : Nat) : times (S [c]) n = S (List.replicate n c) := by
  have h : ∀ (n : Nat) (z : List Nat), (List.replicate n (#[c] : Array Nat)).foldl (· ++ ·) z.toArray = (z ++ List.replicate n c).toArray := by
    intro n
    induction n with
    | zero => intro z; simp
    | succ n ih =>
      intro z
      rw [List.replicate_succ, List.foldl_cons, show z.toArray ++ #[c] = (z ++ [c]).toArray by simp, ih, List.append_assoc, List.replicate_succ]; rfl
  have := h n []
  unfold times
  exact congrArg Str.mk this
theorem join_ones : ∀ l : List Nat, TL.joinL [] (l.map fun c => [c]) = l
  | [] => rfl
  | [c] => rfl
  | c :: d :: l => by
    show [c] ++ ([] ++ TL.joinL [] ((d :: l).map fun c => [c])) = _
    rw [join_ones (d :: l)]; rfl
theorem join_letters (l : List Nat) : Txt.join ("" : Str) (l.map fun c => (⟨#[c]⟩ : Str)) = S l := by
  have h := SX.join_S [] (l.map fun c => [c])
  rw [join_ones, List.map_map] at h
  exact h
theorem lens_ones (l : List Nat) : ((l.map fun c => (⟨#[c]⟩ : Str)).map (·.length)).sum = l.length := by
  rw [List.map_map]
  induction l with
  | nil => rfl
  | cons c l ih => rw [List.map_cons, List.sum_cons, ih, List.length_cons]; show 1 + _ = _; omega
theorem len_r : ("r" : Str).length = 1 := by decide +kernel
theorem len_s : ("s" : Str).length = 1 := by decide +kernel
theorem len_0 : ("" : Str).length = 0 := by decide +kernel
theorem wd_perm {a b : Nat} {l : List Nat} (h : l.Perm (List.replicate a 114 ++ List.replicate b 115)) : Wd a b l := by
  refine ⟨?_, ?_, ?_⟩
  · rw [h.count_eq]; simp [List.count_replicate]
  · rw [h.count_eq]; simp [List.count_replicate]
  · rw [h.length_eq]; simp
theorem r_pop {l : Addr} {xs : List V} {i : Int} {y : V} {H : Hp} {Q : VK} (hH : H l = some (.lst xs)) (h0 : 0 ≤ i) (h1 : i < xs.length) (h2 : xs.length ≤ 1000000) (hy : xs[i.toNat]? = some y) (h : Q y (upd H l (.lst (xs.eraseIdx i.toNat)))) : rPopAt (.ref l) [.int i] H Q := by
  refine ⟨l, xs, i, i.toNat, y, rfl, rfl, hH, by omega, by omega, ?_, hy, h⟩
  have e : (if i < 0 then i + (xs.length : Int) else i) = i := if_neg (by omega)
  unfold seqIndex?
  simp only [e]
  rw [if_pos (by rw [Bool.and_eq_true, decide_eq_true_iff, decide_eq_true_iff]; exact ⟨h0, h1⟩)]
theorem erase_map {α β : Type} (f : α → β) : ∀ (u : List α) (k : Nat), (u.map f).eraseIdx k = (u.eraseIdx k).map f
  | [], _ => rfl
  | x :: u, 0 => rfl
  | x :: u, k + 1 => by
    show f x :: (u.map f).eraseIdx k = f x :: (u.eraseIdx k).map f
    rw [erase_map f u k]
theorem pick_perm {α : Type} : ∀ (u : List α) (k : Nat) (hk : k < u.length), ([u[k]] ++ u.eraseIdx k).Perm u
  | x :: u, 0, _ => List.Perm.refl _
  | x :: u, k + 1, h => by
    have hk : k < u.length := Nat.lt_of_succ_lt_succ h
    have ih := pick_perm u k hk
    show (u[k] :: x :: u.eraseIdx k).Perm (x :: u)
    exact (List.Perm.swap x u[k] (u.eraseIdx k)).trans (List.Perm.cons x ih)
theorem perm_pick {α : Type} {v u cs : List α} {k : Nat} (hk : k < u.length) (h : (v ++ u).Perm cs) : ((v ++ [u[k]]) ++ u.eraseIdx k).Perm cs := by
  refine List.Perm.trans ?_ h
  rw [List.append_assoc]
  exact List.Perm.append_left v (pick_perm u k hk)
/-- the numbers up to i by which l is turned into itself -/
def cand (l : List Nat) (i : Nat) : List Int := ((List.range i).filter fun j => decide (rot (j + 1) l = l)).map fun j : Nat => (1 : Int) + j
theorem cand_yes {l : List Nat} {i : Nat} (h : rot (i + 1) l = l) : (cand l (i + 1)).map V.int = (cand l i).map V.int ++ [V.int ((1 : Int) + i)] := by
  unfold cand
  rw [List.range_succ, List.filter_append, List.filter_cons, if_pos (decide_eq_true h), List.map_append, List.map_append]; rfl
theorem cand_no {l : List Nat} {i : Nat} (h : ¬ rot (i + 1) l = l) : (cand l (i + 1)).map V.int = (cand l i).map V.int := by
  unfold cand
  rw [List.range_succ, List.filter_append, List.filter_cons, if_neg (by rw [decide_eq_false h]; exact Bool.false_ne_true), List.filter_nil, List.append_nil]
theorem cand_len {l : List Nat} {i : Nat} : (cand l i).length ≤ i := by
  unfold cand
  rw [List.length_map]
  exact Nat.le_trans (List.length_filter_le _ _) (by rw [List.length_range]; exact Nat.le_refl _)
theorem cand_mem {l : List Nat} {k : Int} : k ∈ cand l l.length ↔ ∃ j : Nat, k = j ∧ 1 ≤ j ∧ j ≤ l.length ∧ rot j l = l := by
  unfold cand
  rw [List.mem_map]
  constructor
  · rintro ⟨j, h, rfl⟩
    rw [List.mem_filter, List.mem_range, decide_eq_true_iff] at h
    exact ⟨j + 1, by omega, by omega, h.1, h.2⟩
  · rintro ⟨j, rfl, h1, h2, h3⟩
    refine ⟨j - 1, ?_, by omega⟩
    rw [List.mem_filter, List.mem_range, decide_eq_true_iff, show j - 1 + 1 = j by omega]
    exact ⟨by omega, h3⟩
theorem cand_pos {l : List Nat} (h : 0 < l.length) : 0 < (cand l l.length).length := by
  have : (l.length : Int) ∈ cand l l.length := cand_mem.mpr ⟨l.length, rfl, h, Nat.le_refl _, rot_full⟩
  exact List.length_pos_of_mem this
theorem cand_per {l : List Nat} {m : Int} (h1 : m ∈ cand l l.length) (h2 : ∀ y, y ∈ cand l l.length → m ≤ y) : ∃ k : Nat, m = k ∧ IsPer l k := by
  obtain ⟨k, rfl, h3, h4, h5⟩ := cand_mem.mp h1
  refine ⟨k, rfl, h3, h4, h5, fun j j1 j2 j3 => ?_⟩
  have := h2 j (cand_mem.mpr ⟨j, rfl, j1, by omega, j3⟩)
  omega
end Mw

/-! Ww: ways among words: exchanged, the highest, the lowest. -/
namespace Mw
open PySem PySem.Builtin PySem.Builtin.Str L2
open SX (S)
/-- a way: a word without a level below 0 -/
def IsWay (a b : Nat) (l : List Nat) : Prop := Wd a b l ∧ ∀ i, i < l.length → 0 ≤ lev a b (l.take i)
/-- every letter is one of both -/
theorem wd_letters {a b : Nat} {l : List Nat} (h : Wd a b l) : ∀ c, c ∈ l → c = 114 ∨ c = 115 := by
  have key : ∀ l : List Nat, l.length = l.count 114 + l.count 115 → ∀ c, c ∈ l → c = 114 ∨ c = 115 := by
    intro l
    induction l with
    | nil => intro _ c hc; cases hc
    | cons x l ih =>
      intro hl c hc
      have h1 : l.count 114 + l.count 115 ≤ l.length := by
        clear ih hl hc
        induction l with
        | nil => simp
        | cons y l ih =>
          rw [List.count_cons, List.count_cons, List.length_cons]
          by_cases e : y = 114
          · subst e; simp; omega
          · by_cases e2 : y = 115
            · subst e2; simp; omega
            · simp [e, e2]; omega
      rw [List.count_cons, List.count_cons, List.length_cons] at hl
      by_cases e : x = 114
      · subst e
        rcases List.mem_cons.mp hc with rfl | hc
        · exact .inl rfl
        · exact ih (by simp at hl; omega) c hc
      · by_cases e2 : x = 115
        · subst e2
          rcases List.mem_cons.mp hc with rfl | hc
          · exact .inr rfl
          · exact ih (by simp at hl; omega) c hc
        · simp [e, e2] at hl; omega
  exact key l (by rw [h.1, h.2.1, h.2.2])
/-- read from the end with exchanged letters -/
def swp (c : Nat) : Nat := if c = 114 then 115 else 114
def exch (l : List Nat) : List Nat := l.reverse.map swp
theorem exch_len {l : List Nat} : (exch l).length = l.length := by unfold exch; simp
theorem swp_count {l : List Nat} (h : ∀ c, c ∈ l → c = 114 ∨ c = 115) : (l.map swp).count 114 = l.count 115 ∧ (l.map swp).count 115 = l.count 114 := by
  induction l with
  | nil => simp
  | cons c l ih =>
    obtain ⟨h1, h2⟩ := ih fun d hd => h d (List.mem_cons_of_mem _ hd)
    rw [List.map_cons, List.count_cons, List.count_cons, List.count_cons, List.count_cons, h1, h2]
    rcases h c (List.mem_cons_self ..) with rfl | rfl <;> simp [swp]
theorem exch_wd {a b : Nat} {l : List Nat} (h : Wd a b l) : Wd b a (exch l) := by
  have hl : ∀ c, c ∈ l.reverse → c = 114 ∨ c = 115 := fun c hc => wd_letters h c (List.mem_reverse.mp hc)
  obtain ⟨h1, h2⟩ := swp_count hl
  refine ⟨?_, ?_, by rw [exch_len, h.2.2, Nat.add_comm]⟩
  · unfold exch; rw [h1, List.count_reverse]; exact h.2.1
  · unfold exch; rw [h2, List.count_reverse]; exact h.1
/-- b times the rises less a times the steps -/
theorem lev_two {a b : Nat} {l : List Nat} (h : ∀ c, c ∈ l → c = 114 ∨ c = 115) : lev a b l = (b : Int) * (l.count 114 : Nat) - (a : Int) * (l.count 115 : Nat) := by
  have e : l.length = l.count 114 + l.count 115 := by
    induction l with
    | nil => rfl
    | cons c l ih =>
      have ih := ih fun d hd => h d (List.mem_cons_of_mem _ hd)
      rw [List.count_cons, List.count_cons, List.length_cons]
      rcases h c (List.mem_cons_self ..) with rfl | rfl <;> simp <;> omega
  unfold lev
  rw [e, Nat.add_sub_cancel_left]
theorem exch_lev {a b i : Nat} {l : List Nat} (h : Wd a b l) (hi : i ≤ l.length) : lev b a ((exch l).take i) = lev a b (l.take (l.length - i)) := by
  have hl := wd_letters h
  have e1 : (exch l).take i = ((l.drop (l.length - i)).reverse).map swp := by
    unfold exch
    rw [← List.map_take, List.take_reverse]
  have m1 : ∀ c, c ∈ (l.drop (l.length - i)).reverse → c = 114 ∨ c = 115 := fun c hc => hl c (List.mem_of_mem_drop (List.mem_reverse.mp hc))
  have m2 : ∀ c, c ∈ ((l.drop (l.length - i)).reverse).map swp → c = 114 ∨ c = 115 := by
    intro c hc
    obtain ⟨d, _, rfl⟩ := List.mem_map.mp hc
    unfold swp; split
    · exact .inr rfl
    · exact .inl rfl
  obtain ⟨c1, c2⟩ := swp_count m1
  rw [e1, lev_two m2, c1, c2, List.count_reverse, List.count_reverse]
  have split : lev a b l = lev a b (l.take (l.length - i)) + lev a b (l.drop (l.length - i)) := by rw [← lev_append, List.take_append_drop]
  rw [lev_word h] at split
  have l2 := lev_two (a := a) (b := b) (l := l.drop (l.length - i)) fun c hc => hl c (List.mem_of_mem_drop hc)
  omega
theorem exch_way {a b : Nat} {l : List Nat} (h : IsWay a b l) : IsWay b a (exch l) := by
  refine ⟨exch_wd h.1, fun i hi => ?_⟩
  rw [exch_len] at hi
  rw [exch_lev h.1 (by omega)]
  rcases Nat.eq_zero_or_pos i with e | e
  · subst e
    rw [Nat.sub_zero, List.take_length, lev_word h.1]; exact Int.le_refl _
  · exact h.2 _ (by omega)
/-- two words with equal levels are equal -/
theorem word_by_levels {a b : Nat} (ha : 0 < a) {u v : List Nat} (hu : ∀ c, c ∈ u → c = 114 ∨ c = 115) (hv : ∀ c, c ∈ v → c = 114 ∨ c = 115) (hl : u.length = v.length) (h : ∀ i, i ≤ u.length → lev a b (u.take i) = lev a b (v.take i)) : u = v := by
  apply List.ext_getElem?
  intro i
  by_cases hi : i < u.length
  · have e1 := lev_take (a := a) (b := b) (l := u) (i := i) (c := u[i]) (List.getElem?_eq_getElem hi)
    have hi' : i < v.length := by omega
    have e2 := lev_take (a := a) (b := b) (l := v) (i := i) (c := v[i]) (List.getElem?_eq_getElem hi')
    have e3 := h i (by omega)
    have e4 := h (i + 1) (by omega)
    rw [List.getElem?_eq_getElem hi, List.getElem?_eq_getElem hi']
    congr 1
    rcases hu _ (List.getElem_mem hi) with p | p <;> rcases hv _ (List.getElem_mem hi') with q | q
    · rw [p, q]
    · rw [p] at e1; rw [q] at e2; simp at e1 e2; omega
    · rw [p] at e1; rw [q] at e2; simp at e1 e2; omega
    · rw [p, q]
  · rw [List.getElem?_eq_none (by omega), List.getElem?_eq_none (by omega)]
/-! ### the highest way -/
def hiW (a b : Nat) : List Nat := List.replicate a 114 ++ List.replicate b 115
theorem hi_wd {a b : Nat} : Wd a b (hiW a b) := wd_perm (List.Perm.refl _)
theorem hi_lev {a b i : Nat} (hi : i ≤ a + b) : lev a b ((hiW a b).take i) = if i ≤ a then (b : Int) * i else (b : Int) * a - (a : Int) * ((i - a : Nat) : Int) := by
  unfold hiW
  rw [List.take_append, List.length_replicate, List.take_replicate, List.take_replicate]
  split
  · rename_i h
    rw [Nat.min_eq_left h, show i - a = 0 by omega, Nat.zero_min]
    unfold lev; simp
  · rename_i h
    rw [Nat.min_eq_right (by omega), Nat.min_eq_left (by omega)]
    unfold lev
    simp [List.count_replicate]
theorem hi_way {a b : Nat} : IsWay a b (hiW a b) := by
  refine ⟨hi_wd, fun i hi => ?_⟩
  have hl : (hiW a b).length = a + b := hi_wd.2.2
  rw [hi_lev (by omega)]
  split
  · exact Int.mul_nonneg (Int.natCast_nonneg _) (Int.natCast_nonneg _)
  · have h : (a : Int) * ((i - a : Nat) : Int) ≤ (a : Int) * (b : Int) := Int.mul_le_mul_of_nonneg_left (by omega) (Int.natCast_nonneg _)
    rw [Int.mul_comm (b : Int)]; omega
theorem hi_exch {a b : Nat} : exch (hiW a b) = hiW b a := by
  unfold exch hiW
  rw [List.reverse_append, List.reverse_replicate, List.reverse_replicate, List.map_append, List.map_replicate, List.map_replicate]; rfl
/-! ### the lowest way -/
def loP (a b : Nat) : Nat → List Nat
  | 0 => []
  | n + 1 => loP a b n ++ [if lev a b (loP a b n) < a then 114 else 115]
def loW (a b : Nat) : List Nat := loP a b (a + b)
theorem loP_len {a b : Nat} : ∀ n, (loP a b n).length = n
  | 0 => rfl
  | n + 1 => by rw [loP, List.length_append, loP_len n]; rfl
theorem loP_take {a b : Nat} : ∀ n i, i ≤ n → (loP a b n).take i = loP a b i
  | 0, i, h => by rw [Nat.le_zero.mp h]; rfl
  | n + 1, i, h => by
    by_cases e : i = n + 1
    · subst e
      exact List.take_of_length_le (by rw [loP_len]; exact Nat.le_refl _)
    · rw [loP, List.take_append_of_le_length (by rw [loP_len]; omega), loP_take n i (by omega)]
theorem loP_letters {a b : Nat} : ∀ n c, c ∈ loP a b n → c = 114 ∨ c = 115
  | 0, c, h => by cases h
  | n + 1, c, h => by
    rw [loP, List.mem_append, List.mem_singleton] at h
    rcases h with h | h
    · exact loP_letters n c h
    · rw [h]; split
      · exact .inl rfl
      · exact .inr rfl
/-- the level is the remainder -/
theorem loP_lev {a b : Nat} (ha : 0 < a) (hb : 0 < b) : ∀ n, lev a b (loP a b n) = ((b * n % (a + b) : Nat) : Int)
  | 0 => by rw [loP, lev_nil, Nat.mul_zero, Nat.zero_mod]; rfl
  | n + 1 => by
    have ih := loP_lev ha hb n
    have hm := Nat.mod_lt (b * n) (show 0 < a + b by omega)
    have hd := Nat.div_add_mod (b * n) (a + b)
    rw [loP, lev_snoc, ih]
    generalize hr : b * n % (a + b) = r at *
    generalize hq : b * n / (a + b) = q at *
    split
    · rename_i h
      have h1 : r < a := by omega
      have e : b * (n + 1) % (a + b) = r + b := by
        rw [Nat.mul_succ, ← hd, Nat.add_assoc, Nat.mul_add_mod, Nat.mod_eq_of_lt (by omega)]
      rw [e]; simp <;> omega
    · rename_i h
      have h1 : a ≤ r := by omega
      have e : b * (n + 1) % (a + b) = r - a := by
        rw [Nat.mul_succ, ← hd, show (a + b) * q + r + b = (a + b) * q + (a + b) + (r - a) by omega, ← Nat.mul_succ, Nat.mul_add_mod, Nat.mod_eq_of_lt (by omega)]
      rw [e]; simp <;> omega
theorem lo_lev {a b i : Nat} (ha : 0 < a) (hb : 0 < b) (hi : i ≤ a + b) : lev a b ((loW a b).take i) = ((b * i % (a + b) : Nat) : Int) := by
  unfold loW
  rw [loP_take _ _ hi, loP_lev ha hb]
theorem count_both : ∀ l : List Nat, (∀ c, c ∈ l → c = 114 ∨ c = 115) → l.length = l.count 114 + l.count 115
  | [], _ => rfl
  | c :: l, h => by
    have ih := count_both l fun d hd => h d (List.mem_cons_of_mem _ hd)
    rw [List.count_cons, List.count_cons, List.length_cons]
    rcases h c (List.mem_cons_self ..) with rfl | rfl <;> simp <;> omega
theorem lo_wd {a b : Nat} (ha : 0 < a) (hb : 0 < b) : Wd a b (loW a b) := by
  have hl : (loW a b).length = a + b := loP_len _
  have h1 := lo_lev (i := a + b) ha hb (Nat.le_refl _)
  have e0 : (loW a b).take (a + b) = loW a b := by rw [← hl, List.take_length]
  rw [e0, Nat.mul_mod_left] at h1
  have h2 : (loW a b).length = (loW a b).count 114 + (loW a b).count 115 := count_both _ (loP_letters (a + b))
  have h3 : lev a b (loW a b) = (b : Int) * ((loW a b).count 114 : Nat) - (a : Int) * ((loW a b).count 115 : Nat) := lev_two (loP_letters (a + b))
  rw [h1] at h3
  rw [hl] at h2
  have both : ∀ x y : Nat, a + b = x + y → ((0 : Nat) : Int) = (b : Int) * (x : Nat) - (a : Int) * (y : Nat) → x = a ∧ y = b := by
    intro x y h2 h3
    have e1 : b * x = a * y := by
      have : (b : Int) * (x : Int) = (a : Int) * (y : Int) := by omega
      exact_mod_cast this
    have e3 : x = a := by
      have h5 : (a + b) * x = (a + b) * a := by
        rw [Nat.add_mul, e1, ← Nat.mul_add, ← h2, Nat.mul_comm]
      exact Nat.eq_of_mul_eq_mul_left (by omega) h5
    exact ⟨e3, by omega⟩
  obtain ⟨c1, c2⟩ := both _ _ h2 h3
  exact ⟨c1, c2, hl⟩
theorem lo_way {a b : Nat} (ha : 0 < a) (hb : 0 < b) : IsWay a b (loW a b) := by
  refine ⟨lo_wd ha hb, fun i hi => ?_⟩
  have hl : (loW a b).length = a + b := loP_len _
  rw [lo_lev ha hb (by omega)]; omega
theorem lo_exch {a b : Nat} (ha : 0 < a) (hb : 0 < b) : exch (loW a b) = loW b a := by
  have hw := lo_wd ha hb
  have hl : (loW a b).length = a + b := loP_len _
  have hl2 : (loW b a).length = b + a := loP_len _
  refine word_by_levels (a := b) (b := a) hb (wd_letters (exch_wd hw)) (wd_letters (lo_wd hb ha)) (by rw [exch_len]; omega) fun i hi => ?_
  rw [exch_len, hl] at hi
  rw [exch_lev hw (by omega), hl, lo_lev ha hb (by omega), lo_lev hb ha (by omega)]
  congr 1
  have e1 : (b * (a + b - i) + b * i) % (a + b) = 0 := by
    rw [← Nat.mul_add, Nat.sub_add_cancel hi, Nat.mul_mod_left]
  have e2 : (a * i + b * i) % (a + b) = 0 := by rw [← Nat.add_mul, Nat.mul_mod_right]
  rw [Nat.add_comm b a]
  have p : 0 < a + b := by omega
  have m1 := Nat.mod_lt (b * (a + b - i)) p
  have m2 := Nat.mod_lt (a * i) p
  have m3 := Nat.mod_lt (b * i) p
  rw [Nat.add_mod] at e1 e2
  generalize b * (a + b - i) % (a + b) = x at *
  generalize a * i % (a + b) = y at *
  generalize b * i % (a + b) = z at *
  have f1 : x + z = 0 ∨ x + z = a + b := by
    rcases Nat.lt_or_ge (x + z) (a + b) with q | q
    · rw [Nat.mod_eq_of_lt q] at e1; exact .inl e1
    · rw [Nat.mod_eq_sub_mod q, Nat.mod_eq_of_lt (by omega)] at e1; exact .inr (by omega)
  have f2 : y + z = 0 ∨ y + z = a + b := by
    rcases Nat.lt_or_ge (y + z) (a + b) with q | q
    · rw [Nat.mod_eq_of_lt q] at e2; exact .inl e2
    · rw [Nat.mod_eq_sub_mod q, Nat.mod_eq_of_lt (by omega)] at e2; exact .inr (by omega)
  omega
/-- between both -/
theorem way_ge_lo {a b i : Nat} {l : List Nat} (ha : 0 < a) (hb : 0 < b) (h : IsWay a b l) (hi : i < l.length) : lev a b ((loW a b).take i) ≤ lev a b (l.take i) := by
  have hl := h.1.2.2
  have h0 := h.2 i hi
  rw [lo_lev ha hb (by omega)]
  have h2 := lev_two (a := a) (b := b) (l := l.take i) fun c hc => wd_letters h.1 c (List.mem_of_mem_take hc)
  have h3 := count_both (l.take i) fun c hc => wd_letters h.1 c (List.mem_of_mem_take hc)
  rw [List.length_take, Nat.min_eq_left (by omega)] at h3
  generalize (l.take i).count 114 = x at *
  generalize (l.take i).count 115 = y at *
  rw [h2] at h0 ⊢
  have hle : a * y ≤ b * x := by
    have : (a : Int) * (y : Int) ≤ (b : Int) * (x : Int) := by omega
    exact_mod_cast this
  have e : b * i = (b * x - a * y) + (a + b) * y := by rw [h3, Nat.mul_add, Nat.add_mul]; omega
  have m : b * i % (a + b) = (b * x - a * y) % (a + b) := by rw [e, Nat.add_mul_mod_self_left]
  rw [m]
  have := Nat.mod_le (b * x - a * y) (a + b)
  rw [← Int.natCast_mul, ← Int.natCast_mul]; omega
theorem way_le_hi {a b i : Nat} {l : List Nat} (h : Wd a b l) (hi : i ≤ l.length) : lev a b (l.take i) ≤ lev a b ((hiW a b).take i) := by
  have hl := h.2.2
  rw [hi_lev (by omega)]
  have h2 := lev_two (a := a) (b := b) (l := l.take i) fun c hc => wd_letters h c (List.mem_of_mem_take hc)
  have h3 := count_both (l.take i) fun c hc => wd_letters h c (List.mem_of_mem_take hc)
  rw [List.length_take, Nat.min_eq_left (by omega)] at h3
  have h4 : (l.take i).count 114 ≤ a := by rw [← h.1]; exact (List.take_sublist i l).count_le 114
  generalize (l.take i).count 114 = x at *
  generalize (l.take i).count 115 = y at *
  rw [h2]
  split
  · have h5 : (b : Int) * (x : Int) ≤ (b : Int) * (i : Int) := Int.mul_le_mul_of_nonneg_left (by omega) (Int.natCast_nonneg _)
    have h6 : 0 ≤ (a : Int) * (y : Int) := Int.mul_nonneg (Int.natCast_nonneg _) (Int.natCast_nonneg _)
    omega
  · have h5 : (b : Int) * (x : Int) ≤ (b : Int) * (a : Int) := Int.mul_le_mul_of_nonneg_left (by omega) (Int.natCast_nonneg _)
    have h6 : (a : Int) * ((i - a : Nat) : Int) ≤ (a : Int) * (y : Int) := Int.mul_le_mul_of_nonneg_left (by omega) (Int.natCast_nonneg _)
    omega
/-- highest and lowest are one just for a side of 1 -/
theorem hi_eq_lo {a b : Nat} (ha : 0 < a) (hb : 0 < b) : hiW a b = loW a b ↔ a = 1 ∨ b = 1 := by
  constructor
  · intro h
    rcases Nat.lt_or_ge 1 a with h1 | h1
    · rcases Nat.lt_or_ge 1 b with h2 | h2
      · exfalso
        have e1 := hi_lev (a := a) (b := b) (i := a) (by omega)
        rw [h, lo_lev ha hb (by omega), if_pos (Nat.le_refl a)] at e1
        have m := Nat.mod_lt (b * a) (show 0 < a + b by omega)
        have e2 : b * a % (a + b) = b * a := by exact_mod_cast e1
        have e3 : a + b ≤ b * a := by
          obtain ⟨a', rfl⟩ : ∃ k, a = k + 2 := ⟨a - 2, by omega⟩
          obtain ⟨b', rfl⟩ : ∃ k, b = k + 2 := ⟨b - 2, by omega⟩
          rw [Nat.mul_add, Nat.add_mul]
          have := Nat.zero_le (b' * a')
          omega
        omega
      · exact .inr (by omega)
    · exact .inl (by omega)
  · intro h
    have hw := lo_wd ha hb
    refine word_by_levels (a := a) (b := b) ha (wd_letters hi_wd) (wd_letters hw) (by rw [hi_wd.2.2, hw.2.2]) fun i hi => ?_
    rw [hi_wd.2.2] at hi
    rw [hi_lev hi, lo_lev ha hb hi]
    rcases h with rfl | rfl
    · split
      · rename_i h1
        rw [Nat.mod_eq_of_lt (by rcases Nat.eq_zero_or_pos i with e | e <;> (try subst e) <;> (try rw [show i = 1 by omega]) <;> simp <;> omega)]
        rw [Int.natCast_mul]
      · rename_i h1
        rcases Nat.lt_or_ge i (1 + b) with q | q
        · have e : b * i = (1 + b) * (i - 1) + (b + 1 - i) := by
            obtain ⟨j, rfl⟩ : ∃ j, i = j + 1 := ⟨i - 1, by omega⟩
            rw [Nat.mul_add, Nat.add_sub_cancel, Nat.add_mul]; omega
          rw [e, Nat.mul_add_mod, Nat.mod_eq_of_lt (by omega)]; omega
        · have e : i = 1 + b := by omega
          subst e
          rw [Nat.mul_mod_left]; omega
    · split
      · rename_i h1
        rw [Nat.one_mul, Nat.mod_eq_of_lt (by omega)]; omega
      · rename_i h1
        have e : i = a + 1 := by omega
        subst e
        rw [Nat.one_mul, Nat.mod_self, show a + 1 - a = 1 by omega]; omega
/-! ### Python's order -/
theorem first_diff : ∀ {u v : List Nat}, u.length = v.length → u < v → ∃ p x y s t, u = p ++ x :: s ∧ v = p ++ y :: t ∧ x < y
  | [], [], _, h => by cases h
  | x :: u, y :: v, hl, h => by
    rcases List.cons_lt_cons_iff.mp h with h1 | ⟨h2, h1⟩
    · exact ⟨[], x, y, u, v, rfl, rfl, h1⟩
    · obtain ⟨p, a, b, s, t, e1, e2, h3⟩ := first_diff (Nat.succ.inj hl) h1
      exact ⟨x :: p, a, b, s, t, by rw [e1]; rfl, by rw [e2, h2]; rfl, h3⟩
theorem not_lt_hi {a b : Nat} {l : List Nat} (h : Wd a b l) : ¬ l < hiW a b := by
  intro hlt
  obtain ⟨p, x, y, s, t, e1, e2, hxy⟩ := first_diff (by rw [h.2.2, hi_wd.2.2]) hlt
  have hx := wd_letters h x (by rw [e1]; simp)
  have hy := wd_letters (hi_wd (a := a) (b := b)) y (by rw [e2]; simp)
  have ex : x = 114 := by omega
  have ey : y = 115 := by omega
  subst ex ey
  have hp : p.length < a + b := by
    have := congrArg List.length e2
    rw [hi_wd.2.2, List.length_append, List.length_cons] at this; omega
  have e3 : (hiW a b)[p.length]? = some 115 := by rw [e2]; simp
  have ha : a ≤ p.length := by
    rcases Nat.lt_or_ge p.length a with q | q
    · unfold hiW at e3
      rw [List.getElem?_append_left (by simpa using q), List.getElem?_replicate, if_pos q] at e3
      cases e3
    · exact q
  have e4 : p = (hiW a b).take p.length := by rw [e2]; simp
  have e5 : p.count 114 = a := by
    rw [e4]
    unfold hiW
    rw [List.take_append, List.length_replicate, List.take_replicate, List.take_replicate, Nat.min_eq_right ha]
    simp [List.count_replicate]
  have e6 := h.1
  rw [e1, List.count_append, List.count_cons, e5] at e6
  simp at e6 <;> omega
theorem not_lo_lt {a b : Nat} {l : List Nat} (ha : 0 < a) (hb : 0 < b) (h : IsWay a b l) : ¬ loW a b < l := by
  intro hlt
  have hw := lo_wd ha hb
  obtain ⟨p, x, y, s, t, e1, e2, hxy⟩ := first_diff (by rw [h.1.2.2, hw.2.2]) hlt
  have hx := wd_letters hw x (by rw [e1]; simp)
  have hy := wd_letters h.1 y (by rw [e2]; simp)
  have ex : x = 114 := by omega
  have ey : y = 115 := by omega
  subst ex ey
  have hp : p.length < a + b := by
    have := congrArg List.length e2
    rw [h.1.2.2, List.length_append, List.length_cons] at this; omega
  have e4 : p = loP a b p.length := by
    have e := loP_take (a := a) (b := b) (a + b) p.length (by omega)
    change (loW a b).take p.length = _ at e
    rw [← e, e1]; simp
  have e5 : loP a b (p.length + 1) = p ++ [114] := by
    have e := loP_take (a := a) (b := b) (a + b) (p.length + 1) (by omega)
    change (loW a b).take (p.length + 1) = _ at e
    rw [← e, e1, List.take_append, List.take_of_length_le (by omega), show p.length + 1 - p.length = 1 by omega]; rfl
  rw [loP, ← e4] at e5
  have e6 := List.append_cancel_left e5
  have small : lev a b p < a := by
    rcases Int.lt_or_le (lev a b p) a with q | q
    · exact q
    · rw [if_neg (by omega)] at e6; cases e6
  have e7 : l.take (p.length + 1) = p ++ [115] := by rw [e2, List.take_append, List.take_of_length_le (by omega), show p.length + 1 - p.length = 1 by omega]; rfl
  rcases Nat.lt_or_ge (p.length + 1) l.length with q | q
  · have := h.2 _ q
    rw [e7, lev_snoc] at this
    simp at this; omega
  · have e8 : l.take (p.length + 1) = l := List.take_of_length_le q
    have := lev_word h.1
    rw [← e8, e7, lev_snoc] at this
    simp at this; omega
end Mw

/-! Mg: the shelf of a way of a coprime slope. -/
namespace Mg
open Mw
/-! ### small things about lists and numbers -/
theorem nodup_le {l : List Nat} {n : Nat} (h : l.Nodup) (hx : ∀ x, x ∈ l → x < n) : l.length ≤ n := by
  induction n generalizing l with
  | zero =>
    cases l with
    | nil => exact Nat.le_refl _
    | cons x l => exact absurd (hx x (List.mem_cons_self ..)) (Nat.not_lt_zero _)
  | succ n ih =>
    by_cases hn : n ∈ l
    · have h1 := ih (l := l.erase n) (h.erase n) (fun x m => by
        have e := (List.Nodup.mem_erase_iff h).mp m
        have := hx x e.2
        have := e.1
        omega)
      rw [List.length_erase_of_mem hn] at h1
      have : 0 < l.length := List.length_pos_of_mem hn
      omega
    · have h1 := ih (l := l) h (fun x m => by
        have := hx x m
        have : x ≠ n := fun e => hn (e ▸ m)
        omega)
      omega
theorem pigeon {l : List Nat} {n : Nat} (h : l.Nodup) (hx : ∀ x, x ∈ l → x < n) (hl : l.length = n) {k : Nat} (hk : k < n) : k ∈ l := by
  cases Classical.em (k ∈ l) with
  | inl z => exact z
  | inr z =>
    have h1 : (k :: l).length ≤ n := nodup_le (List.nodup_cons.mpr ⟨z, h⟩) (fun x m => by
      rcases List.mem_cons.mp m with rfl | m
      · exact hk
      · exact hx x m)
    rw [List.length_cons, hl] at h1
    omega
theorem coprime_dvd {a b : Nat} (h : Nat.gcd a b = 1) {k : Int} (d : (a : Int) ∣ (b : Int) * k) : (a : Int) ∣ k := by
  have h1 : a ∣ ((b : Int) * k).natAbs := Int.ofNat_dvd_left.mp d
  rw [Int.natAbs_mul, Int.natAbs_natCast] at h1
  exact Int.ofNat_dvd_left.mpr (Nat.Coprime.dvd_of_dvd_mul_left h h1)
/-! ### levels and letters by place -/
section
variable {a b : Nat} {l : List Nat}
/-- the level ahead of the place i -/
def lv (a b : Nat) (l : List Nat) (i : Nat) : Int := lev a b (l.take i)
def nr (l : List Nat) (i : Nat) : Nat := (l.take i).count 114
def ns (l : List Nat) (i : Nat) : Nat := (l.take i).count 115
theorem take_mem {i : Nat} (h : Wd a b l) : ∀ c, c ∈ l.take i → c = 114 ∨ c = 115 := fun c m => wd_letters h c (List.mem_of_mem_take m)
theorem lv_eq (h : Wd a b l) (i : Nat) : lv a b l i = (b : Int) * (nr l i : Nat) - (a : Int) * (ns l i : Nat) := lev_two (take_mem h)
theorem take_snoc {i c : Nat} (h : l[i]? = some c) : l.take (i + 1) = l.take i ++ [c] := by
  have lt := (List.getElem?_eq_some_iff.mp h).1
  rw [List.take_add_one, h]; rfl
theorem nr_r {i : Nat} (h : l[i]? = some 114) : nr l (i + 1) = nr l i + 1 := by unfold nr; rw [take_snoc h, List.count_append]; rfl
theorem nr_s {i : Nat} (h : l[i]? = some 115) : nr l (i + 1) = nr l i := by unfold nr; rw [take_snoc h, List.count_append]; rfl
theorem ns_r {i : Nat} (h : l[i]? = some 114) : ns l (i + 1) = ns l i := by unfold ns; rw [take_snoc h, List.count_append]; rfl
theorem ns_s {i : Nat} (h : l[i]? = some 115) : ns l (i + 1) = ns l i + 1 := by unfold ns; rw [take_snoc h, List.count_append]; rfl
theorem letter (h : Wd a b l) {i : Nat} (hi : i < l.length) : l[i]? = some 114 ∨ l[i]? = some 115 := by
  rw [List.getElem?_eq_getElem hi]
  rcases wd_letters h _ (List.getElem_mem hi) with e | e
  · exact .inl (by rw [e])
  · exact .inr (by rw [e])
theorem cnt_mono (c : Nat) {i j : Nat} (h : i ≤ j) : (l.take i).count c ≤ (l.take j).count c := by
  have e : l.take i = (l.take j).take i := by rw [List.take_take, Nat.min_eq_left h]
  rw [e]
  exact (List.take_sublist i (l.take j)).count_le c
theorem nr_le (h : Wd a b l) (i : Nat) : nr l i ≤ a := by
  have := (List.take_sublist i l).count_le 114
  rw [h.1] at this; exact this
theorem ns_le (h : Wd a b l) (i : Nat) : ns l i ≤ b := by
  have := (List.take_sublist i l).count_le 115
  rw [h.2.1] at this; exact this
theorem nr_lt (h : Wd a b l) {i : Nat} (hi : l[i]? = some 114) : nr l i < a := by
  have := nr_le h (i + 1)
  rw [nr_r hi] at this; exact this
theorem ns_lt (h : Wd a b l) {i : Nat} (hi : l[i]? = some 115) : ns l i < b := by
  have := ns_le h (i + 1)
  rw [ns_s hi] at this; exact this
theorem sum_i (h : Wd a b l) {i : Nat} (hi : i ≤ l.length) : nr l i + ns l i = i := by
  have e := count_both (l.take i) (take_mem h)
  rw [List.length_take, Nat.min_eq_left hi] at e
  unfold nr ns; exact e.symm
theorem lv_r (h : Wd a b l) {i : Nat} (hi : l[i]? = some 114) : lv a b l (i + 1) = lv a b l i + b := by
  have := lev_take (a := a) (b := b) hi
  rw [if_pos rfl] at this; exact this
theorem lv_s (h : Wd a b l) {i : Nat} (hi : l[i]? = some 115) : lv a b l (i + 1) = lv a b l i - a := by
  have := lev_take (a := a) (b := b) hi
  rw [if_neg (by decide)] at this
  show lev a b (l.take (i + 1)) = lev a b (l.take i) - a
  omega
theorem lv_end (h : Wd a b l) : lv a b l l.length = 0 := by unfold lv; rw [List.take_length]; exact lev_word h
theorem lv_0 : lv a b l 0 = 0 := by unfold lv; rw [List.take_zero]; exact lev_nil
theorem lv_nonneg (h : IsWay a b l) {i : Nat} (hi : i ≤ l.length) : 0 ≤ lv a b l i := by
  rcases Nat.lt_or_ge i l.length with lt | ge
  · exact h.2 i lt
  · have e : i = l.length := by omega
    subst e; rw [lv_end h.1]; exact Int.le_refl _
theorem first_r (h : IsWay a b l) (ha : 0 < a) : l[0]? = some 114 := by
  have hl : 0 < l.length := by rw [h.1.2.2]; omega
  rcases letter h.1 hl with e | e
  · exact e
  · have h1 := lv_nonneg h (i := 1) hl
    have h2 : lv a b l 1 = lv a b l 0 - a := lv_s h.1 e
    rw [lv_0] at h2
    omega
/-! ### the shelf -/
def RL (a b : Nat) (l : List Nat) (x : Int) : Prop := ∃ i, l[i]? = some 114 ∧ lv a b l i = x
def SL (a b : Nat) (l : List Nat) (x : Int) : Prop := ∃ i, l[i]? = some 115 ∧ lv a b l (i + 1) = x
/-- x is a member -/
def Mem (a b : Nat) (l : List Nat) (x : Int) : Prop := ∃ g, RL a b l g ∧ g ≤ x ∧ (a : Int) ∣ x - g
theorem mem_add_a {x : Int} (h : Mem a b l x) : Mem a b l (x + a) := by
  obtain ⟨g, h1, h2, h3⟩ := h
  refine ⟨g, h1, by omega, ?_⟩
  rw [show x + (a : Int) - g = (x - g) + a by omega]
  exact Int.dvd_add h3 (Int.dvd_refl _)
theorem mem_level (h : IsWay a b l) (ha : 0 < a) : ∀ n i, i ≤ l.length → l.length - i = n → Mem a b l (lv a b l i)
  | 0, i, hi, hn => by
    have e : i = l.length := by omega
    subst e
    rw [lv_end h.1]
    exact ⟨0, ⟨0, first_r h ha, lv_0⟩, Int.le_refl _, ⟨0, by simp⟩⟩
  | n + 1, i, hi, hn => by
    have lt : i < l.length := by omega
    rcases letter h.1 lt with e | e
    · exact ⟨_, ⟨i, e, rfl⟩, Int.le_refl _, ⟨0, by omega⟩⟩
    · have ih := mem_level h ha n (i + 1) (by omega) (by omega)
      rw [lv_s h.1 e] at ih
      have := mem_add_a ih
      rw [show lv a b l i - (a : Int) + a = lv a b l i by omega] at this
      exact this
theorem mem_lv (h : IsWay a b l) (ha : 0 < a) {i : Nat} (hi : i ≤ l.length) : Mem a b l (lv a b l i) := mem_level h ha _ i hi rfl
theorem mem_add_b (h : IsWay a b l) (ha : 0 < a) {x : Int} (m : Mem a b l x) : Mem a b l (x + b) := by
  obtain ⟨g, ⟨i, hi, rfl⟩, h2, h3⟩ := m
  have lt := (List.getElem?_eq_some_iff.mp hi).1
  obtain ⟨g', h4, h5, h6⟩ := mem_lv h ha (i := i + 1) lt
  rw [lv_r h.1 hi] at h5 h6
  refine ⟨g', h4, by omega, ?_⟩
  rw [show x + (b : Int) - g' = (x - lv a b l i) + (lv a b l i + b - g') by omega]
  exact Int.dvd_add h3 h6
theorem mem_nonneg (h : IsWay a b l) {x : Int} (m : Mem a b l x) : 0 ≤ x := by
  obtain ⟨g, ⟨i, hi, rfl⟩, h2, _⟩ := m
  have := lv_nonneg h (Nat.le_of_lt (List.getElem?_eq_some_iff.mp hi).1)
  omega
theorem mem_0 (h : IsWay a b l) (ha : 0 < a) : Mem a b l 0 := by
  have := mem_lv h ha (i := 0) (Nat.zero_le _)
  rw [lv_0] at this; exact this
/-- levels that leave the same rest by a -/
theorem rest_a (h : Wd a b l) (hg : Nat.gcd a b = 1) {i j : Nat} (d : (a : Int) ∣ lv a b l i - lv a b l j) : (a : Int) ∣ ((nr l i : Nat) : Int) - (nr l j : Nat) := by
  rw [lv_eq h, lv_eq h] at d
  refine coprime_dvd hg ?_
  have e : (b : Int) * (((nr l i : Nat) : Int) - (nr l j : Nat)) = ((b : Int) * (nr l i : Nat) - (a : Int) * (ns l i : Nat) - ((b : Int) * (nr l j : Nat) - (a : Int) * (ns l j : Nat))) + (a : Int) * (((ns l i : Nat) : Int) - (ns l j : Nat)) := by
    rw [Int.mul_sub, Int.mul_sub]; omega
  rw [e]
  exact Int.dvd_add d ⟨_, rfl⟩
theorem rest_b (h : Wd a b l) (hg : Nat.gcd a b = 1) {i j : Nat} (d : (b : Int) ∣ lv a b l i - lv a b l j) : (b : Int) ∣ ((ns l i : Nat) : Int) - (ns l j : Nat) := by
  rw [lv_eq h, lv_eq h] at d
  refine coprime_dvd (by rw [Nat.gcd_comm]; exact hg) (b := a) ?_
  have e : (a : Int) * (((ns l i : Nat) : Int) - (ns l j : Nat)) = (b : Int) * (((nr l i : Nat) : Int) - (nr l j : Nat)) - ((b : Int) * (nr l i : Nat) - (a : Int) * (ns l i : Nat) - ((b : Int) * (nr l j : Nat) - (a : Int) * (ns l j : Nat))) := by
    rw [Int.mul_sub, Int.mul_sub]; omega
  rw [e]
  exact Int.dvd_sub ⟨_, rfl⟩ d
theorem small_dvd {n : Nat} {x : Int} (d : (n : Int) ∣ x) (h1 : -(n : Int) < x) (h2 : x < n) : x = 0 := by
  obtain ⟨k, rfl⟩ := d
  rcases Int.lt_trichotomy k 0 with hk | hk | hk
  · have : (n : Int) * k ≤ (n : Int) * (-1) := Int.mul_le_mul_of_nonneg_left (by omega) (by omega)
    omega
  · subst hk; simp
  · have : (n : Int) * 1 ≤ (n : Int) * k := Int.mul_le_mul_of_nonneg_left (by omega) (by omega)
    omega
/-- places with a rise behind as many rises are the same -/
theorem place_r {i j : Nat} (hi : l[i]? = some 114) (hj : l[j]? = some 114) (e : nr l i = nr l j) : i = j := by
  rcases Nat.lt_trichotomy i j with lt | rfl | lt
  · have := cnt_mono (l := l) 114 (show i + 1 ≤ j from lt)
    have h1 := nr_r hi
    unfold nr at *; omega
  · rfl
  · have := cnt_mono (l := l) 114 (show j + 1 ≤ i from lt)
    have h1 := nr_r hj
    unfold nr at *; omega
theorem place_s {i j : Nat} (hi : l[i]? = some 115) (hj : l[j]? = some 115) (e : ns l i = ns l j) : i = j := by
  rcases Nat.lt_trichotomy i j with lt | rfl | lt
  · have := cnt_mono (l := l) 115 (show i + 1 ≤ j from lt)
    have h1 := ns_s hi
    unfold ns at *; omega
  · rfl
  · have := cnt_mono (l := l) 115 (show j + 1 ≤ i from lt)
    have h1 := ns_s hj
    unfold ns at *; omega
theorem rise_place (h : Wd a b l) (hg : Nat.gcd a b = 1) {i j : Nat} (hi : l[i]? = some 114) (hj : l[j]? = some 114) (d : (a : Int) ∣ lv a b l i - lv a b l j) : i = j := by
  have h1 := rest_a h hg d
  have h2 := nr_lt h hi
  have h3 := nr_lt h hj
  have e := small_dvd h1 (by omega) (by omega)
  exact place_r hi hj (by omega)
theorem step_place (h : Wd a b l) (hg : Nat.gcd a b = 1) {i j : Nat} (hi : l[i]? = some 115) (hj : l[j]? = some 115) (d : (b : Int) ∣ lv a b l (i + 1) - lv a b l (j + 1)) : i = j := by
  have h1 := rest_b h hg d
  rw [ns_s hi, ns_s hj] at h1
  have h2 := ns_lt h hi
  have h3 := ns_lt h hj
  have e := small_dvd h1 (by omega) (by omega)
  exact place_s hi hj (by omega)
/-- rise levels: the least members of their rests by a -/
theorem rl_iff (h : IsWay a b l) (ha : 0 < a) (hg : Nat.gcd a b = 1) {x : Int} : RL a b l x ↔ Mem a b l x ∧ ¬ Mem a b l (x - a) := by
  constructor
  · rintro ⟨i, hi, rfl⟩
    refine ⟨⟨_, ⟨i, hi, rfl⟩, Int.le_refl _, ⟨0, by omega⟩⟩, ?_⟩
    rintro ⟨g, ⟨j, hj, rfl⟩, h2, h3⟩
    have e := rise_place h.1 hg hi hj (by
      rw [show lv a b l i - lv a b l j = (lv a b l i - a - lv a b l j) + a by omega]
      exact Int.dvd_add h3 (Int.dvd_refl _))
    subst e; omega
  · rintro ⟨⟨g, h1, h2, h3⟩, n⟩
    rcases Int.lt_or_eq_of_le h2 with lt | e
    · refine absurd ?_ n
      refine ⟨g, h1, ?_, ?_⟩
      · obtain ⟨k, hk⟩ := h3
        have : 0 < k := by
          rcases Int.lt_or_le 0 k with z | z
          · exact z
          · have : (a : Int) * k ≤ 0 := Int.mul_nonpos_of_nonneg_of_nonpos (by omega) z
            omega
        have : (a : Int) * 1 ≤ (a : Int) * k := Int.mul_le_mul_of_nonneg_left (by omega) (by omega)
        omega
      · rw [show x - (a : Int) - g = (x - g) - a by omega]
        exact Int.dvd_sub h3 (Int.dvd_refl _)
    · rw [← e]; exact h1
/-- a step's level behind is no member, less b -/
theorem sl_low (h : IsWay a b l) (ha : 0 < a) (hg : Nat.gcd a b = 1) {i : Nat} (hi : l[i]? = some 115) : ¬ Mem a b l (lv a b l (i + 1) - b) := by
  rintro ⟨g, ⟨j, hj, rfl⟩, h2, h3⟩
  have lt := (List.getElem?_eq_some_iff.mp hi).1
  have ltj := (List.getElem?_eq_some_iff.mp hj).1
  -- the levels behind both letters leave the same rest by a
  have d : (a : Int) ∣ lv a b l (i + 1) - lv a b l (j + 1) := by
    rw [lv_r h.1 hj, show lv a b l (i + 1) - (lv a b l j + (b : Int)) = lv a b l (i + 1) - b - lv a b l j by omega]
    exact h3
  have h1 := rest_a h.1 hg d
  rw [nr_r hj, nr_s hi] at h1
  have b1 := nr_le h.1 i
  have b2 := nr_lt h.1 hj
  have pos : 0 < nr l i := by
    rcases Nat.eq_zero_or_pos (nr l i) with z | z
    · have q := lv_nonneg h (i := i + 1) lt
      rw [lv_eq h.1, nr_s hi, z, ns_s hi] at q
      have : (0 : Int) < (a : Int) * ((ns l i + 1 : Nat) : Int) := Int.mul_pos (by omega) (by omega)
      omega
    · exact z
  have e := small_dvd h1 (by omega) (by omega)
  have e2 : nr l i = nr l j + 1 := by omega
  -- the step stands behind the rise
  have ij : j < i := by
    rcases Nat.lt_or_ge j i with z | z
    · exact z
    · have := cnt_mono (l := l) 114 z
      unfold nr at e2; omega
  have s1 := cnt_mono (l := l) 115 (show j + 1 ≤ i from ij)
  have q : lv a b l (i + 1) < lv a b l (j + 1) := by
    rw [lv_eq h.1, lv_eq h.1, nr_s hi, nr_r hj, ns_s hi, e2, ns_r hj]
    have s2 : ns l j ≤ ns l i := by
      have := ns_r hj
      unfold ns at *; omega
    have : (a : Int) * ((ns l j : Nat) : Int) < (a : Int) * ((ns l i + 1 : Nat) : Int) := Int.mul_lt_mul_of_pos_left (by omega) (by omega)
    omega
  rw [lv_r h.1 hj] at q
  omega
/-! ### all rests come -/
/-- the places of a letter -/
def pls (l : List Nat) (c : Nat) : List Nat := (List.range l.length).filter fun i => decide (l[i]? = some c)
theorem pls_mem {c i : Nat} : i ∈ pls l c ↔ l[i]? = some c := by
  unfold pls
  rw [List.mem_filter, List.mem_range, decide_eq_true_iff]
  constructor
  · exact fun h => h.2
  · intro h
    exact ⟨(List.getElem?_eq_some_iff.mp h).1, h⟩
theorem pls_nodup {c : Nat} : (pls l c).Nodup := List.nodup_range.filter _
theorem pls_take (c : Nat) : ∀ n, n ≤ l.length → ((List.range n).filter fun i => decide (l[i]? = some c)).length = (l.take n).count c
  | 0, _ => by simp
  | n + 1, h => by
    have lt : n < l.length := h
    rw [List.range_succ, List.filter_append, List.length_append, pls_take c n (by omega), take_snoc (List.getElem?_eq_getElem lt), List.count_append]
    congr 1
    by_cases e : l[n] = c
    · simp [lt, e]
    · simp [lt, e]
theorem pls_len {c : Nat} : (pls l c).length = l.count c := by
  unfold pls
  rw [pls_take c l.length (Nat.le_refl _), List.take_length]
theorem all_rests_a (h : IsWay a b l) (ha : 0 < a) (hg : Nat.gcd a b = 1) (r : Nat) (hr : r < a) : ∃ i, l[i]? = some 114 ∧ lv a b l i % (a : Int) = r := by
  have m : r ∈ (pls l 114).map fun i => (lv a b l i % (a : Int)).toNat := by
    refine pigeon (n := a) ?_ ?_ ?_ hr
    · refine List.pairwise_map.mpr ?_
      refine List.Pairwise.imp_of_mem ?_ pls_nodup
      intro i j mi mj ne e
      have p1 := Int.emod_nonneg (lv a b l i) (show (a : Int) ≠ 0 by omega)
      have p2 := Int.emod_nonneg (lv a b l j) (show (a : Int) ≠ 0 by omega)
      exact ne (rise_place h.1 hg (pls_mem.mp mi) (pls_mem.mp mj) (Int.dvd_of_emod_eq_zero (Int.emod_eq_emod_iff_emod_sub_eq_zero.mp (by omega))))
    · intro x mx
      obtain ⟨i, _, rfl⟩ := List.mem_map.mp mx
      have p1 := Int.emod_nonneg (lv a b l i) (show (a : Int) ≠ 0 by omega)
      have p2 := Int.emod_lt_of_pos (lv a b l i) (show (0 : Int) < a by omega)
      omega
    · rw [List.length_map, pls_len, h.1.1]
  obtain ⟨i, mi, e⟩ := List.mem_map.mp m
  have p1 := Int.emod_nonneg (lv a b l i) (show (a : Int) ≠ 0 by omega)
  exact ⟨i, pls_mem.mp mi, by omega⟩
theorem all_rests_b (h : IsWay a b l) (hb : 0 < b) (hg : Nat.gcd a b = 1) (r : Nat) (hr : r < b) : ∃ i, l[i]? = some 115 ∧ lv a b l (i + 1) % (b : Int) = r := by
  have m : r ∈ (pls l 115).map fun i => (lv a b l (i + 1) % (b : Int)).toNat := by
    refine pigeon (n := b) ?_ ?_ ?_ hr
    · refine List.pairwise_map.mpr ?_
      refine List.Pairwise.imp_of_mem ?_ pls_nodup
      intro i j mi mj ne e
      have p1 := Int.emod_nonneg (lv a b l (i + 1)) (show (b : Int) ≠ 0 by omega)
      have p2 := Int.emod_nonneg (lv a b l (j + 1)) (show (b : Int) ≠ 0 by omega)
      exact ne (step_place h.1 hg (pls_mem.mp mi) (pls_mem.mp mj) (Int.dvd_of_emod_eq_zero (Int.emod_eq_emod_iff_emod_sub_eq_zero.mp (by omega))))
    · intro x mx
      obtain ⟨i, _, rfl⟩ := List.mem_map.mp mx
      have p1 := Int.emod_nonneg (lv a b l (i + 1)) (show (b : Int) ≠ 0 by omega)
      have p2 := Int.emod_lt_of_pos (lv a b l (i + 1)) (show (0 : Int) < b by omega)
      omega
    · rw [List.length_map, pls_len, h.1.2.1]
  obtain ⟨i, mi, e⟩ := List.mem_map.mp m
  have p1 := Int.emod_nonneg (lv a b l (i + 1)) (show (b : Int) ≠ 0 by omega)
  exact ⟨i, pls_mem.mp mi, by omega⟩
end
end Mg

/-! Mh: gaps and least members of a shelf, as ascending lists. -/
namespace Mg
open Mw
open Classical
/-! ### ascending lists -/
def Asc (u : List Int) : Prop := u.Pairwise (· < ·)
theorem asc_ext : ∀ {u v : List Int}, Asc u → Asc v → (∀ x, x ∈ u ↔ x ∈ v) → u = v
  | [], [], _, _, _ => rfl
  | [], y :: v, _, _, h => by have := (h y).mpr (List.mem_cons_self ..); cases this
  | x :: u, [], _, _, h => by have := (h x).mp (List.mem_cons_self ..); cases this
  | x :: u, y :: v, hu, hv, h => by
    obtain ⟨h1, h2⟩ := List.pairwise_cons.mp hu
    obtain ⟨h3, h4⟩ := List.pairwise_cons.mp hv
    have e : x = y := by
      rcases List.mem_cons.mp ((h x).mp (List.mem_cons_self ..)) with e | m
      · exact e
      · rcases List.mem_cons.mp ((h y).mpr (List.mem_cons_self ..)) with e | m'
        · exact e.symm
        · have := h3 x m
          have := h1 y m'
          omega
    subst e
    congr 1
    refine asc_ext h2 h4 fun z => ?_
    constructor
    · intro m
      rcases List.mem_cons.mp ((h z).mp (List.mem_cons_of_mem _ m)) with e | m'
      · have := h1 z m; omega
      · exact m'
    · intro m
      rcases List.mem_cons.mp ((h z).mpr (List.mem_cons_of_mem _ m)) with e | m'
      · have := h3 z m; omega
      · exact m'
theorem asc_of_sorted {u : List Int} (h : u.Pairwise (· ≤ ·)) (n : u.Nodup) : Asc u := by
  refine List.Pairwise.imp ?_ (List.Pairwise.and h n)
  rintro x y ⟨h1, h2⟩
  have : x ≠ y := h2
  omega
/-- sorted: the only ascending list with just these -/
theorem sorted_is {u v w : List Int} (p : v.Perm u) (s : v.Pairwise (· ≤ ·)) (n : u.Nodup) (hw : Asc w) (h : ∀ x, x ∈ u ↔ x ∈ w) : v = w :=
  asc_ext (asc_of_sorted s (p.nodup_iff.mpr n)) hw fun x => (p.mem_iff).trans (h x)
/-- all integers from 0 below n that p tells, ascending -/
noncomputable def those (n : Nat) (p : Int → Prop) : List Int := ((List.range n).map fun i : Nat => (i : Int)).filter fun x => decide (p x)
theorem those_mem {n : Nat} {p : Int → Prop} {x : Int} : x ∈ those n p ↔ (0 ≤ x ∧ x < n) ∧ p x := by
  unfold those
  rw [List.mem_filter, decide_eq_true_iff]
  constructor
  · rintro ⟨m, q⟩
    obtain ⟨i, hi, rfl⟩ := List.mem_map.mp m
    rw [List.mem_range] at hi
    exact ⟨⟨by omega, by omega⟩, q⟩
  · rintro ⟨⟨h1, h2⟩, q⟩
    exact ⟨List.mem_map.mpr ⟨x.toNat, List.mem_range.mpr (by omega), by omega⟩, q⟩
theorem those_asc {n : Nat} {p : Int → Prop} : Asc (those n p) := by
  unfold those Asc
  refine List.Pairwise.filter _ (List.pairwise_map.mpr ?_)
  exact List.Pairwise.imp (fun h => by omega) List.pairwise_lt_range
theorem asc_nodup {u : List Int} (h : Asc u) : u.Nodup := List.Pairwise.imp (fun q e => by omega) h
/-! ### the least members of the rests by s -/
theorem snoc_ind {α : Type} {p : List α → Prop} (h0 : p []) (h1 : ∀ u x, p u → p (u ++ [x])) (u : List α) : p u := by
  have key : ∀ v : List α, p v.reverse := by
    intro v
    induction v with
    | nil => exact h0
    | cons x v ih => rw [List.reverse_cons]; exact h1 _ _ ih
  have := key u.reverse
  rw [List.reverse_reverse] at this; exact this
/-- what stands at the rest r behind some gaps -/
def lmv (s : Nat) (r : Int) (G : List Int) : Int := G.foldl (fun acc g => if g % (s : Int) = r then g + s else acc) r
theorem lmv_snoc {s : Nat} {r g : Int} {G : List Int} : lmv s r (G ++ [g]) = if g % (s : Int) = r then g + s else lmv s r G := by unfold lmv; rw [List.foldl_append]; rfl
theorem lmv_spec {s : Nat} {r : Int} (hs : 0 < s) (h0 : 0 ≤ r) (h1 : r < s) : ∀ (G : List Int), Asc G → (lmv s r G = r ∧ ∀ g, g ∈ G → g % (s : Int) ≠ r) ∨ ∃ g, g ∈ G ∧ g % (s : Int) = r ∧ lmv s r G = g + s ∧ ∀ g', g' ∈ G → g' % (s : Int) = r → g' ≤ g := by
  intro G
  refine snoc_ind (p := fun G => Asc G → (lmv s r G = r ∧ ∀ g, g ∈ G → g % (s : Int) ≠ r) ∨ ∃ g, g ∈ G ∧ g % (s : Int) = r ∧ lmv s r G = g + s ∧ ∀ g', g' ∈ G → g' % (s : Int) = r → g' ≤ g) ?_ ?_ G
  · intro _; exact .inl ⟨rfl, fun g h => by cases h⟩
  · intro G g ih hA
    obtain ⟨hG, _, hx⟩ := List.pairwise_append.mp hA
    rw [lmv_snoc]
    by_cases e : g % (s : Int) = r
    · rw [if_pos e]
      refine .inr ⟨g, List.mem_append.mpr (.inr (List.mem_singleton.mpr rfl)), e, rfl, fun g' m _ => ?_⟩
      rcases List.mem_append.mp m with m | m
      · exact Int.le_of_lt (hx g' m g (List.mem_singleton.mpr rfl))
      · rw [List.mem_singleton.mp m]; exact Int.le_refl _
    · rw [if_neg e]
      rcases ih hG with ⟨h2, h3⟩ | ⟨k, h2, h3, h4, h5⟩
      · refine .inl ⟨h2, fun g' m => ?_⟩
        rcases List.mem_append.mp m with m | m
        · exact h3 g' m
        · rw [List.mem_singleton.mp m]; exact e
      · refine .inr ⟨k, List.mem_append.mpr (.inl h2), h3, h4, fun g' m q => ?_⟩
        rcases List.mem_append.mp m with m | m
        · exact h5 g' m q
        · rw [List.mem_singleton.mp m] at q; exact absurd q e
/-- M: closed under adding s; G its gaps: what stands at the rest r is the least member with it -/
theorem lmv_least {s : Nat} {M : Int → Prop} {G : List Int} {r : Int} (hs : 0 < s) (h0 : 0 ≤ r) (h1 : r < s) (hA : Asc G) (hG : ∀ x, x ∈ G ↔ 0 ≤ x ∧ ¬ M x) (low : ∀ x, M x → 0 ≤ x) :
    M (lmv s r G) ∧ ¬ M (lmv s r G - s) ∧ lmv s r G % (s : Int) = r ∧ 0 ≤ lmv s r G := by
  have rr : r % (s : Int) = r := Int.emod_eq_of_lt h0 h1
  rcases lmv_spec hs h0 h1 G hA with ⟨e, n⟩ | ⟨g, m, e1, e, mx⟩
  · rw [e]
    refine ⟨?_, fun z => by have := low _ z; omega, rr, h0⟩
    refine Classical.byContradiction fun z => ?_
    exact n r ((hG r).mpr ⟨h0, z⟩) rr
  · rw [e]
    have hg := (hG g).mp m
    refine ⟨?_, ?_, ?_, by omega⟩
    · refine Classical.byContradiction fun z => ?_
      have := mx (g + s) ((hG _).mpr ⟨by omega, z⟩) (by rw [Int.add_emod_right]; exact e1)
      omega
    · rw [show g + (s : Int) - s = g by omega]; exact hg.2
    · rw [Int.add_emod_right]; exact e1
/-- the list that least_members sorts -/
def lms (s : Nat) (G : List Int) : List Int := (List.range s).map fun r : Nat => lmv s r G
/-- its members: those that are members, and not less s -/
theorem lms_iff {s : Nat} {M : Int → Prop} {G : List Int} (hs : 0 < s) (hA : Asc G) (hG : ∀ x, x ∈ G ↔ 0 ≤ x ∧ ¬ M x) (low : ∀ x, M x → 0 ≤ x) (up : ∀ x, M x → M (x + s)) {x : Int} : x ∈ lms s G ↔ M x ∧ ¬ M (x - s) := by
  unfold lms
  rw [List.mem_map]
  constructor
  · rintro ⟨r, hr, rfl⟩
    obtain ⟨h1, h2, _⟩ := lmv_least (r := (r : Int)) hs (by omega) (by have := List.mem_range.mp hr; omega) hA hG low
    exact ⟨h1, h2⟩
  · rintro ⟨h1, h2⟩
    have hr0 := Int.emod_nonneg x (show (s : Int) ≠ 0 by omega)
    have hr1 := Int.emod_lt_of_pos x (show (0 : Int) < s by omega)
    obtain ⟨k1, k2, k3, k4⟩ := lmv_least (r := x % (s : Int)) hs hr0 hr1 hA hG low
    have stair : ∀ (n : Nat) (y : Int), M y → M (y + s * n) := by
      intro n
      induction n with
      | zero => intro y h; simpa using h
      | succ n ih =>
        intro y h
        have := up _ (ih y h)
        rw [show y + (s : Int) * n + s = y + (s : Int) * ((n + 1 : Nat) : Int) by rw [Int.natCast_add, Int.mul_add]; simp; omega] at this
        exact this
    refine ⟨(x % (s : Int)).toNat, List.mem_range.mpr (by omega), ?_⟩
    rw [Int.toNat_of_nonneg hr0]
    generalize lmv s (x % (s : Int)) G = y at k1 k2 k3 k4
    have d : (s : Int) ∣ x - y := Int.dvd_of_emod_eq_zero (Int.emod_eq_emod_iff_emod_sub_eq_zero.mp k3.symm)
    obtain ⟨k, hk⟩ := d
    rcases Int.lt_trichotomy k 0 with z | z | z
    · -- y is greater
      exfalso
      apply k2
      have e := stair ((-k).toNat - 1) x h1
      rw [show x + (s : Int) * (((-k).toNat - 1 : Nat) : Int) = y - s by
        have : (((-k).toNat - 1 : Nat) : Int) = -k - 1 := by omega
        rw [this, Int.mul_sub, Int.mul_neg]; omega] at e
      exact e
    · subst z; omega
    · exfalso
      apply h2
      have e := stair (k.toNat - 1) y k1
      rw [show y + (s : Int) * ((k.toNat - 1 : Nat) : Int) = x - s by
        have : ((k.toNat - 1 : Nat) : Int) = k - 1 := by omega
        rw [this, Int.mul_sub]; omega] at e
      exact e
theorem lms_nodup {s : Nat} {M : Int → Prop} {G : List Int} (hs : 0 < s) (hA : Asc G) (hG : ∀ x, x ∈ G ↔ 0 ≤ x ∧ ¬ M x) (low : ∀ x, M x → 0 ≤ x) : (lms s G).Nodup := by
  unfold lms
  refine List.pairwise_map.mpr (List.Pairwise.imp_of_mem ?_ List.nodup_range)
  intro i j mi mj ne e
  have hi := List.mem_range.mp mi
  have hj := List.mem_range.mp mj
  obtain ⟨_, _, k3, _⟩ := lmv_least (r := (i : Int)) hs (by omega) (by omega) hA hG low
  obtain ⟨_, _, k4, _⟩ := lmv_least (r := (j : Int)) hs (by omega) (by omega) hA hG low
  rw [e, k4] at k3
  exact ne (by omega)
/-! ### the lists of a way's shelf -/
section
variable {a b : Nat} {l : List Nat}
theorem mem_stair (h : IsWay a b l) (x : Int) (m : Mem a b l x) (n : Nat) : Mem a b l (x + a * n) := by
  induction n with
  | zero => simpa using m
  | succ n ih =>
    have := mem_add_a ih
    rw [show x + (a : Int) * n + a = x + (a : Int) * ((n + 1 : Nat) : Int) by rw [Int.natCast_add, Int.mul_add]; simp; omega] at this
    exact this
/-- gaps lie below (a - 1)(b - 1) -/
theorem gap_lt (h : IsWay a b l) (ha : 0 < a) (hb : 0 < b) (hg : Nat.gcd a b = 1) {x : Int} (h0 : 0 ≤ x) (n : ¬ Mem a b l x) : x < ((a - 1) * (b - 1) : Nat) := by
  have r0 := Int.emod_nonneg x (show (a : Int) ≠ 0 by omega)
  have r1 := Int.emod_lt_of_pos x (show (0 : Int) < a by omega)
  obtain ⟨i, hi, e⟩ := all_rests_a h ha hg (x % (a : Int)).toNat (by omega)
  rw [Int.toNat_of_nonneg r0] at e
  have d : (a : Int) ∣ lv a b l i - x := Int.dvd_of_emod_eq_zero (Int.emod_eq_emod_iff_emod_sub_eq_zero.mp e)
  have lt : x < lv a b l i := by
    rcases Int.lt_or_le x (lv a b l i) with z | z
    · exact z
    · exact absurd ⟨_, ⟨i, hi, rfl⟩, z, by rw [show x - lv a b l i = -(lv a b l i - x) by omega]; exact Int.dvd_neg.mpr d⟩ n
  have le : x + a ≤ lv a b l i := by
    obtain ⟨k, hk⟩ := d
    have kp : 0 < k := by
      rcases Int.lt_or_le 0 k with z | z
      · exact z
      · have : (a : Int) * k ≤ 0 := Int.mul_nonpos_of_nonneg_of_nonpos (by omega) z
        omega
    have : (a : Int) * 1 ≤ (a : Int) * k := Int.mul_le_mul_of_nonneg_left (by omega) (by omega)
    omega
  have up : lv a b l i ≤ (b : Int) * ((a - 1 : Nat) : Int) := by
    rw [lv_eq h.1]
    have n1 := nr_lt h.1 hi
    have q1 : (b : Int) * ((nr l i : Nat) : Int) ≤ (b : Int) * ((a - 1 : Nat) : Int) := Int.mul_le_mul_of_nonneg_left (by omega) (by omega)
    have q2 : (0 : Int) ≤ (a : Int) * ((ns l i : Nat) : Int) := Int.mul_nonneg (by omega) (by omega)
    omega
  obtain ⟨a', rfl⟩ : ∃ a', a = a' + 1 := ⟨a - 1, by omega⟩
  obtain ⟨b', rfl⟩ : ∃ b', b = b' + 1 := ⟨b - 1, by omega⟩
  rw [Nat.add_sub_cancel] at up ⊢
  rw [Nat.add_sub_cancel, Int.natCast_mul]
  have e2 : ((b' + 1 : Nat) : Int) * (a' : Int) = (a' : Int) * (b' : Int) + a' := by rw [Int.natCast_add, Int.add_mul, Int.mul_comm]; simp
  rw [e2] at up
  omega
/-- the gaps, ascending -/
noncomputable def gaps (a b : Nat) (l : List Nat) : List Int := those ((a - 1) * (b - 1)) fun x => ¬ Mem a b l x
theorem gaps_asc : Asc (gaps a b l) := those_asc
theorem gaps_iff (h : IsWay a b l) (ha : 0 < a) (hb : 0 < b) (hg : Nat.gcd a b = 1) {x : Int} : x ∈ gaps a b l ↔ 0 ≤ x ∧ ¬ Mem a b l x := by
  unfold gaps
  rw [those_mem]
  constructor
  · rintro ⟨⟨h1, _⟩, h2⟩; exact ⟨h1, h2⟩
  · rintro ⟨h1, h2⟩; exact ⟨⟨h1, gap_lt h ha hb hg h1 h2⟩, h2⟩
/-- the step levels: the least members of their rests by b -/
theorem sl_iff (h : IsWay a b l) (ha : 0 < a) (hb : 0 < b) (hg : Nat.gcd a b = 1) {x : Int} : SL a b l x ↔ Mem a b l x ∧ ¬ Mem a b l (x - b) := by
  constructor
  · rintro ⟨i, hi, rfl⟩
    exact ⟨mem_lv h ha (List.getElem?_eq_some_iff.mp hi).1, sl_low h ha hg hi⟩
  · rintro ⟨h1, h2⟩
    have r0 := Int.emod_nonneg x (show (b : Int) ≠ 0 by omega)
    have r1 := Int.emod_lt_of_pos x (show (0 : Int) < b by omega)
    obtain ⟨i, hi, e⟩ := all_rests_b h hb hg (x % (b : Int)).toNat (by omega)
    rw [Int.toNat_of_nonneg r0] at e
    have lt := (List.getElem?_eq_some_iff.mp hi).1
    have m := mem_lv h ha (i := i + 1) lt
    have low := sl_low h ha hg hi
    have key := (lms_iff (s := b) (M := Mem a b l) hb gaps_asc (fun x => gaps_iff h ha hb hg) (fun x => mem_nonneg h) (fun x => mem_add_b h ha)).mpr ⟨h1, h2⟩
    have key2 := (lms_iff (s := b) (M := Mem a b l) hb gaps_asc (fun x => gaps_iff h ha hb hg) (fun x => mem_nonneg h) (fun x => mem_add_b h ha)).mpr ⟨m, low⟩
    -- both stand at the same rest
    unfold lms at key key2
    obtain ⟨r, hr, k1⟩ := List.mem_map.mp key
    obtain ⟨r', hr', k2⟩ := List.mem_map.mp key2
    have p := List.mem_range.mp hr
    have p' := List.mem_range.mp hr'
    obtain ⟨_, _, q1, _⟩ := lmv_least (s := b) (r := (r : Int)) hb (by omega) (by omega) gaps_asc (fun x => gaps_iff h ha hb hg) (fun x => mem_nonneg h)
    obtain ⟨_, _, q2, _⟩ := lmv_least (s := b) (r := (r' : Int)) hb (by omega) (by omega) gaps_asc (fun x => gaps_iff h ha hb hg) (fun x => mem_nonneg h)
    rw [k1] at q1
    rw [k2, e, q1] at q2
    have : r = r' := by omega
    subst this
    exact ⟨i, hi, k2.symm.trans k1⟩
/-- the rise makers and the step makers, ascending -/
noncomputable def rms (a b : Nat) (l : List Nat) : List Int := those (a * b) fun x => RL a b l x
noncomputable def sms (a b : Nat) (l : List Nat) : List Int := those (a * b) fun x => SL a b l x
theorem lv_lt (h : IsWay a b l) (hb : 0 < b) {i : Nat} (hi : l[i]? = some 114) : lv a b l i < (a * b : Nat) := by
  rw [lv_eq h.1, Int.natCast_mul]
  have n1 := nr_lt h.1 hi
  have q1 : (b : Int) * ((nr l i : Nat) : Int) < (b : Int) * (a : Int) := Int.mul_lt_mul_of_pos_left (by omega) (by omega)
  have q2 : (0 : Int) ≤ (a : Int) * ((ns l i : Nat) : Int) := Int.mul_nonneg (by omega) (by omega)
  rw [Int.mul_comm (a : Int) b]
  omega
theorem lv_lt' (h : IsWay a b l) (ha : 0 < a) {i : Nat} (hi : l[i]? = some 115) : lv a b l (i + 1) < (a * b : Nat) := by
  rw [lv_eq h.1, Int.natCast_mul, ns_s hi]
  have n1 := nr_le h.1 (i + 1)
  have q1 : (b : Int) * ((nr l (i + 1) : Nat) : Int) ≤ (b : Int) * (a : Int) := Int.mul_le_mul_of_nonneg_left (by omega) (by omega)
  have q2 : (0 : Int) < (a : Int) * ((ns l i + 1 : Nat) : Int) := Int.mul_pos (by omega) (by omega)
  rw [Int.mul_comm (a : Int) b]
  omega
theorem rms_iff (h : IsWay a b l) (ha : 0 < a) (hb : 0 < b) {x : Int} : x ∈ rms a b l ↔ RL a b l x := by
  unfold rms
  rw [those_mem]
  constructor
  · exact fun h => h.2
  · rintro ⟨i, hi, rfl⟩
    exact ⟨⟨lv_nonneg h (Nat.le_of_lt (List.getElem?_eq_some_iff.mp hi).1), lv_lt h hb hi⟩, ⟨i, hi, rfl⟩⟩
theorem sms_iff (h : IsWay a b l) (ha : 0 < a) (hb : 0 < b) {x : Int} : x ∈ sms a b l ↔ SL a b l x := by
  unfold sms
  rw [those_mem]
  constructor
  · exact fun h => h.2
  · rintro ⟨i, hi, rfl⟩
    exact ⟨⟨lv_nonneg h (List.getElem?_eq_some_iff.mp hi).1, lv_lt' h ha hi⟩, ⟨i, hi, rfl⟩⟩
/-- what least_members makes -/
theorem lms_a (h : IsWay a b l) (ha : 0 < a) (hb : 0 < b) (hg : Nat.gcd a b = 1) {v : List Int} (p : v.Perm (lms a (gaps a b l))) (s : v.Pairwise (· ≤ ·)) : v = rms a b l :=
  sorted_is p s (lms_nodup ha gaps_asc (fun x => gaps_iff h ha hb hg) (fun x => mem_nonneg h)) those_asc fun x =>
    (lms_iff ha gaps_asc (fun x => gaps_iff h ha hb hg) (fun x => mem_nonneg h) (fun x => mem_add_a)).trans ((rl_iff h ha hg).symm.trans (rms_iff h ha hb).symm)
theorem lms_b (h : IsWay a b l) (ha : 0 < a) (hb : 0 < b) (hg : Nat.gcd a b = 1) {v : List Int} (p : v.Perm (lms b (gaps a b l))) (s : v.Pairwise (· ≤ ·)) : v = sms a b l :=
  sorted_is p s (lms_nodup hb gaps_asc (fun x => gaps_iff h ha hb hg) (fun x => mem_nonneg h)) those_asc fun x =>
    (lms_iff hb gaps_asc (fun x => gaps_iff h ha hb hg) (fun x => mem_nonneg h) (fun x => mem_add_b h ha)).trans ((sl_iff h ha hb hg).symm.trans (sms_iff h ha hb).symm)
end
end Mg

/-! Mk: gaps by makers, makers of both kinds, the way from the makers, the shelf from its makers, the exchanged way. -/
namespace Mg
open Mw
open Classical
section
variable {a b : Nat} {l : List Nat}
/-! ### gaps by rise levels -/
/-- below a rise level g: g - a, g - 2a, .. -/
def dn (a : Nat) (g : Int) : List Int := (List.range (g / (a : Int)).toNat).map fun k : Nat => g - (a : Int) * (k + 1)
theorem dn_mem (ha : 0 < a) {g x : Int} (hg : 0 ≤ g) : x ∈ dn a g ↔ 0 ≤ x ∧ x < g ∧ (a : Int) ∣ g - x := by
  unfold dn
  rw [List.mem_map]
  have q0 : 0 ≤ g / (a : Int) := Int.ediv_nonneg hg (by omega)
  constructor
  · rintro ⟨k, hk, rfl⟩
    rw [List.mem_range] at hk
    have h1 : (a : Int) * ((k : Int) + 1) ≤ (a : Int) * (g / (a : Int)) := Int.mul_le_mul_of_nonneg_left (by omega) (by omega)
    have h2 := Int.mul_ediv_self_le (x := g) (show (a : Int) ≠ 0 by omega)
    have h3 : (a : Int) * 1 ≤ (a : Int) * ((k : Int) + 1) := Int.mul_le_mul_of_nonneg_left (by omega) (by omega)
    exact ⟨by omega, by omega, ⟨(k : Int) + 1, by omega⟩⟩
  · rintro ⟨h1, h2, m, hm⟩
    have mp : 0 < m := by
      rcases Int.lt_or_le 0 m with z | z
      · exact z
      · have : (a : Int) * m ≤ 0 := Int.mul_nonpos_of_nonneg_of_nonpos (by omega) z
        omega
    have le : m ≤ g / (a : Int) := by
      rw [Int.le_ediv_iff_mul_le (by omega), Int.mul_comm]; omega
    refine ⟨(m - 1).toNat, List.mem_range.mpr (by omega), ?_⟩
    rw [show (((m - 1).toNat : Nat) : Int) + 1 = m by omega]
    omega
theorem dn_nodup (ha : 0 < a) {g : Int} : (dn a g).Nodup := by
  unfold dn
  refine List.pairwise_map.mpr (List.Pairwise.imp ?_ List.nodup_range)
  intro i j ne e
  apply ne
  have e1 : (a : Int) * ((i : Int) + 1) = (a : Int) * ((j : Int) + 1) := by omega
  have := Int.eq_of_mul_eq_mul_left (show (a : Int) ≠ 0 by omega) e1
  omega
theorem dn_len (ha : 0 < a) {g : Int} (hg : 0 ≤ g) : ((dn a g).length : Int) = g / (a : Int) := by
  unfold dn
  rw [List.length_map, List.length_range, Int.toNat_of_nonneg (Int.ediv_nonneg hg (by omega))]
/-- all of them, by rise levels in any order, each once -/
theorem dns_mem (h : IsWay a b l) (ha : 0 < a) (hg : Nat.gcd a b = 1) {u : List Int} (hu : ∀ x, x ∈ u ↔ RL a b l x) {x : Int} : x ∈ u.flatMap (dn a) ↔ 0 ≤ x ∧ ¬ Mem a b l x := by
  rw [List.mem_flatMap]
  constructor
  · rintro ⟨g, mg, m⟩
    obtain ⟨i, hi, rfl⟩ := (hu g).mp mg
    have g0 := lv_nonneg h (Nat.le_of_lt (List.getElem?_eq_some_iff.mp hi).1)
    obtain ⟨h1, h2, h3⟩ := (dn_mem ha g0).mp m
    refine ⟨h1, ?_⟩
    rintro ⟨g', ⟨j, hj, rfl⟩, h4, h5⟩
    have e := rise_place h.1 hg hi hj (by
      rw [show lv a b l i - lv a b l j = (lv a b l i - x) + (x - lv a b l j) by omega]
      exact Int.dvd_add h3 h5)
    subst e; omega
  · rintro ⟨h1, h2⟩
    have r0 := Int.emod_nonneg x (show (a : Int) ≠ 0 by omega)
    have r1 := Int.emod_lt_of_pos x (show (0 : Int) < a by omega)
    obtain ⟨i, hi, e⟩ := all_rests_a h ha hg (x % (a : Int)).toNat (by omega)
    rw [Int.toNat_of_nonneg r0] at e
    have d : (a : Int) ∣ lv a b l i - x := Int.dvd_of_emod_eq_zero (Int.emod_eq_emod_iff_emod_sub_eq_zero.mp e)
    have g0 := lv_nonneg h (Nat.le_of_lt (List.getElem?_eq_some_iff.mp hi).1)
    have lt : x < lv a b l i := by
      rcases Int.lt_or_le x (lv a b l i) with z | z
      · exact z
      · exact absurd ⟨_, ⟨i, hi, rfl⟩, z, by rw [show x - lv a b l i = -(lv a b l i - x) by omega]; exact Int.dvd_neg.mpr d⟩ h2
    exact ⟨_, (hu _).mpr ⟨i, hi, rfl⟩, (dn_mem ha g0).mpr ⟨h1, lt, d⟩⟩
theorem dns_nodup (h : IsWay a b l) (ha : 0 < a) (hg : Nat.gcd a b = 1) {u : List Int} (hu : ∀ x, x ∈ u → RL a b l x) (nd : u.Nodup) : (u.flatMap (dn a)).Nodup := by
  unfold List.Nodup
  rw [List.pairwise_flatMap]
  refine ⟨fun g _ => dn_nodup ha, List.Pairwise.imp_of_mem ?_ nd⟩
  intro g g' mg mg' ne x hx y hy e
  subst e
  obtain ⟨i, hi, rfl⟩ := hu g mg
  obtain ⟨j, hj, rfl⟩ := hu g' mg'
  obtain ⟨_, _, d1⟩ := (dn_mem ha (lv_nonneg h (Nat.le_of_lt (List.getElem?_eq_some_iff.mp hi).1))).mp hx
  obtain ⟨_, _, d2⟩ := (dn_mem ha (lv_nonneg h (Nat.le_of_lt (List.getElem?_eq_some_iff.mp hj).1))).mp hy
  apply ne
  have e := rise_place h.1 hg hi hj (by
    rw [show lv a b l i - lv a b l j = (lv a b l i - x) - (lv a b l j - x) by omega]
    exact Int.dvd_sub d1 d2)
  rw [e]
/-- sorted they are the gaps -/
theorem dns_sorted (h : IsWay a b l) (ha : 0 < a) (hb : 0 < b) (hg : Nat.gcd a b = 1) {u v : List Int} (hu : ∀ x, x ∈ u ↔ RL a b l x) (nd : u.Nodup) (p : v.Perm (u.flatMap (dn a))) (s : v.Pairwise (· ≤ ·)) : v = gaps a b l :=
  sorted_is p s (dns_nodup h ha hg (fun x => (hu x).mp) nd) gaps_asc fun x => (dns_mem h ha hg hu).trans (gaps_iff h ha hb hg).symm
theorem perm_of {u v : List Int} (hu : u.Nodup) (hv : v.Nodup) (h : ∀ x, x ∈ u ↔ x ∈ v) : u.Perm v := (List.perm_ext_iff_of_nodup hu hv).mpr h
theorem flat_len : ∀ (u : List Int), (ha : 0 < a) → (∀ g, g ∈ u → 0 ≤ g) → (((u.flatMap (dn a)).length : Nat) : Int) = (u.map fun g => g / (a : Int)).sum
  | [], _, _ => rfl
  | g :: u, ha, h => by
    rw [List.flatMap_cons, List.length_append, List.map_cons, List.sum_cons, Int.natCast_add, dn_len ha (h g (List.mem_cons_self ..)), flat_len u ha fun x m => h x (List.mem_cons_of_mem _ m)]
/-- the number of gaps, by the rise makers -/
theorem gaps_len (h : IsWay a b l) (ha : 0 < a) (hb : 0 < b) (hg : Nat.gcd a b = 1) {u : List Int} (hu : ∀ x, x ∈ u ↔ RL a b l x) (nd : u.Nodup) : (u.map fun g => g / (a : Int)).sum = ((gaps a b l).length : Int) := by
  rw [← flat_len u ha fun g m => by
    obtain ⟨i, hi, rfl⟩ := (hu g).mp m
    exact lv_nonneg h (Nat.le_of_lt (List.getElem?_eq_some_iff.mp hi).1)]
  have p := perm_of (dns_nodup h ha hg (fun x => (hu x).mp) nd) (asc_nodup (gaps_asc (a := a) (b := b) (l := l))) fun x => (dns_mem h ha hg hu).trans (gaps_iff h ha hb hg).symm
  rw [p.length_eq]
/-! ### the exchanged way -/
theorem exch_get {i : Nat} (hi : i < l.length) : (exch l)[i]? = (l[l.length - 1 - i]?).map swp := by
  unfold exch
  rw [List.getElem?_map, List.getElem?_reverse hi]
theorem rl_exch (h : IsWay a b l) {x : Int} : RL b a (exch l) x ↔ SL a b l x := by
  have n := exch_len (l := l)
  constructor
  · rintro ⟨i, hi, rfl⟩
    have lt := (List.getElem?_eq_some_iff.mp hi).1
    rw [n] at lt
    rw [exch_get lt] at hi
    have e : l[l.length - 1 - i]? = some 115 := by
      rcases letter h.1 (i := l.length - 1 - i) (by omega) with q | q
      · rw [q] at hi; simp [swp] at hi
      · exact q
    refine ⟨l.length - 1 - i, e, ?_⟩
    show lev a b (l.take (l.length - 1 - i + 1)) = lev b a ((exch l).take i)
    rw [exch_lev h.1 (by omega)]
    congr 2; omega
  · rintro ⟨i, hi, rfl⟩
    have lt := (List.getElem?_eq_some_iff.mp hi).1
    refine ⟨l.length - 1 - i, ?_, ?_⟩
    · rw [exch_get (by omega), show l.length - 1 - (l.length - 1 - i) = i by omega, hi]; rfl
    · show lev b a ((exch l).take (l.length - 1 - i)) = lev a b (l.take (i + 1))
      rw [exch_lev h.1 (by omega)]
      congr 2; omega
theorem exch_exch (h : Wd a b l) : exch (exch l) = l := by
  unfold exch
  rw [← List.map_reverse, List.reverse_reverse, List.map_map]
  have : ∀ u : List Nat, (∀ c, c ∈ u → c = 114 ∨ c = 115) → u.map (swp ∘ swp) = u := by
    intro u hu
    induction u with
    | nil => rfl
    | cons c u ih =>
      rw [List.map_cons, ih fun x m => hu x (List.mem_cons_of_mem _ m)]
      rcases hu c (List.mem_cons_self ..) with e | e <;> subst e <;> rfl
  exact this l (wd_letters h)
theorem mem_exch (h : IsWay a b l) (ha : 0 < a) (hb : 0 < b) (hg : Nat.gcd a b = 1) {x : Int} : Mem b a (exch l) x ↔ Mem a b l x := by
  have one : ∀ {a b : Nat} {l : List Nat}, IsWay a b l → 0 < a → 0 < b → Nat.gcd a b = 1 → ∀ {x : Int}, Mem b a (exch l) x → Mem a b l x := by
    intro a b l h ha hb hg x m
    obtain ⟨g, h1, h2, k, hk⟩ := m
    have m0 := ((sl_iff h ha hb hg).mp ((rl_exch h).mp h1)).1
    have k0 : 0 ≤ k := by
      rcases Int.lt_or_le k 0 with z | z
      · have : (b : Int) * k < 0 := Int.mul_neg_of_pos_of_neg (by omega) z
        omega
      · exact z
    have stair : ∀ n : Nat, Mem a b l (g + b * n) := by
      intro n
      induction n with
      | zero => simpa using m0
      | succ n ih =>
        have := mem_add_b h ha ih
        rw [show g + (b : Int) * n + b = g + (b : Int) * ((n + 1 : Nat) : Int) by rw [Int.natCast_add, Int.mul_add]; simp; omega] at this
        exact this
    have := stair k.toNat
    rw [Int.toNat_of_nonneg k0] at this
    rw [show x = g + (b : Int) * k by omega]; exact this
  constructor
  · exact one h ha hb hg
  · intro m
    have := one (exch_way h) hb ha (by rw [Nat.gcd_comm]; exact hg) (x := x) (by rw [exch_exch h.1]; exact m)
    exact this
theorem gaps_exch (h : IsWay a b l) (ha : 0 < a) (hb : 0 < b) (hg : Nat.gcd a b = 1) : gaps b a (exch l) = gaps a b l :=
  asc_ext gaps_asc gaps_asc fun x => by
    rw [gaps_iff (exch_way h) hb ha (by rw [Nat.gcd_comm]; exact hg), gaps_iff h ha hb hg, mem_exch h ha hb hg]
theorem rms_exch (h : IsWay a b l) (ha : 0 < a) (hb : 0 < b) : rms b a (exch l) = sms a b l :=
  asc_ext those_asc those_asc fun x => by rw [rms_iff (exch_way h) hb ha, sms_iff h ha hb, rl_exch h]
theorem sms_exch (h : IsWay a b l) (ha : 0 < a) (hb : 0 < b) : sms b a (exch l) = rms a b l := by
  have := rms_exch (exch_way h) hb ha
  rw [exch_exch h.1] at this; exact this.symm
/-! ### levels are unlike, and the way from the makers -/
theorem lv_inj (h : IsWay a b l) (ha : 0 < a) (hb : 0 < b) (hg : Nat.gcd a b = 1) {i j : Nat} (hi : i < l.length) (hj : j < l.length) (e : lv a b l i = lv a b l j) : i = j := by
  have key : ∀ {i j : Nat}, i < l.length → j < l.length → lv a b l i = lv a b l j → nr l i ≤ nr l j → i = j := by
    intro i j hi hj e le
    have d := rest_a h.1 hg (i := i) (j := j) (by rw [e]; exact ⟨0, by omega⟩)
    have b1 := nr_le h.1 i
    have b2 := nr_le h.1 j
    have s1 := sum_i h.1 (Nat.le_of_lt hi)
    have s2 := sum_i h.1 (Nat.le_of_lt hj)
    have e1 := lv_eq h.1 i
    have e2 := lv_eq h.1 j
    rcases Nat.lt_or_ge (nr l j) (nr l i + a) with z | z
    · have e3 := small_dvd d (by omega) (by omega)
      have e4 : nr l i = nr l j := by omega
      rw [e4] at e1
      have e5 : (a : Int) * (ns l i : Nat) = (a : Int) * (ns l j : Nat) := by omega
      have := Int.eq_of_mul_eq_mul_left (show (a : Int) ≠ 0 by omega) e5
      omega
    · have z1 : nr l i = 0 := by omega
      have z2 : nr l j = a := by omega
      rw [z1] at e1
      rw [z2] at e2
      have p1 := lv_nonneg h (Nat.le_of_lt hi)
      have q1 : (a : Int) * (ns l i : Nat) = 0 := by
        have : (0 : Int) ≤ (a : Int) * (ns l i : Nat) := Int.mul_nonneg (by omega) (by omega)
        simp at e1; omega
      have q2 : lv a b l i = 0 := by simp at e1; omega
      have q3 : (b : Int) * a = (a : Int) * (ns l j : Nat) := by omega
      rw [Int.mul_comm] at q3
      have := Int.eq_of_mul_eq_mul_left (show (a : Int) ≠ 0 by omega) q3
      have := h.1.2.2
      omega
  rcases Nat.le_total (nr l i) (nr l j) with z | z
  · exact key hi hj e z
  · exact (key hj hi e.symm z).symm
theorem is_rise (h : IsWay a b l) (ha : 0 < a) (hb : 0 < b) (hg : Nat.gcd a b = 1) {i : Nat} (hi : i < l.length) : lv a b l i ∈ rms a b l ↔ l[i]? = some 114 := by
  rw [rms_iff h ha hb]
  constructor
  · rintro ⟨j, hj, e⟩
    have := lv_inj h ha hb hg (List.getElem?_eq_some_iff.mp hj).1 hi e
    rw [← this]; exact hj
  · intro q; exact ⟨i, q, rfl⟩
/-! ### members by the makers alone -/
theorem mem_by (h : IsWay a b l) (ha : 0 < a) (hb : 0 < b) (hg : Nat.gcd a b = 1) {x : Int} : Mem a b l x ↔ (x ∈ rms a b l ∧ x ∈ sms a b l) ∨ Mem a b l (x - a) ∨ Mem a b l (x - b) := by
  rw [rms_iff h ha hb, sms_iff h ha hb, rl_iff h ha hg, sl_iff h ha hb hg]
  constructor
  · intro m
    by_cases h1 : Mem a b l (x - a)
    · exact .inr (.inl h1)
    · by_cases h2 : Mem a b l (x - b)
      · exact .inr (.inr h2)
      · exact .inl ⟨⟨m, h1⟩, m, h2⟩
  · rintro (⟨⟨m, _⟩, _⟩ | m | m)
    · exact m
    · have := mem_add_a m
      rw [show x - (a : Int) + a = x by omega] at this; exact this
    · have := mem_add_b h ha m
      rw [show x - (b : Int) + b = x by omega] at this; exact this
end
end Mg

/-! Er: error classes over any built-in one, whose own __init__ keeps one value. -/
namespace Er
open PySem PySem.Spec PyProof.Rows L2 Sx PySem.Builtin.ObjectAttr
/-- the class at C, its __init__ a def at fI, the mro of its built-in base bmB, made by nw -/
structure Own (K : PySem.W.Frag) (C fI : Addr) (bmB : List Value) (nw : String) : Prop where
  made : PySem.W.excInitIn K C bmB nw = true
  over : PySem.W.excOver K C bmB = true
  dict : PySem.W.hasDictIn K C = true
  sets : PySem.W.findIn K (.ref C) "__setattr__" = some (some (.builtin "object.__setattr__"))
  init : PySem.W.findIn K (.ref C) "__init__" = some (some (.ref fI))
  fn : PySem.W.isFn K (.ref fI) = true
  kept : PySem.W.keepIn K (.ref C) = true
  exc : PySem.W.subIn K (.ref C) (.type "BaseException") = some true
  ty : PySem.W.typeIn K (.ref C) = some (.type "type")
  gets : PySem.W.findIn K (.ref C) "__getattribute__" = some (some (.builtin "BaseException.__getattribute__"))
  none' : PySem.W.findIn K (.ref C) "__getattr__" = some none
theorem Own.raises {X : Cx} {C fI : Addr} {bm : List Value} {nw : String} (T : Own X.K C fI bm nw) : Raises X (.ref C) := raises_own T.exc T.ty
theorem Own.field {K : PySem.W.Frag} {C fI : Addr} {bm : List Value} {nw : String} (T : Own K C fI bm nw) : XfC K C := ⟨T.gets, T.none', T.exc, T.dict⟩
section
variable {X : Cx} {pins : List (Addr × Obj)} {σ : L2.St} {H : Hp} {s : Shared} {C fI : Addr} {bm : List Value} {nw B : String}
/-- the first field of a fresh error -/
theorem first_field {a : Addr} {f : Str} {y : V} {u : Value} {Q : Unit → Shared → Prop} {E : Value → Shared → Prop} {A : Around} (T : Own X.K C fI bm nw) (SF : StoreFacts B bm "object.__setattr__" "object")
    (no : PySem.W.findIn X.K (.ref C) f = some none) (I : Inv X pins σ H s) (ha : H a = some (exo a C none)) (r : RelV y u)
    (go : ∀ dx s', H dx = none → dx ≠ a → Inv X pins σ (upd (upd H dx (exd dx [(f, y)])) a (exo a C (some dx))) s' → Q () s') : wpAny (model X.prog X.w) A (setAttr (.ref a) f u) Q E s := by
  obtain ⟨t1, at0⟩ := exo_at I.hok ha
  obtain ⟨cd, hcd, hdict⟩ : ∃ cd, PySem.W.clsIn X.K C = some cd ∧ cd.hasDict = true := PySem.W.any_some T.dict
  obtain ⟨hp, gs, dr, tk, os⟩ := s
  have inst : PySem.W.InstAt hp a { cls := .ref C, dict := none, data := .fields #[.ref t1, .none, .none, .none, .bool false, .none] } C none := ⟨at0, rfl, rfl, trivial⟩
  refine PySem.W.set_plain I.kIn inst T.sets ?_
  have taker : PySem.W.takerIn X.K C f = some none := by unfold PySem.W.takerIn; rw [no]; rfl
  refine PySem.W.osa_openX SF I.kIn inst T.over taker fun bb => ?_
  have know : PySem.W.Looks (model X.prog X.w) hp (classData C) cd := PySem.W.looks_clsIn I.kIn hcd
  have apart : hp.objs.size ≠ a := fun z => Nat.lt_irrefl _ (by have q := Heap.lt_size at0; rw [← z] at q; exact q)
  show wpAny _ _ (storeInOwnDict (.ref a) (.ref C) (.str f tk) f u bb) _ _ _
  obtain ⟨nm, bs, mro, ns, qn, hd, sn, sb, ab, col, dl⟩ := cd
  dsimp only at hdict
  subst hdict
  unfold storeInOwnDict ownDictForStores
  repeat (first | with_reducible refine HandSPX.store_in_new ?_ ?_ | with_reducible refine wpAny_loadPart_at at0 ?_ | with_reducible refine know.at ?_ | wp_step)
  · refine ⟨_, #[], _, (Heap.get?_update_ne _ _ _ _ apart).trans (Heap.get?_push_at rfl rfl), rfl, ?_, fun _ => rfl⟩
    intro z hz
    exact absurd hz (by simp)
  · intro h3 t3 named same
    have at1 : (hp.push { cls := .type "dict", data := .dict #[] }).get? a = some _ := Heap.get?_push_of_some _ at0
    have old : ∀ b o, b ≠ a → hp.get? b = some o → h3.get? b = some o := fun b o hb e => (same.2 b (Nat.ne_of_lt (Heap.lt_size e))).trans ((Heap.get?_update_ne _ _ _ _ hb).trans (Heap.get?_push_of_some _ e))
    have at3 : h3.get? a = some { cls := .ref C, dict := some hp.objs.size, data := .fields #[.ref t1, .none, .none, .none, .bool false, .none] } := (same.2 a (Ne.symm apart)).trans (Heap.get?_update_self _ at1 rfl)
    have newD : H hp.objs.size = none := I.hok.fresh (Nat.le_refl _)
    -- in two steps: the dict beside the error as it was, then the error
    have back : (h3.update a fun _ => { cls := .ref C, dict := none, data := .fields #[.ref t1, .none, .none, .none, .bool false, .none] }).get? a = some { cls := .ref C, dict := none, data := .fields #[.ref t1, .none, .none, .none, .bool false, .none] } := Heap.get?_update_self _ at3 rfl
    have beside : ∀ b, b ≠ a → (h3.update a fun _ => { cls := .ref C, dict := none, data := .fields #[.ref t1, .none, .none, .none, .bool false, .none] }).get? b = h3.get? b := fun b hb => Heap.get?_update_ne _ _ _ _ hb
    have I1 : Inv X pins σ (upd H hp.objs.size (exd hp.objs.size [(f, y)])) ⟨h3.update a fun _ => { cls := .ref C, dict := none, data := .fields #[.ref t1, .none, .none, .none, .bool false, .none] }, gs, dr, t3, os⟩ := by
      refine I.laid (t' := t3) (fun b o e => ?_) (Nat.le_refl _) (exd_ok (named.at fun o q => (beside _ apart).trans q) (relO_put (fs := []) r fun g => True.intro))
      by_cases hb : b = a
      · subst hb; rw [at0] at e; cases e; exact back
      · rw [beside b hb]; exact old b o hb e
    have ha1 : upd H hp.objs.size (exd hp.objs.size [(f, y)]) a = some (exo a C none) := by rw [upd_ne (Ne.symm apart)]; exact ha
    have I2 := I1.write (t' := t3) (h' := h3) (x := a) (e := a) (o := exo a C (some hp.objs.size)) (by rw [ha1]; exact True.intro) (.inl rfl) (fun b o hb e => by rw [beside b hb] at e; exact e) ⟨_, at3⟩ (exo_ok at3)
    exact go _ _ newD apart I2
/-- self.f = e in such an __init__ -/
def tSelf (C : Addr) (f : Str) (to te : TE) : TS := fun D σ H => te σ H fun y H1 => to σ H1 fun x H2 => ∃ a : Addr, x = .ref a ∧ H2 a = some (exo a C none) ∧
  ∀ dx, H2 dx = none → dx ≠ a → D.nx σ (upd (upd H2 dx (exd dx [(f, y)])) a (exo a C (some dx)))
theorem ps_self {o e : Expr} {f : Str} {p1 pos : Pos} {to te : TE} (T : Own X.K C fI bm nw) (SF : StoreFacts B bm "object.__setattr__" "object") (no : PySem.W.findIn X.K (.ref C) f = some none) (ho : PE X o to) (he : PE X e te)
    (sw : swapsWith e (some (.Attribute o f p1)) pos.line X.env = pure false := by rfl) : PS X (.Assign [.Attribute o f p1] e pos) (tSelf C f to te) := by
  constructor
  intro pn s σ H D I now
  refine plainObj_wpAny_Assign_Attribute (thn (he.run pn s σ H _ I now) ?_) sw
  rintro v s1 ⟨y, H1, I1, r1, now1⟩
  refine thn (ho.run pn s1 σ H1 _ I1 now1) ?_
  rintro z s2 ⟨x, H2, I2, r2, a, rfl, ha, go⟩
  obtain rfl : z = Value.ref a := r2
  exact first_field T SF no I2 ha r1 fun dx s' n ne J => ⟨σ, _, J, go dx n ne⟩
end
/-- what __init__ promises -/
def spInit (C : Addr) (f : Str) : Sp := fun vs H Q _ => ∃ (a : Addr) (v : V), vs = [.ref a, v] ∧ H a = some (exo a C none) ∧ ∀ dx, H dx = none → dx ≠ a → Q .non (upd (upd H dx (exd dx [(f, v)])) a (exo a C (some dx)))
theorem r_self {C a : Addr} {f : Str} {to te : TE} {nx bk ct : L2.St → Hp → Prop} {rt : VK} {σ : L2.St} {H : Hp}
    (h : te σ H fun y H1 => to σ H1 fun x H2 => ∃ a : Addr, x = .ref a ∧ H2 a = some (exo a C none) ∧ ∀ dx, H2 dx = none → dx ≠ a → nx σ (upd (upd H2 dx (exd dx [(f, y)])) a (exo a C (some dx)))) : tSelf C f to te ⟨nx, rt, bk, ct⟩ σ H := h
/-- C(e) -/
def tErr (C : Addr) (f : Str) (ta : TA) : L2.St → Hp → XK → Prop := fun σ H Q => ta σ H fun vs H1 => ∃ v, vs = [v] ∧ ∀ d, H1 d = none → Q (.ref C) (some d) (upd H1 d (.xd [(f, v)]))
theorem pmk_err {X : Cx} {x f : Str} {C fI : Addr} {bm : List Value} {nw B ini : String} {k : Nat} {fd : FuncData} {ps : List Str} {e : Expr} {ta : TA} {p pos : Pos} (T : Own X.K C fI bm nw) (F : ExcBaseFacts B nw ini bm)
    (F1 : FnOk X.prog X.w X.K X.mg X.base C8.CX0 k fI fd ps (spInit C f)) (hr : Room (k + 1) X.A) (hb : Binds X.K fd ps []) (hg : Gl X x) (hm : X.mg x = some (.ref C)) (ha : PA X [e] ta)
    (nd : (x == ("__debug__" : Str)) = false := by decide) (he : starEach (e :: []) X.env = (false, eval e X.env) :: starEach [] X.env := by rfl) (hpl : (backTo pos (starEach [] X.env)).any (·.1) = false := by rfl) :
    PMk X (.Call (.Name x p) [e] [] pos) (tErr C f ta) := by
  intro pins s σ H Q I now
  refine wpAny_Call_Name_kw (ld_glob I hg hm ?_ nd)
  refine PySem.W.callWith_K (h₀ := X.base) I.ok.mod.kin T.kept (thn (ha.run pos pins s σ H _ I now) ?_) he hpl
  rintro us s1 ⟨vs, H1, I1, r1, v, rfl, go⟩
  refine ⟨I1.kIn, ?_⟩
  show wpAny _ _ (call (.ref C) us) _ _ _
  obtain ⟨nm, N', qn, bs, bm', hdct, sn, sub, ab, col, dd, k0, k1, k2, k3, k5, hC, tail⟩ := PySem.W.excInit_of I1.kIn T.made
  obtain ⟨hp, g, dr, tk, os⟩ := s1
  cases r1 with
  | @cons _ v' _ us' rv rest =>
    cases rest
    have grow : hp.objs.size ≤ hp.objs.size + 1 := Nat.le_succ _
    have fresh : H1 (hp.objs.size + 1) = none := I1.hok.fresh grow
    have kept : ∀ b o, hp.get? b = some o → ((hp.push (PySem.W.kdv_tup [v'])).push (PySem.HandSPX.excO C hp.objs.size)).get? b = some o := fun b o z => Heap.get?_push_of_some _ (Heap.get?_push_of_some _ z)
    have there : ((hp.push (PySem.W.kdv_tup [v'])).push (PySem.HandSPX.excO C hp.objs.size)).get? (hp.objs.size + 1) = some (PySem.HandSPX.excO C hp.objs.size) := by heap_get
    have I2 : Inv X pins σ (upd H1 (hp.objs.size + 1) (exo (hp.objs.size + 1) C none)) ⟨(hp.push (PySem.W.kdv_tup [v'])).push (PySem.HandSPX.excO C hp.objs.size), g, dr, tk, os⟩ := I1.laid (t' := tk) kept grow (exo_ok there)
    have wish : spInit C f [.ref (hp.objs.size + 1), v] (upd H1 (hp.objs.size + 1) (exo (hp.objs.size + 1) C none))
        (fun w H2 => w = .non ∧ ∃ d : Addr, H2 (hp.objs.size + 1) = some (exo (hp.objs.size + 1) C (some d)) ∧ H2 d = some (exd d [(f, v)]) ∧ H1 d = none ∧ Q (.ref C) (some d) (upd (del H2 (hp.objs.size + 1)) d (.xd [(f, v)]))) (fun _ _ _ => False) := by
      refine ⟨_, v, rfl, upd_same, fun dx n ne => ⟨rfl, dx, upd_same, by rw [upd_ne ne, upd_same], by rw [upd_ne ne] at n; exact n, ?_⟩⟩
      have n1 : H1 dx = none := by rw [upd_ne ne] at n; exact n
      have same : upd (del (upd (upd (upd H1 (hp.objs.size + 1) (exo (hp.objs.size + 1) C none)) dx (exd dx [(f, v)])) (hp.objs.size + 1) (exo (hp.objs.size + 1) C (some dx))) (hp.objs.size + 1)) dx (.xd [(f, v)]) = upd H1 dx (.xd [(f, v)]) := by
        funext b
        by_cases h1 : b = dx
        · subst h1; rw [upd_same, upd_same]
        · rw [upd_ne h1, upd_ne h1]
          by_cases h2 : b = hp.objs.size + 1
          · subst h2; rw [del_same, fresh]
          · rw [del_ne h2, upd_ne h2, upd_ne h1, upd_ne h2]
      rw [same]
      exact go dx n1
    have args : Vals [V.ref (hp.objs.size + 1), v] [Value.ref (hp.objs.size + 1), v'] := .cons rfl (.cons rv .nil)
    have len : ([Value.ref (hp.objs.size + 1), v'] : List Value).length = ps.length := by have z := F1.len _ _ _ _ wish; exact z ▸ rfl
    have isf : PySem.W.typeIn X.K (.ref fI) = some (.type "function") := by
      have z := T.fn
      unfold PySem.W.isFn at z
      exact beq_iff_eq.mp z
    refine wpAny_call (PySem.HandSPX.call_own F tail hC (PySem.W.looks_findIn I1.kIn T.init) (fun self => PySem.W.bind_fn I1.kIn self isf) (by rw [sizeLine_eq]; exact (by decide : (1 : Nat) ≤ 16777216)) ?_)
    refine codeAny_mono (F1.run _ X.stack _ _ ⟨[Value.ref (hp.objs.size + 1), v'], []⟩ [Value.ref (hp.objs.size + 1), v'] _ _ (fun _ _ _ => False) (hr.make C _ []) (I2.env0.make C _ []) ?_ args wish) ?_
    · have z := hb ⟨(hp.push (PySem.W.kdv_tup [v'])).push (PySem.HandSPX.excO C hp.objs.size), g, dr, tk, os⟩ [Value.ref (hp.objs.size + 1), v'] I2.kIn
      rw [List.append_nil] at z
      exact z len
    · intro res s' got
      cases res with
      | error er => exact (show False from got).elim
      | ok fl =>
        cases fl with
        | next => exact False.elim got
        | brk => exact False.elim got
        | cont => exact False.elim got
        | ret u =>
          obtain ⟨w', H2, os2, bare2, un2, hok2, rw', ew, d, ea, ed, hd1, q2⟩ := got
          subst ew
          obtain ⟨h2, g2, d2, t2, os'⟩ := s'
          exact ⟨rw', mk_end T.raises I1 grow kept un2 hok2 os2 bare2 ea ed hd1 q2⟩
theorem ps_err {X : Cx} {W : WX} {x f : Str} {C fI : Addr} {bm : List Value} {nw B ini : String} {k : Nat} {fd : FuncData} {ps : List Str} {e : Expr} {ta : TA} {p pos pos2 : Pos} (hc : X.calm = true) (tk : Takes X W) (T : Own X.K C fI bm nw) (F : ExcBaseFacts B nw ini bm)
    (F1 : FnOk X.prog X.w X.K X.mg X.base C8.CX0 k fI fd ps (spInit C f)) (hr : Room (k + 1) X.A) (hb : Binds X.K fd ps []) (hg : Gl X x) (hm : X.mg x = some (.ref C)) (ha : PA X [e] ta)
    (nd : (x == ("__debug__" : Str)) = false := by decide) (he : starEach (e :: []) X.env = (false, eval e X.env) :: starEach [] X.env := by rfl) (hpl : (backTo pos (starEach [] X.env)).any (·.1) = false := by rfl) :
    PS X (.Raise (some (.Call (.Name x p) [e] [] pos)) none pos2) (fun _ σ H => tErr C f ta σ H fun cls d H' => W cls d σ H') :=
  ps_raise hc tk (pmk_err T F F1 hr hb hg hm ha nd he hpl)
/-- raise C(e), raise C('m'): what comes out -/
def tRaise (C : Addr) (f : Str) (E : XK) (ta : TA) : TS := fun _ σ H => tErr C f ta σ H fun cls d H' => E cls d H'
def tRaise0 (C : Addr) (E : XK) : TS := fun _ _ H => E (.ref C) none H
theorem ps_raise1 {X : Cx} {E : XK} {x f : Str} {C fI : Addr} {bm : List Value} {nw B ini : String} {k : Nat} {fd : FuncData} {ps : List Str} {e : Expr} {ta : TA} {p pos pos2 : Pos} (hc : X.calm = true) (tk : Takes X (fun cls d _ H => E cls d H)) (T : Own X.K C fI bm nw) (F : ExcBaseFacts B nw ini bm)
    (F1 : FnOk X.prog X.w X.K X.mg X.base C8.CX0 k fI fd ps (spInit C f)) (hr : Room (k + 1) X.A) (hb : Binds X.K fd ps []) (hg : Gl X x) (hm : X.mg x = some (.ref C)) (ha : PA X [e] ta)
    (nd : (x == ("__debug__" : Str)) = false := by decide) (he : starEach (e :: []) X.env = (false, eval e X.env) :: starEach [] X.env := by rfl) (hpl : (backTo pos (starEach [] X.env)).any (·.1) = false := by rfl) :
    PS X (.Raise (some (.Call (.Name x p) [e] [] pos)) none pos2) (tRaise C f E ta) := ps_err hc tk T F F1 hr hb hg hm ha nd he hpl
theorem ps_raise0 {X : Cx} {E : XK} {x m : Str} {C : Addr} {bm : List Value} {nw B ini : String} {j : Nat} {p p2 pos pos2 : Pos} (hc : X.calm = true) (tk : Takes X (fun cls d _ H => E cls d H)) (F : ExcBaseFacts B nw ini bm)
    (q : PySem.W.excIn X.K C bm nw = true) (hm : X.mg x = some (.ref C)) (kp : PySem.W.keepIn X.K (.ref C) = true) (ex : PySem.W.subIn X.K (.ref C) (.type "BaseException") = some true) (ty : PySem.W.typeIn X.K (.ref C) = some (.type "type")) (hg : Gl X x)
    (nd : (x == ("__debug__" : Str)) = false := by decide) : PS X (.Raise (some (.Call (.Name x p) [.Constant (.str m) j p2] [] pos)) none pos2) (tRaise0 C E) := ps_raise hc tk (pmk_own F q hm kp (raises_own ex ty) hg nd)
theorem r_raise {C : Addr} {f : Str} {E : XK} {ta : TA} {D : Ends} {σ : L2.St} {H : Hp} (h : ta σ H fun vs H1 => ∃ v, vs = [v] ∧ ∀ d, H1 d = none → E (.ref C) (some d) (upd H1 d (.xd [(f, v)]))) : tRaise C f E ta D σ H := h
theorem r_raise0 {C : Addr} {E : XK} {D : Ends} {σ : L2.St} {H : Hp} (h : E (.ref C) none H) : tRaise0 C E D σ H := h
/-! ### the built-in classes above -/
abbrev bmValueError : List Value := [.type "ValueError", .type "Exception", .type "BaseException", .type "object"]
abbrev bmIndexError : List Value := [.type "IndexError", .type "LookupError", .type "Exception", .type "BaseException", .type "object"]
abbrev bmArithmeticError : List Value := [.type "ArithmeticError", .type "Exception", .type "BaseException", .type "object"]
abbrev bmOverflowError : List Value := [.type "OverflowError", .type "ArithmeticError", .type "Exception", .type "BaseException", .type "object"]
abbrev bmLookupError : List Value := [.type "LookupError", .type "Exception", .type "BaseException", .type "object"]
/-- which class an error is of, for an except clause -/
theorem exm {K : PySem.W.Frag} {R C : Addr} {b : Bool} (h1 : PySem.W.subIn K (.ref R) (.type "BaseException") = some true) (c1 : PySem.W.subIn K (.ref C) (.type "BaseException") = some true) (h2 : PySem.W.isClsIn K C = true) (h3 : PySem.W.typeIn K (.ref C) = some (.type "type")) (h4 : PySem.W.subIn K (.ref R) (.ref C) = some b) :
    PySem.W.exmOne K (.ref R) (.ref C) = some b := by
  have z1 : (PySem.W.subIn K (.ref C) (.type "BaseException") == some true) = true := by rw [c1] <;> rfl
  have z2 : ((PySem.W.clsIn K C).isSome && PySem.W.typeIn K (.ref C) == some (.type "type")) = true := by
    have h2' : (PySem.W.clsIn K C).isSome = true := h2
    rw [h2', h3] <;> rfl
  show (if (PySem.W.subIn K (.ref C) (.type "BaseException") == some true) = true then (if ((PySem.W.clsIn K C).isSome && PySem.W.typeIn K (.ref C) == some (.type "type")) = true then PySem.W.subIn K (.ref R) (.ref C) else none) else none) = some b
  rw [if_pos z1, if_pos z2]
  exact h4
end Er

/-! En: functions that are run where nothing is being shown (repr of a list asks for it), calls of them, and the end of a law with tables. -/
namespace En
open PySem PySem.Spec PyProof.Rows L2 LamX
/-- as FnOk, but only where the guards are known to be none -/
structure FnG (P : Program) (w : World) (K : PySem.W.Frag) (mg : Str → Option Value) (base : Heap) (CX : CXT) (k : Nat) (f : Addr) (fd : FuncData) (ps : List Str) (sp : Sp) : Prop where
  many : ∀ vs H Q E, sp vs H Q E → vs.length = ps.length
  goes : ∀ (A : Around) (outer : List Env) (s : Shared) (H : Hp) (args : Args) (us : List Value) (vs : List V) (Q : VK) (E : XK), A.guards = some [] → Room k A → Env0 P w K mg base A outer s H → BindsTo s fd args (ps.zip us) → Vals vs us → sp vs H Q E →
    codeAny (model P w) A (.call (.ref f) args) (CR CX outer P w H s Q E) s
section
variable {P : Program} {w : World} {K : PySem.W.Frag} {mg : Str → Option Value} {base : Heap} {k : Nat} {f : Addr} {fd : FuncData} {ps : List Str} {sp : Sp}
theorem fnG {x qual : Str} {st : Stmt} {N : List Str} (F : Fun K x qual st f fd) (S : FnScope N ps (defScope st)) (many : ∀ vs H Q E, sp vs H Q E → vs.length = ps.length)
    (go : ∀ (cdv : Value) (A : Around) (outer : List Env) (s : Shared) (H : Hp) (vs : List V) (Q : VK) (E : XK), fd.code = cdv → (A.deeper (envOfC qual (defScope st) s.heap.objs.size f cdv)).guards = some [] → Room k (A.deeper (envOfC qual (defScope st) s.heap.objs.size f cdv)) → sp vs H Q E →
      ∃ t, PSs (cxOf CX0 P w K mg base N qual (defScope st) f cdv A outer s H E).nox (defBody st) t ∧ t { nx := fun _ H' => Q .non H', rt := Q } (start N vs) H) : FnG P w K mg base CX0 (k + 1) f fd ps sp := by
  obtain ⟨oc, od, kV, doc, pm, an, cdv, ct, osl, rfl, lk, code⟩ := F.ex
  refine ⟨many, ?_⟩
  intro A outer s H args us vs Q E clear room e0 binds args' wish
  exact run_ofS lk code S room e0 binds args' (many _ _ _ _ wish) fun room' => (go cdv A outer s H vs Q E rfl clear room' wish).imp fun t z => ⟨z.1.nox, z.2⟩
end
section
variable {X : Cx} {CX : CXT} {k : Nat} {f : Addr} {fd : FuncData} {ps : List Str} {sp : Sp} {E : XK} {x : Str} {p pos : Pos} {e : Expr} {es : List Expr} {t : TA}
/-- a call of such a function, from one of its kind -/
theorem pe_callG (clear : X.A.guards = some []) (F : FnG X.prog X.w X.K X.mg X.base CX k f fd ps sp) (room : Room k X.A) (hg : Gl X x) (hm : X.mg x = some (.ref f)) (hk : PySem.W.keepIn X.K (.ref f) = true) (hb : Binds X.K fd ps []) (pass : Passes CX X E) (ha : PA X (e :: es) t)
    (nd : (x == ("__debug__" : Str)) = false := by decide) (he : starEach (e :: es) X.env = (false, eval e X.env) :: starEach es X.env := by rfl) (hpl : (backTo pos (starEach es X.env)).any (·.1) = false := by rfl) :
    PE X (.Call (.Name x p) (e :: es) [] pos) (tCall sp [] E t) := by
  constructor
  intro pins s σ H Q I now
  refine wpAny_Call_Name_kw (ld_glob I hg hm ?_ nd)
  refine PySem.W.callWith_K (h₀ := X.base) I.ok.mod.kin hk (thn (ha.run pos pins s σ H _ I now) ?_) he hpl
  rintro us s1 ⟨vs, H1, I1, r, wish⟩
  refine ⟨I1.kIn, ?_⟩
  rw [List.append_nil] at wish
  have len : us.length = ps.length := by rw [← r.length]; exact F.many _ _ _ _ wish
  have b := hb s1 us I1.kIn (by rw [List.append_nil]; exact len)
  rw [List.append_nil] at b
  refine wpAny_call (codeAny_mono (F.goes X.A X.stack s1 H1 ⟨us, []⟩ us vs Q E clear room I1.env0 b r wish) ?_)
  intro res s' got
  cases res with
  | error er => exact pass pins σ H1 s1 er s' I1 got
  | ok fl =>
    cases fl with
    | ret u => exact I1.after got
    | next => exact False.elim got
    | brk => exact False.elim got
    | cont => exact False.elim got
end
/-- nothing comes out where nothing may -/
theorem passN {X : Cx} : Passes (L2.CX X.prog X.w) X (fun _ _ _ => False) := fun _ _ _ _ _ _ _ c => by
  obtain ⟨_, _, _, _, _, _, _, _, _, _, _, _, _, _, z⟩ := c

/-- f(lambda: body), told by f's own facts -/
theorem pe_lam {X : Cx} {T : List (Addr × Str)} {TT : (XK → Hp → VK → Prop) → Hp → VK → Prop} {x a : Str} {st : Stmt} {g c P : Addr} {fd : FuncData} {k : Nat} {Ng : List Str} {params : Arguments} {body : Expr} {scope : Scope} {t : XK → TE} {p lpos pos : Pos}
    (F : Fun X.K x x st g fd) (hm : X.mg x = some (.ref g)) (hb : L2.Binds X.K fd [a] []) (Sg : FnScope Ng [a] (defScope st)) (gives : ∀ cdv, GivesTo X Ng x (defScope st) g cdv (defBody st) a (X.env.qual ++ "<lambda>") TT)
    (TB : TabB X.base X.mg c P) (code : X.env.code = .ref c) (hmT : (P, X.env.qual ++ "<lambda>") ∈ T) (hu : ∀ p ∈ T, p.1 = P → p.2 = X.env.qual ++ "<lambda>") (room : Room (k + 2) X.A) (L : LamS X.env.scope scope)
    (run : ∀ (A : Around) (outer : List Env) (s : Shared) (H : Hp) (E : XK) (f c' : Addr), Room k (A.deeper (lamEnv X scope s.heap.objs.size f c')) → PE (lamCx X A outer s H E scope f c') body (t E))
    (hNg : Ng[0]? = some a := by rfl) (hva : Vis (defScope st) a := by exact .inl rfl) (hg : Gl X x := by rfl) (hdef : defaultsOf params X.env = ([], []) := by rfl) (hbind : ∀ (q : Str) (cl : List (Str × Addr)) (pm cv ctv : Value), bindArgs (PySem.W.kla_fn "<lambda>" q params body scope cl pm cv ctv) ⟨[], []⟩ = pure [] := by intros; rfl)
    (hdb : (x == ("__debug__" : Str)) = false := by decide) (hd : (a == ("__debug__" : Str)) = false := by decide) (hcd : (a == ("__classdict__" : Str)) = false := by decide) :
    PE X (.Call (.Name x p) [.Lambda params body scope lpos] [] pos) (tLam T TT t) := by
  obtain ⟨oc, od, kV, doc, pm, an, cdv, ct, osl, rfl, lk, codeF⟩ := F.ex
  exact pe_lamcall hg hm F.kp lk codeF hb Sg hNg hva (gives cdv) TB code hmT hu room L hdef hbind run hdb hd hcd
/-! ### values that are no integers -/
theorem TyOf_mono {K : PySem.W.Frag} {H H' : Hp} (s : ∀ b o, H b = some o → H' b = some o) {x : V} {t : Value} (h : TyOf K H x t) : TyOf K H' x t := by
  cases h with
  | non => exact .non
  | bl x => exact .bl x
  | int i => exact .int i
  | str x => exact .str x
  | flt x => exact .flt x
  | lst e => exact .lst (s _ _ e)
  | frz e => exact .frz (s _ _ e)
  | tup e => exact .tup (s _ _ e)
  | dK e => exact .dK (s _ _ e)
  | dT e => exact .dT (s _ _ e)
  | ins e cl ha hn hk hm => exact .ins (s _ _ e) cl ha hn hk hm
theorem TyX_mono {K : PySem.W.Frag} {H H' : Hp} (s : ∀ b o, H b = some o → H' b = some o) {x : V} {t : Value} (h : TyX K H x t) : TyX K H' x t := by
  cases h with
  | base h => exact .base (TyOf_mono s h)
  | byt b => exact .byt b
  | set e => exact .set (s _ _ e)
  | kList e c => exact .kList e c
  | kTuple e c => exact .kTuple e c
  | kDict e c => exact .kDict e c
  | fTuple e => exact .fTuple (s _ _ e)
  | fDict e => exact .fDict (s _ _ e)
def NoNum (K : PySem.W.Frag) (H : Hp) (v : V) : Prop := ∃ t b1 b2, TyX K H v t ∧ PySem.W.kitOne K t (.type "int") = some b1 ∧ PySem.W.kitOne K t (.type "bool") = some b2 ∧ (b1 && !b2) = false
theorem NoNum.mono {K : PySem.W.Frag} {H H' : Hp} {v : V} (h : NoNum K H v) (s : ∀ b o, H b = some o → H' b = some o) : NoNum K H' v := by
  obtain ⟨t, b1, b2, h1, h2, h3, h4⟩ := h
  exact ⟨t, b1, b2, TyX_mono s h1, h2, h3, h4⟩
theorem noNum_none {K : PySem.W.Frag} {H : Hp} : NoNum K H .non := ⟨_, false, false, .base .non, by rfl, by rfl, rfl⟩
theorem noNum_bl {K : PySem.W.Frag} {H : Hp} (b : Bool) : NoNum K H (.bl b) := ⟨_, true, true, .base (.bl b), by rfl, by rfl, rfl⟩
theorem noNum_str {K : PySem.W.Frag} {H : Hp} (z : Str) : NoNum K H (.str z) := ⟨_, false, false, .base (.str z), by rfl, by rfl, rfl⟩
theorem noNum_lst {K : PySem.W.Frag} {H : Hp} {a : Addr} {xs : List V} (e : H a = some (.lst xs)) : NoNum K H (.ref a) := ⟨_, false, false, .base (.lst e), by rfl, by rfl, rfl⟩
theorem noNum_tup {K : PySem.W.Frag} {H : Hp} {a : Addr} {xs : List V} (e : H a = some (.tup xs)) : NoNum K H (.ref a) := ⟨_, false, false, .base (.tup e), by rfl, by rfl, rfl⟩
theorem noNum_dK {K : PySem.W.Frag} {H : Hp} {a : Addr} {xs : List (Key × V)} (e : H a = some (.dK xs)) : NoNum K H (.ref a) := ⟨_, false, false, .base (.dK e), by rfl, by rfl, rfl⟩
/-! ### the end -/
/-- a tracked heap with which a law begins: the tables, empty, and the script, frozen unless the written part tells it -/
structure Begin (K : PySem.W.Frag) (T : List Addr) (a : Addr) (ns : List Int) (P : Program) (w : World) (h : Heap) (H : Hp) : Prop where
  tab : ∀ b, b ∈ T → H b = some (.tbl #[])
  only : ∀ b, H b = none ∨ b ∈ T ∨ ∃ o u, H b = some (.frz o (.lst u))
  where' : ∀ b, H b ≠ none → b = a ∨ b ∈ T
  script : SqL K H a (ns.map V.int)
  good : HOk P w H h
  out : H a ≠ none → K.lookup a = none
section
variable {P : Program} {w : World} {K : PySem.W.Frag} {mg mb : Str → Option Value} {k : Nat} {fa a : Addr} {cs : List (Addr × Addr)} {fd : FuncData} {x : Str} {sp : Sp} {s₁ : Shared} {vs : List Value} {ns : List Int} {H : Hp}
theorem law_goes (KX : K.In s₁.heap) (G : s₁.heap.Ns mainGlobals mg) (GB : s₁.heap.Ns builtinsNs mb) (boot : ∀ y : Str, y ≠ "__name__" → mb y = bootBuiltins y) (lim : s₁.heap.NoLimit) (bare : s₁.gens = #[])
    (empty : ∀ p ∈ cs, s₁.heap.get? p.2 = some { cls := .none, data := .fields #[] }) (outside : ∀ p ∈ cs, K.lookup p.2 = none) (codes : ∀ p ∈ cs, PySem.W.CodeHd s₁.heap p.1 p.2)
    (bmod : ∃ (bm : Addr) (ob : Obj), mg "__builtins__" = some (.ref bm) ∧ bm ≠ builtinsNs ∧ s₁.heap.get? bm = some ob ∧ ob.cls = .type "module" ∧ ob.dict = some builtinsNs ∧ ob.data = .plain)
    (there : s₁.heap.get? a = some { cls := .type "list", data := .seq vs.toArray }) (room : Room k callerA)
    (F : ∀ base : Heap, K.In base → base.Ns mainGlobals mg → (∀ p ∈ cs, TabB base mg p.1 p.2) → FnG P w K mg base CX0 k fa fd [x] sp) (binds : ∀ (s : Shared) (u : Value), BindsTo s fd ⟨[u], []⟩ [(x, u)])
    (B : Begin K (cs.map (·.2)) a ns P w s₁.heap H) (wish : sp [.ref a] H (fun v _ => v = .bl true) fun _ _ _ => False) :
    codeAny (model P w) callerA (.call (.ref fa) ⟨[.ref a], []⟩) (fun r s' => r = .ok (.ret (.bool true)) ∧ OldK s₁.heap s'.heap ∧ s'.os = s₁.os ∧ AllBare s'.gens) s₁ := by
  have inT : ∀ p ∈ cs, p.2 ∈ cs.map (·.2) := fun p m => List.mem_map.mpr ⟨p, m, rfl⟩
  have atT : ∀ b, b ∈ cs.map (·.2) → s₁.heap.get? b = some { cls := .none, data := .fields #[] } := by
    intro b m
    obtain ⟨p, mp, rfl⟩ := List.mem_map.mp m
    exact empty p mp
  have untracked : ∀ {b : Addr} {o : Obj}, s₁.heap.get? b = some o → (∀ y n, o.data ≠ .seq y n) → o.data ≠ .fields #[] → H b = none := by
    intro b o e n1 n2
    by_cases q : H b = none
    · exact q
    · rcases B.where' b q with rfl | m
      · rw [there] at e; cases e; exact absurd rfl (n1 _ _)
      · rw [atT b m] at e; cases e; exact absurd rfl n2
  have seen : ∀ {b : Addr} {o : Obj}, s₁.heap.get? b = some o → H b = none → (hidT s₁.heap H).get? b = some o := fun e n => hidT_get e n
  have names : ∀ {b : Addr} {m : Str → Option Value}, s₁.heap.Ns b m → (hidT s₁.heap H).Ns b m := by
    rintro b m ⟨o, es, ep, e, dd, r⟩
    refine ⟨o, es, ep, seen e (untracked e ?_ ?_), dd, r⟩
    · intro y n z; rw [dd] at z; cases z
    · intro z; rw [dd] at z; cases z
  have known : K.In (hidT s₁.heap H) := by
    intro b o e
    refine seen (KX b o e) ?_
    by_cases q : H b = none
    · exact q
    · rcases B.where' b q with rfl | m
      · rw [B.out q] at e; cases e
      · obtain ⟨p, mp, rfl⟩ := List.mem_map.mp m
        rw [outside p mp] at e; cases e
  have notDict : ∀ {b : Addr} {m : Str → Option Value} {q : Addr}, s₁.heap.Ns b m → q ∈ cs.map (·.2) → b ≠ q := by
    rintro b m q ⟨o, es, ep, e, dd, _⟩ mq rfl
    rw [atT b mq] at e; cases e; cases dd
  have tabs : ∀ p ∈ cs, TabB (hidT s₁.heap H) mg p.1 p.2 := by
    intro p mp
    refine ⟨?_, ?_, notDict G (inT p mp)⟩
    · obtain ⟨o, us, file, tf, flags, tg, inF, text, tt, e1, r1, r2, r3, r4, rest⟩ := codes p mp
      refine ⟨o, us, file, tf, flags, tg, inF, text, tt, seen e1 (untracked e1 ?_ ?_), r1, r2, r3, r4, rest⟩
      · intro y n z; rw [r2] at z; cases z
      · intro z; rw [r2] at z; cases z; simp at r3
    · obtain ⟨bm, ob, b1, b2, b3, b4, b5, b6⟩ := bmod
      refine ⟨bm, ob, b1, b2, ?_, ?_, seen b3 (untracked b3 ?_ ?_), b4, b5, b6⟩
      · rintro rfl
        obtain ⟨o, es, ep, e, dd, _⟩ := G
        rw [e] at b3; cases b3; rw [dd] at b6; cases b6
      · rintro rfl
        rw [empty p mp] at b3; cases b3; cases b6
      · intro y n z; rw [b6] at z; cases z
      · intro z; rw [b6] at z; cases z
  have base : L2.Mod K mg (hidT s₁.heap H) := ⟨known, names G, ⟨mb, names GB, boot⟩, lim.elim fun mc ⟨h1, h2⟩ => ⟨mc, names h1, h2⟩⟩
  have e0 : Env0 P w K mg (hidT s₁.heap H) callerA [] s₁ H := ⟨rfl, base, fun b o e => of_hidT e, Nat.le_of_eq (hidT_size _ _), trivial, fun b hb => absurd (show b ∈ ([] : List Addr) from hb) (by simp), B.good, .of_eq bare⟩
  refine codeAny_mono ((F _ known (names G) tabs).goes callerA [] s₁ H ⟨[.ref a], []⟩ [.ref a] [.ref a] _ _ rfl room e0 (binds s₁ (.ref a)) (.cons rfl .nil) wish) ?_
  intro r s' got
  cases r with
  | error er => exact (show False from got).elim
  | ok fl =>
    cases fl with
    | next => exact False.elim got
    | brk => exact False.elim got
    | cont => exact False.elim got
    | ret u =>
      obtain ⟨v, H', os, bare', un, good', rv, rfl⟩ := got
      obtain rfl : u = Value.bool true := rv
      have stays : ∀ b o, b ∉ cs.map (·.2) → s₁.heap.get? b = some o → s'.heap.get? b = some o := by
        intro b o nb e
        by_cases q : H b = none
        · exact un.keep b o e q (by intro z; exact absurd (show b ∈ ([] : List Addr) from z) (by simp)) (by simp)
        · rcases B.only b with z | z | ⟨ob, u', z⟩
          · exact absurd z q
          · exact absurd z nb
          · obtain ⟨e1, _⟩ := B.good b _ z
            obtain ⟨e2, _⟩ := good' b _ (un.frzs b ob _ z)
            rw [e] at e1; cases e1; exact e2
      have grown : ∀ p ∈ cs, ∃ more : Array Value, s'.heap.get? p.2 = some { cls := .none, data := .fields more } := by
        intro p mp
        obtain ⟨more, z⟩ := un.tbls p.2 #[] (B.tab _ (inT p mp))
        exact ⟨_, good' p.2 _ z⟩
      refine ⟨rfl, ⟨?_, ?_⟩, os, bare'⟩
      · intro b o e
        by_cases hb : b ∈ cs.map (·.2)
        · obtain ⟨p, mp, rfl⟩ := List.mem_map.mp hb
          obtain ⟨more, hm⟩ := grown p mp
          rw [empty p mp] at e; cases e
          exact .inr (.inl ⟨((codes p mp).tab (empty p mp)).isCodeTable, rfl, #[], more, rfl, by rw [Array.empty_append]; exact hm⟩)
        · exact .inl (stays b o hb e)
      · intro b o e
        by_cases hb : b ∈ cs.map (·.2)
        · obtain ⟨p, mp, rfl⟩ := List.mem_map.mp hb
          obtain ⟨more, hm⟩ := grown p mp
          exact ⟨_, hm⟩
        · exact ⟨o, stays b o hb e⟩
/-- there is such a heap -/
theorem begin_is (KX : K.In s₁.heap) (T : List Addr) (empty : ∀ b ∈ T, s₁.heap.get? b = some { cls := .none, data := .fields #[] }) (there : s₁.heap.get? a = some { cls := .type "list", data := .seq vs.toArray }) (numb : IntsAre vs ns) (few : ns.length ≤ sizeLine) :
    ∃ H, Begin K T a ns P w s₁.heap H := by
  have rv := vals_ints numb
  have lenV := numb.length
  have apart : a ∉ T := by
    intro m
    have q := empty a m
    rw [there] at q; cases q
  have tabOk : ∀ {H : Hp} {b : Addr}, b ∈ T → ObjOk P w H s₁.heap b (.tbl #[]) := fun m => empty _ m
  cases known : K.lookup a with
  | some o =>
    have e := KX a o known
    rw [there] at e; cases e
    refine ⟨fun b => if b ∈ T then some (.tbl #[]) else none, fun b m => if_pos m, fun b => ?_, fun b z => ?_, ?_, fun b u z => ?_, fun z => absurd (if_neg apart) z⟩
    · by_cases m : b ∈ T
      · exact .inr (.inl m)
      · exact .inl (if_neg m)
    · by_cases m : b ∈ T
      · exact .inr m
      · exact absurd (if_neg m) z
    · exact .inr ⟨_, vs.toArray, _, known, rfl, rfl, rfl, by rw [List.size_toArray, lenV]; exact few, by simpa using rv⟩
    · by_cases m : b ∈ T
      · simp only [if_pos m] at z; cases z; exact tabOk m
      · simp only [if_neg m] at z; cases z
  | none =>
    refine ⟨fun b => if b ∈ T then some (.tbl #[]) else if b = a then some (.frz { cls := .type "list", data := .seq vs.toArray } (.lst (ns.map V.int))) else none, fun b m => if_pos m, fun b => ?_, fun b z => ?_, ?_, fun b u z => ?_, fun _ => known⟩
    · by_cases m : b ∈ T
      · exact .inr (.inl m)
      · by_cases q : b = a
        · exact .inr (.inr ⟨{ cls := .type "list", data := .seq vs.toArray }, ns.map V.int, by simp only [if_neg m, if_pos q]⟩)
        · exact .inl (by simp only [if_neg m, if_neg q])
    · by_cases m : b ∈ T
      · exact .inr m
      · by_cases q : b = a
        · exact .inl q
        · exact absurd (show (if b ∈ T then some (HO.tbl #[]) else if b = a then some (HO.frz { cls := .type "list", data := .seq vs.toArray } (.lst (ns.map V.int))) else none) = none by simp only [if_neg m, if_neg q]) z
    · exact .inl (.inr ⟨{ cls := .type "list", data := .seq vs.toArray }, by simp only [if_neg apart, if_pos]⟩)
    · by_cases m : b ∈ T
      · simp only [if_pos m] at z; cases z; exact tabOk m
      · by_cases q : b = a
        · simp only [if_neg m, if_pos q] at z; cases z
          subst q
          exact ⟨there, by rw [List.length_map]; exact few, vs, _, rv, there⟩
        · simp only [if_neg m, if_neg q] at z; cases z
end
/-- what a law's own text has to give at the head's heap -/
def Law (l : PySem.W.OpenLaw) (w : World) (K : PySem.W.Frag) (k n : Nat) (x : Str) (mg : Str → Option Value) (fa : Addr) (h : Heap) : Prop :=
  ∃ (fd : FuncData) (cs : List (Addr × Addr)) (sp : Sp), (∀ p ∈ cs, h.get? p.2 = some { cls := .none, data := .fields #[] } ∧ K.lookup p.2 = none ∧ PySem.W.CodeHd h p.1 p.2) ∧ (∀ (s : Shared) (u : Value), BindsTo s fd ⟨[u], []⟩ [(x, u)]) ∧
    (∀ (H : Hp) (a : Addr) (ns : List Int), ns.length ≤ n → (∀ p ∈ cs, H p.2 = some (.tbl #[])) → SqL K H a (ns.map V.int) → sp [.ref a] H (fun v _ => v = .bl true) fun _ _ _ => False) ∧
    ∀ base : Heap, K.In base → base.Ns mainGlobals mg → (∀ p ∈ cs, TabB base mg p.1 p.2) → FnG l.prog w K mg base CX0 k fa fd [x] sp
theorem walkG {l : PySem.W.OpenLaw} {n k : Nat} {q : Program} {loose : List Str} {XP : (Str → Option Value) → Heap → Prop} {YP : World → Heap → Prop} {d : DefRec} {K : Params → PySem.W.Frag} {x : Str}
    (hn : l.most = some n) (hn2 : n ≤ sizeLine) (hdf : d.params.defaults = []) (room : Room k callerA) (hY : ∀ (w : World) (h : Heap), YP w h → (K w.params).In h)
    (F : ∀ (w : World) (mg : Str → Option Value) (fa : Addr) (h : Heap), YP w h → (K w.params).In h → h.Ns mainGlobals mg → mg d.name = some (.ref fa) → Law l w (K w.params) k n x mg fa h) :
    PySem.W.WalkO q loose XP YP l.row.toRowW d [] (fun f vs => PySem.call f vs) := by
  refine Att.attach_callB hn hdf ?_
  intro w s₀ s₁ mg mb fa o pm cd doc a vs ns G Y ho hd hcd hmg there numb many bits bare
  have KX := hY w _ Y
  obtain ⟨fd, cs, sp, facts, binds, wish, run⟩ := F w mg fa _ Y KX G.T.g hmg
  obtain ⟨H, B⟩ := begin_is (P := l.prog) (w := w) KX (cs.map (·.2)) (by
    intro b m
    obtain ⟨p, mp, rfl⟩ := List.mem_map.mp m
    exact (facts p mp).1) there numb (Nat.le_trans many hn2)
  exact law_goes KX G.T.g G.T.b G.T.builtins G.T.nolimit bare (fun p m => (facts p m).1) (fun p m => (facts p m).2.1) (fun p m => (facts p m).2.2) G.T.bmain there room run binds B (wish H a ns many (fun p m => B.tab _ (List.mem_map.mpr ⟨p, m, rfl⟩)) B.script)
end En

/-! Ob: in, [], len, str, ~ and f-strings by a class's own defs. -/
namespace Ob
open PySem PySem.Spec PyProof.Rows L2 Sx Sw
section
variable {X : Cx} {n : Nat} {sp : Sp} {C g : Addr} {fd : FuncData} {ps : List Str}
/-- the def at g, called from around A -/
theorem own_call {A : Around} {pins : List (Addr × Obj)} {σ : L2.St} {H : Hp} {s : Shared} {vs : List V} {us : List Value} {Q : VK} {E : Value → Shared → Prop} (I : Inv X pins σ H s) (e0 : Env0 X.prog X.w X.K X.mg X.base A X.stack s H) (room : Room n A)
    (F : FnOk X.prog X.w X.K X.mg X.base C8.CX0 n g fd ps sp) (bd : Binds X.K fd ps []) (r : Vals vs us) (q : sp vs H Q C8.E0) : wpAny (model X.prog X.w) A (call (.ref g) us) (EP X pins σ Q) E s := by
  have len : us.length = ps.length := by rw [← r.length]; exact F.len _ _ _ _ q
  have bind := bd s us I.kIn (by rw [List.append_nil]; exact len)
  rw [List.append_nil] at bind
  refine wpAny_call (codeAny_mono (F.run A X.stack s H ⟨us, []⟩ us vs Q C8.E0 room e0 bind r q) ?_)
  intro res s2 got
  cases res with
  | error e => exact False.elim got
  | ok fl =>
    cases fl with
    | ret z => exact I.after got
    | next => exact got.elim
    | brk => exact got.elim
    | cont => exact got.elim
theorem v1 (b : Addr) : Vals [V.ref b] [Value.ref b] := .cons rfl .nil
theorem v2 {b : Addr} {x : V} {v : Value} (r : RelV x v) : Vals [V.ref b, x] [Value.ref b, v] := .cons rfl (.cons r .nil)
/-! ### x in obj -/
def qIn (C : Addr) (sp : Sp) : R2 := fun x y H Q => ∃ b dy gs, y = .ref b ∧ H b = some (.ins C dy gs) ∧ sp [y, x] H (fun z H' => ∃ k, z = .bl k ∧ Q (.bl k) H') C8.E0
def qNotIn (C : Addr) (sp : Sp) : R2 := fun x y H Q => ∃ b dy gs, y = .ref b ∧ H b = some (.ins C dy gs) ∧ sp [y, x] H (fun z H' => ∃ k, z = .bl k ∧ Q (.bl (!k)) H') C8.E0
theorem op_ownIn (o : OwnOp X.K C "__contains__" g) (F : FnOk X.prog X.w X.K X.mg X.base C8.CX0 n g fd ps sp) (hr : Room n X.A) (bd : Binds X.K fd ps []) : OpR X (compareOp .In) (qIn C sp) := by
  intro pins s σ H x y v u Q I rx ry now
  obtain ⟨b, dy, gs, rfl, hb, q⟩ := now
  obtain rfl : u = .ref b := ry
  obtain ⟨mB, J, _⟩ := ins_get I.hok hb
  obtain ⟨od, J, _⟩ := J.look
  obtain ⟨m, fr⟩ := I.fr
  refine PySem.W.in_K fr I.ok.mod.kin J o.at' o.fn (wpAny_mono (own_call I I.env0 hr F bd (v2 rx) q) ?_ fun _ _ e => e)
  rintro z s' ⟨v', H', I', rz, k, rfl, q'⟩
  obtain rfl : z = .bool k := rz
  exact wpAny_truthy_bool ⟨.bl k, H', I', rfl, q'⟩
theorem op_ownNotIn (o : OwnOp X.K C "__contains__" g) (F : FnOk X.prog X.w X.K X.mg X.base C8.CX0 n g fd ps sp) (hr : Room n X.A) (bd : Binds X.K fd ps []) : OpR X (compareOp .NotIn) (qNotIn C sp) := by
  intro pins s σ H x y v u Q I rx ry now
  obtain ⟨b, dy, gs, rfl, hb, q⟩ := now
  obtain rfl : u = .ref b := ry
  obtain ⟨mB, J, _⟩ := ins_get I.hok hb
  obtain ⟨od, J, _⟩ := J.look
  obtain ⟨m, fr⟩ := I.fr
  refine PySem.W.notIn_K fr I.ok.mod.kin J o.at' o.fn (wpAny_mono (own_call I I.env0 hr F bd (v2 rx) q) ?_ fun _ _ e => e)
  rintro z s' ⟨v', H', I', rz, k, rfl, q'⟩
  obtain rfl : z = .bool k := rz
  exact wpAny_truthy_bool ⟨.bl (!k), H', I', rfl, q'⟩
/-! ### len(obj), str(obj) -/
def qLenO (C : Addr) (sp : Sp) : List V → Hp → VK → Prop := fun xs H Q => ∃ b dy gs, xs = [.ref b] ∧ H b = some (.ins C dy gs) ∧ sp xs H (fun z H' => ∃ k : Nat, z = .int k ∧ k < 2 ^ 62 ∧ Q (.int k) H') C8.E0
theorem c_lenO (o : OwnOp X.K C "__len__" g) (F : FnOk X.prog X.w X.K X.mg X.base C8.CX0 n g fd ps sp) (hr : Room (n + 1) X.A) (bd : Binds X.K fd ps []) : CallR X (.builtin "len") (qLenO C sp) := by
  intro pins s σ H xs us Q I r now
  obtain ⟨b, dy, gs, rfl, hb, q⟩ := now
  obtain ⟨u, rfl, ru⟩ := vals1 r
  obtain rfl : u = .ref b := ru
  obtain ⟨mB, J, _⟩ := ins_get I.hok hb
  obtain ⟨od, J, _⟩ := J.look
  obtain ⟨m, fr⟩ := I.fr
  refine PySem.W.len_K fr I.ok.mod.kin J o.at' o.fn (wpAny_mono (own_call I I.env0.in1 hr.in1 F bd (v1 b) q) ?_ fun _ _ e => e)
  rintro z s' ⟨v', H', I', rz, k, rfl, hk, q'⟩
  obtain ⟨t, rfl⟩ := (show ∃ t, z = Value.int k t from rz)
  exact ⟨⟨by omega, by omega⟩, .int k, H', I'.tok _, ⟨_, rfl⟩, q'⟩
def qStrO (C : Addr) (sp : Sp) : List V → Hp → VK → Prop := fun xs H Q => ∃ b dy gs, xs = [.ref b] ∧ H b = some (.ins C dy gs) ∧ sp xs H (fun z H' => ∃ t : Str, z = .str t ∧ Q (.str t) H') C8.E0
theorem c_strO (o : OwnOp X.K C "__str__" g) (F : FnOk X.prog X.w X.K X.mg X.base C8.CX0 n g fd ps sp) (hr : Room (n + 2) X.A) (bd : Binds X.K fd ps []) : CallR X (.type "str") (qStrO C sp) := by
  intro pins s σ H xs us Q I r now
  obtain ⟨b, dy, gs, rfl, hb, q⟩ := now
  obtain ⟨u, rfl, ru⟩ := vals1 r
  obtain rfl : u = .ref b := ru
  obtain ⟨mB, J, _⟩ := ins_get I.hok hb
  obtain ⟨od, J, _⟩ := J.look
  refine PySem.W.kso_call hr.in1.in1.units0 I.kIn J o.at' o.fn (wpAny_mono (own_call I I.env0.in1.in1 hr.in1.in1 F bd (v1 b) q) ?_ fun _ _ e => e)
  rintro z s' ⟨v', H', I', rz, t, rfl, q'⟩
  obtain ⟨tk, rfl⟩ := (show ∃ tk, z = Value.str t tk from rz)
  exact ⟨.str t, H', I', ⟨tk, rfl⟩, q'⟩
/-- {x}, x of a class with its own __str__ -/
def tFmtO (C : Addr) (sp : Sp) (te : TE) : TE := fun σ H Q => te σ H fun x H1 => ∃ b dy gs, x = .ref b ∧ H1 b = some (.ins C dy gs) ∧ sp [x] H1 (fun z H' => ∃ t : Str, z = .str t ∧ Q (.str t) H') C8.E0
theorem pe_fmtO {e : Expr} {te : TE} {pos : Pos} (o : OwnOp X.K C "__str__" g) (fm : PySem.W.findIn X.K (.ref C) "__format__" = some (some (.builtin "object.__format__"))) (mr : PySem.W.mroIn X.K C (.type "object") = some true)
    (F : FnOk X.prog X.w X.K X.mg X.base C8.CX0 n g fd ps sp) (hr : Room (n + 2) X.A) (bd : Binds X.K fd ps []) (he : PE X e te) : PE X (.FormattedValue e (-1) none pos) (tFmtO C sp te) := by
  constructor
  intro pins s σ H Q I now
  refine wpAny_FormattedValue_plain (thn (he.run pins s σ H _ I now) ?_)
  rintro v s1 ⟨x, H1, I1, r1, b, dy, gs, rfl, hb, q⟩
  obtain rfl : v = .ref b := r1
  have I2 : Inv X pins σ H1 { s1 with toks := s1.toks + 1 } := I1.tok _
  obtain ⟨mB, J, _⟩ := ins_get I1.hok hb
  obtain ⟨od, J, _⟩ := J.look
  refine PySem.W.kfo_fieldS hr.in1.units0 I1.kIn J fm mr o.at' o.fn (wpAny_mono (own_call I2 I2.env0.in1 (hr.in1.mono (Nat.le_succ _)) F bd (v1 b) q) ?_ fun _ _ e => e)
  rintro z s' ⟨v', H', I', rz, t, rfl, q'⟩
  obtain ⟨tk, rfl⟩ := (show ∃ tk, z = Value.str t tk from rz)
  exact ⟨.str t, H', I', ⟨tk, rfl⟩, q'⟩
/-! ### ~obj, obj[x] -/
def qInv (C : Addr) (sp : Sp) : V → Hp → VK → Prop := fun x H Q => ∃ b dy gs, x = .ref b ∧ H b = some (.ins C dy gs) ∧ sp [x] H Q C8.E0
theorem un_ownInv (o : OwnOp X.K C "__invert__" g) (F : FnOk X.prog X.w X.K X.mg X.base C8.CX0 n g fd ps sp) (hr : Room n X.A) (bd : Binds X.K fd ps []) : UnR X (unaryOp .Invert) (qInv C sp) := by
  intro pins s σ H x v Q I rx now
  obtain ⟨b, dy, gs, rfl, hb, q⟩ := now
  obtain rfl : v = .ref b := rx
  obtain ⟨mB, J, _⟩ := ins_get I.hok hb
  obtain ⟨od, J, _⟩ := J.look
  obtain ⟨m, fr⟩ := I.fr
  exact PySem.W.ksp_inv fr I.ok.mod.kin J o.at' o.fn (own_call I I.env0 hr F bd (v1 b) q)
def qItem (C : Addr) (sp : Sp) : R2 := fun x y H Q => ∃ b dy gs, x = .ref b ∧ H b = some (.ins C dy gs) ∧ sp [x, y] H Q C8.E0
end
end Ob

/-! Zp: zip over two, each a list, a tuple or a text. -/
namespace Zp
open PySem PySem.Spec PyProof.Rows L2 Sx Sy
inductive SD where
  | l (a : Addr) | t (a : Addr) | s (x : Str)
def SD.v : SD → V
  | .l a => .ref a
  | .t a => .ref a
  | .s x => .str x
def chars (x : Str) : List V := x.cps.toList.map fun c => V.str ⟨#[c]⟩
/-- its items -/
def SD.has (K : PySem.W.Frag) (H : Hp) : SD → List V → Prop
  | .l a, xs => SqL K H a xs
  | .t a, xs => SqT K H a xs
  | .s x, xs => xs = chars x
/-- the iterator at n, i items gone -/
def SD.at' (n : Addr) (i : Nat) (h : Heap) : SD → Prop
  | .l a => h.IsListIter n a i
  | .t a => h.IsTupleIter n a i
  | .s x => ∃ tk, h.IsStrIter n (strIterType x) x tk i
def SD.low (N : Nat) : SD → Prop
  | .l a => a < N
  | .t a => a < N
  | .s _ => True
theorem has_inj {X : Cx} {pins : List (Addr × Obj)} {σ : L2.St} {H : Hp} {s : Shared} (I : Inv X pins σ H s) {S : SD} {xs ys : List V} (h : S.has X.K H xs) (g : S.has X.K H ys) : xs = ys := by
  cases S with
  | l a => exact I.list_inj h g
  | t a => exact I.tuple_inj h g
  | s x => exact h.trans g.symm
theorem at_keep {S : SD} {n : Addr} {i : Nat} {h h' : Heap} (z : S.at' n i h) (k : ∀ o, h.get? n = some o → h'.get? n = some o) : S.at' n i h' := by
  cases S with
  | l a => exact z.at k
  | t a => exact z.at k
  | s x => obtain ⟨tk, o, y1, y2⟩ := z; exact ⟨tk, o, k _ y1, y2⟩
theorem at_obj {S : SD} {n : Addr} {i : Nat} {h : Heap} (z : S.at' n i h) : ∃ o, h.get? n = some o ∧ ∀ v, o.data ≠ .cell v := by
  cases S with
  | l a => obtain ⟨o, y1, y2, y3⟩ := z; exact ⟨o, y1, fun v q => by rw [y3] at q; cases q⟩
  | t a => obtain ⟨o, y1, y2, y3⟩ := z; exact ⟨o, y1, fun v q => by rw [y3] at q; cases q⟩
  | s x => obtain ⟨tk, o, y1, y2, y3⟩ := z; exact ⟨o, y1, fun v q => by rw [y3] at q; cases q⟩
theorem vals_back {xs : List V} {us : List Value} (r : Vals xs us) {j : Nat} {u : Value} (h : us[j]? = some u) : ∃ x, xs[j]? = some x ∧ RelV x u := by
  have lt : j < xs.length := by rw [r.length]; exact (List.getElem?_eq_some_iff.mp h).1
  obtain ⟨u', h', r'⟩ := r.get (List.getElem?_eq_getElem lt)
  rw [h] at h'; cases h'
  exact ⟨_, List.getElem?_eq_getElem lt, r'⟩
/-- what drawing from it needs -/
theorem pack {X : Cx} {pins : List (Addr × Obj)} {σ : L2.St} {H : Hp} {s : Shared} (I : Inv X pins σ H s) {A : Around} (hh : A.handled = none) {S : SD} {xs : List V} {n i N : Nat} (h : S.has X.K H xs) (low : S.low N) (hn : N ≤ n) (z : S.at' n i s.heap) :
    ∃ (fp : List Addr) (m : Nat) (Pr : Nat → Value → Prop) (St : Nat → Heap → Prop), Draws X.prog X.w A n (n :: fp) m Pr St ∧ (∀ b, b ∈ fp → b < N) ∧ m = xs.length ∧ (∀ j v, Pr j v → ∃ x, xs[j]? = some x ∧ RelV x v) ∧ St i s.heap ∧ ∀ j h', St j h' → S.at' n j h' := by
  cases S with
  | l a =>
    obtain ⟨its, r, ⟨o, n0, e1, e2, e3, e4⟩, _⟩ := I.list h
    have il : s.heap.IsList a its.toArray := ⟨o, e1, e2, n0, e4⟩
    refine ⟨[a], _, _, _, Draws.list (A := A) hh n a (Nat.ne_of_lt (Nat.lt_of_lt_of_le low hn)) its.toArray, fun b hb => by cases List.mem_singleton.mp hb; exact low, ?_, fun j v q => ?_, ⟨z, il⟩, fun j h' q => q.1⟩
    · rw [List.size_toArray]; exact r.length.symm
    · have q : its.toArray[j]? = some v := q
      rw [List.getElem?_toArray] at q
      exact vals_back r q
  | t a =>
    obtain ⟨its, r, il, _⟩ := I.tuple h
    refine ⟨[a], _, _, _, Draws.tuple (A := A) hh n a (Nat.ne_of_lt (Nat.lt_of_lt_of_le low hn)) its.toArray, fun b hb => by cases List.mem_singleton.mp hb; exact low, ?_, fun j v q => ?_, ⟨z, il⟩, fun j h' q => q.1⟩
    · rw [List.size_toArray]; exact r.length.symm
    · have q : its.toArray[j]? = some v := q
      rw [List.getElem?_toArray] at q
      exact vals_back r q
  | s x =>
    obtain ⟨tk, z⟩ := z
    have h : xs = chars x := h
    subst h
    refine ⟨[], _, _, _, Draws.text (A := A) hh n x tk, (by intro b hb; cases hb), ?_, fun j v q => ?_, z, fun j h' q => ⟨tk, q⟩⟩
    · unfold chars; rw [List.length_map, Array.length_toList]
    · obtain ⟨c, u, q1, rfl⟩ := q
      refine ⟨.str ⟨#[c]⟩, ?_, ⟨u, rfl⟩⟩
      unfold chars
      rw [List.getElem?_map, Array.getElem?_toList, q1]; rfl
/-! ### side by side -/
def It2 (K : PySem.W.Frag) (S R : SD) : It :=
  ⟨fun i H => ∃ (xs ys : List V) (x y : V), S.has K H xs ∧ R.has K H ys ∧ xs[i]? = some x ∧ ys[i]? = some y,
   fun i H v H2 => ∃ p x y, v = V.ref p ∧ H p = none ∧ H2 = upd H p (.tup [x, y]) ∧ (∀ xs, S.has K H xs → xs[i]? = some x) ∧ (∀ ys, R.has K H ys → ys[i]? = some y),
   fun i H => ∃ xs ys : List V, S.has K H xs ∧ R.has K H ys ∧ i = min xs.length ys.length⟩
def At2 (N : Nat) (S R : SD) (i : Nat) (h : Heap) : Prop :=
  IsZip h (N + 4 : Nat) (N + 2 : Nat) (N + 3 : Nat) .none ∧ IsTupOf2 h (N + 2 : Nat) (.ref N) (.ref (N + 1 : Nat)) ∧ (∃ a1 a2, IsTupOf2 h (N + 3 : Nat) a1 a2) ∧ S.at' N i h ∧ R.at' (N + 1 : Nat) i h
def five (N : Nat) : List Addr := [(N + 4 : Nat), (N + 2 : Nat), (N + 3 : Nat), N, (N + 1 : Nat)]
theorem five_mem {N : Nat} {b : Addr} : b ∈ five N ↔ b = N + 4 ∨ b = N + 2 ∨ b = N + 3 ∨ b = N ∨ b = N + 1 := by unfold five; simp
section
variable {P : Program} {w : World} {K : PySem.W.Frag}
theorem turn_zip2 {tgs : List Expr} {q : Nat} {at' : Pos} {N : Nat} {S R : SD} (lS : S.low N) (lR : R.low N) : Turn P w K (.Tuple tgs q at') (It2 K S R) (five N) (N + 4 : Nat) (fun i g => At2 N S R i g) where
  mem := List.mem_cons_self ..
  obj := fun i g ⟨x1, x2, ⟨a1, a2, x3⟩, x4, x5⟩ e m => by
    rcases five_mem.mp m with rfl | rfl | rfl | rfl | rfl
    · exact ⟨_, x1, nofun⟩
    · exact ⟨_, x2, nofun⟩
    · exact ⟨_, x3, nofun⟩
    · exact at_obj x4
    · exact at_obj x5
  keep := fun i g g' ⟨x1, x2, ⟨a1, a2, x3⟩, x4, x5⟩ same =>
    ⟨same _ (five_mem.mpr (by simp)) _ x1, same _ (five_mem.mpr (by simp)) _ x2, ⟨a1, a2, same _ (five_mem.mpr (by simp)) _ x3⟩, at_keep x4 fun ob z => same _ (five_mem.mpr (by simp)) ob z, at_keep x5 fun ob z => same _ (five_mem.mpr (by simp)) ob z⟩
  item := by
    rintro X rfl rfl rfl calm i pins s σ H E I free st ⟨xs, ys, x, y, h1, h2, g1, g2⟩
    obtain ⟨x1, x2, x3, x4, x5⟩ := st
    obtain ⟨fp1, m1, P1, St1, D1, b1, e1, k1, s1, t1⟩ := pack I (A := X.A.in1) (I.ok.hd calm) h1 lS (Nat.le_refl N) x4
    obtain ⟨fp2, m2, P2, St2, D2, b2, e2, k2, s2, t2⟩ := pack I (A := X.A.in1) (I.ok.hd calm) h2 lR (Nat.le_succ N) x5
    have W := WalksT.zipD2 (zip_sep2 (N := N) b1 b2) D1 D2
    have lt : i < min m1 m2 := by
      obtain ⟨l1, _⟩ := List.getElem?_eq_some_iff.mp g1
      obtain ⟨l2, _⟩ := List.getElem?_eq_some_iff.mp g2
      omega
    refine W.item i s _ _ lt ⟨x1, x2, x3, s1, s2⟩ ?_
    rintro T vals g tk ⟨c1, c2, d1, d2, rfl⟩ big tup mid others
    obtain ⟨x', q1, r1⟩ := k1 i c1 d1
    obtain ⟨y', q2, r2⟩ := k2 i c2 d2
    have ex : x' = x := by rw [g1] at q1; exact (Option.some.inj q1).symm
    have ey : y' = y := by rw [g2] at q2; exact (Option.some.inj q2).symm
    subst ex ey
    refine ⟨_, rfl, W.go tgs q at' i T { s with heap := g, toks := tk } _ _ mid ?_⟩
    rintro gg ⟨y1, y2, y3, y4, y5⟩ others2
    have sub : ∀ e, e ∈ [((N + 4 : Nat) : Addr), (N + 3 : Nat), N, (N + 1 : Nat)] → e ∈ five N := by
      intro e m
      rw [five_mem]
      simp only [List.mem_cons, List.not_mem_nil, or_false] at m
      rcases m with rfl | rfl | rfl | rfl <;> simp
    have apart := W.apart i T g mid
    obtain ⟨ot, f1, f2, f3⟩ := tup
    obtain ⟨slots, f3⟩ := f3
    have new : ObjOk X.prog X.w (upd H T (.tup [x', y'])) gg T (.tup [x', y']) :=
      ⟨by rw [sizeLine_eq]; exact (by decide : 2 ≤ 16777216), [c1, c2], .cons r1 (.cons r2 .nil), ⟨ot, others2 T ot apart f1, f2, slots, f3⟩⟩
    have I2 : Inv X pins σ (upd H T (.tup [x', y'])) { s with heap := gg, toks := tk } := by
      refine I.turnedNew (ch := [((N + 4 : Nat) : Addr), (N + 3 : Nat), N, (N + 1 : Nat)]) (fun e ob m w1 => others2 e ob m (others e ob m w1)) (fun e m => free e (sub e m)) big new
    refine ⟨.ref T, _, I2, rfl, ⟨T, x', y', rfl, I.hok.fresh big, rfl, ?_, ?_⟩, ⟨y1, y2, y3, t1 _ _ y4, t2 _ _ y5⟩, ?_⟩
    · intro q1 q2; rw [has_inj I q2 h1]; exact g1
    · intro q1 q2; rw [has_inj I q2 h2]; exact g2
    · intro e m
      have ne : e ≠ T := by
        rintro rfl
        have old : s.heap.get? e ≠ none := by
          rcases five_mem.mp m with rfl | rfl | rfl | rfl | rfl
          · rw [show s.heap.get? (N + 4 : Nat) = some _ from x1]; simp
          · rw [show s.heap.get? (N + 2 : Nat) = some _ from x2]; simp
          · obtain ⟨_, _, x3⟩ := x3
            rw [show s.heap.get? (N + 3 : Nat) = some _ from x3]; simp
          · obtain ⟨ob, z1, _⟩ := at_obj x4; rw [z1]; simp
          · obtain ⟨ob, z1, _⟩ := at_obj x5; rw [z1]; simp
        cases old' : s.heap.get? e with
        | none => exact old old'
        | some ob => exact absurd (Heap.lt_size old') (Nat.not_lt.mpr big)
      rw [upd_ne ne]
      exact (free e m).1
  done := by
    rintro X rfl rfl rfl calm i pins s σ H E I free ⟨x1, x2, x3, x4, x5⟩ ⟨xs, ys, h1, h2, rfl⟩
    obtain ⟨fp1, m1, P1, St1, D1, b1, e1, k1, s1, t1⟩ := pack I (A := X.A.in1) (I.ok.hd calm) h1 lS (Nat.le_refl N) x4
    obtain ⟨fp2, m2, P2, St2, D2, b2, e2, k2, s2, t2⟩ := pack I (A := X.A.in1) (I.ok.hd calm) h2 lR (Nat.le_succ N) x5
    have W := WalksT.zipD2 (zip_sep2 (N := N) b1 b2) D1 D2
    rw [← e1, ← e2] at s1 s2
    refine W.done s _ _ ⟨x1, x2, x3, s1, s2⟩ ?_
    intro g tk others
    refine ⟨rfl, I.turnedL (ch := [((N + 4 : Nat) : Addr), (N + 3 : Nat), N, (N + 1 : Nat)]) others fun e m => free e ?_⟩
    rw [five_mem]
    simp only [List.mem_cons, List.not_mem_nil, or_false] at m
    rcases m with rfl | rfl | rfl | rfl <;> simp
  self := fun A i s Q E ⟨x1, _⟩ h => wpAny_pyIter_zip x1 h
end
def iZip2 (K : PySem.W.Frag) (ta : TA) : TI := fun σ H R => ta σ H fun vs H1 => ∃ S T : SD, ∃ xs ys, vs = [S.v, T.v] ∧ S.has K H1 xs ∧ T.has K H1 ys ∧ R (It2 K S T) H1
/-- the iterator that iter makes -/
def SD.ob : SD → (Value → Obj → Prop)
  | .l a, v, o => v = .ref a ∧ o = { cls := .type "list_iterator", data := .fields #[.ref a, .int 0 0] }
  | .t a, v, o => v = .ref a ∧ o = { cls := .type "tuple_iterator", data := .fields #[.ref a, .int 0 0] }
  | .s x, v, o => ∃ tk, v = .str x tk ∧ o = { cls := .type (strIterType x), data := .fields #[.str x tk, .int 0 0] }
theorem begin_at {X : Cx} {pins : List (Addr × Obj)} {σ : L2.St} {H : Hp} {s : Shared} (I : Inv X pins σ H s) {S : SD} {xs : List V} {u : Value} (r : RelV S.v u) (h : S.has X.K H xs) :
    ∃ (o : Obj) (Pr : Heap → Prop), Begins u o Pr ∧ Pr s.heap ∧ S.low s.heap.objs.size ∧ ∀ (n : Addr) (h' : Heap), h'.get? n = some o → S.at' n 0 h' := by
  cases S with
  | l a =>
    obtain rfl : u = .ref a := r
    obtain ⟨its, _, ⟨o, n0, e1, e2, e3, e4⟩, _⟩ := I.list h
    exact ⟨_, _, begins_list a its.toArray, ⟨o, e1, e2, n0, e4⟩, Heap.lt_size e1, fun n h' q => ⟨_, q, rfl, rfl⟩⟩
  | t a =>
    obtain rfl : u = .ref a := r
    obtain ⟨its, _, il, _⟩ := I.tuple h
    have lt : a < s.heap.objs.size := by obtain ⟨o, e1, _⟩ := il; exact Heap.lt_size e1
    exact ⟨_, _, begins_tuple a its.toArray, il, lt, fun n h' q => ⟨_, q, rfl, rfl⟩⟩
  | s x =>
    obtain ⟨tk, rfl⟩ := (show ∃ tk, u = Value.str x tk from r)
    exact ⟨_, _, begins_text x tk, trivial, trivial, fun n h' q => ⟨tk, _, q, rfl, rfl⟩⟩
theorem pi_zip2 {X : Cx} {e1 e2 : Expr} {ta : TA} {p pos tpos : Pos} {tgs : List Expr} {q : Nat} (hg : Gl X "zip") (hm : X.mg "zip" = none) (ha : PA X [e1, e2] ta)
    (na : starEach [e1, e2] X.env = (false, eval e1 X.env) :: starEach [e2] X.env := by rfl) (nb : (backTo pos (starEach [e2] X.env)).any (·.1) = false := by rfl) :
    PI X (.Tuple tgs q tpos) (.Call (.Name "zip" p) [e1, e2] [] pos) (iZip2 X.K ta) := by
  constructor
  intro pins s σ H R I h
  refine Call_ (ld_blt I hg hm PyProof.Rows.boot_zip (PyProof.Rows.callWith_type1 (thn (ha.run pos pins s σ H _ I h) ?_) na nb))
  rintro us s1 ⟨vs, H1, I1, rr, S, T, xs, ys, rfl, h1, h2, next⟩
  obtain ⟨u1, u2, rfl, ra, rb⟩ := vals2 rr
  obtain ⟨o1, Pr1, B1, p1, l1, w1⟩ := begin_at I1 ra h1
  obtain ⟨o2, Pr2, B2, p2, l2, w2⟩ := begin_at I1 rb h2
  refine zip_begins2 B1 B2 p1 p2 ?_
  intro g x1 x2 x3 y1 y2 size same
  refine wpAny_pyIter_zip x1 ?_
  refine ⟨_, five s1.heap.objs.size, _, It2 X.K S T, H1, rfl, I1.kept (t' := s1.toks) same, turn_zip2 l1 l2, ⟨x1, x2, ⟨_, _, x3⟩, w1 _ _ y1, w2 _ _ y2⟩, ?_, next⟩
  intro e m
  have le : s1.heap.objs.size ≤ e := by
    rcases five_mem.mp m with rfl | rfl | rfl | rfl | rfl
    · exact Nat.le_add_right _ _
    · exact Nat.le_add_right _ _
    · exact Nat.le_add_right _ _
    · exact Nat.le_refl _
    · exact Nat.le_add_right _ _
  exact I1.fpOk le (I1.hok.fresh le)
/-- a new pair -/
def YTwo (xs ys : List V) : Nat → Hp → V → Hp → Prop := fun i H v H2 => ∃ p x y, v = V.ref p ∧ H p = none ∧ H2 = upd H p (.tup [x, y]) ∧ xs[i]? = some x ∧ ys[i]? = some y
theorem walk_zip2 {K : PySem.W.Frag} {S R : SD} {xs ys : List V} {n : Nat} (h1 : xs.length = n) (h2 : ys.length = n) : Walk (It2 K S R) n (fun H => S.has K H xs ∧ R.has K H ys) (YTwo xs ys) := by
  constructor
  · intro i H hi q
    exact ⟨xs, ys, xs[i], ys[i], q.1, q.2, List.getElem?_eq_getElem _, List.getElem?_eq_getElem _⟩
  · intro H q
    exact ⟨xs, ys, q.1, q.2, by omega⟩
  · rintro i H v H2 _ q ⟨p, x, y, rfl, k1, k2, k3, k4⟩
    exact ⟨p, x, y, rfl, k1, k2, k3 xs q.1, k4 ys q.2⟩
section
variable {σ : L2.St} {H : Hp} {Q : VK} {te : TE} {tt : TT} {tl : TA} {g : TG} {K : PySem.W.Frag} {vs : List Nat} {tb : TS} {D : Ends}
theorem r_lcP (h : tl σ H fun us H1 => ∃ S T : SD, ∃ xs ys, us = [S.v, T.v] ∧ S.has K H1 xs ∧ T.has K H1 ys ∧ LCW (It2 K S T) g tt te vs σ H1 Q) : tLc (iZip2 K tl) g tt te vs σ H Q := h
theorem r_forP (h : tl σ H fun us H1 => ∃ S T : SD, ∃ xs ys, us = [S.v, T.v] ∧ S.has K H1 xs ∧ T.has K H1 ys ∧ FR (It2 K S T) g tb D σ H1) : tFor (iZip2 K tl) g tb D σ H := h
end
end Zp

/-! Mj: a call of a class in a variable; a range with any step; list of it. -/
namespace Mj
open PySem PySem.Spec PyProof.Rows L2 Sx Sy
section
variable {X : Cx} {CX : CXT} {k i : Nat} {f C : Addr} {fd : FuncData} {ps : List Str} {sp : Sp} {dvs : List V} {ds : List Value} {E : XK} {x : Str} {p pos : Pos} {e : Expr} {es : List Expr} {t : TA}
def tMakeL (i : Nat) (C : Addr) (sp : Sp) (dvs : List V) (E : XK) (t : TA) : TE := fun σ H Q => σ[i]? = some (some (.ref C)) ∧ t σ H fun vs H1 => ∀ x dx, H1 x = none → H1 dx = none → dx ≠ x → sp (.ref x :: (vs ++ dvs)) (upd (upd H1 dx (.own x)) x (.ins C dx [])) (fun v H2 => v = .non ∧ Q (.ref x) H2) E
theorem pe_makeL (M : Mk X.K C f) (F : FnOk X.prog X.w X.K X.mg X.base CX k f fd ps sp) (hr : Room (k + 1) X.A) (hN : X.N[i]? = some x) (hv : Vis X.env.scope x) (hb : Binds X.K fd ps ds) (hd : Vals dvs ds) (hx : Passes CX X E) (ha : PA X (e :: es) t)
    (nd : (x == ("__debug__" : Str)) = false := by decide) (ncd : (x == ("__classdict__" : Str)) = false := by decide) (he : starEach (e :: es) X.env = (false, eval e X.env) :: starEach es X.env := by rfl) (hpl : (backTo pos (starEach es X.env)).any (·.1) = false := by rfl) :
    PE X (.Call (.Name x p) (e :: es) [] pos) (tMakeL i C sp dvs E t) := by
  constructor
  intro pins s σ H Q I now
  obtain ⟨hσ, now⟩ := now
  refine wpAny_Call_Name_kw (thn ((pe_var hN hv nd ncd).run pins s σ H (fun v H1 => v = .ref C ∧ H1 = H) I ⟨_, hσ, rfl, rfl⟩) ?_)
  rintro u s0 ⟨v, H0, I0, ru, rfl, rfl⟩
  obtain rfl : u = .ref C := ru
  refine PySem.W.callWith_K (h₀ := X.base) I.ok.mod.kin M.kp (thn (ha.run pos pins s0 σ H0 _ I0 now) ?_) he hpl
  rintro us s1 ⟨vs, H1, I1, r, wish⟩
  exact ⟨I1.kIn, run_make M F hr hb hd hx I1 r wish⟩
end
theorem hu1 {k : Nat} {A : Around} (hr : Room k A) : A.units + 1 < cLine := by have := hr.un; omega
/-! ### range(a, b, c) as a value -/
def RgH (h : Heap) (a : Addr) (i j c : Int) : Prop := ∃ t u v, IsRange h a i j c t u v
def RgO (a : Addr) (i j c : Int) : HO := .ext fun h => RgH h a i j c
theorem rgO_ok {P : Program} {w : World} {H : Hp} {h : Heap} {a : Addr} {i j c : Int} (R : RgH h a i j c) : ObjOk P w H h a (RgO a i j c) := by
  obtain ⟨t, u, v, r⟩ := R
  refine ⟨⟨t, u, v, r⟩, ⟨_, r⟩, fun h1 h2 q k => ?_⟩
  obtain ⟨t', u', v', r'⟩ := q
  exact ⟨t', u', v', k _ r'⟩
def qRng3 : List V → Hp → VK → Prop := fun xs H Q => ∃ i j c : Int, xs = [.int i, .int j, .int c] ∧ c ≠ 0 ∧ c.natAbs < 1073741824 ∧ ∀ p, H p = none → Q (.ref p) (upd H p (RgO p i j c))
def qLstR : List V → Hp → VK → Prop := fun xs H Q => ∃ (p : Addr) (i j c : Int) (n : Nat), xs = [.ref p] ∧ H p = some (RgO p i j c) ∧ RgC i j c n ∧ n ≤ 1000000 ∧ ∀ q, H q = none → Q (.ref q) (upd H q (.lst ((List.range n).map fun t : Nat => V.int (i + (t : Int) * c))))
theorem vals_at {f : Nat → V} : ∀ {ms : List Nat} {vs : List Value}, ms.length = vs.length → (∀ (j : Nat) (v : Value), vs[j]? = some v → ∃ m, ms[j]? = some m ∧ RelV (f m) v) → Vals (ms.map f) vs
  | [], [], _, _ => .nil
  | [], _ :: _, h, _ => nomatch h
  | _ :: _, [], h, _ => nomatch h
  | m :: ms, v :: vs, h, g => by
    refine .cons ?_ (vals_at (Nat.succ.inj h) fun j w hw => g (j + 1) w hw)
    obtain ⟨m', e, r⟩ := g 0 v rfl
    cases e
    exact r
section
variable {X : Cx}
theorem c_rng3 : CallR X (.type "range") qRng3 := by
  intro pins s σ H xs us Q I r h
  obtain ⟨i, j, c, rfl, c0, cs, q⟩ := h
  cases r with
  | cons r1 r =>
    cases r with
    | cons r2 r =>
      cases r with
      | cons r3 r =>
        cases r
        obtain ⟨t1, rfl⟩ := r1
        obtain ⟨t2, rfl⟩ := r2
        obtain ⟨t3, rfl⟩ := r3
        refine call_range_3 c0 ?_ (.inl ?_)
        · refine ⟨.ref s.heap.objs.size, upd H s.heap.objs.size (RgO s.heap.objs.size i j c), ?_, rfl, q _ (I.hok.fresh (Nat.le_refl _))⟩
          refine I.laid (t' := s.toks) (fun b o z => Heap.get?_push_of_some _ z) (Nat.le_refl _) (rgO_ok ⟨t1, t2, t3, Heap.get?_push_size _ rfl⟩)
        · exact PyProof.noPylong_small cs
theorem c_lstR (hc : X.calm = true) : CallR X (.type "list") qLstR := by
  intro pins s σ H xs us Q I r h
  obtain ⟨p, i, j, c, n, rfl, hp, rc, hn, q⟩ := h
  obtain ⟨u, rfl, rx⟩ := vals1 r
  obtain rfl : u = .ref p := rx
  obtain ⟨t1, t2, t3, rg⟩ := (I.hok p (RgO p i j c) hp).1
  refine call_list_range (I.ok.hd hc) rg rc.2.2.1 rc.2.2.2 (by omega) ?_
  intro h2 tk acc room keep got its
  refine ⟨.ref s.heap.objs.size, upd H s.heap.objs.size (.lst ((List.range n).map fun t : Nat => V.int (i + (t : Int) * c))), ?_, rfl, q _ (I.hok.fresh (Nat.le_refl _))⟩
  refine I.laid keep (Nat.le_refl _) ?_
  refine ⟨by rw [List.length_map, List.length_range, sizeLine_eq]; omega, acc.toList, room, ?_, got⟩
  refine vals_at (by rw [List.length_range, Array.length_toList, its.1]) fun m v hv => ?_
  rw [Array.getElem?_toList] at hv
  have hm : m < n := by
    have := (Array.getElem?_eq_some_iff.mp hv).1
    rw [its.1] at this; exact this
  obtain ⟨t, rfl⟩ := its.2 m v hv
  exact ⟨m, by rw [List.getElem?_range hm], t, rfl⟩
end
/-! ### readings -/
section
variable {ty td tv te ta : TE} {σ : L2.St} {H : Hp} {Q : VK}
theorem r_makeL {i : Nat} {C : Addr} {sp : Sp} {E : XK} {t : TA} (h : σ[i]? = some (some (.ref C)) ∧ t σ H fun vs H1 => MakeP C sp E vs H1 Q) : tMakeL i C sp [] E t σ H Q := h
theorem r_din (h : ty σ H fun y H1 => td σ H1 fun x H2 => ∃ a o, x = .ref a ∧ DGet H2 a y o ∧ Q (.bl o.isSome) H2) : tDIn ty td σ H Q := h
theorem r_dnotin (h : ty σ H fun y H1 => td σ H1 fun x H2 => ∃ a o, x = .ref a ∧ DGet H2 a y o ∧ Q (.bl (!o.isSome)) H2) : tDNotIn ty td σ H Q := h
theorem r_dget (h : td σ H fun x H1 => ty σ H1 fun y H2 => ∃ a v, x = .ref a ∧ DGet H2 a y (some v) ∧ Q v H2) : tDGet td ty σ H Q := h
theorem r_dnew (h : ∀ p, H p = none → Q (.ref p) (upd H p (.dK []))) : tDNewK σ H Q := h
theorem r_dput {D : Ends} (h : tv σ H fun v H1 => td σ H1 fun x H2 => ty σ H2 fun y H3 => ∃ a H4, x = .ref a ∧ DPut H3 a y v H4 ∧ D.nx σ H4) : sDPut td ty tv D σ H := h
theorem r_lock (h : ∃ d u, H d = some u ∧ Mut (some u) ∧ ∀ od, te σ (upd H d (.frz od u)) fun v H' => H' d = some (.frz od u) ∧ Q v (upd H' d u)) : tLockE te σ H Q := h
end
/-! ### range(g - a, 0, -a) -/
theorem fits {x : Int} (h : x.natAbs < 1000000000) : Builtin.Range.rangeFitsLong x = true := by
  unfold Builtin.Range.rangeFitsLong
  simp
  omega
theorem rg_dn {g : Int} {a : Nat} (ha : 0 < a) (ha1 : a ≤ 1000) (hg : 0 ≤ g) (hg1 : g ≤ 100000) (nd : g = 0 ∨ ¬ (a : Int) ∣ g) : RgC (g - a) 0 (-(a : Int)) (g / (a : Int)).toNat := by
  have q0 : 0 ≤ g / (a : Int) := Int.ediv_nonneg hg (by omega)
  have q1 : g / (a : Int) ≤ g := Int.ediv_le_self _ hg
  have sz : Builtin.Range.rangeSize (g - a) 0 (-(a : Int)) = g / (a : Int) := by
    unfold Builtin.Range.rangeSize
    rw [if_neg (by omega)]
    have m1 := Int.emod_add_mul_ediv g a
    have m2 := Int.emod_nonneg g (show (a : Int) ≠ 0 by omega)
    have m3 := Int.emod_lt_of_pos g (show (0 : Int) < a by omega)
    by_cases h : g - a > 0
    · rw [if_pos h]
      have nz : g % (a : Int) ≠ 0 := by
        intro z
        rcases nd with rfl | nd
        · omega
        · exact nd (Int.dvd_of_emod_eq_zero z)
      have e : (g - (a : Int) - 0 - 1) / (a : Int) = g / (a : Int) - 1 := by
        refine ((Int.ediv_emod_unique (r := g % (a : Int) - 1) (q := g / (a : Int) - 1) (show (0 : Int) < a by omega)).mpr ⟨?_, by omega, by omega⟩).1
        rw [Int.mul_sub, Int.mul_one]; omega
      rw [show -(-(a : Int)) = a by omega, e]; omega
    · rw [if_neg h]
      have gl : g < a := by
        rcases Int.lt_or_eq_of_le (show g ≤ a by omega) with h1 | h1
        · exact h1
        · rcases nd with nd | nd
          · omega
          · exact absurd ⟨1, by omega⟩ nd
      exact (Int.ediv_eq_zero_of_lt hg gl).symm
  refine ⟨by omega, by omega, ?_, by rw [sz]; omega⟩
  unfold Builtin.Range.small
  rw [sz, fits (by omega), fits (by omega), fits (by omega), fits (by omega), if_neg (by omega), fits (by omega)]
  simp
/-! ### {k: v for .. in t} -/
section
variable {K : PySem.W.Frag} {g : TG} {tt : TT} {tk tv ta : TE} {vs : List Nat} {σ : L2.St} {H1 : Hp} {Q : VK}
def DCW (J : It) (g : TG) (tt : TT) (tk tv : TE) (vs : List Nat) (σ : L2.St) (H1 : Hp) (Q : VK) : Prop := ∀ D, H1 D = none →
  ∃ W : Nat → Nat → Hp → Prop, (∃ m, W 0 m (upd H1 D (.dK []))) ∧ ∀ i m H, W i m H → (J.stop i H ∧ Q (.ref D) H) ∨ (J.go i H ∧ ∃ Nx : Hp → Prop, (∀ H', Nx H' → ∃ m', m' < m ∧ W (i + 1) m' H') ∧ ∀ x H', J.yld i H x H' → g x (wipe σ vs) H' fun σ2 H2 => wipe σ2 vs = wipe σ vs ∧ tt σ2 H2 fun b H3 => if b = true then tk σ2 H3 fun y H4 => tv σ2 H4 fun z H5 => ∃ kvs k, y = kV k ∧ H5 D = some (.dK kvs) ∧ kvs.length < sizeLine ∧ Nx (upd H5 D (.dK (putK kvs k z))) else Nx H3)
theorem r_dcT (h : ta σ H1 fun x H1 => ∃ a, x = .ref a ∧ (∃ xs, SqT K H1 a xs) ∧ DCW (Itt K a) g tt tk tv vs σ H1 Q) : tDc (iTup K ta) g tt tk tv vs σ H1 Q := h
theorem dw_tup {a : Addr} {xs : List V} (Pv : Addr → Nat → Hp → Prop) (h0 : ∀ D, H1 D = none → Pv D 0 (upd H1 D (.dK []))) (hl : ∀ D, H1 D = none → ∀ i H, i ≤ xs.length → Pv D i H → SqT K H a xs)
    (hs : ∀ D, H1 D = none → ∀ i x H, xs[i]? = some x → Pv D i H → g x (wipe σ vs) H fun σ2 H2 => wipe σ2 vs = wipe σ vs ∧ tt σ2 H2 fun b H3 => if b = true then tk σ2 H3 fun y H4 => tv σ2 H4 fun z H5 => ∃ kvs k, y = kV k ∧ H5 D = some (.dK kvs) ∧ kvs.length < sizeLine ∧ Pv D (i + 1) (upd H5 D (.dK (putK kvs k z))) else Pv D (i + 1) H3)
    (hd : ∀ D, H1 D = none → ∀ H, Pv D xs.length H → Q (.ref D) H) : DCW (Itt K a) g tt tk tv vs σ H1 Q :=
  fun D hD => dc_tup (Qd := Q (.ref D)) (Pv D) (h0 D hD) (hl D hD) (hs D hD) (hd D hD)
end
theorem r_fmt {te : TE} {σ : L2.St} {H : Hp} {Q : VK} (h : te σ H fun x H1 => (∃ y : Str, x = .str y ∧ y.length ≤ sizeLine ∧ Q (.str y) H1) ∨ ∃ i : Int, x = .int i ∧ i.natAbs.log2 < 1920 ∧ Q (.str (toString i)) H1) : tFmt te σ H Q := h
theorem r_lcK {g : TG} {tt : TT} {te td : TE} {vs : List Nat} {σ : L2.St} {H : Hp} {Q : VK} (h : td σ H fun x H1 => ∃ d o, x = .ref d ∧ ((∃ kvs, H1 d = some (.frz o (.dK kvs)) ∧ LCW (Itk d o kvs) g tt te vs σ H1 Q) ∨ ∃ kvs, H1 d = some (.frz o (.dT kvs)) ∧ LCW (Itkt d o kvs) g tt te vs σ H1 Q)) : tLc (iKeys td) g tt te vs σ H Q := h
/-! ### dicts of numbers -/
/-- the dict at d has just the keys in G -/
def TabAt (H : Hp) (d : Addr) (G : Int → Prop) : Prop := ∃ kvs : List (Key × V), H d = some (.dK kvs) ∧ ∀ x : Int, (valV kvs (.inl x)).isSome = true ↔ G x
theorem TabAt.mono {H H' : Hp} {d : Addr} {G : Int → Prop} (h : TabAt H d G) (s : ∀ b o, H b = some o → H' b = some o) : TabAt H' d G := by
  obtain ⟨kvs, e, k⟩ := h; exact ⟨kvs, s _ _ e, k⟩
theorem TabAt.get {H : Hp} {d : Addr} {G : Int → Prop} (h : TabAt H d G) (x : Int) : ∃ o, DGet H d (.int x) o ∧ (o.isSome = true ↔ G x) := by
  obtain ⟨kvs, e, k⟩ := h
  exact ⟨_, .inl ⟨kvs, .inl x, .inl e, rfl, rfl⟩, k x⟩
theorem r_isin {H : Hp} {d : Addr} {G : Int → Prop} {x : Int} {Q : VK} (h : TabAt H d G) (q : ∀ b : Bool, (b = true ↔ G x) → Q (.bl b) H) : ∃ a o, V.ref d = .ref a ∧ DGet H a (.int x) o ∧ Q (.bl o.isSome) H := by
  obtain ⟨kvs, e, k⟩ := h
  exact ⟨d, _, rfl, .inl ⟨kvs, .inl x, .inl e, rfl, rfl⟩, q _ (k x)⟩
theorem r_notin {H : Hp} {d : Addr} {G : Int → Prop} {x : Int} {Q : VK} (h : TabAt H d G) (q : ∀ b : Bool, (b = true ↔ ¬ G x) → Q (.bl b) H) : ∃ a o, V.ref d = .ref a ∧ DGet H a (.int x) o ∧ Q (.bl (!o.isSome)) H := by
  obtain ⟨kvs, e, k⟩ := h
  refine ⟨d, _, rfl, .inl ⟨kvs, .inl x, .inl e, rfl, rfl⟩, q _ ?_⟩
  rw [← k x]
  cases (valV kvs (Sum.inl x)).isSome <;> simp
theorem tab_put {kvs : List (Key × V)} {G : Int → Prop} {x : Int} {v : V} (k : ∀ x : Int, (valV kvs (.inl x)).isSome = true ↔ G x) (y : Int) : (valV (putK kvs (.inl x) v) (.inl y)).isSome = true ↔ (G y ∨ y = x) := by
  rw [valV_put]
  by_cases h : y = x
  · subst h; simp
  · rw [if_neg (by intro z; exact h (Sum.inl.inj z)), k y]; simp [h]
/-- {g: True for g in t}, of a tuple of numbers that are all unlike -/
def tabKv (ns : List Int) : List (Key × V) := ns.map fun n => (.inl n, V.bl true)
theorem tabKv_get (ns : List Int) (x : Int) : (valV (tabKv ns) (.inl x)).isSome = true ↔ x ∈ ns := by
  induction ns with
  | nil => simp [tabKv, valV]
  | cons n ns ih =>
    by_cases e : n = x
    · subst e
      rw [show tabKv (n :: ns) = (.inl n, V.bl true) :: tabKv ns from rfl, valV_pos rfl]; simp
    · rw [show tabKv (n :: ns) = (.inl n, V.bl true) :: tabKv ns from rfl, valV_neg (by intro z; exact e (Sum.inl.inj z)), ih]
      simp [Ne.symm e]
theorem tabKv_put {ns : List Int} {x : Int} (h : x ∉ ns) : putK (tabKv ns) (.inl x) (V.bl true) = tabKv (ns ++ [x]) := by
  rw [putK_new]
  · unfold tabKv; rw [List.map_append]; rfl
  · have := mt (tabKv_get ns x).mp h
    simpa using this
end Mj
namespace Mj
open PySem PySem.Spec PyProof.Rows L2 Sx Sy
section
variable {σ : L2.St} {H : Hp} {Q : VK} {tl : TA}
theorem r_makeD {C : Addr} {sp : Sp} {E : XK} {v0 : V} (h : tl σ H fun vs H1 => MakeP C sp E (vs ++ [v0]) H1 Q) : tMake C sp [v0] E tl σ H Q := by
  unfold tMake
  simpa only [MakeP, List.append_nil] using h
end
section
variable {K : PySem.W.Frag} {x qual : Str} {st : Stmt} {f ed e : Addr} {fd : FuncData} {ps : List Str} {pr : Arguments} {bd : List Stmt} {sc : Scope}
theorem fund_mk {oc kV doc pm cdv ct tc : Value} {od an td : Option Addr} {osl ts : Array (Option Value)} {tn : Nat}
    (l : K.lookup f = some ⟨oc, od, .func (PySem.W.fnOf x qual (defArgs st) (defBody st) (defScope st) (.ref ed) kV doc pm an cdv ct), osl⟩)
    (ld : K.lookup ed = some ⟨tc, td, .seq #[.ref e] tn, ts⟩) (c : PySem.W.codeIn K cdv qual = true) (k : PySem.W.keepIn K (.ref f) = true) :
    FunD K x qual (defArgs st) (defBody st) (defScope st) [.ref e] [] f (PySem.W.fnOf x qual (defArgs st) (defBody st) (defScope st) (.ref ed) kV doc pm an cdv ct) :=
  ⟨⟨_, _, _, _, _, _, _, _, _, _, rfl, l, c, .inr ⟨by simp, _, _, [.ref e], _, rfl, ld, rfl, .cons rfl .nil⟩, .inl rfl⟩, k⟩
theorem bind_a (F : FunD K x qual pr bd sc [.ref e] [] f fd) (n : Nat) (hn : n = ps.length)
    (h : ∀ (T : Addr) (kV doc pm : Value) (an : Option Addr) (cdv ct : Value) (us its : List Value), us.length = n → its.length = [V.ref e].length →
      ∃ k, bindArgs (PySem.W.fnOf x qual pr bd sc (.ref T) kV doc pm an cdv ct) { pos := us } = seqItems? (.ref T) >>= k ∧ k (some its.toArray) = pure (ps.zip (us ++ List.drop 1 its))) : Binds K fd ps [] := by
  obtain ⟨ds, hv, hb⟩ := F.binds1 n 1 (by simp) (by simpa using hn) h
  cases hv
  exact hb
theorem bind_d (F : FunD K x qual pr bd sc [.ref e] [] f fd) (n : Nat) (hn : n + 1 = ps.length)
    (h : ∀ (T : Addr) (kV doc pm : Value) (an : Option Addr) (cdv ct : Value) (us its : List Value), us.length = n → its.length = [V.ref e].length →
      ∃ k, bindArgs (PySem.W.fnOf x qual pr bd sc (.ref T) kV doc pm an cdv ct) { pos := us } = seqItems? (.ref T) >>= k ∧ k (some its.toArray) = pure (ps.zip (us ++ List.drop 0 its))) : Binds K fd ps [.ref e] := by
  obtain ⟨ds, hv, hb⟩ := F.binds1 n 0 (by simp) (by simpa using hn) h
  cases hv with
  | cons hr hn =>
    cases hn
    cases hr
    exact hb
end
end Mj

namespace Mj
open PySem
theorem kit_no {K : PySem.W.Frag} {t : Value} {C : Addr} (h1 : PySem.W.isClsIn K C = true) (h2 : PySem.W.typeIn K (.ref C) = some (.type "type")) (h3 : PySem.W.subIn K t (.ref C) = some false) (h4 : PySem.W.subIn K (.ref C) (.ref C) = some true) : PySem.W.kitOne K t (.ref C) = some false := by
  unfold PySem.W.kitOne
  split
  · rename_i e
    have e := eq_of_beq e
    subst e
    rw [h4] at h3; cases h3
  · unfold PySem.W.kitCls
    have : (PySem.W.clsIn K C).isSome = true := h1
    simp [this, h2, h3]

end Mj

namespace Mj
open PySem PySem.Spec PyProof.Rows L2
theorem r_cmeth {C : Addr} {sp : Sp} {E : XK} {ta : TE} {t : TA} {σ : L2.St} {H : Hp} {Q : VK} (h : ta σ H fun x H1 => x = .ref C ∧ t σ H1 fun vs H2 => sp (.ref C :: vs) H2 Q E) : ClX.tCMeth C sp E ta t σ H Q := h
end Mj

/-! Rt: t[::-1] of a tuple -/
namespace Rt
open PySem PySem.Spec PyProof.Rows L2 Sx Sy
theorem fm_congr {α β : Type} {f g : α → Option β} : ∀ {l : List α}, (∀ x, x ∈ l → f x = g x) → l.filterMap f = l.filterMap g
  | [], _ => rfl
  | x :: l, h => by
    rw [List.filterMap_cons, List.filterMap_cons, h x (List.mem_cons_self ..), fm_congr fun y hy => h y (List.mem_cons_of_mem _ hy)]
theorem pick_all {α : Type} (m : List α) : ∀ n, (List.range n).filterMap (fun k => m[k]?) = m.take n
  | 0 => by simp
  | n + 1 => by
    rw [List.range_succ, List.filterMap_append, pick_all m n, List.take_add_one]
    cases h : m[n]? with
    | none => simp [h]
    | some x => simp [h]
theorem pick_rev {α : Type} (l : List α) : (List.range l.length).filterMap (fun k : Nat => l[((l.length : Int) - 1 + (k : Int) * -1).toNat]?) = l.reverse := by
  have e : (List.range l.length).filterMap (fun k : Nat => l[((l.length : Int) - 1 + (k : Int) * -1).toNat]?) = (List.range l.length).filterMap (fun k => l.reverse[k]?) := by
    apply fm_congr
    intro k hk
    rw [List.mem_range] at hk
    rw [List.getElem?_reverse hk]
    congr 1
    omega
  rw [e, pick_all, List.take_of_length_le (by rw [List.length_reverse]; exact Nat.le_refl _)]
section
variable {prog : Program} {w : World} {A : Around} {E : Value → Shared → Prop} {s : Shared}
theorem applied_back {sl : Addr} {u : Tok} {n : Nat} {Q : Int × Int × Nat → Shared → Prop} (hs : s.heap.IsSliceOf sl .none .none (.int (-1) u)) (h : Q ((n : Int) - 1, -1, n) s) : wpAny (model prog w) A (Builtin.Slice.sliceApplied (.ref sl) (pure (n : Int))) Q E s := by
  obtain ⟨os, hos, hcs, hds⟩ := hs
  unfold Builtin.Slice.sliceApplied Builtin.Slice.sliceFields
  refine wpAny_bind (wpAny_bind (wpAny_field hos hds rfl (wpAny_bind (wpAny_field hos hds rfl (wpAny_bind (wpAny_field hos hds rfl (wpAny_pure ?_)))))))
  refine wpAny_bind (slicePart_int ?_)
  show wpAny _ _ (if ((-1 : Int) == 0) = true then _ else _) _ _ _
  rw [if_neg (by decide)]
  refine wpAny_bind (slicePart_none (wpAny_bind (slicePart_none (wpAny_bind (wpAny_pure ?_)))))
  have e : Builtin.Slice.slicePlaces ((n : Int) - 1) (-1) (-1) = n := by
    unfold Builtin.Slice.slicePlaces
    rw [if_neg (by decide)]
    by_cases z : n = 0
    · subst z; decide
    · rw [if_pos (by omega)]
      show (((n : Int) - 1 - -1 - 1) / 1 + 1).toNat = n
      rw [Int.ediv_one]; omega
  show wpAny _ _ (pure (((n : Int) - 1), (-1 : Int), Builtin.Slice.slicePlaces ((n : Int) - 1) (-1) (-1))) _ _ _
  rw [e]
  exact wpAny_pure h
theorem get_rev {t sl : Addr} {items : Array Value} {u : Tok} {Q : Value → Shared → Prop} (ht : IsTup s.heap t items) (hs : s.heap.IsSliceOf sl .none .none (.int (-1) u))
    (h : Q (.ref s.heap.objs.size) { s with heap := s.heap.push { cls := .type "tuple", data := .seq items.toList.reverse.toArray } }) (n0 : items.size ≤ sizeLine) : wpAny (model prog w) A (getItem (.ref t) (.ref sl)) Q E s := by
  obtain ⟨os, hos, hcs, hds⟩ := id hs
  refine wpAny_holding (wpAny_bind (wpAny_sequenceKey ht.typeIs (by decide) (wpAny_bind (wpAny_callSpecial?_slot ht.typeIs slot_tuple_getitem (wpAny_call_entry slot_tuple_getitem ht.typeIs entry_tuple_getitem ?_ (args_tuple_getitem _ _))))))
  show wpAny (model prog w) A.in1 (Builtin.Tuple.tupleItemsOf (.ref t) >>= _) _ _ _
  refine wpAny_bind (tupleItemsOf_ ht (wpAny_bind (wpAny_typeOf (by exact ⟨os, hos, hcs⟩) ?_)))
  rw [if_pos (by decide)]
  refine wpAny_bind (applied_back hs ?_)
  show wpAny _ _ (if _ then _ else _) _ _ _
  rw [if_neg (by intro z; rw [Bool.and_eq_true, Bool.and_eq_true] at z; exact absurd z.1.2 (by decide))]
  have e : (List.filterMap (fun k : Nat => items[((items.size : Int) - 1 + (k : Int) * -1).toNat]?) (List.range items.size)) = items.toList.reverse := by
    have := pick_rev items.toList
    rw [Array.length_toList] at this
    rw [← this]
    apply fm_congr
    intro k _
    rw [Array.getElem?_toList]
  show wpAny _ _ (Builtin.Tuple.tupleExact (List.filterMap (fun k : Nat => items[((items.size : Int) - 1 + (k : Int) * -1).toNat]?) (List.range items.size)).toArray >>= _) _ _ _
  rw [e]
  refine wpAny_bind (wpAny_newObj_type (wpAny_pure ⟨.ref s.heap.objs.size, rfl, wpAny_pure h⟩) ?_)
  show items.toList.reverse.toArray.size ≤ sizeLine
  rw [List.size_toArray, List.length_reverse, Array.length_toList]; exact n0
end
theorem vals_snoc {x : V} {u : Value} (r : RelV x u) : ∀ {xs : List V} {us : List Value}, Vals xs us → Vals (xs ++ [x]) (us ++ [u])
  | _, _, .nil => .cons r .nil
  | _, _, .cons a b => .cons a (vals_snoc r b)
theorem vals_rev : ∀ {xs : List V} {us : List Value}, Vals xs us → Vals xs.reverse us.reverse
  | _, _, .nil => .nil
  | _, _, .cons a b => by
    rw [List.reverse_cons, List.reverse_cons]
    exact vals_snoc a (vals_rev b)
section
variable {X : Cx}
def tRevT (K : PySem.W.Frag) (te : TE) : TE := fun σ H Q => te σ H fun x H1 => ∃ a xs, x = .ref a ∧ SqT K H1 a xs ∧ ∀ p, H1 p = none → Q (.ref p) (upd H1 p (.tup xs.reverse))
theorem r_revT {K : PySem.W.Frag} {te : TE} {σ : L2.St} {H : Hp} {Q : VK} (h : te σ H fun x H1 => ∃ a xs, x = .ref a ∧ SqT K H1 a xs ∧ ∀ p, H1 p = none → Q (.ref p) (upd H1 p (.tup xs.reverse))) : tRevT K te σ H Q := h
theorem pe_revT {e : Expr} {te : TE} {k : Nat} {p1 p2 p3 pos : Pos} (he : PE X e te) : PE X (.Subscript e (.Slice none none (some (.UnaryOp .USub (.Constant (.int 1) k p1) p2)) p3) pos) (tRevT X.K te) := by
  constructor
  intro pins s σ H Q I h
  refine Subscript_ (thn (he.run pins s σ H _ I h) ?_)
  rintro v s1 ⟨x, H1, I1, r1, a, xs, rfl, hx, q⟩
  obtain rfl : v = .ref a := r1
  have step : PO X (some (.UnaryOp .USub (.Constant (.int 1) k p1) p2)) (tPart (tUn (rU fun i => .int (-i)) (tC (.int 1)))) := po_some (pe_un un_neg pe_int)
  refine wpAny_Slice (thn (po_none.run pins s1 σ H1 (fun o H2 => o = none ∧ H2 = H1) I1 ⟨rfl, rfl⟩) ?_)
  rintro v1 s2 ⟨o1, H2, I2, w1, rfl, rfl⟩
  refine thn (po_none.run pins s2 σ H2 (fun o H3 => o = none ∧ H3 = H2) I2 ⟨rfl, rfl⟩) ?_
  rintro v2 s3 ⟨o2, H3, I3, w2, rfl, rfl⟩
  refine thn (step.run pins s3 σ H3 (fun o H4 => o = some (-1) ∧ H4 = H3) I3 ⟨1, rfl, -1, rfl, rfl, rfl⟩) ?_
  rintro v3 s4 ⟨o3, H4, I4, w3, rfl, rfl⟩
  obtain ⟨b1, rfl, e1⟩ := IsPart.raw w1
  obtain ⟨b2, rfl, e2⟩ := IsPart.raw w2
  obtain ⟨b3, rfl, e3⟩ := IsPart.raw w3
  have n1 : b1 = none := Option.map_eq_none_iff.mp e1
  have n2 : b2 = none := Option.map_eq_none_iff.mp e2
  obtain ⟨⟨i3, t3⟩, rfl, e4⟩ := Option.map_eq_some_iff.mp e3
  subst n1 n2
  obtain rfl : i3 = -1 := e4
  have I5 : Inv X pins σ H4 { s4 with heap := s4.heap.push { cls := .type "slice", data := .fields #[partValue none, partValue none, partValue (some (-1, t3))] } } := I4.kept (t' := s4.toks) fun b ob z => Heap.get?_push_of_some _ z
  obtain ⟨its, rel, tp, big⟩ := I5.tuple hx
  refine tail_any (ops := [.ref a, .ref s4.heap.objs.size]) tp.typeIs slot_tuple_getitem.lookup ?_ (by with_unfolding_all rfl)
  refine get_rev (u := t3) tp ⟨_, Heap.get?_push_size _ rfl, rfl, rfl⟩ ?_ (by rw [List.size_toArray, ← rel.length]; exact big)
  refine ⟨.ref _, _, I5.laid (t' := s4.toks) (fun b ob z => Heap.get?_push_of_some _ z) (Nat.le_refl _) ?_, rfl, q _ (I5.hok.fresh (Nat.le_refl _))⟩
  refine ⟨by rw [List.length_reverse]; exact big, its.reverse, vals_rev rel, ?_⟩
  exact ⟨_, Heap.get?_push_size _ rfl, rfl, 0, rfl⟩
end
end Rt

/-! Ox: an own comparison with a value of any kind. -/
namespace Ox
open PySem PySem.Spec PyProof.Rows L2 Sx Sw
section
variable {X : Cx} {n : Nat} {sp : Sp} {C g : Addr} {fd : FuncData} {ps : List Str}
def qOwnX (K : PySem.W.Frag) (C : Addr) (sp : Sp) : R2 := fun x y H Q => ∃ a dx fs t, x = .ref a ∧ H a = some (.ins C dx fs) ∧ TyX K H y t ∧ PySem.W.notFirst K C t = true ∧ sp [x, y] H Q C8.E0
theorem op_ownX {op : CmpOp} (hop : ∀ a b, compareOp op a b = richCompare op a b) (o : OwnOp X.K C (cmpInfo op).2.1 g) (F : FnOk X.prog X.w X.K X.mg X.base C8.CX0 n g fd ps sp) (hr : Room n X.A) (bd : Binds X.K fd ps []) : OpR X (compareOp op) (qOwnX X.K C sp) := by
  intro pins s σ H x y v u Q I rx ry h
  obtain ⟨a, dx, fs, t, rfl, ha, ty, nf, q⟩ := h
  obtain rfl : v = .ref a := rx
  obtain ⟨mA, J, _⟩ := ins_get I.hok ha
  obtain ⟨od, J, _⟩ := J.look
  obtain ⟨m, fr⟩ := I.fr
  obtain ⟨P, kx, hp, _⟩ := kit_of I ry ty
  rw [hop]
  refine PySem.W.cmp_K (op := op) (tb := t) hr.units0 fr I.ok.mod.kin J (kx.ty _ _ I.kIn hp) nf o.at' o.fn ?_
  have len := F.len _ _ _ _ q
  have both : Vals [V.ref a, y] [Value.ref a, u] := .cons rfl (.cons ry .nil)
  have bind := bd s [.ref a, u] I.kIn (by simpa using len)
  refine wpAny_call (codeAny_mono (F.run X.A X.stack s H ⟨[.ref a, u], []⟩ [.ref a, u] [.ref a, y] Q C8.E0 hr I.env0 (by simpa using bind) both q) ?_)
  intro r s2 hq
  cases r with
  | error e => exact False.elim hq
  | ok fl =>
    cases fl with
    | ret z =>
      obtain ⟨v, H2, I2, rz, qz⟩ := I.after hq
      exact SlX.cmpback rz ⟨v, H2, I2, rz, qz⟩
    | next => exact hq.elim
    | brk => exact hq.elim
    | cont => exact hq.elim
theorem nf_same {K : PySem.W.Frag} {C : Addr} : PySem.W.notFirst K C (.ref C) = true := by simp [PySem.W.notFirst]
end
end Ox

/-! Mn: min and max of a tuple of ints. -/
namespace Mn
open PySem PySem.Spec PyProof.Rows L2 Sx Me
theorem fold_min : ∀ (ns : List Int) (n : Int), (ns.foldl min n ∈ n :: ns) ∧ ∀ y ∈ n :: ns, ns.foldl min n ≤ y
  | [], n => ⟨List.mem_cons_self, fun y hy => by rw [List.mem_singleton.mp hy]; exact Int.le_refl _⟩
  | m :: ns, n => by
    rw [List.foldl_cons]
    obtain ⟨h1, h2⟩ := fold_min ns (min n m)
    refine ⟨?_, fun y hy => ?_⟩
    · rcases List.mem_cons.mp h1 with e | e
      · rw [e]
        rcases Int.le_total n m with z | z
        · rw [Int.min_eq_left z]; exact List.mem_cons_self
        · rw [Int.min_eq_right z]; exact List.mem_cons_of_mem _ List.mem_cons_self
      · exact List.mem_cons_of_mem _ (List.mem_cons_of_mem _ e)
    · have h3 := h2 _ List.mem_cons_self
      rcases List.mem_cons.mp hy with e | e
      · rw [e]; exact Int.le_trans h3 (Int.min_le_left _ _)
      · rcases List.mem_cons.mp e with e | e
        · rw [e]; exact Int.le_trans h3 (Int.min_le_right _ _)
        · exact h2 _ (List.mem_cons_of_mem _ e)
section
variable {X : Cx}
def rMinT (K : PySem.W.Frag) : List V → Hp → VK → Prop := fun vs H Q => ∃ (a : Addr) (ns : List Int), vs = [V.ref a] ∧ SqT K H a (ns.map V.int) ∧ 0 < ns.length ∧ ∀ m, m ∈ ns → (∀ y, y ∈ ns → m ≤ y) → Q (.int m) H
theorem cr_minT (hc : X.calm = true) (hu : X.A.units + 64 < cLine) : CallR X (.builtin "min") (rMinT X.K) := by
  intro pins s σ H vs us Q I r h
  obtain ⟨a, ns, rfl, hs, hne, q⟩ := h
  obtain ⟨its, rv, tp, _⟩ := I.tuple hs
  rw [Vals.ref1 r]
  cases ns with
  | nil => exact absurd hne (Nat.lt_irrefl 0)
  | cons n ns =>
    obtain ⟨as, rd⟩ := Dp.readsAll I _ _ _ (dpI (n :: ns)) rv
    refine PySem.W.min_tuple_data (I.ok.hd hc) tp rd ?_ ?_ ?_
    · have all : ∀ x ∈ PyData.int n :: ns.map PyData.int, ∃ i : Int, x = .int i := by
        intro x hx
        obtain ⟨i, _, rfl⟩ := List.mem_map.mp (show x ∈ (n :: ns).map PyData.int from hx)
        exact ⟨i, rfl⟩
      refine ⟨fun x hx y hy => ?_, fun x hx => ?_⟩
      · obtain ⟨i, rfl⟩ := all x hx
        obtain ⟨j, rfl⟩ := all y hy
        simp [PySem.W.alike]
      · obtain ⟨i, rfl⟩ := all x hx
        exact fun z => nomatch z
    · have := deep_ints (n :: ns)
      have e : PyData.depthAll (PyData.int n :: ns.map PyData.int) ≤ 1 := this
      show X.A.units + 1 + PyData.depthAll (PyData.int n :: ns.map PyData.int) < cLine
      omega
    · intro i v h' tk bs _ rd' hk
      rw [PySem.W.minD_ints] at rd'
      obtain ⟨h1, h2⟩ := fold_min ns n
      cases rd'
      exact ⟨.int _, H, I.kept hk, ⟨_, rfl⟩, q _ h1 h2⟩
end
end Mn

/-! Sm: sum of a tuple of ints. -/
namespace Sm
open PySem PySem.Spec PyProof.Rows L2 Sx Me
theorem pre_take (ns : List Int) : ∀ k, k ≤ ns.length → preSum (fun i => ns.getD i 0) k = (ns.take k).sum
  | 0, _ => rfl
  | k + 1, h => by
    have e : ns[k]? = some (ns.getD k 0) := by
      rw [List.getD_eq_getElem?_getD, List.getElem?_eq_getElem (by omega)]; rfl
    rw [preSum, pre_take ns k (by omega), List.take_add_one, e, List.sum_append]
    simp
section
variable {X : Cx}
def rSumT (K : PySem.W.Frag) : List V → Hp → VK → Prop := fun vs H Q => ∃ (a : Addr) (ns : List Int), vs = [V.ref a] ∧ SqT K H a (ns.map V.int) ∧ Q (.int ns.sum) H
theorem cr_sumT (hc : X.calm = true) : CallR X (.builtin "sum") (rSumT X.K) := by
  intro pins s σ H vs us Q I r h
  obtain ⟨a, ns, rfl, hs, q⟩ := h
  obtain ⟨its, rv, tp, _⟩ := I.tuple hs
  rw [Vals.ref1 r]
  have hh : X.A.in1.handled = none := I.ok.hd hc
  have hlt : a < s.heap.objs.size := by obtain ⟨_, e, _⟩ := tp; exact Heap.lt_size e
  have ln : its.length = ns.length := by have := rv.length; rw [List.length_map] at this; omega
  refine call_sum_walkG (wpAny_pyIter_tuple tp ?_)
  refine ⟨_, _, _, _, _, _, (fun i => ns.getD i 0), rfl, Walks.tuple hh s.heap.objs.size a (Nat.ne_of_lt hlt) its.toArray, ⟨⟨_, Heap.get?_push_size _ rfl, rfl, rfl⟩, ?_⟩, ?_, ?_, ?_⟩
  · obtain ⟨o, e, z⟩ := tp
    exact ⟨o, Heap.get?_push_of_some _ e, z⟩
  · intro b hb
    show b < (s.heap.push _).objs.size
    rw [Heap.size_push]
    simp only [List.mem_cons, List.not_mem_nil, or_false] at hb
    rcases hb with rfl | rfl
    · exact Nat.lt_succ_self _
    · exact Nat.lt_succ_of_lt hlt
  · intro i v hv
    have hv : its[i]? = some v := by simpa using hv
    obtain ⟨hi, _⟩ := List.getElem?_eq_some_iff.mp hv
    obtain ⟨w, ew, rw'⟩ := rv.get (i := i) (x := .int (ns.getD i 0)) (by rw [List.getElem?_map, List.getD_eq_getElem?_getD, List.getElem?_eq_getElem (by omega)]; rfl)
    rw [hv] at ew
    obtain ⟨t, e⟩ := (show ∃ t, w = Value.int _ t from rw')
    exact ⟨t, (Option.some.inj ew).trans e⟩
  · intro h' tk t' hk
    have e : preSum (fun i => ns.getD i 0) its.toArray.size = ns.sum := by
      rw [List.size_toArray, ln, pre_take ns _ (Nat.le_refl _), List.take_length]
    rw [e]
    exact ⟨.int _, H, I.kept (fun b o z => hk b o (fun m => by
      rw [List.mem_singleton.mp m] at z; exact Nat.lt_irrefl _ (Heap.lt_size z)) (Heap.get?_push_of_some _ z)), ⟨_, rfl⟩, q⟩
end
end Sm

/-! Se: enumerate of a text. -/
namespace Se
open PySem PySem.Spec PyProof.Rows L2 Sx Sy
section
variable {P : Program} {w : World} {K : PySem.W.Frag}
/-- the letters of x, each behind its number in a new pair -/
def Itc (x : Str) : It :=
  ⟨fun i _ => i < x.cps.size,
   fun i H v H2 => ∃ p c, v = V.ref p ∧ H p = none ∧ H2 = upd H p (.tup [.int (i : Nat), .str ⟨#[c]⟩]) ∧ x.cps[i]? = some c,
   fun i _ => x.cps.size = i⟩
theorem turn_letters {tgs : List Expr} {q : Nat} {at' : Pos} (x : Str) (t : Tok) (en it : Addr) :
    Turn P w K (.Tuple tgs q at') (Itc x) [en, it] en (fun i g => (∃ last, IsEnum g en it ((i : Nat) : Int) last) ∧ g.IsStrIter it (strIterType x) x t i ∧ en ≠ it) where
  mem := List.mem_cons_self ..
  obj := fun i g ⟨⟨last, x1⟩, x2, _⟩ b m => by
    rcases List.mem_cons.mp m with rfl | m
    · exact ⟨_, x1, nofun⟩
    · cases List.mem_singleton.mp m
      obtain ⟨ob, y1, y2, y3⟩ := x2
      exact ⟨ob, y1, fun v z => by rw [y3] at z; exact nomatch z⟩
  keep := fun i g g' ⟨⟨last, x1⟩, x2, x3⟩ same => ⟨⟨last, same en (List.mem_cons_self ..) _ x1⟩, by
    obtain ⟨ob, y1, y2⟩ := x2
    exact ⟨ob, same it (by simp) ob y1, y2⟩, x3⟩
  item := by
    rintro X rfl rfl rfl calm i pins s σ H E I free ⟨⟨last, x1⟩, x2, apart⟩ lt
    have lt : i < x.cps.size := lt
    have below : ∀ b ∈ [en, it], b < s.heap.objs.size := fun b m => by
      rcases List.mem_cons.mp m with rfl | m
      · exact Heap.lt_size x1
      · cases List.mem_singleton.mp m
        obtain ⟨ob, y1, _⟩ := x2
        exact Heap.lt_size y1
    have dif2 : en ∉ [it] := fun z => apart (List.mem_singleton.mp z)
    have drawn := Draws.text (prog := X.prog) (w := X.w) (A := X.A.in1) (I.ok.hd calm) it x t
    refine wpAny_pyNext_enum_itemD drawn x1 x2 lt apart dif2 ?_
    rintro w1 g1 k1 ⟨c, u, hc, rfl⟩ out it1 new1 size1 others
    refine ⟨_, rfl, wpAny_letOwnedTupleGo_enum (s := { s with heap := g1, toks := k1 + 1 }) out fun g2 en2 but => ?_⟩
    have far : s.heap.objs.size ≠ en := Nat.ne_of_gt (below en (List.mem_cons_self ..))
    have new2 := (but.2 _ far).trans new1
    have I2 : Inv X pins σ (upd H s.heap.objs.size (.tup [.int (i : Nat), .str ⟨#[c]⟩])) { s with heap := g2, toks := k1 + 1 } := by
      refine I.turnedNew (ch := [en, it]) ?_ free (Nat.le_refl _) ?_
      · intro b ob m y
        exact (but.2 b fun e => m (e ▸ List.mem_cons_self ..)).trans (others b ob (fun e => m (e ▸ List.mem_cons_self ..)) (fun e => m (by rw [e]; simp)) y)
      · exact ⟨by rw [sizeLine_eq]; exact (by decide : 2 ≤ 16777216), _, .cons ⟨k1, rfl⟩ (.cons ⟨u, rfl⟩ .nil), _, new2, rfl, _, rfl⟩
    refine ⟨.ref s.heap.objs.size, _, I2, rfl, ⟨_, c, rfl, I.hok.fresh (Nat.le_refl _), rfl, hc⟩, ⟨⟨.str ⟨#[c]⟩ u, ?_⟩, ?_, apart⟩, fun b m => ?_⟩
    · rw [Int.natCast_add]; exact en2
    · obtain ⟨ob, y1, y2⟩ := it1
      exact ⟨ob, (but.2 it (Ne.symm apart)).trans y1, y2⟩
    · rw [upd_ne (Nat.ne_of_lt (below b m))]
      exact (free b m).1
  done := by
    rintro X rfl rfl rfl calm i pins s σ H E I free ⟨⟨last, x1⟩, x2, apart⟩ z
    have z : x.cps.size = i := z
    subst z
    have drawn := Draws.text (prog := X.prog) (w := X.w) (A := X.A.in1) (I.ok.hd calm) it x t
    obtain ⟨f0, f1, f2, f3, f4, f5⟩ := free it (by simp)
    refine wpAny_pyNext_enum_endD drawn x1 x2 fun g ext => ⟨rfl, ?_⟩
    exact I.turned (t' := s.toks) (fun b ob m y => ext b ob m y) f0 f1 f3 f4 f5
  self := fun A i s Q E ⟨⟨_, x1⟩, _⟩ h => wpAny_pyIter_enum x1 h
def iNumS (ta : TA) : TI := fun σ H R => ta σ H fun vs H1 => ∃ x, vs = [V.str x] ∧ R (Itc x) H1
theorem walk_letters {x : Str} : Walk (Itc x) x.cps.size (fun _ => True) (YPair (fun i => some (.int (i : Nat))) (fun i => (x.cps[i]?).map fun c => V.str ⟨#[c]⟩)) := by
  constructor
  · intro i H hi _; exact hi
  · intro H _; exact rfl
  · rintro i H v H2 _ _ ⟨p, c, rfl, h1, h2, h3⟩
    exact ⟨p, .int (i : Nat), .str ⟨#[c]⟩, rfl, h1, h2, rfl, by show (x.cps[i]?).map _ = _; rw [h3]; rfl⟩
end
section
variable {X : Cx}
theorem pi_enumS {e : Expr} {ta : TA} {p pos tpos : Pos} {tgs : List Expr} {q : Nat} (hg : Gl X "enumerate") (hm : X.mg "enumerate" = none) (ha : PA X [e] ta) (na : starEach [e] X.env = [(false, eval e X.env)] := by rfl) :
    PI X (.Tuple tgs q tpos) (.Call (.Name "enumerate" p) [e] [] pos) (iNumS ta) := by
  constructor
  intro pins s σ H R I h
  refine Call_ (ld_blt I hg hm bt_enumerate (PyProof.Rows.callWith_type1 (thn (ha.run pos pins s σ H _ I h) ?_) na rfl))
  rintro us s1 ⟨vs, H1, I1, r1, x, rfl, next⟩
  obtain ⟨u, rfl, rx⟩ := vals1 r1
  obtain ⟨t, rfl⟩ := (show ∃ t, u = Value.str x t from rx)
  have B := begins_text x t
  refine callType_new F.called_enumerate (by decide) (F.typeCall_enumerate_1 _) (F.newCall_enumerate_1 _) (fun ob => F.args_object_init_2 ob _) F.entry_enumerate_new (meets_number B) ⟨trivial, ?_⟩
  let t1 := s1.heap.push { cls := .type (strIterType x), data := .fields #[.str x t, .int 0 0] }
  have n1 : t1.objs.size = s1.heap.objs.size + 1 := Heap.size_push ..
  show _ ∧ _
  rw [n1]
  have x1 : IsEnum (t1.push { cls := .type "enumerate", data := .fields #[.none, .bool false, .ref s1.heap.objs.size, rawInt 0, .none, .none] }) (s1.heap.objs.size + 1) s1.heap.objs.size 0 .none := by
    have z := Heap.get?_push_size t1 (o := { cls := .type "enumerate", data := .fields #[.none, .bool false, .ref s1.heap.objs.size, rawInt 0, .none, .none] }) rfl
    rw [n1] at z; exact z
  have same : ∀ b ob, s1.heap.get? b = some ob → (t1.push { cls := .type "enumerate", data := .fields #[.none, .bool false, .ref s1.heap.objs.size, rawInt 0, .none, .none] }).get? b = some ob :=
    fun b ob z => Heap.get?_push_of_some _ (Heap.get?_push_of_some _ z)
  refine ⟨⟨_, x1, rfl⟩, wpAny_pyIter_enum x1 ?_⟩
  have it1 : (t1.push { cls := .type "enumerate", data := .fields #[.none, .bool false, .ref s1.heap.objs.size, rawInt 0, .none, .none] }).IsStrIter s1.heap.objs.size (strIterType x) x t 0 :=
    ⟨_, Heap.get?_push_of_some _ (Heap.get?_push_size _ rfl), rfl, rfl⟩
  refine ⟨s1.heap.objs.size + 1, [s1.heap.objs.size + 1, s1.heap.objs.size], _, Itc x, H1, rfl, I1.kept (t' := s1.toks) same, turn_letters x t (s1.heap.objs.size + 1) s1.heap.objs.size, ⟨⟨.none, x1⟩, it1, Nat.succ_ne_self _⟩, ?_, next⟩
  intro b m
  have le : s1.heap.objs.size ≤ b := by
    rcases List.mem_cons.mp m with rfl | m
    · exact Nat.le_succ _
    · exact Nat.le_of_eq (List.mem_singleton.mp m).symm
  exact I1.fpOk le (I1.hok.fresh le)
end
section
variable {σ : L2.St} {H : Hp} {Q : VK} {te : TE} {tt : TT} {tb : TS} {tl : TA} {g : TG} {vs : List Nat}
theorem r_lcNS (h : tl σ H fun us H1 => ∃ x, us = [V.str x] ∧ LCW (Itc x) g tt te vs σ H1 Q) : tLc (iNumS tl) g tt te vs σ H Q := h
theorem r_forNS {D : Ends} (h : tl σ H fun us H1 => ∃ x, us = [V.str x] ∧ FR (Itc x) g tb D σ H1) : tFor (iNumS tl) g tb D σ H := h
end
end Se

/-! Mu: each closed set of numbers is that of a way. -/
namespace Mu
open Mw Mg
theorem least_nat {P : Nat → Prop} (h : ∃ n, P n) : ∃ n, P n ∧ ∀ m, P m → n ≤ m := by
  obtain ⟨n, hn⟩ := h
  induction n using Nat.strongRecOn with
  | ind n ih =>
    by_cases c : ∃ m, m < n ∧ P m
    · obtain ⟨m, hm, pm⟩ := c
      exact ih m hm pm
    · exact ⟨n, hn, fun m pm => Nat.le_of_not_lt fun z => c ⟨m, z, pm⟩⟩
theorem least {P : Int → Prop} (low : ∀ x, P x → 0 ≤ x) (h : ∃ x, P x) : ∃ x, P x ∧ ∀ y, P y → x ≤ y := by
  obtain ⟨x, hx⟩ := h
  obtain ⟨n, hn, hm⟩ := least_nat (P := fun n : Nat => P n) ⟨x.toNat, by have := low x hx; show P ((x.toNat : Nat) : Int); rw [Int.toNat_of_nonneg this]; exact hx⟩
  refine ⟨n, hn, fun y py => ?_⟩
  have h0 := low y py
  have := hm y.toNat (by show P ((y.toNat : Nat) : Int); rw [Int.toNat_of_nonneg h0]; exact py)
  omega
/-- a set of numbers with 0, closed by adding the rises and the steps -/
structure Cl (a b : Nat) (M : Int → Prop) : Prop where
  low : ∀ x, M x → 0 ≤ x
  zero : M 0
  ra : ∀ x, M x → M (x + a)
  sb : ∀ x, M x → M (x + b)
theorem Cl.kb {a b : Nat} {M : Int → Prop} (h : Cl a b M) : ∀ k : Nat, M ((b : Int) * k)
  | 0 => by simpa using h.zero
  | k + 1 => by
    have := h.sb _ (h.kb k)
    rw [show (b : Int) * ((k + 1 : Nat) : Int) = b * k + b by rw [Int.natCast_add, Int.mul_add]; simp]
    exact this
theorem Cl.stair {a b : Nat} {M : Int → Prop} (h : Cl a b M) {x : Int} (m : M x) : ∀ n : Nat, M (x + (a : Int) * n)
  | 0 => by simpa using m
  | n + 1 => by
    have := h.ra _ (h.stair m n)
    rw [show x + (a : Int) * ((n + 1 : Nat) : Int) = x + a * n + a by rw [Int.natCast_add, Int.mul_add]; simp; omega]
    exact this
section
variable {a b : Nat} {M : Int → Prop}
theorem ex_low (h : Cl a b M) (k : Nat) : ∃ x, (M x ∧ (a : Int) ∣ x - (b : Int) * k) ∧ ∀ y, (M y ∧ (a : Int) ∣ y - (b : Int) * k) → x ≤ y :=
  least (fun x z => h.low x z.1) ⟨_, h.kb k, by rw [Int.sub_self]; exact Int.dvd_zero _⟩
/-- the least number of the set with the rest of k steps -/
noncomputable def gl (h : Cl a b M) (k : Nat) : Int := Classical.choose (ex_low h k)
theorem gl_m (h : Cl a b M) (k : Nat) : M (gl h k) := (Classical.choose_spec (ex_low h k)).1.1
theorem gl_d (h : Cl a b M) (k : Nat) : (a : Int) ∣ gl h k - (b : Int) * k := (Classical.choose_spec (ex_low h k)).1.2
theorem gl_le (h : Cl a b M) (k : Nat) {y : Int} (m : M y) (d : (a : Int) ∣ y - (b : Int) * k) : gl h k ≤ y := (Classical.choose_spec (ex_low h k)).2 y ⟨m, d⟩
theorem gl_0 (h : Cl a b M) : gl h 0 = 0 := by
  have h1 := gl_le h 0 h.zero (by simp)
  have h2 := h.low _ (gl_m h 0)
  omega
theorem gl_a (h : Cl a b M) : gl h a = 0 := by
  have h1 := gl_le h a h.zero (by rw [Int.zero_sub]; exact Int.dvd_neg.mpr (Int.dvd_mul_left _ _))
  have h2 := h.low _ (gl_m h a)
  omega
theorem gl_next (h : Cl a b M) (k : Nat) : ∃ s : Nat, gl h (k + 1) = gl h k + b - (a : Int) * s := by
  have e : (b : Int) * ((k + 1 : Nat) : Int) = b * k + b := by rw [Int.natCast_add, Int.mul_add]; simp
  have le := gl_le h (k + 1) (h.sb _ (gl_m h k)) (by rw [e, show gl h k + (b : Int) - (b * k + b) = gl h k - b * k by omega]; exact gl_d h k)
  have d1 := gl_d h k
  have d2 := gl_d h (k + 1)
  have d3 : (a : Int) ∣ gl h k + b - gl h (k + 1) := by
    have := Int.dvd_sub d1 d2
    rw [e] at this
    rwa [show gl h k - (b : Int) * k - (gl h (k + 1) - (b * k + b)) = gl h k + b - gl h (k + 1) by omega] at this
  obtain ⟨c, hc⟩ := d3
  rcases Nat.eq_zero_or_pos a with ha | ha
  · subst ha
    refine ⟨0, ?_⟩
    simp at hc
    simp
    omega
  · have c0 : 0 ≤ c := by
      refine Int.not_lt.mp fun z => ?_
      have : (a : Int) * c ≤ (a : Int) * (-1) := Int.mul_le_mul_of_nonneg_left (by omega) (by omega)
      omega
    refine ⟨c.toNat, ?_⟩
    rw [Int.toNat_of_nonneg c0, ← hc]; omega
noncomputable def sl (h : Cl a b M) (k : Nat) : Nat := Classical.choose (gl_next h k)
theorem sl_is (h : Cl a b M) (k : Nat) : gl h (k + 1) = gl h k + b - (a : Int) * sl h k := Classical.choose_spec (gl_next h k)
noncomputable def blk (h : Cl a b M) (k : Nat) : List Nat := 114 :: List.replicate (sl h k) 115
noncomputable def wrd (h : Cl a b M) : Nat → List Nat
  | 0 => []
  | n + 1 => wrd h n ++ blk h n
theorem rep_lev (s : Nat) : lev a b (List.replicate s 115) = -((a : Int) * s) := by
  unfold lev
  have e : (List.replicate s 115).count 114 = 0 := by simp [List.count_replicate]
  rw [e, List.length_replicate]
  simp
theorem blk_lev (h : Cl a b M) (k j : Nat) : lev a b (114 :: List.replicate j 115) = (b : Int) - a * j := by
  rw [show (114 :: List.replicate j 115) = [114] ++ List.replicate j 115 from rfl, lev_append, lev_one, rep_lev, if_pos rfl]; omega
theorem wrd_lev (h : Cl a b M) : ∀ n, lev a b (wrd h n) = gl h n
  | 0 => by rw [wrd, lev_nil, gl_0]
  | n + 1 => by
    rw [wrd, lev_append, wrd_lev h n, blk, blk_lev h n, sl_is]; omega
theorem wrd_cnt (h : Cl a b M) : ∀ n, (wrd h n).count 114 = n
  | 0 => rfl
  | n + 1 => by
    rw [wrd, List.count_append, wrd_cnt h n, blk, List.count_cons]
    simp [List.count_replicate]
theorem wrd_let (h : Cl a b M) : ∀ n c, c ∈ wrd h n → c = 114 ∨ c = 115
  | 0, c, m => nomatch m
  | n + 1, c, m => by
    rw [wrd, List.mem_append] at m
    rcases m with m | m
    · exact wrd_let h n c m
    · rw [blk, List.mem_cons] at m
      rcases m with m | m
      · exact .inl m
      · exact .inr (List.eq_of_mem_replicate m)
theorem wrd_wd (h : Cl a b M) (ha : 0 < a) : Wd a b (wrd h a) := by
  have h1 := wrd_cnt h a
  have h2 := lev_two (a := a) (b := b) (wrd_let h a)
  rw [wrd_lev, gl_a, h1] at h2
  have h3 : (wrd h a).count 115 = b := by
    have : (a : Int) * ((wrd h a).count 115 : Nat) = a * b := by rw [Int.mul_comm (b : Int)] at h2; omega
    have := Int.eq_of_mul_eq_mul_left (by omega) this
    omega
  refine ⟨h1, h3, ?_⟩
  have key : ∀ l : List Nat, (∀ c, c ∈ l → c = 114 ∨ c = 115) → l.length = l.count 114 + l.count 115 := by
    intro l hl
    induction l with
    | nil => rfl
    | cons x l ih =>
      have := ih fun c m => hl c (List.mem_cons_of_mem _ m)
      rcases hl x List.mem_cons_self with rfl | rfl
      · simp [List.count_cons]; omega
      · simp [List.count_cons]; omega
  rw [key _ (wrd_let h a), h1, h3]
theorem wrd_low (h : Cl a b M) : ∀ n i, 0 ≤ lev a b ((wrd h n).take i)
  | 0, i => by simp [wrd, lev_nil]
  | n + 1, i => by
    rw [wrd, List.take_append, lev_append]
    by_cases c : i ≤ (wrd h n).length
    · rw [Nat.sub_eq_zero_of_le c, List.take_zero, lev_nil]
      have := wrd_low h n i
      omega
    · rw [List.take_of_length_le (by omega), wrd_lev]
      obtain ⟨j, hj⟩ : ∃ j, i - (wrd h n).length = j + 1 := ⟨i - (wrd h n).length - 1, by omega⟩
      rw [hj, blk, List.take_succ_cons, List.take_replicate, blk_lev h n]
      have h1 := h.low _ (gl_m h (n + 1))
      rw [sl_is] at h1
      have : (a : Int) * (min j (sl h n) : Nat) ≤ a * sl h n := Int.mul_le_mul_of_nonneg_left (by omega) (by omega)
      omega
theorem wrd_way (h : Cl a b M) (ha : 0 < a) : IsWay a b (wrd h a) := ⟨wrd_wd h ha, fun i _ => wrd_low h a i⟩
theorem wrd_rl (h : Cl a b M) : ∀ n x, (∃ i, (wrd h n)[i]? = some 114 ∧ lev a b ((wrd h n).take i) = x) ↔ ∃ k, k < n ∧ x = gl h k
  | 0, x => by
    constructor
    · rintro ⟨i, hi, _⟩; simp [wrd] at hi
    · rintro ⟨k, hk, _⟩; omega
  | n + 1, x => by
    constructor
    · rintro ⟨i, hi, e⟩
      rw [wrd] at hi e
      by_cases c : i < (wrd h n).length
      · rw [List.getElem?_append_left c] at hi
        rw [List.take_append_of_le_length (by omega)] at e
        obtain ⟨k, hk, z⟩ := (wrd_rl h n x).mp ⟨i, hi, e⟩
        exact ⟨k, by omega, z⟩
      · rw [List.getElem?_append_right (by omega), blk] at hi
        have i0 : i - (wrd h n).length = 0 := by
          cases hz : i - (wrd h n).length with
          | zero => rfl
          | succ j =>
            rw [hz, List.getElem?_cons_succ, List.getElem?_replicate] at hi
            split at hi <;> simp at hi
        have ei : i = (wrd h n).length := by omega
        subst ei
        rw [List.take_left, wrd_lev] at e
        exact ⟨n, by omega, e.symm⟩
    · rintro ⟨k, hk, e⟩
      by_cases c : k < n
      · obtain ⟨i, hi, z⟩ := (wrd_rl h n x).mpr ⟨k, c, e⟩
        have il : i < (wrd h n).length := by
          rcases List.getElem?_eq_some_iff.mp hi with ⟨q, _⟩; exact q
        refine ⟨i, ?_, ?_⟩
        · rw [wrd, List.getElem?_append_left il]; exact hi
        · rw [wrd, List.take_append_of_le_length (by omega)]; exact z
      · have : k = n := by omega
        subst this
        refine ⟨(wrd h k).length, ?_, ?_⟩
        · rw [wrd, List.getElem?_append_right (Nat.le_refl _), Nat.sub_self, blk]; rfl
        · rw [wrd, List.take_left, wrd_lev, e]
/-- just the numbers of the set are those of the way -/
theorem wrd_mem (h : Cl a b M) (ha : 0 < a) (hg : Nat.gcd a b = 1) {x : Int} : Mem a b (wrd h a) x ↔ M x := by
  constructor
  · rintro ⟨g, ⟨i, hi, e⟩, hle, d⟩
    obtain ⟨k, _, rfl⟩ := (wrd_rl h a g).mp ⟨i, hi, e⟩
    obtain ⟨c, hc⟩ := d
    have c0 : 0 ≤ c := by
      refine Int.not_lt.mp fun z => ?_
      have : (a : Int) * c ≤ (a : Int) * (-1) := Int.mul_le_mul_of_nonneg_left (by omega) (by omega)
      omega
    have := h.stair (gl_m h k) c.toNat
    rw [Int.toNat_of_nonneg c0, ← hc] at this
    rwa [show gl h k + (x - gl h k) = x by omega] at this
  · intro m
    have hW := wrd_way h ha
    obtain ⟨i, hi, e⟩ := all_rests_a hW ha hg (x % (a : Int)).toNat (by
      have h1 := Int.emod_nonneg x (show (a : Int) ≠ 0 by omega)
      have h2 := Int.emod_lt_of_pos x (show (0 : Int) < a by omega)
      omega)
    have h1 := Int.emod_nonneg x (show (a : Int) ≠ 0 by omega)
    rw [Int.toNat_of_nonneg h1] at e
    obtain ⟨k, _, hk⟩ := (wrd_rl h a (lv a b (wrd h a) i)).mp ⟨i, hi, rfl⟩
    have d : (a : Int) ∣ x - gl h k := by
      rw [← hk]
      exact Int.dvd_of_emod_eq_zero (Int.emod_eq_emod_iff_emod_sub_eq_zero.mp e.symm)
    refine ⟨gl h k, ⟨i, hi, hk⟩, gl_le h k m ?_, d⟩
    have := Int.dvd_add d (gl_d h k)
    rwa [show x - gl h k + (gl h k - (b : Int) * k) = x - b * k by omega] at this
end
end Mu

/-! Rm: room and sky of a way. -/
namespace Rm
open Mw Mg
/-! ### sums -/
def sm (g : Nat → Int) : Nat → Int
  | 0 => 0
  | n + 1 => sm g n + g n
theorem sm_list (g : Nat → Int) : ∀ n, ((List.range n).map g).sum = sm g n
  | 0 => rfl
  | n + 1 => by rw [List.range_succ, List.map_append, List.sum_append, sm_list g n]; simp [sm]
theorem sm_front (g : Nat → Int) : ∀ n, sm g (n + 1) = g 0 + sm (fun k => g (k + 1)) n
  | 0 => by simp [sm]
  | n + 1 => by
    rw [sm, sm_front g n]
    show _ = g 0 + (sm (fun k => g (k + 1)) n + g (n + 1))
    omega
theorem sm_congr {g f : Nat → Int} : ∀ n, (∀ k, k < n → g k = f k) → sm g n = sm f n
  | 0, _ => rfl
  | n + 1, h => by rw [sm, sm, sm_congr n fun k hk => h k (by omega), h n (by omega)]
theorem sm_rev : ∀ (n : Nat) (g : Nat → Int), sm g n = sm (fun k => g (n - 1 - k)) n
  | 0, _ => rfl
  | n + 1, g => by
    rw [sm_front (fun k => g (n + 1 - 1 - k)) n, sm, sm_rev n g]
    rw [sm_congr (g := fun k => g (n - 1 - k)) (f := fun k => g (n + 1 - 1 - (k + 1))) n fun k hk => by show g _ = g _; congr 1; omega]
    show _ = g n + _
    omega
theorem sm_add (g f : Nat → Int) : ∀ n, sm (fun k => g k + f k) n = sm g n + sm f n
  | 0 => rfl
  | n + 1 => by rw [sm, sm, sm, sm_add g f n]; omega
theorem sm_const (c : Int) : ∀ n : Nat, sm (fun _ => c) n = n * c
  | 0 => by simp [sm]
  | n + 1 => by rw [sm, sm_const c n, Int.natCast_succ, Int.add_mul, Int.one_mul]
theorem pair_floor {a b k : Nat} (ha : 0 < a) (hg : Nat.gcd a b = 1) (h1 : 1 ≤ k) (h2 : k < a) : b * k / a + b * (a - k) / a = b - 1 := by
  have hr : b * k % a ≠ 0 := by
    intro z
    have d : a ∣ b * k := Nat.dvd_of_mod_eq_zero z
    have d2 : a ∣ k := Nat.Coprime.dvd_of_dvd_mul_left (show Nat.Coprime a b from hg) d
    exact absurd (Nat.le_of_dvd h1 d2) (by omega)
  have m1 := Nat.div_add_mod (b * k) a
  have m2 := Nat.mod_lt (b * k) ha
  have e1 : b * (a - k) + b * k = b * a := by rw [← Nat.mul_add]; congr 1; omega
  have hq : b * k / a < b := by
    rw [Nat.div_lt_iff_lt_mul ha]
    exact Nat.mul_lt_mul_of_pos_left h2 (Nat.pos_of_ne_zero fun z => by subst z; simp at hr)
  obtain ⟨q, eq⟩ : ∃ q, q = b * k / a := ⟨_, rfl⟩
  obtain ⟨r, er⟩ : ∃ r, r = b * k % a := ⟨_, rfl⟩
  rw [← eq, ← er] at m1
  rw [← er] at hr m2
  rw [← eq] at hq ⊢
  have e2 : b * (a - k) = a * (b - q - 1) + (a - r) := by
    have e3 : a * (b - q - 1) + a * q + a = b * a := by
      rw [← Nat.mul_add, show a * (b - q - 1 + q) + a = a * (b - q - 1 + q + 1) from by rw [Nat.mul_add _ _ 1, Nat.mul_one], show b - q - 1 + q + 1 = b by omega, Nat.mul_comm]
    omega
  have e4 : b * (a - k) / a = b - q - 1 := by
    rw [e2, Nat.mul_add_div ha, Nat.div_eq_of_lt (by omega)]; omega
  rw [e4]; omega
theorem floor_sum {a b : Nat} (ha : 0 < a) (hb : 0 < b) (hg : Nat.gcd a b = 1) : 2 * sm (fun k => ((b * k / a : Nat) : Int)) a = (((a - 1) * (b - 1) : Nat) : Int) := by
  obtain ⟨n, rfl⟩ : ∃ n, a = n + 1 := ⟨a - 1, by omega⟩
  rw [sm_front]
  have z : ((b * 0 / (n + 1) : Nat) : Int) = 0 := by simp
  rw [z, Int.zero_add]
  have r := sm_rev n (fun k => ((b * (k + 1) / (n + 1) : Nat) : Int))
  have e : sm (fun k => ((b * (k + 1) / (n + 1) : Nat) : Int)) n + sm (fun k => ((b * (n - 1 - k + 1) / (n + 1) : Nat) : Int)) n = sm (fun _ => ((b - 1 : Nat) : Int)) n := by
    rw [← sm_add]
    refine sm_congr n fun k hk => ?_
    have := pair_floor (k := k + 1) (Nat.succ_pos n) hg (by omega) (by omega)
    rw [show n - 1 - k + 1 = n + 1 - (k + 1) by omega]
    show ((b * (k + 1) / (n + 1) : Nat) : Int) + ((b * (n + 1 - (k + 1)) / (n + 1) : Nat) : Int) = _
    rw [← Int.natCast_add, this]
  rw [sm_const] at e
  rw [show n + 1 - 1 = n from rfl, Int.natCast_mul]
  omega
/-! ### the rises of a way, in order -/
theorem nd_inj {u : List Nat} (nd : u.Nodup) {i j x : Nat} (h1 : u[i]? = some x) (h2 : u[j]? = some x) : i = j := by
  obtain ⟨l1, g1⟩ := List.getElem?_eq_some_iff.mp h1
  obtain ⟨l2, g2⟩ := List.getElem?_eq_some_iff.mp h2
  have p := List.pairwise_iff_getElem.mp (List.nodup_iff_pairwise_ne.mp nd)
  rcases Nat.lt_trichotomy i j with h | h | h
  · exact absurd (g1.trans g2.symm) (p i j l1 l2 h)
  · exact h
  · exact absurd (g2.trans g1.symm) (p j i l2 l1 h)
theorem fil_at {P : Nat → Bool} {n k i : Nat} (h : ((List.range n).filter P)[k]? = some i) : ((List.range i).filter P).length = k := by
  have mi := List.mem_filter.mp (List.mem_of_getElem? h)
  have hi : i < n := List.mem_range.mp mi.1
  have sp : List.range n = List.range i ++ i :: (List.range n).drop (i + 1) := by
    have e1 : (List.range n).take i = List.range i := by rw [List.take_range, Nat.min_eq_left (by omega)]
    have e2 := List.drop_eq_getElem_cons (l := List.range n) (i := i) (by rw [List.length_range]; exact hi)
    rw [List.getElem_range] at e2
    rw [← e1, ← e2, List.take_append_drop]
  have e3 : ((List.range n).filter P)[((List.range i).filter P).length]? = some i := by
    rw [sp, List.filter_append, List.filter_cons, if_pos mi.2, List.getElem?_append_right (Nat.le_refl _), Nat.sub_self]; rfl
  have nd : ((List.range n).filter P).Nodup := List.nodup_range.filter _
  exact nd_inj nd e3 h
theorem rs_nr {l : List Nat} {k i : Nat} (h : (pls l 114)[k]? = some i) : nr l i = k := by
  have := fil_at h
  have hi : i < l.length := by
    have m := List.mem_of_getElem? h
    have := pls_mem.mp m
    exact (List.getElem?_eq_some_iff.mp this).1
  rw [pls_take 114 i (by omega)] at this
  exact this
theorem rs_map {a b : Nat} {l : List Nat} (h : Wd a b l) (f : Nat → Int) : (pls l 114).map (fun i => f (nr l i)) = (List.range a).map f := by
  refine List.ext_getElem? fun k => ?_
  rw [List.getElem?_map, List.getElem?_map]
  have hl : (pls l 114).length = a := by rw [pls_len]; exact h.1
  by_cases hk : k < a
  · obtain ⟨i, hi⟩ : ∃ i, (pls l 114)[k]? = some i := ⟨_, List.getElem?_eq_getElem (by omega)⟩
    rw [hi, List.getElem?_range hk]
    show some (f (nr l i)) = some (f k)
    rw [rs_nr hi]
  · rw [List.getElem?_eq_none (by omega), List.getElem?_eq_none (by rw [List.length_range]; omega)]; rfl
theorem lv_div {a b : Nat} {l : List Nat} (h : Wd a b l) (ha : 0 < a) (i : Nat) : lv a b l i / (a : Int) = ((b * nr l i / a : Nat) : Int) - (ns l i : Nat) := by
  rw [lv_eq h i, Int.sub_eq_add_neg, ← Int.mul_neg, Int.add_mul_ediv_left _ _ (show (a : Int) ≠ 0 by omega), Int.natCast_ediv, Int.natCast_mul]
  omega
theorem sum_add {α : Type} (f g : α → Int) : ∀ u : List α, (u.map fun x => f x + g x).sum = (u.map f).sum + (u.map g).sum
  | [] => rfl
  | x :: u => by
    rw [List.map_cons, List.map_cons, List.map_cons, List.sum_cons, List.sum_cons, List.sum_cons, sum_add f g u]; omega
/-- room and free squares make half -/
theorem room_free {a b : Nat} {l : List Nat} (h : Wd a b l) (ha : 0 < a) (hb : 0 < b) (hg : Nat.gcd a b = 1) :
    ((pls l 114).map fun i => lv a b l i / (a : Int)).sum + ((pls l 114).map fun i => ((ns l i : Nat) : Int)).sum = ((a : Int) - 1) * ((b : Int) - 1) / 2 := by
  rw [← sum_add]
  have e : (pls l 114).map (fun i => lv a b l i / (a : Int) + ((ns l i : Nat) : Int)) = (pls l 114).map fun i => ((b * nr l i / a : Nat) : Int) :=
    List.map_congr_left fun i _ => by rw [lv_div h ha]; omega
  rw [e, rs_map h fun k => ((b * k / a : Nat) : Int), sm_list]
  have := floor_sum ha hb hg
  have e2 : (((a - 1) * (b - 1) : Nat) : Int) = ((a : Int) - 1) * ((b : Int) - 1) := by
    rw [Int.natCast_mul, Int.natCast_sub ha, Int.natCast_sub hb]; rfl
  rw [e2] at this
  rw [← this]
  exact (Int.mul_ediv_cancel_left _ (by decide)).symm
/-! ### the sky -/
def sk (l : List Nat) : List Nat := ((pls l 114).reverse.map (ns l)).filter fun x => decide (0 < x)
theorem pos_sum : ∀ u : List Nat, (u.filter fun x => decide (0 < x)).sum = u.sum
  | [] => rfl
  | x :: u => by
    rw [List.filter_cons]
    by_cases h : 0 < x
    · rw [if_pos (by simpa using h), List.sum_cons, List.sum_cons, pos_sum u]
    · rw [if_neg (by simpa using h), List.sum_cons, pos_sum u]; omega
theorem cast_sum : ∀ u : List Nat, (((u.sum : Nat)) : Int) = (u.map fun x : Nat => (x : Int)).sum
  | [] => rfl
  | x :: u => by rw [List.sum_cons, List.map_cons, List.sum_cons, Int.natCast_add, cast_sum u]
theorem sk_sum (l : List Nat) : (((sk l).sum : Nat) : Int) = ((pls l 114).map fun i => ((ns l i : Nat) : Int)).sum := by
  unfold sk
  rw [pos_sum, List.map_reverse, List.sum_reverse, cast_sum, List.map_map]
  rfl
theorem pls_asc (l : List Nat) (c : Nat) : (pls l c).Pairwise (· < ·) := List.Pairwise.filter _ List.pairwise_lt_range
theorem sk_desc (l : List Nat) : (sk l).Pairwise (fun x y => y ≤ x) := by
  unfold sk
  refine List.Pairwise.filter _ ?_
  rw [List.map_reverse, List.pairwise_reverse, List.pairwise_map]
  exact (pls_asc l 114).imp fun {x y} h => cnt_mono 115 (Nat.le_of_lt h)
theorem sk_bd {a b : Nat} {l : List Nat} (h : Wd a b l) {x : Nat} (m : x ∈ sk l) : 1 ≤ x ∧ x ≤ b := by
  unfold sk at m
  obtain ⟨m1, m2⟩ := List.mem_filter.mp m
  obtain ⟨i, _, rfl⟩ := List.mem_map.mp m1
  exact ⟨of_decide_eq_true m2, ns_le h i⟩
theorem sk_len {a b : Nat} {l : List Nat} (h : Wd a b l) : (sk l).length ≤ a := by
  unfold sk
  refine Nat.le_trans (List.length_filter_le _ _) ?_
  rw [List.length_map, List.length_reverse, pls_len, h.1]
  exact Nat.le_refl a
/-- the law's sky, letter by letter from the end -/
def up (l : List Nat) : Nat → List Nat
  | 0 => []
  | k + 1 => up l k ++ if l[l.length - 1 - k]? = some 114 ∧ 0 < ns l (l.length - 1 - k) then [ns l (l.length - 1 - k)] else []
theorem up_is (l : List Nat) : ∀ k, k ≤ l.length → up l k = (((((List.range l.length).drop (l.length - k)).filter fun i => decide (l[i]? = some 114)).reverse.map (ns l)).filter fun x => decide (0 < x))
  | 0, _ => by
    rw [Nat.sub_zero, List.drop_of_length_le (by rw [List.length_range]; exact Nat.le_refl _)]; rfl
  | k + 1, h => by
    rw [up, up_is l k (by omega)]
    have e2 := List.drop_eq_getElem_cons (l := List.range l.length) (i := l.length - (k + 1)) (by rw [List.length_range]; omega)
    rw [List.getElem_range, show l.length - (k + 1) + 1 = l.length - k by omega] at e2
    rw [e2, List.filter_cons, show l.length - (k + 1) = l.length - 1 - k by omega]
    by_cases c : l[l.length - 1 - k]? = some 114
    · rw [if_pos (show decide (l[l.length - 1 - k]? = some 114) = true by simpa using c), List.reverse_cons, List.map_append, List.filter_append]
      congr 1
      by_cases p : 0 < ns l (l.length - 1 - k)
      · rw [if_pos ⟨c, p⟩]; simp [p]
      · rw [if_neg (fun z => p z.2)]; simp [p]
    · rw [if_neg (show ¬ decide (l[l.length - 1 - k]? = some 114) = true by simpa using c), if_neg (fun z => c z.1), List.append_nil]
theorem up_all (l : List Nat) : up l l.length = sk l := by
  rw [up_is l _ (Nat.le_refl _), Nat.sub_self, List.drop_zero]; rfl
theorem up_len (l : List Nat) : ∀ k, (up l k).length ≤ k
  | 0 => Nat.le_refl 0
  | k + 1 => by
    have := up_len l k
    rw [up, List.length_append]
    split <;> simp <;> omega
/-! ### no sky -/
theorem sk_nil {a b : Nat} {l : List Nat} (h : Wd a b l) : sk l = [] ↔ l = List.replicate a 114 ++ List.replicate b 115 := by
  have hl : (pls l 114).length = a := by rw [pls_len]; exact h.1
  constructor
  · intro z
    have z0 : ∀ i, i ∈ pls l 114 → ns l i = 0 := fun i m => by
      unfold sk at z
      have := List.filter_eq_nil_iff.mp z (ns l i) (List.mem_map.mpr ⟨i, List.mem_reverse.mpr m, rfl⟩)
      simpa using this
    have lt : ∀ i, i ∈ pls l 114 → i < a := fun i m => by
      have hi := pls_mem.mp m
      have h1 := sum_i h (Nat.le_of_lt (List.getElem?_eq_some_iff.mp hi).1)
      have h2 := nr_lt h hi
      have := z0 i m
      omega
    have all : ∀ i, i < a → l[i]? = some 114 := fun i hi => pls_mem.mp (pigeon pls_nodup lt hl hi)
    refine List.ext_getElem? fun i => ?_
    by_cases h1 : i < a
    · rw [all i h1, List.getElem?_append_left (by rw [List.length_replicate]; exact h1), List.getElem?_replicate, if_pos h1]
    · rw [List.getElem?_append_right (by rw [List.length_replicate]; omega), List.length_replicate, List.getElem?_replicate]
      by_cases h2 : i < l.length
      · rw [if_pos (by have := h.2.2; omega)]
        rcases letter h h2 with e | e
        · exact absurd (lt i (pls_mem.mpr e)) h1
        · exact e
      · rw [if_neg (by have := h.2.2; omega), List.getElem?_eq_none (by omega)]
  · rintro rfl
    unfold sk
    refine List.filter_eq_nil_iff.mpr fun x m => ?_
    obtain ⟨i, m1, rfl⟩ := List.mem_map.mp m
    have hi := pls_mem.mp (List.mem_reverse.mp m1)
    have ia : i < a := by
      by_cases h1 : i < a
      · exact h1
      · rw [List.getElem?_append_right (by rw [List.length_replicate]; omega), List.length_replicate, List.getElem?_replicate] at hi
        split at hi
        · cases hi
        · cases hi
    have : ns (List.replicate a 114 ++ List.replicate b 115) i = 0 := by
      unfold ns
      rw [List.take_append_of_le_length (by rw [List.length_replicate]; omega), List.take_replicate, List.count_replicate]
      rfl
    rw [this]; decide
end Rm

/-! Sv: balanced rows of levels (the sweep theorem, part one). -/
namespace Sv
/-! ### finite sums -/
def sm : Nat → (Nat → Int) → Int
  | 0, _ => 0
  | n + 1, f => sm n f + f n
theorem sm_congr {n : Nat} {f g : Nat → Int} (h : ∀ i, i < n → f i = g i) : sm n f = sm n g := by
  induction n with
  | zero => rfl
  | succ n ih => unfold sm; rw [ih fun i hi => h i (by omega), h n (by omega)]
theorem sm_le {n : Nat} {f g : Nat → Int} (h : ∀ i, i < n → f i ≤ g i) : sm n f ≤ sm n g := by
  induction n with
  | zero => exact Int.le_refl _
  | succ n ih =>
    have := ih fun i hi => h i (by omega)
    have := h n (by omega)
    unfold sm; omega
theorem sm_add {n : Nat} {f g : Nat → Int} : sm n (fun i => f i + g i) = sm n f + sm n g := by
  induction n with
  | zero => rfl
  | succ n ih => simp only [sm]; rw [ih]; omega
theorem sm_sub {n : Nat} {f g : Nat → Int} : sm n (fun i => f i - g i) = sm n f - sm n g := by
  induction n with
  | zero => rfl
  | succ n ih => simp only [sm]; rw [ih]; omega
theorem sm_const {n : Nat} {c : Int} : sm n (fun _ => c) = n * c := by
  induction n with
  | zero => simp [sm]
  | succ n ih => unfold sm; rw [ih, Int.natCast_succ, Int.add_mul, Int.one_mul]
theorem sm_left {n : Nat} {f : Nat → Int} : sm (n + 1) f = f 0 + sm n fun i => f (i + 1) := by
  induction n with
  | zero => simp [sm]
  | succ n ih => rw [sm, ih, sm]; omega
theorem sm_swap {n k : Nat} {f : Nat → Nat → Int} : (sm n fun i => sm k fun j => f i j) = sm k fun j => sm n fun i => f i j := by
  induction n with
  | zero => simp [sm, sm_const]
  | succ n ih => simp only [sm]; rw [ih, ← sm_add]
/-- termwise at most, and alike as a whole: alike termwise -/
theorem sm_eq {n : Nat} {f g : Nat → Int} (h : ∀ i, i < n → f i ≤ g i) (e : sm n f = sm n g) : ∀ i, i < n → f i = g i := by
  induction n with
  | zero => intro i hi; omega
  | succ n ih =>
    have h1 := sm_le (n := n) fun i hi => h i (by omega)
    have h2 := h n (by omega)
    simp only [sm] at e
    intro i hi
    rcases Nat.lt_or_ge i n with l | l
    · exact ih (fun i hi => h i (by omega)) (by omega) i l
    · have : i = n := by omega
      subst this; omega
/-! ### rounding up -/
def cl (x p : Int) : Int := -((-x) / p)
theorem lt_cl {x p j : Int} (hp : 0 < p) : j < cl x p ↔ j * p < x := by
  unfold cl
  have h : (-x) / p < -j ↔ -x < -j * p := Int.ediv_lt_iff_lt_mul hp
  rw [Int.neg_mul] at h
  omega
theorem eq_of_lt {a b : Int} (h : ∀ j, j < a ↔ j < b) : a = b := by
  have h1 := h b
  have h2 := h a
  omega
theorem cl_shift {x p : Int} (hp : 0 < p) : cl (x + p) p = cl x p + 1 := by
  refine eq_of_lt fun j => ?_
  rw [lt_cl hp, show (j < cl x p + 1) = (j - 1 < cl x p) from propext ⟨fun h => by omega, fun h => by omega⟩, lt_cl hp, Int.sub_mul, Int.one_mul]
  omega
theorem cl_mono {x y p : Int} (hp : 0 < p) (h : x ≤ y) : cl x p ≤ cl y p := by
  have : cl x p - 1 < cl y p := by
    rw [lt_cl hp]
    have := (lt_cl (x := x) (j := cl x p - 1) hp).mp (by omega)
    omega
  omega
theorem cl_zero {i p : Int} (h0 : 0 ≤ i) (h1 : i < p) : cl (-i) p = 0 := by
  unfold cl
  rw [Int.neg_neg, Int.ediv_eq_zero_of_lt h0 h1]; rfl
/-- Hermite -/
theorem hermite {p : Nat} (hp : 0 < p) (x : Int) : (sm p fun i => cl (x - (i : Int)) p) = x := by
  obtain ⟨q, rfl⟩ : ∃ q, p = q + 1 := ⟨p - 1, by omega⟩
  have hp' : (0 : Int) < ((q + 1 : Nat) : Int) := by omega
  have step : ∀ x : Int, (sm (q + 1) fun i => cl (x + 1 - (i : Int)) ((q + 1 : Nat) : Int)) = (sm (q + 1) fun i => cl (x - (i : Int)) ((q + 1 : Nat) : Int)) + 1 := fun x => by
    rw [sm_left, sm]
    have e1 : cl (x + 1 - ((0 : Nat) : Int)) ((q + 1 : Nat) : Int) = cl (x - (q : Int)) ((q + 1 : Nat) : Int) + 1 := by
      rw [← cl_shift hp']
      congr 1
      omega
    have e2 : (sm q fun i => cl (x + 1 - ((i + 1 : Nat) : Int)) ((q + 1 : Nat) : Int)) = sm q fun i => cl (x - (i : Int)) ((q + 1 : Nat) : Int) := sm_congr fun i _ => by
      congr 1
      omega
    rw [e1, e2]; omega
  have zero : (sm (q + 1) fun i => cl (0 - (i : Int)) ((q + 1 : Nat) : Int)) = 0 := by
    rw [sm_congr (g := fun _ => 0) fun i hi => by rw [Int.zero_sub]; exact cl_zero (by omega) (by omega), sm_const, Int.mul_zero]
  have up : ∀ k : Nat, (sm (q + 1) fun i => cl ((k : Int) - (i : Int)) ((q + 1 : Nat) : Int)) = k := fun k => by
    induction k with
    | zero => exact zero
    | succ k ih => rw [show ((k + 1 : Nat) : Int) = (k : Int) + 1 by omega, step, ih]
  have down : ∀ k : Nat, (sm (q + 1) fun i => cl (-(k : Int) - (i : Int)) ((q + 1 : Nat) : Int)) = -(k : Int) := fun k => by
    induction k with
    | zero => exact zero
    | succ k ih =>
      have := step (-((k + 1 : Nat) : Int))
      rw [show -((k + 1 : Nat) : Int) + 1 = -(k : Int) by omega, ih] at this
      omega
  rcases Int.le_total 0 x with h | h
  · have := up x.toNat
    rw [Int.toNat_of_nonneg h] at this; exact this
  · have := down (-x).toNat
    rw [Int.toNat_of_nonneg (by omega), Int.neg_neg] at this; exact this
/-! ### cuts -/
theorem cutoff {P : Int → Prop} (dn : ∀ k l, k ≤ l → P l → P k) (a : ∃ k, P k) (b : ∃ k, ¬ P k) : ∃ v, ∀ k, k < v ↔ P k := by
  obtain ⟨k0, h0⟩ := a
  obtain ⟨k1, h1⟩ := b
  have lt : k0 < k1 := by
    refine Classical.byContradiction fun h => ?_
    exact h1 (dn _ _ (by omega) h0)
  obtain ⟨d, hd⟩ : ∃ d : Nat, k1 = k0 + d := ⟨(k1 - k0).toNat, by omega⟩
  clear lt
  induction d generalizing k0 with
  | zero => subst hd; exact absurd (by simpa using h0) h1
  | succ d ih =>
    by_cases h : P (k0 + 1)
    · exact ih (k0 + 1) h (by omega)
    · refine ⟨k0 + 1, fun k => ⟨fun hk => dn _ _ (by omega) h0, fun hk => ?_⟩⟩
      refine Classical.byContradiction fun hn => ?_
      exact h (dn _ _ (by omega) hk)
/-- the greatest value that a bounded sequence takes without end -/
theorem limsup {f : Nat → Int} {B : Int} (hb : ∀ t, -B ≤ f t ∧ f t ≤ B) : ∃ L, (∃ J, ∀ t, J ≤ t → f t ≤ L) ∧ ∀ J, ∃ t, J ≤ t ∧ L ≤ f t := by
  obtain ⟨v, hv⟩ := cutoff (P := fun k => ∀ J : Nat, ∃ t, J ≤ t ∧ k < f t) (fun k l hkl h J => by
    obtain ⟨t, h1, h2⟩ := h J
    exact ⟨t, h1, by omega⟩) ⟨-B - 1, fun J => ⟨J, Nat.le_refl _, by have := (hb J).1; omega⟩⟩ ⟨B, fun h => by
    obtain ⟨t, _, h2⟩ := h 0
    have := (hb t).2; omega⟩
  refine ⟨v, ?_, fun J => ?_⟩
  · have h : ¬ ∀ J : Nat, ∃ t, J ≤ t ∧ v < f t := fun h => by have := (hv v).mpr h; omega
    obtain ⟨J, hJ⟩ := Classical.not_forall.mp h
    refine ⟨J, fun t ht => Classical.byContradiction fun hn => hJ ⟨t, ht, by omega⟩⟩
  · obtain ⟨t, h1, h2⟩ := (hv (v - 1)).mp (by omega) J
    exact ⟨t, h1, by omega⟩
/-! ### starts sorted anew -/
section
variable (p m : Nat) (w : Nat → Int)
/-- how many starts lie above the boundary k -/
def nd (a : Nat → Int) (k : Int) : Int := sm p fun i => cl (a i - w i - k) m
/-- how many ends lie above it -/
def ab (a : Nat → Int) (k : Int) : Int := sm p fun i => cl (a i - k) m
end
section
variable {p m : Nat} {w : Nat → Int}
theorem nd_shift (hm : 0 < m) (a : Nat → Int) (k : Int) : nd p m w a (k - m) = nd p m w a k + p := by
  unfold nd
  rw [sm_congr (g := fun i => cl (a i - w i - k) m + 1) fun i _ => by
    rw [← cl_shift (by omega)]; congr 1; omega]
  rw [sm_add, sm_const, Int.mul_one]
theorem nd_anti (hm : 0 < m) (a : Nat → Int) {k l : Int} (h : k ≤ l) : nd p m w a l ≤ nd p m w a k :=
  sm_le fun i _ => cl_mono (by omega) (by omega)
theorem nd_mono (hm : 0 < m) {a b : Nat → Int} (h : ∀ i, i < p → a i ≤ b i) (k : Int) : nd p m w a k ≤ nd p m w b k :=
  sm_le fun i hi => cl_mono (by omega) (by have := h i hi; omega)
theorem nd_far (hm : 0 < m) (a : Nat → Int) (k : Int) (t : Nat) : nd p m w a (k - t * m) = nd p m w a k + t * p := by
  induction t with
  | zero => simp
  | succ t ih =>
    have e : k - ((t + 1 : Nat) : Int) * m = k - t * m - m := by rw [Int.natCast_succ, Int.add_mul, Int.one_mul]; omega
    rw [e, nd_shift hm, ih, Int.natCast_succ, Int.add_mul, Int.one_mul]; omega
theorem nd_far' (hm : 0 < m) (a : Nat → Int) (k : Int) (t : Nat) : nd p m w a (k + t * m) = nd p m w a k - t * p := by
  have := nd_far (p := p) (w := w) hm a (k + t * m) t
  rw [show k + (t : Int) * m - t * m = k by omega] at this
  omega
theorem sorted_at (hp : 0 < p) (hm : 0 < m) (a : Nat → Int) (i : Nat) : ∃ v : Int, ∀ k, k < v ↔ (i : Int) < nd p m w a k := by
  refine cutoff (P := fun k => (i : Int) < nd p m w a k) (fun k l h h1 => by have := nd_anti (p := p) (w := w) hm a h; omega) ?_ ?_
  · refine ⟨0 - ((i + 1 + (nd p m w a 0).natAbs : Nat) : Int) * m, ?_⟩
    rw [nd_far hm]
    have h1 : (1 : Int) ≤ p := by omega
    have : ((i + 1 + (nd p m w a 0).natAbs : Nat) : Int) * 1 ≤ ((i + 1 + (nd p m w a 0).natAbs : Nat) : Int) * p := Int.mul_le_mul_of_nonneg_left h1 (by omega)
    omega
  · refine ⟨0 + (((nd p m w a 0).natAbs : Nat) : Int) * m, ?_⟩
    rw [nd_far' hm]
    have h1 : (1 : Int) ≤ p := by omega
    have : (((nd p m w a 0).natAbs : Nat) : Int) * 1 ≤ (((nd p m w a 0).natAbs : Nat) : Int) * p := Int.mul_le_mul_of_nonneg_left h1 (by omega)
    omega
end
/-- the starts, sorted anew as ends -/
noncomputable def T (p m : Nat) (w a : Nat → Int) (i : Nat) : Int :=
  if h : 0 < p ∧ 0 < m then Classical.choose (sorted_at (w := w) h.1 h.2 a i) else 0
section
variable {p m : Nat} {w : Nat → Int}
theorem T_lt (hp : 0 < p) (hm : 0 < m) (a : Nat → Int) (i : Nat) (k : Int) : k < T p m w a i ↔ (i : Int) < nd p m w a k := by
  unfold T
  rw [dif_pos ⟨hp, hm⟩]
  exact Classical.choose_spec (sorted_at (w := w) hp hm a i) k
theorem T_cl (hp : 0 < p) (hm : 0 < m) (a : Nat → Int) (i : Nat) (k : Int) : cl (T p m w a i - k) m = cl (nd p m w a k - i) p := by
  refine eq_of_lt fun j => ?_
  rw [lt_cl (by omega), lt_cl (by omega)]
  have far : nd p m w a (k + j * m) = nd p m w a k - j * p := by
    rcases Int.le_total 0 j with h | h
    · have := nd_far' (p := p) (w := w) hm a k j.toNat
      rw [Int.toNat_of_nonneg h] at this; exact this
    · have := nd_far (p := p) (w := w) hm a k (-j).toNat
      rw [Int.toNat_of_nonneg (by omega), Int.neg_mul, Int.neg_mul] at this
      rw [show k + j * (m : Int) = k - -(j * (m : Int)) by omega, this]; omega
  have t := T_lt hp hm (w := w) a i (k + j * m)
  rw [far] at t
  omega
/-- as many ends above each boundary as starts before -/
theorem ab_T (hp : 0 < p) (hm : 0 < m) (a : Nat → Int) (k : Int) : ab p m (T p m w a) k = nd p m w a k := by
  unfold ab
  rw [sm_congr fun i _ => T_cl hp hm a i k]
  exact hermite hp _
theorem sum_ab (hm : 0 < m) (a : Nat → Int) : (sm m fun k => ab p m a (k : Int)) = sm p a := by
  unfold ab
  rw [sm_swap]
  exact sm_congr fun i _ => hermite hm (a i)
theorem sum_nd (hm : 0 < m) (a : Nat → Int) : (sm m fun k => nd p m w a (k : Int)) = sm p a - sm p w := by
  unfold nd
  rw [sm_swap, ← sm_sub]
  exact sm_congr fun i _ => hermite hm (a i - w i)
theorem T_sum (hp : 0 < p) (hm : 0 < m) (hw : sm p w = 0) (a : Nat → Int) : sm p (T p m w a) = sm p a := by
  rw [← sum_ab hm, sm_congr fun k _ => ab_T hp hm (w := w) a (k : Int), sum_nd hm, hw]; omega
theorem T_mono (hp : 0 < p) (hm : 0 < m) {a b : Nat → Int} (h : ∀ i, i < p → a i ≤ b i) (i : Nat) : T p m w a i ≤ T p m w b i := by
  have h1 := (T_lt hp hm (w := w) a i (T p m w a i - 1)).mp (by omega)
  have h2 := nd_mono (w := w) hm h (T p m w a i - 1)
  have := (T_lt hp hm (w := w) b i (T p m w a i - 1)).mpr (by omega)
  omega
theorem T_anti (hp : 0 < p) (hm : 0 < m) (a : Nat → Int) {i j : Nat} (h : i ≤ j) : T p m w a j ≤ T p m w a i := by
  have h1 := (T_lt hp hm (w := w) a j (T p m w a j - 1)).mp (by omega)
  have := (T_lt hp hm (w := w) a i (T p m w a j - 1)).mpr (by omega)
  omega
theorem T_wide (hp : 0 < p) (hm : 0 < m) (a : Nat → Int) {i j : Nat} (h : j ≤ i + p) : T p m w a i - m ≤ T p m w a j := by
  have h1 := (T_lt hp hm (w := w) a i (T p m w a i - 1)).mp (by omega)
  have e := nd_shift (p := p) (w := w) hm a (T p m w a i - 1)
  rw [show T p m w a i - 1 - (m : Int) = T p m w a i - m - 1 by omega] at e
  have := (T_lt hp hm (w := w) a j (T p m w a i - m - 1)).mpr (by omega)
  omega
/-- again and again, from 0 on -/
noncomputable def X (p m : Nat) (w : Nat → Int) : Nat → Nat → Int
  | 0 => fun _ => 0
  | t + 1 => T p m w (X p m w t)
theorem X_sum (hp : 0 < p) (hm : 0 < m) (hw : sm p w = 0) (t : Nat) : sm p (X p m w t) = 0 := by
  induction t with
  | zero => unfold X; rw [sm_const, Int.mul_zero]
  | succ t ih => unfold X; rw [T_sum hp hm hw, ih]
theorem neg_or {p : Nat} (hp : 0 < p) {c : Int} (h : (p : Int) * c ≤ 0) : c ≤ 0 := by
  refine Classical.byContradiction fun n => ?_
  have : (p : Int) * 1 ≤ p * c := Int.mul_le_mul_of_nonneg_left (by omega) (by omega)
  omega
theorem X_bound (hp : 0 < p) (hm : 0 < m) (hw : sm p w = 0) (t : Nat) {i : Nat} (hi : i < p) : -(m : Int) ≤ X p m w (t + 1) i ∧ X p m w (t + 1) i ≤ m := by
  have s0 := X_sum hp hm hw (t + 1)
  have lo : X p m w (t + 1) (p - 1) ≤ 0 := by
    have := sm_le (n := p) (f := fun _ => X p m w (t + 1) (p - 1)) (g := X p m w (t + 1)) fun j hj => T_anti hp hm _ (by omega)
    rw [sm_const, s0] at this
    exact neg_or hp this
  have hi0 : 0 ≤ X p m w (t + 1) 0 := by
    have := sm_le (n := p) (f := X p m w (t + 1)) (g := fun _ => X p m w (t + 1) 0) fun j hj => T_anti hp hm _ (by omega)
    rw [sm_const, s0] at this
    have := neg_or (c := -X p m w (t + 1) 0) hp (by rw [Int.mul_neg]; omega)
    omega
  have w1 : X p m w (t + 1) 0 - m ≤ X p m w (t + 1) (p - 1) := T_wide hp hm _ (by omega)
  have a1 : X p m w (t + 1) i ≤ X p m w (t + 1) 0 := T_anti hp hm _ (by omega)
  have a2 : X p m w (t + 1) (p - 1) ≤ X p m w (t + 1) i := T_anti hp hm _ (by omega)
  omega
theorem common {p : Nat} {P : Nat → Nat → Prop} (h : ∀ i, i < p → ∃ J, ∀ t, J ≤ t → P i t) : ∃ J, ∀ i, i < p → ∀ t, J ≤ t → P i t := by
  induction p with
  | zero => exact ⟨0, fun i hi => absurd hi (by omega)⟩
  | succ p ih =>
    obtain ⟨J, hJ⟩ := ih fun i hi => h i (by omega)
    obtain ⟨K, hK⟩ := h p (by omega)
    refine ⟨J + K, fun i hi t ht => ?_⟩
    rcases Nat.lt_or_ge i p with l | l
    · exact hJ i l t (by omega)
    · have : i = p := by omega
      subst this
      exact hK t (by omega)
/-- a falling row of ends, as many above each boundary as starts -/
theorem balanced (hp : 0 < p) (hm : 0 < m) (hw : sm p w = 0) : ∃ L : Nat → Int, (∀ i j, i ≤ j → j < p → L j ≤ L i) ∧ (∀ i j, i < p → j < p → L i - m ≤ L j) ∧ ∀ k, ab p m L k = nd p m w L k := by
  have each : ∀ i, ∃ v, i < p → (∃ J, ∀ t, J ≤ t → X p m w (t + 1) i ≤ v) ∧ ∀ J, ∃ t, J ≤ t ∧ v ≤ X p m w (t + 1) i := fun i => by
    by_cases hi : i < p
    · obtain ⟨v, h⟩ := limsup (f := fun t => X p m w (t + 1) i) fun t => X_bound hp hm hw t hi
      exact ⟨v, fun _ => h⟩
    · exact ⟨0, fun h => absurd h hi⟩
  obtain ⟨L, hL⟩ := Classical.axiomOfChoice each
  obtain ⟨J, hJ⟩ := common (P := fun i t => X p m w (t + 1) i ≤ L i) fun i hi => (hL i hi).1
  have up : ∀ i, i < p → L i ≤ T p m w L i := fun i hi => by
    obtain ⟨t, ht, h⟩ := (hL i hi).2 (J + 1)
    have : X p m w (t + 1) i ≤ T p m w L i := T_mono hp hm (fun j hj => by
      have := hJ j hj (t - 1) (by omega)
      rw [show t - 1 + 1 = t by omega] at this; exact this) i
    omega
  have eq := sm_eq up (T_sum hp hm hw L).symm
  refine ⟨L, fun i j hij hj => ?_, fun i j hi hj => ?_, fun k => ?_⟩
  · rw [eq i (by omega), eq j hj]; exact T_anti hp hm _ hij
  · rw [eq i hi, eq j hj]; exact T_wide hp hm _ (by omega)
  · rw [← ab_T hp hm (w := w) L k]
    unfold ab
    exact sm_congr fun i hi => by rw [eq i hi]
/-- falling from at most m down to 0, as many ends above each boundary as starts -/
def Bal (n m : Nat) (w a : Nat → Int) : Prop := (∀ i j, i ≤ j → j ≤ n → a j ≤ a i) ∧ a n = 0 ∧ a 0 ≤ m ∧ ∀ k, ab (n + 1) m a k = nd (n + 1) m w a k
theorem bal {n m : Nat} {w : Nat → Int} (hm : 0 < m) (hw : sm (n + 1) w = 0) : ∃ a, Bal n m w a := by
  obtain ⟨L, h1, h2, h3⟩ := balanced (p := n + 1) (w := w) (by omega) hm hw
  refine ⟨fun i => L i - L n, fun i j hij hj => ?_, Int.sub_self _, ?_, fun k => ?_⟩
  · have := h1 i j hij (by omega)
    show L j - L n ≤ L i - L n
    omega
  · have := h2 0 n (by omega) (by omega)
    show L 0 - L n ≤ m
    omega
  · have := h3 (k + L n)
    unfold ab nd at this ⊢
    rw [sm_congr (g := fun i => cl (L i - (k + L n)) m) fun i _ => by
      show cl (L i - L n - k) m = _
      congr 1; omega]
    rw [this]
    exact sm_congr fun i _ => by
      show _ = cl (L i - L n - w i - k) m
      congr 1; omega
end
end Sv

/-! Ex: exchanged ways: skies, paired squares, free numbers. -/
namespace Ex
open Mw Mg
variable {a b : Nat} {l : List Nat}
def full (l : List Nat) : List Nat := (pls l 114).reverse.map (ns l)
theorem pls_snoc (l : List Nat) (c d : Nat) : pls (l ++ [c]) d = pls l d ++ if c = d then [l.length] else [] := by
  unfold pls
  rw [List.length_append, List.length_singleton, List.range_succ, List.filter_append]
  congr 1
  · refine List.filter_congr fun j m => ?_
    rw [List.getElem?_append_left (List.mem_range.mp m)]
  · by_cases h : c = d
    · rw [if_pos h, List.filter_cons_of_pos (by simp [h])]; rfl
    · rw [if_neg h, List.filter_cons_of_neg (by simp [h])]; rfl
theorem pls_cons (l : List Nat) (c d : Nat) : pls (c :: l) d = (if c = d then [0] else []) ++ (pls l d).map (· + 1) := by
  unfold pls
  rw [List.length_cons, List.range_succ_eq_map, List.filter_cons]
  have e : (List.filter (fun i => decide ((c :: l)[i]? = some d)) (List.map Nat.succ (List.range l.length))) = ((List.range l.length).filter fun i => decide (l[i]? = some d)).map (· + 1) := by
    rw [List.filter_map]; rfl
  rw [e]
  by_cases h : c = d
  · rw [if_pos h, if_pos (by simp [h])]; rfl
  · rw [if_neg h, if_neg (by simp [h])]; rfl
theorem ns_snoc {c i : Nat} (h : i ≤ l.length) : ns (l ++ [c]) i = ns l i := by unfold ns; rw [List.take_append_of_le_length h]
theorem ns_cons (c i : Nat) : ns (c :: l) (i + 1) = ns l i + if c = 115 then 1 else 0 := by
  unfold ns; rw [List.take_succ_cons, List.count_cons]; simp
theorem full_r : full (l ++ [114]) = l.count 115 :: full l := by
  unfold full
  rw [pls_snoc, if_pos rfl, List.reverse_append, List.map_append]
  have e1 : ns (l ++ [114]) l.length = l.count 115 := by rw [ns_snoc (Nat.le_refl _)]; unfold ns; rw [List.take_length]
  show [ns (l ++ [114]) l.length] ++ _ = _
  rw [e1]
  exact congrArg (l.count 115 :: ·) (List.map_congr_left fun i m => ns_snoc (Nat.le_of_lt (List.getElem?_eq_some_iff.mp (pls_mem.mp (List.mem_reverse.mp m))).1))
theorem full_s {c : Nat} (h : c ≠ 114) : full (l ++ [c]) = full l := by
  unfold full
  rw [pls_snoc, if_neg h, List.append_nil]
  exact List.map_congr_left fun i m => ns_snoc (Nat.le_of_lt (List.getElem?_eq_some_iff.mp (pls_mem.mp (List.mem_reverse.mp m))).1)
theorem full_cr : full (114 :: l) = full l ++ [0] := by
  unfold full
  rw [pls_cons, if_pos rfl, List.reverse_append, List.map_append, ← List.map_reverse, List.map_map]
  congr 1
theorem full_cs : full (115 :: l) = (full l).map (· + 1) := by
  unfold full
  rw [pls_cons, if_neg (by decide), List.nil_append, ← List.map_reverse, List.map_map, List.map_map]
  exact List.map_congr_left fun i _ => by show ns (115 :: l) (i + 1) = _; rw [ns_cons, if_pos rfl]; rfl
theorem full_le {x : Nat} (m : x ∈ full l) : x ≤ l.count 115 := by
  unfold full at m
  obtain ⟨i, _, rfl⟩ := List.mem_map.mp m
  unfold ns
  exact (List.take_sublist i l).count_le 115
theorem exch_snoc (c : Nat) : exch (l ++ [c]) = swp c :: exch l := by unfold exch; rw [List.reverse_append, List.map_append]; rfl
def above (u : List Nat) (c : Nat) : Nat := (u.filter fun r => decide (c < r)).length
theorem full_exch : ∀ (n : Nat) (l : List Nat), l.length = n → (∀ c, c ∈ l → c = 114 ∨ c = 115) → full (exch l) = (List.range (l.count 115)).map (above (full l))
  | 0, l, h, _ => by rw [List.length_eq_zero_iff.mp h]; rfl
  | n + 1, l, h, hl => by
    rcases List.eq_nil_or_concat l with rfl | ⟨l, c, rfl⟩
    · cases h
    rw [List.concat_eq_append] at h hl ⊢
    have ih := full_exch n l (by rw [List.length_append, List.length_singleton] at h; omega) fun c m => hl c (List.mem_append_left _ m)
    rw [exch_snoc]
    rcases hl c (List.mem_append_right _ (List.mem_singleton.mpr rfl)) with rfl | rfl
    · rw [show swp 114 = 115 from rfl, full_cs, ih, full_r, List.count_append, show [114].count 115 = 0 from rfl, Nat.add_zero, List.map_map]
      refine List.map_congr_left fun c m => ?_
      have lt := List.mem_range.mp m
      show above (full l) c + 1 = above (l.count 115 :: full l) c
      unfold above
      rw [List.filter_cons_of_pos (by simpa using lt), List.length_cons]
    · rw [show swp 115 = 114 from rfl, full_cr, ih, full_s (by decide), List.count_append, show [115].count 115 = 1 from rfl, List.range_succ, List.map_append]
      congr 1
      show [0] = [above (full l) (l.count 115)]
      unfold above
      rw [List.filter_eq_nil_iff.mpr fun x m => by have := full_le m; simp; omega]; rfl
/-- rows turned to columns -/
def tn (u : List Nat) : List Nat := (List.range (u.headD 0)).map (above u)
theorem sk_full (l : List Nat) : Rm.sk l = (full l).filter fun x => decide (0 < x) := rfl
theorem above_sk (c : Nat) : above (Rm.sk l) c = above (full l) c := by
  unfold above
  rw [sk_full, List.filter_filter]
  refine congrArg List.length (List.filter_congr fun x _ => ?_)
  by_cases h : c < x
  · simp [h]; omega
  · simp [h]
theorem head_max : ∀ {u : List Nat}, u.Pairwise (fun x y => y ≤ x) → ∀ x, x ∈ u → x ≤ u.headD 0
  | [], _, x, m => by cases m
  | y :: r, p, x, m => by
    rcases List.mem_cons.mp m with rfl | m
    · exact Nat.le_refl _
    · exact (List.pairwise_cons.mp p).1 x m
theorem above_pos {u : List Nat} (p : u.Pairwise (fun x y => y ≤ x)) (c : Nat) : 0 < above u c ↔ c < u.headD 0 := by
  unfold above
  rw [List.length_pos_iff_exists_mem]
  constructor
  · rintro ⟨x, m⟩
    have m := List.mem_filter.mp m
    have := head_max p x m.1
    have := of_decide_eq_true m.2
    omega
  · intro h
    cases u with
    | nil => cases h
    | cons y r => exact ⟨y, List.mem_filter.mpr ⟨List.mem_cons_self, decide_eq_true h⟩⟩
theorem filter_range (h : Nat) : ∀ w, h ≤ w → (List.range w).filter (fun c => decide (c < h)) = List.range h
  | 0, hw => by rw [show h = 0 by omega]; rfl
  | w + 1, hw => by
    rw [List.range_succ, List.filter_append]
    by_cases e : h = w + 1
    · subst e
      rw [List.filter_eq_self.mpr fun c m => decide_eq_true (by have := List.mem_range.mp m; omega), List.filter_cons_of_pos (by simp), List.range_succ]; rfl
    · rw [filter_range h w (by omega), List.filter_cons_of_neg (by simp; omega)]; simp
theorem sk_exch (hl : ∀ c, c ∈ l → c = 114 ∨ c = 115) : Rm.sk (exch l) = tn (Rm.sk l) := by
  rw [sk_full (exch l), full_exch l.length l rfl hl, List.filter_map]
  unfold tn
  have d := Rm.sk_desc l
  have e : ∀ c, ((fun x => decide (0 < x)) ∘ above (full l)) c = decide (c < (Rm.sk l).headD 0) := fun c => by
    show decide (0 < above (full l) c) = _
    rw [← above_sk]
    exact decide_eq_decide.mpr (above_pos d c)
  rw [List.filter_congr fun c _ => e c, filter_range]
  · exact List.map_congr_left fun c _ => (above_sk c).symm
  · cases hs : Rm.sk l with
    | nil => exact Nat.zero_le _
    | cons x r =>
      have m : x ∈ Rm.sk l := by rw [hs]; exact List.mem_cons_self
      exact full_le (List.mem_filter.mp m).1
theorem swp_swp {c : Nat} (h : c = 114 ∨ c = 115) : swp (swp c) = c := by rcases h with rfl | rfl <;> rfl
theorem exch_exch (hl : ∀ c, c ∈ l → c = 114 ∨ c = 115) : exch (exch l) = l := by
  unfold exch
  rw [← List.map_reverse, List.reverse_reverse, List.map_map]
  conv => rhs; rw [← List.map_id l]
  exact List.map_congr_left fun c m => swp_swp (hl c m)
/-! ### paired squares -/
def pd (a b arm leg : Nat) : Bool := decide (arm * a < b * (leg + 1)) && decide (b * leg < a * (arm + 1))
theorem pd_swap (arm leg : Nat) : pd a b arm leg = pd b a leg arm := by
  unfold pd
  rw [Bool.and_comm, Nat.mul_comm b leg, Nat.mul_comm arm a]
def rowP (a b : Nat) (u : List Nat) (x : Nat) : List Nat := (List.range (u.getD x 0)).filter fun y => pd a b (u.getD x 0 - y - 1) ((tn u).getD y 0 - x - 1)
def psq (a b : Nat) (u : List Nat) : List (Nat × Nat) := (List.range u.length).flatMap fun x => (rowP a b u x).map fun y => (x, y)
theorem psq_mem {u : List Nat} {x y : Nat} : (x, y) ∈ psq a b u ↔ x < u.length ∧ y < u.getD x 0 ∧ pd a b (u.getD x 0 - y - 1) ((tn u).getD y 0 - x - 1) = true := by
  unfold psq rowP
  rw [List.mem_flatMap]
  constructor
  · rintro ⟨z, mz, m⟩
    obtain ⟨w, mw, e⟩ := List.mem_map.mp m
    injection e with e1 e2
    subst e1 e2
    have mw := List.mem_filter.mp mw
    exact ⟨List.mem_range.mp mz, List.mem_range.mp mw.1, mw.2⟩
  · rintro ⟨h1, h2, h3⟩
    exact ⟨x, List.mem_range.mpr h1, List.mem_map.mpr ⟨y, List.mem_filter.mpr ⟨List.mem_range.mpr h2, h3⟩, rfl⟩⟩
def lex (p q : Nat × Nat) : Prop := p.1 < q.1 ∨ (p.1 = q.1 ∧ p.2 < q.2)
theorem psq_lex (u : List Nat) : (psq a b u).Pairwise lex := by
  unfold psq
  rw [List.pairwise_flatMap]
  constructor
  · intro x _
    rw [List.pairwise_map]
    exact (List.pairwise_lt_range.filter _).imp fun h => .inr ⟨rfl, h⟩
  · refine List.pairwise_lt_range.imp fun {x y} h p mp q mq => ?_
    obtain ⟨_, _, rfl⟩ := List.mem_map.mp mp
    obtain ⟨_, _, rfl⟩ := List.mem_map.mp mq
    exact .inl h
theorem lex_ne {p q : Nat × Nat} (h : lex p q) : p ≠ q := by
  rintro rfl; unfold lex at h; omega
theorem psq_nodup (u : List Nat) : (psq a b u).Nodup := List.nodup_iff_pairwise_ne.mpr ((psq_lex u).imp lex_ne)
/-- y < u[x] just when x < tn u [y] -/
theorem above_iff : ∀ {u : List Nat}, u.Pairwise (fun x y => y ≤ x) → ∀ x y, x < above u y ↔ (x < u.length ∧ y < u.getD x 0)
  | [], _, x, y => by simp [above]
  | z :: r, p, x, y => by
    have p2 := List.pairwise_cons.mp p
    unfold above
    by_cases h : y < z
    · rw [List.filter_cons_of_pos (by simpa using h), List.length_cons]
      cases x with
      | zero => simp; omega
      | succ x =>
        have := above_iff p2.2 x y
        unfold above at this
        rw [List.length_cons]
        simp only [List.getD_cons_succ]
        omega
    · rw [List.filter_cons_of_neg (by simpa using h)]
      have z0 : (r.filter fun r => decide (y < r)) = [] := List.filter_eq_nil_iff.mpr fun w m => by have := p2.1 w m; simp; omega
      rw [z0]
      cases x with
      | zero => simp; omega
      | succ x =>
        simp only [List.getD_cons_succ, List.length_nil, List.length_cons]
        constructor
        · intro h; omega
        · rintro ⟨h1, h2⟩
          have : r.getD x 0 ≤ z := by
            rw [List.getD_eq_getElem?_getD]
            cases e : r[x]? with
            | none => exact Nat.zero_le _
            | some w => exact p2.1 w (List.mem_of_getElem? e)
          omega
theorem tn_at {u : List Nat} {y : Nat} (h : y < u.headD 0) : (tn u).getD y 0 = above u y := by
  unfold tn
  rw [List.getD_eq_getElem?_getD, List.getElem?_map, List.getElem?_range h]; rfl
theorem tn_len (u : List Nat) : (tn u).length = u.headD 0 := by unfold tn; rw [List.length_map, List.length_range]
theorem tn_iff {u : List Nat} (p : u.Pairwise (fun x y => y ≤ x)) (x y : Nat) : (y < (tn u).length ∧ x < (tn u).getD y 0) ↔ (x < u.length ∧ y < u.getD x 0) := by
  rw [tn_len]
  constructor
  · rintro ⟨h1, h2⟩
    rw [tn_at h1] at h2
    exact (above_iff p x y).mp h2
  · rintro ⟨h1, h2⟩
    have h : y < u.headD 0 := (above_pos p y).mp (Nat.lt_of_le_of_lt (Nat.zero_le _) ((above_iff p x y).mpr ⟨h1, h2⟩))
    exact ⟨h, by rw [tn_at h]; exact (above_iff p x y).mpr ⟨h1, h2⟩⟩
theorem psq_swap {u v : List Nat} (p : u.Pairwise (fun x y => y ≤ x)) (e1 : v = tn u) (e2 : u = tn v) : ((psq a b u).map fun z => (z.2, z.1)).Perm (psq b a v) := by
  have nd : ((psq a b u).map fun z => (z.2, z.1)).Nodup := by
    rw [List.nodup_iff_pairwise_ne, List.pairwise_map]
    exact (List.nodup_iff_pairwise_ne.mp (psq_nodup u)).imp fun {s t} h e => h (by injection e with e1 e2; exact Prod.ext e2 e1)
  refine (List.perm_ext_iff_of_nodup nd (psq_nodup v)).mpr fun ⟨y, x⟩ => ?_
  have sw : (y, x) ∈ ((psq a b u).map fun z => (z.2, z.1)) ↔ (x, y) ∈ psq a b u := by
    constructor
    · intro m
      obtain ⟨⟨s, t⟩, m2, e⟩ := List.mem_map.mp m
      injection e with e1 e2
      subst e1 e2; exact m2
    · exact fun m => List.mem_map.mpr ⟨(x, y), m, rfl⟩
  rw [sw, psq_mem, psq_mem, ← e2, e1]
  have t := tn_iff p x y
  constructor
  · rintro ⟨h1, h2, h3⟩
    have := t.mpr ⟨h1, h2⟩
    exact ⟨this.1, this.2, by rw [pd_swap] at h3; exact h3⟩
  · rintro ⟨h1, h2, h3⟩
    have := t.mp ⟨h1, h2⟩
    exact ⟨this.1, this.2, by rw [pd_swap]; exact h3⟩
theorem psq_le (u : List Nat) : (psq a b u).length ≤ u.sum := by
  have key : ∀ n, n ≤ u.length → ((List.range n).flatMap fun x => (rowP a b u x).map fun y => (x, y)).length ≤ (u.take n).sum := fun n => by
    induction n with
    | zero => intro _; exact Nat.zero_le _
    | succ n ih =>
      intro h
      have g : u[n]? = some (u.getD n 0) := by rw [List.getD_eq_getElem?_getD, List.getElem?_eq_getElem h]; rfl
      rw [List.range_succ, List.flatMap_append, List.length_append, List.take_add_one, g, List.sum_append]
      have := ih (by omega)
      have e : ([n].flatMap fun x => (rowP a b u x).map fun y => (x, y)).length ≤ u.getD n 0 := by
        rw [List.flatMap_singleton, List.length_map]
        unfold rowP
        exact Nat.le_trans (List.length_filter_le _ _) (by rw [List.length_range]; exact Nat.le_refl _)
      simp only [Option.toList_some, List.sum_singleton]
      omega
  have := key u.length (Nat.le_refl _)
  rw [List.take_length] at this
  exact this
/-! ### free numbers -/
open Classical in
/-- the gaps from x on -/
noncomputable def hh (a b : Nat) (l : List Nat) (x : Int) : Int := ((((gaps a b l).filter fun g => decide (x ≤ g)).length : Nat) : Int)
noncomputable def free (a b : Nat) (l : List Nat) (s : Int) (m : Int) : Int := ((((gaps a b l).filter fun g => decide (m ≤ g) && decide (g < m + s)).length : Nat) : Int)
theorem cut (u : List Int) {x y : Int} (h : x ≤ y) : (((u.filter fun g => decide (x ≤ g) && decide (g < y)).length : Nat) : Int) = (((u.filter fun g => decide (x ≤ g)).length : Nat) : Int) - (((u.filter fun g => decide (y ≤ g)).length : Nat) : Int) := by
  induction u with
  | nil => rfl
  | cons g r ih =>
    rw [List.filter_cons, List.filter_cons, List.filter_cons]
    by_cases h1 : x ≤ g
    · by_cases h2 : y ≤ g
      · rw [if_neg (by simp; omega), if_pos (by simpa using h1), if_pos (by simpa using h2), List.length_cons, List.length_cons, ih]; omega
      · rw [if_pos (by simp; omega), if_pos (by simpa using h1), if_neg (by simpa using h2), List.length_cons, List.length_cons]
        have := ih; omega
    · rw [if_neg (by simp; omega), if_neg (by simpa using h1), if_neg (by simp; omega)]; exact ih
theorem free_hh {s m : Int} (h : 0 ≤ s) : free a b l s m = hh a b l m - hh a b l (m + s) := cut _ (by omega)
open Classical in
theorem those_sum (p : Int → Prop) (g : Int → Int) : ∀ n, ((those n p).map g).sum = Sv.sm n fun i => if p (i : Nat) then g (i : Nat) else 0
  | 0 => rfl
  | n + 1 => by
    have ih := those_sum p g n
    unfold those at ih ⊢
    rw [List.range_succ, List.map_append, List.filter_append, List.map_append, List.sum_append, ih]
    show _ = Sv.sm n _ + (if p (n : Nat) then g (n : Nat) else 0)
    congr 1
    by_cases h : p (n : Nat)
    · rw [if_pos h, List.map_singleton, List.filter_cons_of_pos (by simpa using h)]; simp
    · rw [if_neg h, List.map_singleton, List.filter_cons_of_neg (by simpa using h)]; rfl
theorem shift (F : Nat → Int) (a : Nat) : ∀ M, a ≤ M → Sv.sm M (fun i => if a ≤ i then F (i - a) else 0) = Sv.sm (M - a) F := fun M => by
  induction M with
  | zero => intro h; rw [show a = 0 by omega]; rfl
  | succ M ih =>
    intro h
    show Sv.sm M _ + (if a ≤ M then F (M - a) else 0) = _
    by_cases e : a = M + 1
    · rw [e, Nat.sub_self, if_neg (by omega)]
      have : Sv.sm M (fun i => if M + 1 ≤ i then F (i - (M + 1)) else 0) = Sv.sm M fun _ => 0 := Sv.sm_congr fun i hi => if_neg (by omega)
      rw [this, Sv.sm_const]; simp; rfl
    · rw [ih (by omega), if_pos (by omega), show M + 1 - a = (M - a) + 1 by omega]; rfl
theorem drop0 (F : Nat → Int) : ∀ (M k : Nat), k ≤ M → (∀ i, k ≤ i → i < M → F i = 0) → Sv.sm M F = Sv.sm k F := fun M => by
  induction M with
  | zero => intro k h _; rw [show k = 0 by omega]
  | succ M ih =>
    intro k h z
    by_cases e : k = M + 1
    · rw [e]
    · show Sv.sm M F + F M = _
      rw [ih k (by omega) fun i h1 h2 => z i h1 (by omega), z M (by omega) (by omega)]; omega
theorem hh_0 {x : Int} (h : ((a : Int) * b) ≤ x) : hh a b l x = 0 := by
  unfold hh
  rw [List.filter_eq_nil_iff.mpr fun g m => ?_]
  · rfl
  · unfold gaps at m
    have := (those_mem.mp m).1
    have e : (((a - 1) * (b - 1) : Nat) : Int) ≤ (a : Int) * b := by
      rw [← Int.natCast_mul]; exact Int.ofNat_le.mpr (Nat.mul_le_mul (Nat.sub_le _ _) (Nat.sub_le _ _))
    simp; omega
noncomputable def freeS (a b : Nat) (l : List Nat) : Int := ((rms a b l).map fun m => free a b l b m).sum
open Classical in
theorem freeS_is (hW : IsWay a b l) (ha : 0 < a) (hb : 0 < b) (hg : Nat.gcd a b = 1) :
    freeS a b l = Sv.sm (a * b) fun i => if Mem a b l (i : Nat) then hh a b l (i : Nat) - hh a b l ((i : Nat) + b) - hh a b l ((i : Nat) + a) + hh a b l ((i : Nat) + a + b) else 0 := by
  unfold freeS rms
  rw [those_sum]
  have ab : a ≤ a * b := Nat.le_mul_of_pos_right _ hb
  let F : Nat → Int := fun j => if Mem a b l (j : Nat) then hh a b l ((j : Nat) + a) - hh a b l ((j : Nat) + a + b) else 0
  have e1 : (Sv.sm (a * b) fun i => if RL a b l (i : Nat) then free a b l b (i : Nat) else 0) = Sv.sm (a * b) fun i => (if Mem a b l (i : Nat) then hh a b l (i : Nat) - hh a b l ((i : Nat) + b) else 0) - if a ≤ i then F (i - a) else 0 := by
    refine Sv.sm_congr fun i _ => ?_
    have rl := rl_iff hW ha hg (x := ((i : Nat) : Int))
    rw [free_hh (by omega)]
    have low : ∀ h : a ≤ i, (((i - a : Nat) : Int)) = (i : Int) - a := fun h => by omega
    by_cases m : Mem a b l ((i : Nat) : Int)
    · rw [if_pos m]
      by_cases m2 : Mem a b l ((i : Nat) - (a : Int))
      · have ai : a ≤ i := by have := mem_nonneg hW m2; omega
        rw [if_neg (fun z => (rl.mp z).2 m2), if_pos ai]
        show _ = _ - (if Mem a b l ((i - a : Nat) : Int) then _ else 0)
        rw [low ai, if_pos m2, show (i : Int) - a + a = i by omega]; omega
      · rw [if_pos (rl.mpr ⟨m, m2⟩)]
        by_cases ai : a ≤ i
        · rw [if_pos ai]
          show _ = _ - (if Mem a b l ((i - a : Nat) : Int) then _ else 0)
          rw [low ai, if_neg m2]; omega
        · rw [if_neg ai]; omega
    · rw [if_neg m, if_neg (fun z => m (rl.mp z).1)]
      by_cases ai : a ≤ i
      · rw [if_pos ai]
        show _ = _ - (if Mem a b l ((i - a : Nat) : Int) then _ else 0)
        have m2 : ¬ Mem a b l ((i : Int) - a) := fun z => m (by have := mem_add_a z; rwa [show (i : Int) - a + a = i by omega] at this)
        rw [low ai, if_neg m2]; rfl
      · rw [if_neg ai]; rfl
  rw [e1, Sv.sm_sub, shift F a (a * b) ab, ← drop0 F (a * b) (a * b - a) (Nat.sub_le _ _) fun i h1 h2 => ?_, ← Sv.sm_sub]
  · refine Sv.sm_congr fun i _ => ?_
    show _ - (if Mem a b l (i : Nat) then _ else 0) = _
    by_cases m : Mem a b l ((i : Nat) : Int)
    · rw [if_pos m, if_pos m, if_pos m]; omega
    · rw [if_neg m, if_neg m, if_neg m]; rfl
  · show (if Mem a b l (i : Nat) then _ else 0) = _
    have e : ((a * b : Nat) : Int) = (a : Int) * b := Int.natCast_mul ..
    rw [hh_0 (by omega), hh_0 (by omega)]
    split <;> rfl
/-- both sums are equal -/
theorem free_exch (hW : IsWay a b l) (ha : 0 < a) (hb : 0 < b) (hg : Nat.gcd a b = 1) : freeS b a (exch l) = freeS a b l := by
  have hg' : Nat.gcd b a = 1 := by rw [Nat.gcd_comm]; exact hg
  rw [freeS_is hW ha hb hg, freeS_is (exch_way hW) hb ha hg', Nat.mul_comm b a]
  have he : ∀ x, hh b a (exch l) x = hh a b l x := fun x => by unfold hh; rw [gaps_exch hW ha hb hg]
  refine Sv.sm_congr fun i _ => ?_
  have m := mem_exch hW ha hb hg (x := ((i : Nat) : Int))
  rw [he, he, he, he]
  by_cases z : Mem a b l ((i : Nat) : Int)
  · rw [if_pos (m.mpr z), if_pos z, show (i : Int) + b + a = i + a + b by omega]; omega
  · rw [if_neg (fun y => z (m.mp y)), if_neg z]
end Ex

/-! Du: the dual shelf: its gaps, its free numbers, its heap. -/
namespace Du
open Mw Mg
variable {a b : Nat} {l l' : List Nat}
/-- the last gap, or -1 -/
noncomputable def la (a b : Nat) (l : List Nat) : Int := (gaps a b l).getLastD (-1)
theorem last_le {u : List Int} (h : Asc u) {x : Int} (m : x ∈ u) : x ≤ u.getLastD (-1) := by
  rcases List.eq_nil_or_concat u with rfl | ⟨v, z, rfl⟩
  · cases m
  rw [List.concat_eq_append] at h m ⊢
  rw [List.getLastD_concat]
  rcases List.mem_append.mp m with m | m
  · have := (List.pairwise_append.mp h).2.2 x m z (List.mem_singleton.mpr rfl); omega
  · rw [List.mem_singleton.mp m]; exact Int.le_refl _
theorem last_mem {u : List Int} (h : u ≠ []) : u.getLastD (-1) ∈ u := by
  rcases List.eq_nil_or_concat u with rfl | ⟨v, z, rfl⟩
  · exact absurd rfl h
  rw [List.concat_eq_append, List.getLastD_concat]
  exact List.mem_append_right _ (List.mem_singleton.mpr rfl)
structure Sh (a b : Nat) (l : List Nat) : Prop where
  way : IsWay a b l
  ha : 0 < a
  hb : 0 < b
  hg : Nat.gcd a b = 1
theorem Sh.gap (s : Sh a b l) {x : Int} : x ∈ gaps a b l ↔ 0 ≤ x ∧ ¬ Mem a b l x := gaps_iff s.way s.ha s.hb s.hg
theorem Sh.above (s : Sh a b l) {x : Int} (h : la a b l < x) (h0 : 0 ≤ x) : Mem a b l x := Classical.byContradiction fun n => by
  have := last_le gaps_asc (s.gap.mpr ⟨h0, n⟩)
  unfold la at h; omega
theorem Sh.last (s : Sh a b l) : ¬ Mem a b l (la a b l) := by
  by_cases h : gaps a b l = []
  · unfold la; rw [h]; intro m; have := mem_nonneg s.way m; simp at this
  · exact (s.gap.mp (last_mem h)).2
theorem Sh.la_ge (s : Sh a b l) : -1 ≤ la a b l := by
  by_cases h : gaps a b l = []
  · unfold la; rw [h]; simp
  · have := (s.gap.mp (last_mem h)).1
    unfold la; omega
/-- l' is the way of the dual shelf -/
structure IsDual (a b : Nat) (l l' : List Nat) : Prop where
  way : IsWay a b l'
  mem : ∀ x, Mem a b l' x ↔ 0 ≤ x ∧ ¬ Mem a b l (la a b l - x)
theorem ex_dual (s : Sh a b l) : ∃ l', IsDual a b l l' := by
  have c : Mu.Cl a b (fun x => 0 ≤ x ∧ ¬ Mem a b l (la a b l - x)) := by
    refine ⟨fun x h => h.1, ⟨Int.le_refl _, by rw [Int.sub_zero]; exact s.last⟩, fun x h => ⟨by omega, fun m => h.2 ?_⟩, fun x h => ⟨by omega, fun m => h.2 ?_⟩⟩
    · have := mem_add_a m; rwa [show la a b l - (x + a) + a = la a b l - x by omega] at this
    · have := mem_add_b s.way s.ha m; rwa [show la a b l - (x + b) + b = la a b l - x by omega] at this
  exact ⟨_, Mu.wrd_way c s.ha, fun x => Mu.wrd_mem c s.ha s.hg⟩
theorem IsDual.sh (d : IsDual a b l l') (s : Sh a b l) : Sh a b l' := ⟨d.way, s.ha, s.hb, s.hg⟩
theorem IsDual.gap (d : IsDual a b l l') (s : Sh a b l) {x : Int} : x ∈ gaps a b l' ↔ 0 ≤ x ∧ Mem a b l (la a b l - x) := by
  rw [(d.sh s).gap, d.mem]
  constructor
  · rintro ⟨h, n⟩; exact ⟨h, Classical.byContradiction fun z => n ⟨h, z⟩⟩
  · rintro ⟨h, m⟩; exact ⟨h, fun z => z.2 m⟩
theorem IsDual.la (d : IsDual a b l l') (s : Sh a b l) : la a b l' = la a b l := by
  have le : ∀ x, x ∈ gaps a b l' → x ≤ Du.la a b l := fun x m => by
    have := mem_nonneg s.way ((d.gap s).mp m).2; omega
  have ge := s.la_ge
  by_cases h : Du.la a b l = -1
  · have e : gaps a b l' = [] := List.eq_nil_iff_forall_not_mem.mpr fun x m => by
      have h1 := le x m
      have h2 := ((d.gap s).mp m).1
      omega
    have : Du.la a b l' = -1 := by unfold Du.la; rw [e]; rfl
    omega
  · have m : Du.la a b l ∈ gaps a b l' := (d.gap s).mpr ⟨by omega, by rw [Int.sub_self]; exact mem_0 s.way s.ha⟩
    have h1 := last_le gaps_asc m
    have h2 := le _ (last_mem (List.ne_nil_of_mem m))
    show (gaps a b l').getLastD (-1) = _
    omega
/-- the dual of the dual -/
theorem IsDual.back (d : IsDual a b l l') (s : Sh a b l) : IsDual a b l' l := by
  refine ⟨s.way, fun x => ?_⟩
  rw [d.la s, d.mem, show Du.la a b l - (Du.la a b l - x) = x by omega]
  constructor
  · intro m; exact ⟨mem_nonneg s.way m, fun z => z.2 m⟩
  · rintro ⟨h, n⟩
    refine Classical.byContradiction fun z => n ⟨?_, z⟩
    refine Int.not_lt.mp fun y => z (s.above (by omega) h)
/-! ### free numbers -/
open Classical in
noncomputable def pk (a b : Nat) (l : List Nat) (i : Nat) : Int := if Mem a b l (i : Nat) then 1 else 0
def ph (a b : Nat) (t : Int) : Int := (if 0 ≤ t then 1 else 0) - (if (b : Int) ≤ t then 1 else 0) - (if (a : Int) ≤ t then 1 else 0) + (if (a : Int) + b ≤ t then 1 else 0)
theorem ph_neg {t : Int} (h : t < 0) : ph a b t = 0 := by
  unfold ph
  rw [if_neg (by omega), if_neg (by omega), if_neg (by omega), if_neg (by omega)]; rfl
theorem hh_sm (s : Sh a b l) {n : Nat} (hn : la a b l < n) (x : Int) : Ex.hh a b l x = Sv.sm n fun j => (1 - pk a b l j) * if x ≤ (j : Int) then 1 else 0 := by
  have key : ∀ (P : Int → Bool), ((((gaps a b l).filter P).length : Nat) : Int) = Sv.sm ((a - 1) * (b - 1)) fun j => (1 - pk a b l j) * if P (j : Nat) then 1 else 0 := fun P => by
    unfold gaps those
    generalize (a - 1) * (b - 1) = m
    induction m with
    | zero => rfl
    | succ m ih =>
      rw [List.range_succ, List.map_append, List.filter_append, List.filter_append, List.length_append, Int.natCast_add, ih]
      show _ = Sv.sm m _ + (1 - pk a b l m) * (if P (m : Nat) then 1 else 0)
      congr 1
      unfold pk
      by_cases h : Mem a b l (m : Nat)
      · rw [List.map_singleton, List.filter_cons_of_neg (by simpa using h), if_pos h]; simp
      · rw [List.map_singleton, List.filter_cons_of_pos (by simpa using h), if_neg h]
        cases hp : P (m : Nat)
        · rw [List.filter_nil, List.filter_cons_of_neg (by rw [hp]; decide)]; simp
        · rw [List.filter_nil, List.filter_cons_of_pos (by rw [hp])]; simp
  have k1 : Ex.hh a b l x = Sv.sm ((a - 1) * (b - 1)) fun j => (1 - pk a b l j) * if x ≤ (j : Int) then 1 else 0 := by
    have := key fun g => decide (x ≤ g)
    unfold Ex.hh
    refine (Eq.trans ?_ this).trans (Sv.sm_congr fun j _ => by simp)
    rfl
  rw [k1]
  have z : ∀ j : Nat, la a b l < (j : Int) ∨ ((a - 1) * (b - 1) : Nat) ≤ j → (1 - pk a b l j) * (if x ≤ (j : Int) then (1 : Int) else 0) = 0 := fun j h => by
    have m : Mem a b l (j : Nat) := by
      rcases h with h | h
      · exact s.above h (by omega)
      · refine Classical.byContradiction fun n => ?_
        have := gap_lt s.way s.ha s.hb s.hg (x := ((j : Nat) : Int)) (by omega) n
        omega
    unfold pk; rw [if_pos m]; simp
  rcases Nat.le_total n ((a - 1) * (b - 1)) with h | h
  · exact Ex.drop0 _ _ n h fun i h1 _ => z i (.inl (by omega))
  · exact (Ex.drop0 _ n _ h fun i h1 _ => z i (.inr h1)).symm
theorem sm_mul (c : Int) (f : Nat → Int) : ∀ n, Sv.sm n (fun j => c * f j) = c * Sv.sm n f
  | 0 => by show (0 : Int) = c * 0; simp
  | n + 1 => by show Sv.sm n _ + _ = c * (Sv.sm n f + f n); rw [sm_mul c f n, Int.mul_add]
open Classical in
theorem free_sm (s : Sh a b l) {n : Nat} (hn : la a b l + 1 = n) : Ex.freeS a b l = Sv.sm n fun i => Sv.sm n fun j => pk a b l i * (1 - pk a b l j) * ph a b ((j : Int) - i) := by
  rw [Ex.freeS_is s.way s.ha s.hb s.hg]
  have t : ∀ i : Nat, (if Mem a b l (i : Nat) then Ex.hh a b l (i : Nat) - Ex.hh a b l ((i : Nat) + b) - Ex.hh a b l ((i : Nat) + a) + Ex.hh a b l ((i : Nat) + a + b) else 0) = Sv.sm n fun j => pk a b l i * (1 - pk a b l j) * ph a b ((j : Int) - i) := fun i => by
    rw [hh_sm s (n := n) (by omega), hh_sm s (n := n) (by omega), hh_sm s (n := n) (by omega), hh_sm s (n := n) (by omega), ← Sv.sm_sub, ← Sv.sm_sub, ← Sv.sm_add]
    by_cases m : Mem a b l (i : Nat)
    · rw [if_pos m]
      refine Sv.sm_congr fun j _ => ?_
      have p1 : pk a b l i = 1 := if_pos m
      rw [p1, Int.one_mul]
      unfold ph
      rw [← Int.mul_sub, ← Int.mul_sub, ← Int.mul_add]
      congr 1
      have e1 : ((i : Int) ≤ j) = (0 ≤ (j : Int) - i) := propext ⟨fun h => by omega, fun h => by omega⟩
      have e2 : ((i : Int) + b ≤ j) = ((b : Int) ≤ (j : Int) - i) := propext ⟨fun h => by omega, fun h => by omega⟩
      have e3 : ((i : Int) + a ≤ j) = ((a : Int) ≤ (j : Int) - i) := propext ⟨fun h => by omega, fun h => by omega⟩
      have e4 : ((i : Int) + a + b ≤ j) = ((a : Int) + b ≤ (j : Int) - i) := propext ⟨fun h => by omega, fun h => by omega⟩
      simp only [e1, e2, e3, e4]
    · rw [if_neg m]
      have p0 : pk a b l i = 0 := if_neg m
      rw [p0]
      have : (Sv.sm n fun j => 0 * (1 - pk a b l j) * ph a b ((j : Int) - i)) = Sv.sm n fun _ => 0 := Sv.sm_congr fun j _ => by simp
      rw [this, Sv.sm_const]; simp
  rw [Sv.sm_congr fun i _ => t i]
  have z : ∀ i : Nat, n ≤ i → (Sv.sm n fun j => pk a b l i * (1 - pk a b l j) * ph a b ((j : Int) - i)) = 0 := fun i hi => by
    have : (Sv.sm n fun j => pk a b l i * (1 - pk a b l j) * ph a b ((j : Int) - i)) = Sv.sm n fun _ => 0 := Sv.sm_congr fun j hj => by rw [ph_neg (by omega)]; simp
    rw [this, Sv.sm_const]; simp
  rcases Nat.le_total n (a * b) with h | h
  · exact Ex.drop0 _ _ n h fun i h1 _ => z i h1
  · have lt : n ≤ a * b := by
      by_cases g : gaps a b l = []
      · have : la a b l = -1 := by unfold la; rw [g]; rfl
        omega
      · have m := s.gap.mp (last_mem g)
        have := gap_lt s.way s.ha s.hb s.hg m.1 m.2
        have h2 : (a - 1) * (b - 1) ≤ a * b := Nat.mul_le_mul (Nat.sub_le _ _) (Nat.sub_le _ _)
        unfold la at hn
        omega
    rw [show a * b = n by omega]
theorem sm_rev (n : Nat) (f : Nat → Int) : Sv.sm n f = Sv.sm n fun k => f (n - 1 - k) := by
  induction n generalizing f with
  | zero => rfl
  | succ n ih =>
    rw [Sv.sm_left (f := fun k => f (n + 1 - 1 - k))]
    show Sv.sm n f + f n = _
    rw [ih f]
    have : (Sv.sm n fun k => f (n + 1 - 1 - (k + 1))) = Sv.sm n fun k => f (n - 1 - k) := Sv.sm_congr fun k hk => by congr 1; omega
    rw [this, show n + 1 - 1 - 0 = n by omega]; omega
/-- the dual shelf has as many free numbers -/
theorem free_dual (d : IsDual a b l l') (s : Sh a b l) : Ex.freeS a b l' = Ex.freeS a b l := by
  have ge := s.la_ge
  obtain ⟨n, hn⟩ : ∃ n : Nat, la a b l + 1 = n := ⟨(la a b l + 1).toNat, by omega⟩
  rw [free_sm s hn, free_sm (d.sh s) (n := n) (by rw [d.la s]; exact hn)]
  have pk' : ∀ i, i < n → pk a b l' i = 1 - pk a b l (n - 1 - i) := fun i hi => by
    unfold pk
    have e : la a b l - (i : Int) = ((n - 1 - i : Nat) : Int) := by omega
    by_cases m : Mem a b l ((n - 1 - i : Nat) : Int)
    · rw [if_pos m, if_neg (fun z => ((d.mem _).mp z).2 (by rw [e]; exact m))]; rfl
    · rw [if_neg m, if_pos ((d.mem _).mpr ⟨by omega, by rw [e]; exact m⟩)]; rfl
  rw [Sv.sm_swap, sm_rev n]
  refine Sv.sm_congr fun i hi => ?_
  rw [sm_rev n]
  refine Sv.sm_congr fun j hj => ?_
  rw [pk' _ (by omega), pk' _ (by omega), show n - 1 - (n - 1 - j) = j by omega, show n - 1 - (n - 1 - i) = i by omega]
  have e : (((n - 1 - i : Nat) : Int)) - ((n - 1 - j : Nat) : Int) = (j : Int) - i := by omega
  rw [e, show 1 - (1 - pk a b l i) = pk a b l i by omega, Int.mul_comm (1 - pk a b l j) (pk a b l i)]
end Du

/-! Dw: the heap of the dual shelf is the turned heap. -/
namespace Du
open Mw Mg
variable {a b : Nat} {l l' : List Nat}
/-- rows told by first hooks -/
def hr (hs : List Nat) : List Nat := ((List.range hs.length).map fun i => hs.getD i 0 - i).reverse.filter fun x => decide (0 < x)
theorem hr_pls {w : List Nat} (hw : ∀ c, c ∈ w → c = 114 ∨ c = 115) : hr (pls w 114) = Rm.sk w := by
  unfold hr Rm.sk
  rw [← List.map_reverse, List.map_reverse]
  congr 2
  rw [List.map_reverse]
  congr 1
  refine List.ext_getElem? fun k => ?_
  rw [List.getElem?_map, List.getElem?_map]
  rcases Nat.lt_or_ge k (pls w 114).length with h | h
  · have e : (pls w 114)[k]? = some ((pls w 114).getD k 0) := by rw [List.getD_eq_getElem?_getD, List.getElem?_eq_getElem h]; rfl
    rw [List.getElem?_range h, e]
    have n1 := Rm.rs_nr e
    have il := (List.getElem?_eq_some_iff.mp (pls_mem.mp (List.mem_of_getElem? e))).1
    have c := count_both (w.take ((pls w 114).getD k 0)) fun c m => hw c (List.mem_of_mem_take m)
    rw [List.length_take] at c
    unfold nr at n1
    show some ((pls w 114).getD k 0 - k) = some (ns w ((pls w 114).getD k 0))
    unfold ns
    congr 1; omega
  · rw [List.getElem?_eq_none (by rw [List.length_range]; exact h), List.getElem?_eq_none h]; rfl
open Classical in
/-- the gaps as a text -/
noncomputable def gw (a b : Nat) (l : List Nat) : List Nat := (List.range (la a b l + 1).toNat).map fun x : Nat => if Mem a b l (x : Nat) then 115 else 114
open Classical in
noncomputable def gN (a b : Nat) (l : List Nat) : List Nat := (List.range (la a b l + 1).toNat).filter fun x : Nat => decide (¬ Mem a b l (x : Nat))
theorem gw_let : ∀ c, c ∈ gw a b l → c = 114 ∨ c = 115 := fun c m => by
  unfold gw at m
  obtain ⟨x, _, rfl⟩ := List.mem_map.mp m
  by_cases h : Mem a b l ((x : Nat) : Int)
  · rw [if_pos h]; exact .inr rfl
  · rw [if_neg h]; exact .inl rfl
theorem gw_pls : pls (gw a b l) 114 = gN a b l := by
  unfold pls gw gN
  rw [List.length_map, List.length_range]
  refine List.filter_congr fun x m => ?_
  rw [List.getElem?_map, List.getElem?_range (List.mem_range.mp m)]
  by_cases h : Mem a b l ((x : Nat) : Int)
  · simp [h]
  · simp [h]
open Classical in
theorem gaps_N (s : Sh a b l) : gaps a b l = (gN a b l).map fun n : Nat => (n : Int) := by
  refine asc_ext gaps_asc ?_ fun x => ?_
  · unfold Asc gN
    rw [List.pairwise_map]
    exact (List.pairwise_lt_range.filter _).imp fun h => by omega
  · rw [s.gap, List.mem_map]
    constructor
    · rintro ⟨h, n⟩
      have le : x ≤ la a b l := Int.not_lt.mp fun z => n (s.above z h)
      refine ⟨x.toNat, List.mem_filter.mpr ⟨List.mem_range.mpr (by omega), ?_⟩, by omega⟩
      rw [show ((x.toNat : Nat) : Int) = x by omega]
      exact decide_eq_true n
    · rintro ⟨n, m, rfl⟩
      exact ⟨by omega, of_decide_eq_true (List.mem_filter.mp m).2⟩
open Classical in
theorem gw_exch (d : IsDual a b l l') (s : Sh a b l) : gw a b l' = exch (gw a b l) := by
  have ge := s.la_ge
  unfold gw exch
  rw [d.la s]
  refine List.ext_getElem? fun k => ?_
  rw [List.getElem?_map, List.getElem?_map]
  rcases Nat.lt_or_ge k (la a b l + 1).toNat with h | h
  · rw [List.getElem?_range h, List.getElem?_reverse (by rw [List.length_map, List.length_range]; exact h), List.length_map, List.length_range, List.getElem?_map, List.getElem?_range (by omega)]
    show some _ = some (swp _)
    congr 1
    have e : la a b l - ((k : Nat) : Int) = (((la a b l + 1).toNat - 1 - k : Nat) : Int) := by omega
    by_cases m : Mem a b l ((((la a b l + 1).toNat - 1 - k : Nat)) : Int)
    · show (if Mem a b l' (k : Nat) then 115 else 114) = swp (if Mem a b l ((((la a b l + 1).toNat - 1 - k : Nat)) : Int) then 115 else 114)
      rw [if_pos m, if_neg (fun z => ((d.mem _).mp z).2 (by rw [e]; exact m))]; rfl
    · show (if Mem a b l' (k : Nat) then 115 else 114) = swp (if Mem a b l ((((la a b l + 1).toNat - 1 - k : Nat)) : Int) then 115 else 114)
      rw [if_neg m, if_pos ((d.mem _).mpr ⟨by omega, by rw [e]; exact m⟩)]; rfl
  · rw [List.getElem?_eq_none (by rw [List.length_range]; exact h), List.getElem?_eq_none (by rw [List.length_reverse, List.length_map, List.length_range]; exact h)]; rfl
/-- the heap of the dual shelf is the turned heap -/
theorem heap_dual (d : IsDual a b l l') (s : Sh a b l) : hr (gN a b l') = Ex.tn (hr (gN a b l)) := by
  rw [← gw_pls, ← gw_pls, hr_pls gw_let, hr_pls gw_let, gw_exch d s, Ex.sk_exch gw_let]
theorem hr_desc (s : Sh a b l) : (hr (gN a b l)).Pairwise (fun x y => y ≤ x) := by
  rw [← gw_pls, hr_pls gw_let]; exact Rm.sk_desc _
theorem gN_lt (s : Sh a b l) {x : Nat} (m : x ∈ gN a b l) : 1 ≤ x ∧ x < (a - 1) * (b - 1) := by
  have g := s.gap.mp (by rw [gaps_N s]; exact List.mem_map.mpr ⟨x, m, rfl⟩)
  have := gap_lt s.way s.ha s.hb s.hg g.1 g.2
  refine ⟨?_, by omega⟩
  rcases Nat.eq_zero_or_pos x with rfl | h
  · exact absurd (mem_0 s.way s.ha) g.2
  · exact h
theorem gN_len (s : Sh a b l) : (gN a b l).length ≤ (a - 1) * (b - 1) := by
  refine Mg.nodup_le ?_ fun x m => (gN_lt s m).2
  unfold gN
  exact (List.nodup_range.filter _)
theorem hr_len (hs : List Nat) : (hr hs).length ≤ hs.length := by
  unfold hr
  refine Nat.le_trans (List.length_filter_le _ _) ?_
  rw [List.length_reverse, List.length_map, List.length_range]; exact Nat.le_refl _
theorem hr_bd {hs : List Nat} {x : Nat} (m : x ∈ hr hs) : 1 ≤ x ∧ ∃ g, g ∈ hs ∧ x ≤ g := by
  unfold hr at m
  have m := List.mem_filter.mp m
  refine ⟨of_decide_eq_true m.2, ?_⟩
  obtain ⟨i, mi, e⟩ := List.mem_map.mp (List.mem_reverse.mp m.1)
  have il := List.mem_range.mp mi
  refine ⟨hs.getD i 0, ?_, by omega⟩
  rw [List.getD_eq_getElem?_getD, List.getElem?_eq_getElem il]
  exact List.getElem_mem il
end Du
namespace Du
open Mw Mg
variable {a b : Nat} {l l' : List Nat}
theorem asc_ge : ∀ {hs : List Nat} {m : Nat}, hs.Pairwise (· < ·) → (∀ x, x ∈ hs → m ≤ x) → ∀ i x, hs[i]? = some x → m + i ≤ x
  | [], _, _, _, i, x, h => by simp at h
  | y :: r, m, p, hm, 0, x, h => by
    have e : y = x := by simpa using h
    have := hm y List.mem_cons_self; omega
  | y :: r, m, p, hm, i + 1, x, h => by
    have p2 := List.pairwise_cons.mp p
    have := asc_ge (m := m + 1) p2.2 (fun z mz => by have := p2.1 z mz; have := hm y List.mem_cons_self; omega) i x (by simpa using h)
    omega
theorem gN_asc : (gN a b l).Pairwise (· < ·) := by unfold gN; exact List.pairwise_lt_range.filter _
theorem gN_ge (s : Sh a b l) : ∀ i x : Nat, (gN a b l)[i]? = some x → i ≤ x := fun i x h => by
  have := asc_ge (hs := gN a b l) (m := 0) gN_asc (fun y _ => Nat.zero_le y) i x h
  omega
theorem lmv_uniq (s : Sh a b l) {r x : Int} (h0 : 0 ≤ r) (h1 : r < a) (hx : x % (a : Int) = r) (m : Mem a b l x) (n : ¬ Mem a b l (x - a)) : x = lmv a r (gaps a b l) := by
  have key := (lms_iff (s := a) (M := Mem a b l) s.ha gaps_asc (fun x => s.gap) (fun x => mem_nonneg s.way) (fun x => mem_add_a)).mpr ⟨m, n⟩
  unfold lms at key
  obtain ⟨r', mr, e⟩ := List.mem_map.mp key
  have rl := List.mem_range.mp mr
  obtain ⟨_, _, k3, _⟩ := lmv_least (s := a) (r := (r' : Int)) s.ha (by omega) (by omega) gaps_asc (fun x => s.gap) (fun x => mem_nonneg s.way)
  rw [e, hx] at k3
  rw [k3, e]
/-- the dual's gaps, as the program lists them -/
noncomputable def dg (a b : Nat) (l : List Nat) (i : Nat) : List Int := ((List.range i).map fun k : Nat => (1 : Int) + k).filter fun x => decide (¬ (la a b l - x) ∈ gaps a b l)
theorem dg_yes {i : Nat} (h : ¬ (la a b l - (1 + (i : Int))) ∈ gaps a b l) : dg a b l (i + 1) = dg a b l i ++ [(1 : Int) + i] := by
  unfold dg
  rw [List.range_succ, List.map_append, List.filter_append, List.map_singleton, List.filter_cons_of_pos (by simpa using h)]; rfl
theorem dg_no {i : Nat} (h : (la a b l - (1 + (i : Int))) ∈ gaps a b l) : dg a b l (i + 1) = dg a b l i := by
  unfold dg
  rw [List.range_succ, List.map_append, List.filter_append, List.map_singleton, List.filter_cons_of_neg (by simpa using h)]; simp
theorem dg_len (i : Nat) : (dg a b l i).length ≤ i := by
  unfold dg
  exact Nat.le_trans (List.length_filter_le _ _) (by rw [List.length_map, List.length_range]; exact Nat.le_refl _)
theorem IsDual.mem_gap (d : IsDual a b l l') (s : Sh a b l) {x : Int} : x ∈ gaps a b l' ↔ (1 ≤ x ∧ x ≤ Du.la a b l) ∧ ¬ (Du.la a b l - x) ∈ gaps a b l := by
  rw [d.gap s, s.gap]
  constructor
  · rintro ⟨h, m⟩
    have := mem_nonneg s.way m
    refine ⟨⟨?_, by omega⟩, fun z => z.2 m⟩
    rcases Int.lt_or_le 0 x with g | g
    · exact g
    · have : x = 0 := by omega
      subst this
      rw [Int.sub_zero] at m; exact absurd m s.last
  · rintro ⟨h, n⟩
    exact ⟨by omega, Classical.byContradiction fun z => n ⟨by omega, z⟩⟩
theorem dg_is (d : IsDual a b l l') (s : Sh a b l) : dg a b l (la a b l).toNat = gaps a b l' := by
  refine asc_ext ?_ gaps_asc fun x => ?_
  · unfold dg Asc
    refine List.Pairwise.filter _ ?_
    rw [List.pairwise_map]
    exact List.pairwise_lt_range.imp fun h => by omega
  · rw [d.mem_gap s]
    unfold dg
    rw [List.mem_filter, List.mem_map]
    constructor
    · rintro ⟨⟨k, mk, rfl⟩, n⟩
      have := List.mem_range.mp mk
      exact ⟨⟨by omega, by omega⟩, of_decide_eq_true n⟩
    · rintro ⟨h, n⟩
      exact ⟨⟨(x - 1).toNat, List.mem_range.mpr (by omega), by omega⟩, decide_eq_true n⟩
theorem la_nil (s : Sh a b l) : gaps a b l = [] ↔ la a b l = -1 := by
  constructor
  · intro h; unfold la; rw [h]; rfl
  · intro h
    refine Classical.byContradiction fun n => ?_
    have := (s.gap.mp (last_mem n)).1
    unfold la at h; omega
theorem IsDual.nil (d : IsDual a b l l') (s : Sh a b l) (h : gaps a b l = []) : gaps a b l' = [] := by
  rw [la_nil (d.sh s), d.la s, ← la_nil s]; exact h
end Du
namespace Du
open Mw Mg
variable {a b : Nat} {l l' : List Nat}
open Classical in
/-- the dual's gaps, as the law lists them -/
noncomputable def lg (a b : Nat) (l : List Nat) (i : Nat) : List Int := ((List.range i).filter fun k : Nat => decide (¬ ((k : Nat) : Int) ∈ gaps a b l)).map fun k : Nat => la a b l - k
theorem lg_yes {i : Nat} (h : ¬ ((i : Nat) : Int) ∈ gaps a b l) : lg a b l (i + 1) = lg a b l i ++ [la a b l - (i : Nat)] := by
  unfold lg
  rw [List.range_succ, List.filter_append, List.filter_cons_of_pos (by simpa using h), List.map_append]; rfl
theorem lg_no {i : Nat} (h : ((i : Nat) : Int) ∈ gaps a b l) : lg a b l (i + 1) = lg a b l i := by
  unfold lg
  rw [List.range_succ, List.filter_append, List.filter_cons_of_neg (by simpa using h)]; simp
theorem lg_len (i : Nat) : (lg a b l i).length ≤ i := by
  unfold lg
  rw [List.length_map]
  exact Nat.le_trans (List.length_filter_le _ _) (by rw [List.length_range]; exact Nat.le_refl _)
theorem lg_is (d : IsDual a b l l') (s : Sh a b l) {v : List Int} (p : v.Perm (lg a b l (la a b l).toNat)) (sv : v.Pairwise (· ≤ ·)) : v = gaps a b l' := by
  refine sorted_is p sv ?_ gaps_asc fun x => ?_
  · unfold lg
    rw [List.nodup_iff_pairwise_ne, List.pairwise_map]
    exact (List.nodup_iff_pairwise_ne.mp (List.nodup_range.filter _)).imp fun h e => h (by omega)
  · rw [d.mem_gap s]
    unfold lg
    rw [List.mem_map]
    constructor
    · rintro ⟨k, mk, rfl⟩
      have mk := List.mem_filter.mp mk
      have h1 := List.mem_range.mp mk.1
      have h2 := of_decide_eq_true mk.2
      exact ⟨⟨by omega, by omega⟩, by rw [show la a b l - (la a b l - (k : Int)) = k by omega]; exact h2⟩
    · rintro ⟨h, n⟩
      refine ⟨(la a b l - x).toNat, List.mem_filter.mpr ⟨List.mem_range.mpr (by omega), decide_eq_true ?_⟩, by omega⟩
      rw [show (((la a b l - x).toNat : Nat) : Int) = la a b l - x by omega]; exact n
end Du

/-! Hk: the hooks of a heap that is told by a text; first hooks. -/
namespace Hk
open Mw Mg
variable {a b : Nat} {l l' w : List Nat}
/-- the hook of a square -/
def hk (u : List Nat) (x y : Nat) : Nat := u.getD x 0 - y + Ex.above u y - x - 1
theorem above_cons (z y : Nat) (u : List Nat) : Ex.above (z :: u) y = Ex.above u y + if y < z then 1 else 0 := by
  unfold Ex.above
  by_cases h : y < z
  · rw [List.filter_cons_of_pos (by simpa using h), if_pos h, List.length_cons]
  · rw [List.filter_cons_of_neg (by simpa using h), if_neg h]; rfl
theorem above_0 {u : List Nat} {y : Nat} (h : ∀ x, x ∈ u → x ≤ y) : Ex.above u y = 0 := by
  unfold Ex.above
  rw [List.filter_eq_nil_iff.mpr fun x m => by have := h x m; simp; omega]; rfl
theorem last_hook : ∀ (n : Nat) (w : List Nat), w.length = n → (∀ c, c ∈ w → c = 114 ∨ c = 115) → ∀ y, y < w.count 115 → ∃ j, w[j]? = some 115 ∧ n = j + (w.count 115 - y + Ex.above (Ex.full w) y)
  | 0, w, h, _, y, hy => by rw [List.length_eq_zero_iff.mp h] at hy; simp at hy
  | n + 1, w, h, hw, y, hy => by
    rcases List.eq_nil_or_concat w with rfl | ⟨v, c, rfl⟩
    · cases h
    rw [List.concat_eq_append] at h hw hy ⊢
    have vl : v.length = n := by rw [List.length_append, List.length_singleton] at h; omega
    have hv : ∀ c, c ∈ v → c = 114 ∨ c = 115 := fun c m => hw c (List.mem_append_left _ m)
    have up : ∀ j : Nat, v[j]? = some 115 → (v ++ [c])[j]? = some 115 := fun j e => by
      rw [List.getElem?_append_left (List.getElem?_eq_some_iff.mp e).1]; exact e
    rcases hw c (List.mem_append_right _ (List.mem_singleton.mpr rfl)) with rfl | rfl
    · rw [List.count_append, show [114].count 115 = 0 from rfl, Nat.add_zero] at hy ⊢
      obtain ⟨j, hj, e⟩ := last_hook n v vl hv y hy
      refine ⟨j, up j hj, ?_⟩
      rw [Ex.full_r, above_cons, if_pos hy]; omega
    · rw [List.count_append, show [115].count 115 = 1 from rfl] at hy ⊢
      rw [Ex.full_s (by decide)]
      by_cases z : y < v.count 115
      · obtain ⟨j, hj, e⟩ := last_hook n v vl hv y z
        exact ⟨j, up j hj, by omega⟩
      · have e : y = v.count 115 := by omega
        refine ⟨v.length, by rw [List.getElem?_append_right (Nat.le_refl _), Nat.sub_self]; rfl, ?_⟩
        rw [above_0 fun x m => by have := Ex.full_le m; omega]; omega
theorem hook_full : ∀ (n : Nat) (w : List Nat), w.length = n → (∀ c, c ∈ w → c = 114 ∨ c = 115) → ∀ x y, x < (Ex.full w).length → y < (Ex.full w).getD x 0 → ∃ i j, w[i]? = some 114 ∧ w[j]? = some 115 ∧ i = j + hk (Ex.full w) x y
  | 0, w, h, _, x, y, hx, hy => by rw [List.length_eq_zero_iff.mp h] at hx; simp [Ex.full, pls] at hx
  | n + 1, w, h, hw, x, y, hx, hy => by
    rcases List.eq_nil_or_concat w with rfl | ⟨v, c, rfl⟩
    · cases h
    rw [List.concat_eq_append] at h hw hx hy ⊢
    have vl : v.length = n := by rw [List.length_append, List.length_singleton] at h; omega
    have hv : ∀ c, c ∈ v → c = 114 ∨ c = 115 := fun c m => hw c (List.mem_append_left _ m)
    have up : ∀ (j d : Nat), v[j]? = some d → (v ++ [c])[j]? = some d := fun j d e => by
      rw [List.getElem?_append_left (List.getElem?_eq_some_iff.mp e).1]; exact e
    rcases hw c (List.mem_append_right _ (List.mem_singleton.mpr rfl)) with rfl | rfl
    · rw [Ex.full_r] at hx hy ⊢
      cases x with
      | zero =>
        have hy : y < v.count 115 := hy
        obtain ⟨j, hj, e⟩ := last_hook n v vl hv y hy
        refine ⟨v.length, j, by rw [List.getElem?_append_right (Nat.le_refl _), Nat.sub_self]; rfl, up j _ hj, ?_⟩
        unfold hk
        rw [above_cons, if_pos hy, List.getD_cons_zero]; omega
      | succ x =>
        rw [List.getD_cons_succ] at hy
        have hx : x < (Ex.full v).length := by simpa using hx
        obtain ⟨i, j, hi, hj, e⟩ := hook_full n v vl hv x y hx hy
        refine ⟨i, j, up i _ hi, up j _ hj, ?_⟩
        have m : (Ex.full v).getD x 0 ∈ Ex.full v := by
          rw [List.getD_eq_getElem?_getD, List.getElem?_eq_getElem hx]; exact List.getElem_mem hx
        have le := Ex.full_le m
        unfold hk at e ⊢
        rw [above_cons, if_pos (by omega), List.getD_cons_succ]; omega
    · rw [Ex.full_s (by decide)] at hx hy ⊢
      obtain ⟨i, j, hi, hj, e⟩ := hook_full n v vl hv x y hx hy
      exact ⟨i, j, up i _ hi, up j _ hj, e⟩
theorem fil_at : ∀ {u : List Nat}, u.Pairwise (fun x y => y ≤ x) → ∀ x, x < (u.filter fun x => decide (0 < x)).length → (u.filter fun x => decide (0 < x)).getD x 0 = u.getD x 0 ∧ x < u.length
  | [], _, x, h => by simp at h
  | z :: r, p, x, h => by
    have p2 := List.pairwise_cons.mp p
    by_cases hz : 0 < z
    · rw [List.filter_cons_of_pos (by simpa using hz)] at h ⊢
      cases x with
      | zero => exact ⟨rfl, Nat.succ_pos _⟩
      | succ x =>
        have := fil_at p2.2 x (by simpa using h)
        rw [List.getD_cons_succ, List.getD_cons_succ, List.length_cons]
        exact ⟨this.1, by omega⟩
    · rw [List.filter_cons_of_neg (by simpa using hz), List.filter_eq_nil_iff.mpr fun y m => by have := p2.1 y m; simp; omega] at h
      simp at h
theorem full_desc (w : List Nat) : (Ex.full w).Pairwise (fun x y => y ≤ x) := by
  unfold Ex.full
  rw [List.pairwise_map, List.pairwise_reverse]
  refine (Rm.pls_asc w 114).imp fun h => ?_
  exact cnt_mono 115 (by omega)
/-- a hook is the way from a step to a rise -/
theorem hook_is (hw : ∀ c, c ∈ w → c = 114 ∨ c = 115) {x y : Nat} (hx : x < (Rm.sk w).length) (hy : y < (Rm.sk w).getD x 0) : ∃ i j, w[i]? = some 114 ∧ w[j]? = some 115 ∧ i = j + hk (Rm.sk w) x y := by
  rw [Ex.sk_full] at hx hy
  have f := fil_at (full_desc w) x hx
  rw [f.1] at hy
  obtain ⟨i, j, hi, hj, e⟩ := hook_full w.length w rfl hw x y f.2 hy
  refine ⟨i, j, hi, hj, ?_⟩
  unfold hk at e ⊢
  rw [Ex.above_sk, Ex.sk_full, f.1]; exact e
open Classical in
/-- the heap of a shelf has no hook of the rises, nor of the steps -/
theorem no_hook (s : Du.Sh a b l) {x y : Nat} (hx : x < (Du.hr (Du.gN a b l)).length) (hy : y < (Du.hr (Du.gN a b l)).getD x 0) : hk (Du.hr (Du.gN a b l)) x y ≠ a ∧ hk (Du.hr (Du.gN a b l)) x y ≠ b := by
  rw [← Du.gw_pls, Du.hr_pls Du.gw_let] at hx hy ⊢
  obtain ⟨i, j, hi, hj, e⟩ := hook_is Du.gw_let hx hy
  have rd : ∀ (k c : Nat), (Du.gw a b l)[k]? = some c → (c = 114 → ¬ Mem a b l (k : Nat)) ∧ (c = 115 → Mem a b l (k : Nat)) := fun k c h => by
    unfold Du.gw at h
    have kl := (List.getElem?_eq_some_iff.mp h).1
    rw [List.length_map, List.length_range] at kl
    rw [List.getElem?_map, List.getElem?_range kl] at h
    have h := Option.some.inj h
    constructor
    · rintro rfl m
      have h : (if Mem a b l ((k : Nat) : Int) then 115 else 114) = 114 := h
      rw [if_pos m] at h; cases h
    · rintro rfl
      refine Classical.byContradiction fun m => ?_
      have h : (if Mem a b l ((k : Nat) : Int) then 115 else 114) = 115 := h
      rw [if_neg m] at h; cases h
  have n := (rd i _ hi).1 rfl
  have m := (rd j _ hj).2 rfl
  constructor
  · intro z
    apply n
    have := mem_add_a m
    rwa [show ((i : Nat) : Int) = (j : Int) + a by omega]
  · intro z
    apply n
    have := mem_add_b s.way s.ha m
    rwa [show ((i : Nat) : Int) = (j : Int) + b by omega]
/-- first hooks -/
def fh (u : List Nat) : List Nat := (List.range u.length).map fun i => u.reverse.getD i 0 + i
theorem fh_hr {hs : List Nat} (p : hs.Pairwise (· < ·)) (h1 : ∀ x, x ∈ hs → 1 ≤ x) : fh (Du.hr hs) = hs := by
  have ge := Du.asc_ge p h1
  have pos : (((List.range hs.length).map fun i => hs.getD i 0 - i).reverse.filter fun x => decide (0 < x)) = ((List.range hs.length).map fun i => hs.getD i 0 - i).reverse := by
    refine List.filter_eq_self.mpr fun x m => ?_
    obtain ⟨i, mi, rfl⟩ := List.mem_map.mp (List.mem_reverse.mp m)
    have il := List.mem_range.mp mi
    have e : hs[i]? = some (hs.getD i 0) := by rw [List.getD_eq_getElem?_getD, List.getElem?_eq_getElem il]; rfl
    have := ge i _ e
    exact decide_eq_true (by omega)
  unfold fh Du.hr
  rw [pos, List.length_reverse, List.length_map, List.length_range, List.reverse_reverse]
  refine List.ext_getElem? fun k => ?_
  rw [List.getElem?_map]
  rcases Nat.lt_or_ge k hs.length with h | h
  · have e : hs[k]? = some (hs.getD k 0) := by rw [List.getD_eq_getElem?_getD, List.getElem?_eq_getElem h]; rfl
    have := ge k _ e
    rw [List.getElem?_range h, e]
    show some (_ + k) = some _
    rw [List.getD_eq_getElem?_getD, List.getElem?_map, List.getElem?_range h]
    show some (hs.getD k 0 - k + k) = _
    congr 1; omega
  · rw [List.getElem?_eq_none (by rw [List.length_range]; exact h), List.getElem?_eq_none h]; rfl
end Hk

/-! Hm: sizes of heaps; rows tell first hooks. -/
namespace Hk
open Mw Mg
variable {a b : Nat} {l l' w : List Nat}
theorem hr_inj {g h : List Nat} (pg : g.Pairwise (· < ·)) (g1 : ∀ x, x ∈ g → 1 ≤ x) (ph : h.Pairwise (· < ·)) (h1 : ∀ x, x ∈ h → 1 ≤ x) (e : Du.hr g = Du.hr h) : g = h := by
  rw [← fh_hr pg g1, e, fh_hr ph h1]
theorem sum_add {α : Type} (f g : α → Nat) : ∀ u : List α, (u.map fun x => f x + g x).sum = (u.map f).sum + (u.map g).sum
  | [] => rfl
  | x :: u => by rw [List.map_cons, List.map_cons, List.map_cons, List.sum_cons, List.sum_cons, List.sum_cons, sum_add f g u]; omega
theorem const_sum (c : Nat) : ∀ N, ((List.range N).map fun _ => c).sum = N * c
  | 0 => by simp
  | N + 1 => by rw [List.range_succ, List.map_append, List.sum_append, const_sum c N, List.map_singleton, List.sum_singleton, Nat.succ_mul]
theorem below (z : Nat) : ∀ N, z ≤ N → ((List.range N).map fun c => if c < z then 1 else 0).sum = z
  | 0, h => by rw [show z = 0 by omega]; rfl
  | N + 1, h => by
    rw [List.range_succ, List.map_append, List.sum_append, List.map_singleton, List.sum_singleton]
    by_cases e : z = N + 1
    · have : ((List.range N).map fun c => if c < z then 1 else 0) = (List.range N).map fun _ => 1 := List.map_congr_left fun c m => if_pos (by have := List.mem_range.mp m; omega)
      rw [this, if_pos (by omega), e, const_sum]; omega
    · rw [below z N (by omega), if_neg (by omega)]; rfl
/-- columns hold as many squares as rows -/
theorem above_sum (N : Nat) : ∀ u : List Nat, (∀ x, x ∈ u → x ≤ N) → ((List.range N).map (Ex.above u)).sum = u.sum
  | [], _ => by
    have : (List.range N).map (Ex.above []) = (List.range N).map fun _ => 0 := List.map_congr_left fun _ _ => rfl
    rw [this, const_sum]; simp
  | z :: u, h => by
    have e : (List.range N).map (Ex.above (z :: u)) = (List.range N).map fun c => Ex.above u c + if c < z then 1 else 0 := List.map_congr_left fun c _ => above_cons z c u
    rw [e, sum_add, List.sum_cons, below z N (h z List.mem_cons_self)]
    have ih := above_sum N u fun x m => h x (List.mem_cons_of_mem _ m)
    rw [show (List.range N).map (fun x => Ex.above u x) = (List.range N).map (Ex.above u) from rfl, ih]; omega
theorem tn_sum {u : List Nat} (p : u.Pairwise (fun x y => y ≤ x)) : (Ex.tn u).sum = u.sum := above_sum _ u (Ex.head_max p)
theorem tri : ∀ n : Nat, (List.range n).sum * 2 = n * (n - 1)
  | 0 => rfl
  | n + 1 => by
    rw [List.range_succ, List.sum_append, List.sum_singleton, Nat.add_mul, tri n]
    cases n with
    | zero => rfl
    | succ n =>
      show (n + 1) * n + (n + 1) * 2 = (n + 2) * (n + 1)
      rw [← Nat.mul_add, Nat.mul_comm]
theorem sum_minus {hs : List Nat} (ge : ∀ i, i < hs.length → i ≤ hs.getD i 0) : ∀ k, k ≤ hs.length → ((List.range k).map fun i => hs.getD i 0 - i).sum + (List.range k).sum = ((List.range k).map fun i => hs.getD i 0).sum
  | 0, _ => rfl
  | k + 1, h => by
    have ih := sum_minus ge k (by omega)
    have := ge k (by omega)
    rw [List.range_succ, List.map_append, List.map_append, List.sum_append, List.sum_append, List.sum_append, List.map_singleton, List.map_singleton, List.sum_singleton, List.sum_singleton, List.sum_singleton]
    omega
theorem all_at (hs : List Nat) : (List.range hs.length).map (fun i => hs.getD i 0) = hs := by
  refine List.ext_getElem? fun k => ?_
  rw [List.getElem?_map]
  rcases Nat.lt_or_ge k hs.length with h | h
  · rw [List.getElem?_range h, List.getElem?_eq_getElem h]
    show some (hs.getD k 0) = some _
    rw [List.getD_eq_getElem?_getD, List.getElem?_eq_getElem h]; rfl
  · rw [List.getElem?_eq_none (by rw [List.length_range]; exact h), List.getElem?_eq_none h]; rfl
/-- squares of the heap with some first hooks -/
theorem hr_sum {hs : List Nat} (p : hs.Pairwise (· < ·)) (h1 : ∀ x, x ∈ hs → 1 ≤ x) : (Du.hr hs).sum + hs.length * (hs.length - 1) / 2 = hs.sum := by
  have ge := Du.asc_ge p h1
  have geD : ∀ i, i < hs.length → i ≤ hs.getD i 0 := fun i il => by
    have e : hs[i]? = some (hs.getD i 0) := by rw [List.getD_eq_getElem?_getD, List.getElem?_eq_getElem il]; rfl
    have := ge i _ e; omega
  have s := sum_minus geD hs.length (Nat.le_refl _)
  rw [all_at] at s
  have t := tri hs.length
  unfold Du.hr
  rw [Rm.pos_sum, List.sum_reverse]
  omega
end Hk

/-! Hw: the end of a law with tables over a head that tells its written part at the heap. -/
namespace Hx
open PySem PySem.Spec PyProof.Rows L2 LamX
/-! ### the ends -/
/-- a law with tables -/
theorem walkGE {l : PySem.W.OpenLaw} {n k : Nat} {q : Program} {loose : List Str} {XP : (Str → Option Value) → Heap → Prop} {YP : World → Heap → Prop} {d : DefRec} {x : Str}
    (hn : l.most = some n) (hn2 : n ≤ sizeLine) (hdf : d.params.defaults = []) (room : Room k callerA)
    (F : ∀ (w : World) (mg : Str → Option Value) (fa : Addr) (h : Heap), YP w h → h.Ns mainGlobals mg → mg d.name = some (.ref fa) → ∃ K : PySem.W.Frag, K.In h ∧ En.Law l w K k n x mg fa h) :
    PySem.W.WalkO q loose XP YP l.row.toRowW d [] (fun f vs => PySem.call f vs) := by
  refine Att.attach_callB hn hdf ?_
  intro w s₀ s₁ mg mb fa o pm cd doc a vs ns G Y ho hd hcd hmg there numb many bits bare
  obtain ⟨K, KX, fd, cs, sp, facts, binds, wish, run⟩ := F w mg fa _ Y G.T.g hmg
  obtain ⟨H, B⟩ := En.begin_is (P := l.prog) (w := w) KX (cs.map (·.2)) (by
    intro b m
    obtain ⟨p, mp, rfl⟩ := List.mem_map.mp m
    exact (facts p mp).1) there numb (Nat.le_trans many hn2)
  exact En.law_goes KX G.T.g G.T.b G.T.builtins G.T.nolimit bare (fun p m => (facts p m).1) (fun p m => (facts p m).2.1) (fun p m => (facts p m).2.2) G.T.bmain there room run binds B (wish H a ns many (fun p m => B.tab _ (List.mem_map.mpr ⟨p, m, rfl⟩)) B.script)
end Hx

local macro_rules | `(tactic| walk_at "sx1") => `(tactic| with_reducible first
  | refine Sx.r_seq ?_ | refine Sx.r_asg ?_ | refine Sx.r_name ?_ | refine Sx.r_c ?_ | refine Sx.r_op ?_ | refine Sx.r_cons ?_ | refine Sx.r_nil ?_
  | (refine' Sx.r_var ?vxe ?_; (case vxe => with_unfolding_all exact rfl))
  | refine Sx.r_I0 ?_ | refine Sx.r_Ih ?_ ?_ | refine Sx.r_U ?_ | refine Sx.r_eqI ?_ | refine Sx.r_neI ?_ | refine Sx.r_eqS ?_ | refine Sx.r_neS ?_ | refine Sx.r_eqB ?_ | refine Sx.r_neB ?_
  | refine Sx.r_test ?_ | refine Sx.r_B ?_ | refine Sx.r_bl ?_ | refine Sx.r_int ?_ | refine Sx.r_ret ?_ | refine Sx.r_retN ?_ | refine Sx.r_drop ?_ | refine Sx.r_next ?_
  | refine Sx.r_and ?_ | refine Sx.r_or ?_ | refine Sx.r_not ?_ | refine Sx.r_andV ?_ | refine Sx.r_orV ?_ | refine Sx.r_notV ?_ | refine Sx.r_chain ?_
  | refine Sx.r_call ?_ | refine Sx.r_cb ?_ | refine Sx.r_make ?_ | refine Sx.r_tup ?_ | refine Sx.r_lst ?_ | refine Sx.r_tprop ?_ | refine Sx.r_meth ?_ | refine Sx.r_fld ?_ | refine Sx.r_sFld ?_ | refine Sx.r_BM ?_ | refine Sx.r_BM0 ?_
  | refine Sx.r_sub ?_ | refine Sx.r_sl ?_ | refine Sx.r_noPart ?_ | refine Sx.r_part ?_ | refine Sx.r_un ?_ | refine Sx.r_par ?_ | refine Sx.r_par3 ?_ | refine Sx.r_two ?_ | refine Sx.r_three ?_
  | refine Sx.r_isi_int_bool ?_ | refine Sx.r_isi_int_int ?_ | refine Sx.r_isi_str_str ?_
  | refine Sx.iteT' ?_ | refine Sx.iteF' ?_ | refine Sx.iteNT ?_ | refine Sx.iteNF ?_
  | refine Sx.r_for1 ?_ | refine Sx.r_for2 ?_ | refine Sx.r_forL ?_ | refine Sx.r_forT ?_ | refine Sx.r_forS ?_ | refine Sx.r_lc1 ?_ | refine Sx.r_lc2 ?_ | refine Sx.r_lcL ?_ | refine Sx.r_lcT ?_ | refine Sx.r_lcS ?_ | refine Sx.r_yes ?_ | refine Sx.r_seqS ?_
  | refine Sx.r_int1 ?_ | refine Sx.r_intB ?_ | refine Sx.r_abs ?_ | refine Sx.r_max ?_ | refine Sx.r_min ?_ | refine Sx.r_lenS ?_ ?_ | refine Sx.r_strI ?_ ?_ | refine Sx.r_strS ?_ | refine Sx.r_addS ?_ ?_ | refine Sx.r_ltS ?_ | refine Sx.r_cntS ?_ | refine Sx.r_findS ?_ | refine Sx.r_find3 ?_ | refine ⟨Sx.tyS, ?_⟩
  | refine Sy.r_lcN ?_ | refine Sy.r_forN ?_ | refine Sy.r_lcE ?_ | refine Sy.r_forE ?_ | refine Sy.r_mulS ?_ ?_ ?_ | refine Sy.r_listS ?_ ?_ | refine Mw.r_slS ?_ ?_
  | refine Rt.r_revT ?_ | refine Mj.r_din ?_ | refine Mj.r_dnotin ?_ | refine Mj.r_dget ?_ | refine Mj.r_dnew ?_ | refine Mj.r_dput ?_ | refine Mj.r_makeL ?_ | refine Mj.r_makeD ?_ | refine Px.r_tpropX ?_ | refine Mj.r_cmeth ?_ | refine Mj.r_dcT ?_ | refine Mj.r_lock ?_ | refine Mj.r_lcK ?_
  | refine Sx.r_gcons ?_ | refine Sx.r_gnil ?_
  | refine Sx.r_gcd ?_ | refine Sx.r_break ?_ | refine Sx.r_cont ?_)
local macro_rules | `(tactic| walk_at "sx") => `(tactic| (repeat walk_at "sx1"))
local macro_rules | `(tactic| walk_at "sd") => `(tactic| first | omega | assumption | decide | (exact Sx.cmA_l (by omega)) | (exact Sx.cmA_r (by omega)) | (exact ⟨by decide, by decide⟩) | (exact ⟨by decide, by decide, by decide⟩) | (exact Sx.cdivw (b := 64) (by omega) (by omega) (by decide)) | (exact Sx.cmA_w (Sx.cmulw (a := 64) (b := 64) (by omega) (by omega) (by decide))))
local macro_rules | `(tactic| walk_at "sxi") => `(tactic| (walk_at "sx"; refine Sx.r_ifs ?_; walk_at "sx"))

namespace Lw
open PySem PySem.Spec PyProof.Rows L2 Sx Sy Sw Mw Me
open En (NoNum)
open SX (S)
open C8 (pe_gc)
open SkE (call_repr_int call_str_str)
open RZ (pi_zipA)
def top (i : Nat) : Stmt := PySem.Challenge.pw_slantways_k25_whole_turned_heaps.main.body.getD i (.Pass ⟨0, 0, 0, 0⟩)
abbrev st_is_number : Stmt := top 13
abbrev N_is_number : List Str := ["value"]
theorem sc_is_number : FnScope N_is_number ["value"] (defScope st_is_number) := ⟨rfl, rfl, rfl, by decide +kernel, rfl, by decide +kernel, by decide +kernel⟩
abbrev st_is_whole_between : Stmt := top 14
abbrev N_is_whole_between : List Str := ["value", "least", "most"]
theorem sc_is_whole_between : FnScope N_is_whole_between ["value", "least", "most"] (defScope st_is_whole_between) := ⟨rfl, rfl, rfl, by decide +kernel, rfl, by decide +kernel, by decide +kernel⟩
abbrev st_is_ascending : Stmt := top 15
abbrev N_is_ascending : List Str := ["value", "least", "most", "next_least", "number"]
theorem sc_is_ascending : FnScope N_is_ascending ["value", "least", "most"] (defScope st_is_ascending) := ⟨rfl, rfl, rfl, by decide +kernel, rfl, by decide +kernel, by decide +kernel⟩
abbrev st_Slope_init : Stmt := inClass (top 20) 0
abbrev N_Slope_init : List Str := ["self", "rises", "steps"]
theorem sc_Slope_init : FnScope N_Slope_init ["self", "rises", "steps"] (defScope st_Slope_init) := ⟨rfl, rfl, rfl, by decide +kernel, rfl, by decide +kernel, by decide +kernel⟩
abbrev st_Slope_rises : Stmt := inClass (top 20) 2
abbrev N_Slope_rises : List Str := ["self"]
theorem sc_Slope_rises : FnScope N_Slope_rises ["self"] (defScope st_Slope_rises) := ⟨rfl, rfl, rfl, by decide +kernel, rfl, by decide +kernel, by decide +kernel⟩
abbrev st_Slope_steps : Stmt := inClass (top 20) 3
abbrev N_Slope_steps : List Str := ["self"]
theorem sc_Slope_steps : FnScope N_Slope_steps ["self"] (defScope st_Slope_steps) := ⟨rfl, rfl, rfl, by decide +kernel, rfl, by decide +kernel, by decide +kernel⟩
abbrev st_Slope_common : Stmt := inClass (top 20) 4
abbrev N_Slope_common : List Str := ["self"]
theorem sc_Slope_common : FnScope N_Slope_common ["self"] (defScope st_Slope_common) := ⟨rfl, rfl, rfl, by decide +kernel, rfl, by decide +kernel, by decide +kernel⟩
abbrev st_Slope_is_coprime : Stmt := inClass (top 20) 5
abbrev N_Slope_is_coprime : List Str := ["self"]
theorem sc_Slope_is_coprime : FnScope N_Slope_is_coprime ["self"] (defScope st_Slope_is_coprime) := ⟨rfl, rfl, rfl, by decide +kernel, rfl, by decide +kernel, by decide +kernel⟩
abbrev st_Slope_half : Stmt := inClass (top 20) 6
abbrev N_Slope_half : List Str := ["self"]
theorem sc_Slope_half : FnScope N_Slope_half ["self"] (defScope st_Slope_half) := ⟨rfl, rfl, rfl, by decide +kernel, rfl, by decide +kernel, by decide +kernel⟩
abbrev st_Slope_exchanged : Stmt := inClass (top 20) 7
abbrev N_Slope_exchanged : List Str := ["self"]
theorem sc_Slope_exchanged : FnScope N_Slope_exchanged ["self"] (defScope st_Slope_exchanged) := ⟨rfl, rfl, rfl, by decide +kernel, rfl, by decide +kernel, by decide +kernel⟩
abbrev st_Slope_eq : Stmt := inClass (top 20) 8
abbrev N_Slope_eq : List Str := ["self", "other"]
theorem sc_Slope_eq : FnScope N_Slope_eq ["self", "other"] (defScope st_Slope_eq) := ⟨rfl, rfl, rfl, by decide +kernel, rfl, by decide +kernel, by decide +kernel⟩
abbrev st_Way_init : Stmt := inClass (top 21) 0
abbrev N_Way_init : List Str := ["self", "slope", "text", "run"]
theorem sc_Way_init : FnScope N_Way_init ["self", "slope", "text"] (defScope st_Way_init) := ⟨rfl, rfl, rfl, by decide +kernel, rfl, by decide +kernel, by decide +kernel⟩
abbrev st_Way_slope : Stmt := inClass (top 21) 1
abbrev N_Way_slope : List Str := ["self"]
theorem sc_Way_slope : FnScope N_Way_slope ["self"] (defScope st_Way_slope) := ⟨rfl, rfl, rfl, by decide +kernel, rfl, by decide +kernel, by decide +kernel⟩
abbrev st_Way_text : Stmt := inClass (top 21) 2
abbrev N_Way_text : List Str := ["self"]
theorem sc_Way_text : FnScope N_Way_text ["self"] (defScope st_Way_text) := ⟨rfl, rfl, rfl, by decide +kernel, rfl, by decide +kernel, by decide +kernel⟩
abbrev st_Way_levels : Stmt := inClass (top 21) 3
abbrev N_Way_levels : List Str := ["self"]
theorem sc_Way_levels : FnScope N_Way_levels ["self"] (defScope st_Way_levels) := ⟨rfl, rfl, rfl, by decide +kernel, rfl, by decide +kernel, by decide +kernel⟩
abbrev st_Way_exchanged : Stmt := inClass (top 21) 5
abbrev N_Way_exchanged : List Str := ["self", "letters", "letter"]
theorem sc_Way_exchanged : FnScope N_Way_exchanged ["self"] (defScope st_Way_exchanged) := ⟨rfl, rfl, rfl, by decide +kernel, rfl, by decide +kernel, by decide +kernel⟩
abbrev st_Way_eq : Stmt := inClass (top 21) 9
abbrev N_Way_eq : List Str := ["self", "other"]
theorem sc_Way_eq : FnScope N_Way_eq ["self", "other"] (defScope st_Way_eq) := ⟨rfl, rfl, rfl, by decide +kernel, rfl, by decide +kernel, by decide +kernel⟩
abbrev st_check_slope : Stmt := top 22
abbrev N_check_slope : List Str := ["slope"]
theorem sc_check_slope : FnScope N_check_slope ["slope"] (defScope st_check_slope) := ⟨rfl, rfl, rfl, by decide +kernel, rfl, by decide +kernel, by decide +kernel⟩
abbrev st_check_way : Stmt := top 23
abbrev N_check_way : List Str := ["way"]
theorem sc_check_way : FnScope N_check_way ["way"] (defScope st_check_way) := ⟨rfl, rfl, rfl, by decide +kernel, rfl, by decide +kernel, by decide +kernel⟩
abbrev st_check_coprime : Stmt := top 24
abbrev N_check_coprime : List Str := ["slope"]
theorem sc_check_coprime : FnScope N_check_coprime ["slope"] (defScope st_check_coprime) := ⟨rfl, rfl, rfl, by decide +kernel, rfl, by decide +kernel, by decide +kernel⟩
abbrev st_check_coprime_way : Stmt := top 25
abbrev N_check_coprime_way : List Str := ["way"]
theorem sc_check_coprime_way : FnScope N_check_coprime_way ["way"] (defScope st_check_coprime_way) := ⟨rfl, rfl, rfl, by decide +kernel, rfl, by decide +kernel, by decide +kernel⟩
abbrev st_letter_levels : Stmt := top 26
abbrev N_letter_levels : List Str := ["slope", "text", "rises", "steps", "level", "levels", "letter"]
theorem sc_letter_levels : FnScope N_letter_levels ["slope", "text"] (defScope st_letter_levels) := ⟨rfl, rfl, rfl, by decide +kernel, rfl, by decide +kernel, by decide +kernel⟩
abbrev st_is_word : Stmt := top 27
abbrev N_is_word : List Str := ["slope", "value"]
theorem sc_is_word : FnScope N_is_word ["slope", "value"] (defScope st_is_word) := ⟨rfl, rfl, rfl, by decide +kernel, rfl, by decide +kernel, by decide +kernel⟩
abbrev st_is_way : Stmt := top 28
abbrev N_is_way : List Str := ["slope", "value", "level"]
theorem sc_is_way : FnScope N_is_way ["slope", "value"] (defScope st_is_way) := ⟨rfl, rfl, rfl, by decide +kernel, rfl, by decide +kernel, by decide +kernel⟩
abbrev st_Shelf_init : Stmt := inClass (top 30) 0
abbrev N_Shelf_init : List Str := ["self", "slope", "gaps", "gap", "maker"]
theorem sc_Shelf_init : FnScope N_Shelf_init ["self", "slope", "gaps"] (defScope st_Shelf_init) := ⟨rfl, rfl, rfl, by decide +kernel, rfl, by decide +kernel, by decide +kernel⟩
abbrev st_Shelf_of_way : Stmt := inClass (top 30) 1
abbrev N_Shelf_of_way : List Str := ["cls", "way"]
theorem sc_Shelf_of_way : FnScope N_Shelf_of_way ["cls", "way"] (defScope st_Shelf_of_way) := ⟨rfl, rfl, rfl, by decide +kernel, rfl, by decide +kernel, by decide +kernel⟩
abbrev st_Shelf_slope : Stmt := inClass (top 30) 3
abbrev N_Shelf_slope : List Str := ["self"]
theorem sc_Shelf_slope : FnScope N_Shelf_slope ["self"] (defScope st_Shelf_slope) := ⟨rfl, rfl, rfl, by decide +kernel, rfl, by decide +kernel, by decide +kernel⟩
abbrev st_Shelf_gaps : Stmt := inClass (top 30) 4
abbrev N_Shelf_gaps : List Str := ["self"]
theorem sc_Shelf_gaps : FnScope N_Shelf_gaps ["self"] (defScope st_Shelf_gaps) := ⟨rfl, rfl, rfl, by decide +kernel, rfl, by decide +kernel, by decide +kernel⟩
abbrev st_Shelf_way : Stmt := inClass (top 30) 8
abbrev N_Shelf_way : List Str := ["self"]
theorem sc_Shelf_way : FnScope N_Shelf_way ["self"] (defScope st_Shelf_way) := ⟨rfl, rfl, rfl, by decide +kernel, rfl, by decide +kernel, by decide +kernel⟩
abbrev st_Shelf_dual : Stmt := inClass (top 30) 9
abbrev N_Shelf_dual : List Str := ["self", "last", "gap"]
theorem sc_Shelf_dual : FnScope N_Shelf_dual ["self"] (defScope st_Shelf_dual) := ⟨rfl, rfl, rfl, by decide +kernel, rfl, by decide +kernel, by decide +kernel⟩
abbrev st_Shelf_exchanged : Stmt := inClass (top 30) 10
abbrev N_Shelf_exchanged : List Str := ["self"]
theorem sc_Shelf_exchanged : FnScope N_Shelf_exchanged ["self"] (defScope st_Shelf_exchanged) := ⟨rfl, rfl, rfl, by decide +kernel, rfl, by decide +kernel, by decide +kernel⟩
abbrev st_Shelf_eq : Stmt := inClass (top 30) 19
abbrev N_Shelf_eq : List Str := ["self", "other"]
theorem sc_Shelf_eq : FnScope N_Shelf_eq ["self", "other"] (defScope st_Shelf_eq) := ⟨rfl, rfl, rfl, by decide +kernel, rfl, by decide +kernel, by decide +kernel⟩
abbrev st_check_shelf : Stmt := top 31
abbrev N_check_shelf : List Str := ["shelf"]
theorem sc_check_shelf : FnScope N_check_shelf ["shelf"] (defScope st_check_shelf) := ⟨rfl, rfl, rfl, by decide +kernel, rfl, by decide +kernel, by decide +kernel⟩
abbrev st_way_with_rises : Stmt := top 33
abbrev N_way_with_rises : List Str := ["slope", "levels", "level", "letters", "_"]
theorem sc_way_with_rises : FnScope N_way_with_rises ["slope", "levels"] (defScope st_way_with_rises) := ⟨rfl, rfl, rfl, by decide +kernel, rfl, by decide +kernel, by decide +kernel⟩
abbrev st_least_members : Stmt := top 34
abbrev N_least_members : List Str := ["side", "gaps", "members", "gap", "member"]
theorem sc_least_members : FnScope N_least_members ["side", "gaps"] (defScope st_least_members) := ⟨rfl, rfl, rfl, by decide +kernel, rfl, by decide +kernel, by decide +kernel⟩
abbrev st_with_more : Stmt := top 35
abbrev N_with_more : List Str := ["gaps", "more", "gap"]
theorem sc_with_more : FnScope N_with_more ["gaps", "more"] (defScope st_with_more) := ⟨rfl, rfl, rfl, by decide +kernel, rfl, by decide +kernel, by decide +kernel⟩
abbrev st_sides : Stmt := top 36
abbrev N_sides : List Str := ["slope"]
theorem sc_sides : FnScope N_sides ["slope"] (defScope st_sides) := ⟨rfl, rfl, rfl, by decide +kernel, rfl, by decide +kernel, by decide +kernel⟩
abbrev st_members_below : Stmt := top 37
abbrev N_members_below : List Str := ["slope", "gaps", "number", "below", "side", "member"]
theorem sc_members_below : FnScope N_members_below ["slope", "gaps", "number"] (defScope st_members_below) := ⟨rfl, rfl, rfl, by decide +kernel, rfl, by decide +kernel, by decide +kernel⟩
abbrev st_gaps_of : Stmt := top 38
abbrev N_gaps_of : List Str := ["way", "rises", "gaps", "letter", "level"]
theorem sc_gaps_of : FnScope N_gaps_of ["way"] (defScope st_gaps_of) := ⟨rfl, rfl, rfl, by decide +kernel, rfl, by decide +kernel, by decide +kernel⟩
abbrev st_is_gaps : Stmt := top 39
abbrev N_is_gaps : List Str := ["slope", "value", "table", "gap"]
theorem sc_is_gaps : FnScope N_is_gaps ["slope", "value"] (defScope st_is_gaps) := ⟨rfl, rfl, rfl, by decide +kernel, rfl, by decide +kernel, by decide +kernel⟩
abbrev st_Heap_init : Stmt := inClass (top 42) 0
abbrev N_Heap_init : List Str := ["self", "rows", "below", "row"]
theorem sc_Heap_init : FnScope N_Heap_init ["self", "rows"] (defScope st_Heap_init) := ⟨rfl, rfl, rfl, by decide +kernel, rfl, by decide +kernel, by decide +kernel⟩
abbrev st_Heap_of_first_hooks : Stmt := inClass (top 42) 1
abbrev N_Heap_of_first_hooks : List Str := ["cls", "hooks", "rows", "row"]
theorem sc_Heap_of_first_hooks : FnScope N_Heap_of_first_hooks ["cls", "hooks"] (defScope st_Heap_of_first_hooks) := ⟨rfl, rfl, rfl, by decide +kernel, rfl, by decide +kernel, by decide +kernel⟩
abbrev st_Heap_rows : Stmt := inClass (top 42) 2
abbrev N_Heap_rows : List Str := ["self"]
theorem sc_Heap_rows : FnScope N_Heap_rows ["self"] (defScope st_Heap_rows) := ⟨rfl, rfl, rfl, by decide +kernel, rfl, by decide +kernel, by decide +kernel⟩
abbrev st_Heap_size : Stmt := inClass (top 42) 3
abbrev N_Heap_size : List Str := ["self"]
theorem sc_Heap_size : FnScope N_Heap_size ["self"] (defScope st_Heap_size) := ⟨rfl, rfl, rfl, by decide +kernel, rfl, by decide +kernel, by decide +kernel⟩
abbrev st_Heap_first_hooks : Stmt := inClass (top 42) 4
abbrev N_Heap_first_hooks : List Str := ["self"]
theorem sc_Heap_first_hooks : FnScope N_Heap_first_hooks ["self"] (defScope st_Heap_first_hooks) := ⟨rfl, rfl, rfl, by decide +kernel, rfl, by decide +kernel, by decide +kernel⟩
abbrev st_Heap_turned : Stmt := inClass (top 42) 5
abbrev N_Heap_turned : List Str := ["self", "width", "column", "row"]
theorem sc_Heap_turned : FnScope N_Heap_turned ["self"] (defScope st_Heap_turned) := ⟨rfl, rfl, rfl, by decide +kernel, rfl, by decide +kernel, by decide +kernel⟩
abbrev st_Heap_hooks : Stmt := inClass (top 42) 6
abbrev N_Heap_hooks : List Str := ["self", "columns", "hooks", "at", "row", "column"]
theorem sc_Heap_hooks : FnScope N_Heap_hooks ["self"] (defScope st_Heap_hooks) := ⟨rfl, rfl, rfl, by decide +kernel, rfl, by decide +kernel, by decide +kernel⟩
abbrev st_Heap_len : Stmt := inClass (top 42) 13
abbrev N_Heap_len : List Str := ["self"]
theorem sc_Heap_len : FnScope N_Heap_len ["self"] (defScope st_Heap_len) := ⟨rfl, rfl, rfl, by decide +kernel, rfl, by decide +kernel, by decide +kernel⟩
abbrev st_Heap_eq : Stmt := inClass (top 42) 16
abbrev N_Heap_eq : List Str := ["self", "other"]
theorem sc_Heap_eq : FnScope N_Heap_eq ["self", "other"] (defScope st_Heap_eq) := ⟨rfl, rfl, rfl, by decide +kernel, rfl, by decide +kernel, by decide +kernel⟩
abbrev st_check_heap : Stmt := top 43
abbrev N_check_heap : List Str := ["heap"]
theorem sc_check_heap : FnScope N_check_heap ["heap"] (defScope st_check_heap) := ⟨rfl, rfl, rfl, by decide +kernel, rfl, by decide +kernel, by decide +kernel⟩
abbrev st_is_heap_rows : Stmt := top 44
abbrev N_is_heap_rows : List Str := ["value", "most", "row"]
theorem sc_is_heap_rows : FnScope N_is_heap_rows ["value"] (defScope st_is_heap_rows) := ⟨rfl, rfl, rfl, by decide +kernel, rfl, by decide +kernel, by decide +kernel⟩
abbrev st_rows_of_hooks : Stmt := top 45
abbrev N_rows_of_hooks : List Str := ["hooks", "rows", "below", "hook", "row"]
theorem sc_rows_of_hooks : FnScope N_rows_of_hooks ["hooks"] (defScope st_rows_of_hooks) := ⟨rfl, rfl, rfl, by decide +kernel, rfl, by decide +kernel, by decide +kernel⟩
abbrev st_heap_of : Stmt := top 46
abbrev N_heap_of : List Str := ["shelf"]
theorem sc_heap_of : FnScope N_heap_of ["shelf"] (defScope st_heap_of) := ⟨rfl, rfl, rfl, by decide +kernel, rfl, by decide +kernel, by decide +kernel⟩
abbrev st_shelf_of : Stmt := top 47
abbrev N_shelf_of : List Str := ["slope", "heap", "row", "hooks", "column", "hook"]
theorem sc_shelf_of : FnScope N_shelf_of ["slope", "heap"] (defScope st_shelf_of) := ⟨rfl, rfl, rfl, by decide +kernel, rfl, by decide +kernel, by decide +kernel⟩
abbrev st_law_dice : Stmt := top 49
abbrev N_law_dice : List Str := ["_law_script", "_law_spot", "_law_cell", "_law_left"]
theorem sc_law_dice : FnScope N_law_dice ["_law_script", "_law_spot"] (defScope st_law_dice) := ⟨rfl, rfl, rfl, by decide +kernel, rfl, by decide +kernel, by decide +kernel⟩
abbrev st_law_roll : Stmt := top 50
abbrev N_law_roll : List Str := ["_law_dice_here", "_law_total", "_law_found", "_law_one", "_law_two"]
theorem sc_law_roll : FnScope N_law_roll ["_law_dice_here", "_law_total"] (defScope st_law_roll) := ⟨rfl, rfl, rfl, by decide +kernel, rfl, by decide +kernel, by decide +kernel⟩
abbrev st_law_slope : Stmt := top 51
abbrev N_law_slope : List Str := ["_law_dice_here", "_law_total", "_law_rises", "_law_steps", "_law_one", "_law_other"]
theorem sc_law_slope : FnScope N_law_slope ["_law_dice_here", "_law_total"] (defScope st_law_slope) := ⟨rfl, rfl, rfl, by decide +kernel, rfl, by decide +kernel, by decide +kernel⟩
abbrev st_law_way : Stmt := top 52
abbrev N_law_way : List Str := ["_law_dice_here", "_law_rises", "_law_steps", "_law_found", "_law_level", "_law_left", "_law_more", "_law_turn"]
theorem sc_law_way : FnScope N_law_way ["_law_dice_here", "_law_rises", "_law_steps"] (defScope st_law_way) := ⟨rfl, rfl, rfl, by decide +kernel, rfl, by decide +kernel, by decide +kernel⟩
abbrev st_law_levels : Stmt := top 53
abbrev N_law_levels : List Str := ["_law_rises", "_law_steps", "_law_text", "_law_found", "_law_level", "_law_sign"]
theorem sc_law_levels : FnScope N_law_levels ["_law_rises", "_law_steps", "_law_text"] (defScope st_law_levels) := ⟨rfl, rfl, rfl, by decide +kernel, rfl, by decide +kernel, by decide +kernel⟩
abbrev st_law_makers : Stmt := top 54
abbrev N_law_makers : List Str := ["_law_rises", "_law_steps", "_law_text", "_law_level", "_law_sign"]
theorem sc_law_makers : FnScope N_law_makers ["_law_rises", "_law_steps", "_law_text"] (defScope st_law_makers) := ⟨rfl, rfl, rfl, by decide +kernel, rfl, by decide +kernel, by decide +kernel⟩
abbrev st_law_gaps : Stmt := top 55
abbrev N_law_gaps : List Str := ["_law_rises", "_law_makers_here", "_law_found", "_law_maker", "_law_back"]
theorem sc_law_gaps : FnScope N_law_gaps ["_law_rises", "_law_makers_here"] (defScope st_law_gaps) := ⟨rfl, rfl, rfl, by decide +kernel, rfl, by decide +kernel, by decide +kernel⟩
abbrev st_law_squares : Stmt := top 56
abbrev N_law_squares : List Str := ["_law_rows", "_law_found", "_law_row", "_law_count", "_law_column"]
theorem sc_law_squares : FnScope N_law_squares ["_law_rows"] (defScope st_law_squares) := ⟨rfl, rfl, rfl, by decide +kernel, rfl, by decide +kernel, by decide +kernel⟩
abbrev st_law_rows_of : Stmt := top 57
abbrev N_law_rows_of : List Str := ["_law_squares_here", "_law_found", "_law_row", "_law_count", "_law_square"]
theorem sc_law_rows_of : FnScope N_law_rows_of ["_law_squares_here"] (defScope st_law_rows_of) := ⟨rfl, rfl, rfl, by decide +kernel, rfl, by decide +kernel, by decide +kernel⟩
abbrev st_law_turned_rows : Stmt := top 58
abbrev N_law_turned_rows : List Str := ["_law_rows", "_law_row", "_law_column"]
theorem sc_law_turned_rows : FnScope N_law_turned_rows ["_law_rows"] (defScope st_law_turned_rows) := ⟨rfl, rfl, rfl, by decide +kernel, rfl, by decide +kernel, by decide +kernel⟩
abbrev st_law_gaps_of : Stmt := top 59
abbrev N_law_gaps_of : List Str := ["_law_rises", "_law_steps", "_law_text"]
theorem sc_law_gaps_of : FnScope N_law_gaps_of ["_law_rises", "_law_steps", "_law_text"] (defScope st_law_gaps_of) := ⟨rfl, rfl, rfl, by decide +kernel, rfl, by decide +kernel, by decide +kernel⟩
abbrev st_law_dual : Stmt := top 60
abbrev N_law_dual : List Str := ["_law_gaps_here", "_law_last", "_law_number"]
theorem sc_law_dual : FnScope N_law_dual ["_law_gaps_here"] (defScope st_law_dual) := ⟨rfl, rfl, rfl, by decide +kernel, rfl, by decide +kernel, by decide +kernel⟩
abbrev st_law : Stmt := top 61
abbrev N_law : List Str := ["_law_script", "_law_spot", "_law_dice_here", "_law_rises", "_law_steps", "_law_slope_here", "_law_text", "_law_gaps_here", "_law_way_here", "_law_shelf", "_law_heap", "_law_dual_here"]
theorem sc_law : FnScope N_law ["_law_script"] (defScope st_law) := ⟨rfl, rfl, rfl, by decide +kernel, rfl, by decide +kernel, by decide +kernel⟩
structure Tx (K : PySem.W.Frag) (mg : Str → Option Value) where
  C_Slope : Addr
  C_Way : Addr
  C_Shelf : Addr
  C_Heap : Addr
  a_is_number : Addr
  d_is_number : FuncData
  F_is_number : Fun K "is_number" "is_number" st_is_number a_is_number d_is_number
  b_is_number : Binds K d_is_number ["value"] []
  g_is_number : mg "is_number" = some (.ref a_is_number)
  a_is_whole_between : Addr
  d_is_whole_between : FuncData
  F_is_whole_between : Fun K "is_whole_between" "is_whole_between" st_is_whole_between a_is_whole_between d_is_whole_between
  b_is_whole_between : Binds K d_is_whole_between ["value", "least", "most"] []
  g_is_whole_between : mg "is_whole_between" = some (.ref a_is_whole_between)
  a_is_ascending : Addr
  d_is_ascending : FuncData
  F_is_ascending : Fun K "is_ascending" "is_ascending" st_is_ascending a_is_ascending d_is_ascending
  b_is_ascending : Binds K d_is_ascending ["value", "least", "most"] []
  g_is_ascending : mg "is_ascending" = some (.ref a_is_ascending)
  a_Slope_init : Addr
  d_Slope_init : FuncData
  F_Slope_init : Fun K "__init__" "Slope.__init__" st_Slope_init a_Slope_init d_Slope_init
  b_Slope_init : Binds K d_Slope_init ["self", "rises", "steps"] []
  a_Slope_rises : Addr
  d_Slope_rises : FuncData
  F_Slope_rises : Fun K "rises" "Slope.rises" st_Slope_rises a_Slope_rises d_Slope_rises
  b_Slope_rises : Binds K d_Slope_rises ["self"] []
  a_Slope_steps : Addr
  d_Slope_steps : FuncData
  F_Slope_steps : Fun K "steps" "Slope.steps" st_Slope_steps a_Slope_steps d_Slope_steps
  b_Slope_steps : Binds K d_Slope_steps ["self"] []
  a_Slope_common : Addr
  d_Slope_common : FuncData
  F_Slope_common : Fun K "common" "Slope.common" st_Slope_common a_Slope_common d_Slope_common
  b_Slope_common : Binds K d_Slope_common ["self"] []
  a_Slope_is_coprime : Addr
  d_Slope_is_coprime : FuncData
  F_Slope_is_coprime : Fun K "is_coprime" "Slope.is_coprime" st_Slope_is_coprime a_Slope_is_coprime d_Slope_is_coprime
  b_Slope_is_coprime : Binds K d_Slope_is_coprime ["self"] []
  a_Slope_half : Addr
  d_Slope_half : FuncData
  F_Slope_half : Fun K "half" "Slope.half" st_Slope_half a_Slope_half d_Slope_half
  b_Slope_half : Binds K d_Slope_half ["self"] []
  a_Slope_exchanged : Addr
  d_Slope_exchanged : FuncData
  F_Slope_exchanged : Fun K "exchanged" "Slope.exchanged" st_Slope_exchanged a_Slope_exchanged d_Slope_exchanged
  b_Slope_exchanged : Binds K d_Slope_exchanged ["self"] []
  a_Slope_eq : Addr
  d_Slope_eq : FuncData
  F_Slope_eq : Fun K "__eq__" "Slope.__eq__" st_Slope_eq a_Slope_eq d_Slope_eq
  b_Slope_eq : Binds K d_Slope_eq ["self", "other"] []
  a_Way_init : Addr
  d_Way_init : FuncData
  F_Way_init : Fun K "__init__" "Way.__init__" st_Way_init a_Way_init d_Way_init
  b_Way_init : Binds K d_Way_init ["self", "slope", "text"] []
  a_Way_slope : Addr
  d_Way_slope : FuncData
  F_Way_slope : Fun K "slope" "Way.slope" st_Way_slope a_Way_slope d_Way_slope
  b_Way_slope : Binds K d_Way_slope ["self"] []
  a_Way_text : Addr
  d_Way_text : FuncData
  F_Way_text : Fun K "text" "Way.text" st_Way_text a_Way_text d_Way_text
  b_Way_text : Binds K d_Way_text ["self"] []
  a_Way_levels : Addr
  d_Way_levels : FuncData
  F_Way_levels : Fun K "levels" "Way.levels" st_Way_levels a_Way_levels d_Way_levels
  b_Way_levels : Binds K d_Way_levels ["self"] []
  a_Way_exchanged : Addr
  d_Way_exchanged : FuncData
  F_Way_exchanged : Fun K "exchanged" "Way.exchanged" st_Way_exchanged a_Way_exchanged d_Way_exchanged
  b_Way_exchanged : Binds K d_Way_exchanged ["self"] []
  a_Way_eq : Addr
  d_Way_eq : FuncData
  F_Way_eq : Fun K "__eq__" "Way.__eq__" st_Way_eq a_Way_eq d_Way_eq
  b_Way_eq : Binds K d_Way_eq ["self", "other"] []
  a_check_slope : Addr
  d_check_slope : FuncData
  F_check_slope : Fun K "check_slope" "check_slope" st_check_slope a_check_slope d_check_slope
  b_check_slope : Binds K d_check_slope ["slope"] []
  g_check_slope : mg "check_slope" = some (.ref a_check_slope)
  a_check_way : Addr
  d_check_way : FuncData
  F_check_way : Fun K "check_way" "check_way" st_check_way a_check_way d_check_way
  b_check_way : Binds K d_check_way ["way"] []
  g_check_way : mg "check_way" = some (.ref a_check_way)
  a_check_coprime : Addr
  d_check_coprime : FuncData
  F_check_coprime : Fun K "check_coprime" "check_coprime" st_check_coprime a_check_coprime d_check_coprime
  b_check_coprime : Binds K d_check_coprime ["slope"] []
  g_check_coprime : mg "check_coprime" = some (.ref a_check_coprime)
  a_check_coprime_way : Addr
  d_check_coprime_way : FuncData
  F_check_coprime_way : Fun K "check_coprime_way" "check_coprime_way" st_check_coprime_way a_check_coprime_way d_check_coprime_way
  b_check_coprime_way : Binds K d_check_coprime_way ["way"] []
  g_check_coprime_way : mg "check_coprime_way" = some (.ref a_check_coprime_way)
  a_letter_levels : Addr
  d_letter_levels : FuncData
  F_letter_levels : Fun K "letter_levels" "letter_levels" st_letter_levels a_letter_levels d_letter_levels
  b_letter_levels : Binds K d_letter_levels ["slope", "text"] []
  g_letter_levels : mg "letter_levels" = some (.ref a_letter_levels)
  a_is_word : Addr
  d_is_word : FuncData
  F_is_word : Fun K "is_word" "is_word" st_is_word a_is_word d_is_word
  b_is_word : Binds K d_is_word ["slope", "value"] []
  g_is_word : mg "is_word" = some (.ref a_is_word)
  a_is_way : Addr
  d_is_way : FuncData
  F_is_way : Fun K "is_way" "is_way" st_is_way a_is_way d_is_way
  b_is_way : Binds K d_is_way ["slope", "value"] []
  g_is_way : mg "is_way" = some (.ref a_is_way)
  a_Shelf_init : Addr
  d_Shelf_init : FuncData
  e_Shelf_init : Addr
  F_Shelf_init : FunD K "__init__" "Shelf.__init__" (defArgs st_Shelf_init) (defBody st_Shelf_init) (defScope st_Shelf_init) [.ref e_Shelf_init] [] a_Shelf_init d_Shelf_init
  et_Shelf_init : ∀ H, SqT K H e_Shelf_init []
  b_Shelf_init : Binds K d_Shelf_init ["self", "slope", "gaps"] []
  bd_Shelf_init : Binds K d_Shelf_init ["self", "slope", "gaps"] [.ref e_Shelf_init]
  a_Shelf_of_way : Addr
  d_Shelf_of_way : FuncData
  F_Shelf_of_way : Fun K "of_way" "Shelf.of_way" st_Shelf_of_way a_Shelf_of_way d_Shelf_of_way
  b_Shelf_of_way : Binds K d_Shelf_of_way ["cls", "way"] []
  a_Shelf_slope : Addr
  d_Shelf_slope : FuncData
  F_Shelf_slope : Fun K "slope" "Shelf.slope" st_Shelf_slope a_Shelf_slope d_Shelf_slope
  b_Shelf_slope : Binds K d_Shelf_slope ["self"] []
  a_Shelf_gaps : Addr
  d_Shelf_gaps : FuncData
  F_Shelf_gaps : Fun K "gaps" "Shelf.gaps" st_Shelf_gaps a_Shelf_gaps d_Shelf_gaps
  b_Shelf_gaps : Binds K d_Shelf_gaps ["self"] []
  a_Shelf_way : Addr
  d_Shelf_way : FuncData
  F_Shelf_way : Fun K "way" "Shelf.way" st_Shelf_way a_Shelf_way d_Shelf_way
  b_Shelf_way : Binds K d_Shelf_way ["self"] []
  a_Shelf_dual : Addr
  d_Shelf_dual : FuncData
  F_Shelf_dual : Fun K "dual" "Shelf.dual" st_Shelf_dual a_Shelf_dual d_Shelf_dual
  b_Shelf_dual : Binds K d_Shelf_dual ["self"] []
  a_Shelf_exchanged : Addr
  d_Shelf_exchanged : FuncData
  F_Shelf_exchanged : Fun K "exchanged" "Shelf.exchanged" st_Shelf_exchanged a_Shelf_exchanged d_Shelf_exchanged
  b_Shelf_exchanged : Binds K d_Shelf_exchanged ["self"] []
  a_Shelf_eq : Addr
  d_Shelf_eq : FuncData
  F_Shelf_eq : Fun K "__eq__" "Shelf.__eq__" st_Shelf_eq a_Shelf_eq d_Shelf_eq
  b_Shelf_eq : Binds K d_Shelf_eq ["self", "other"] []
  a_check_shelf : Addr
  d_check_shelf : FuncData
  F_check_shelf : Fun K "check_shelf" "check_shelf" st_check_shelf a_check_shelf d_check_shelf
  b_check_shelf : Binds K d_check_shelf ["shelf"] []
  g_check_shelf : mg "check_shelf" = some (.ref a_check_shelf)
  a_way_with_rises : Addr
  d_way_with_rises : FuncData
  F_way_with_rises : Fun K "way_with_rises" "way_with_rises" st_way_with_rises a_way_with_rises d_way_with_rises
  b_way_with_rises : Binds K d_way_with_rises ["slope", "levels"] []
  g_way_with_rises : mg "way_with_rises" = some (.ref a_way_with_rises)
  a_least_members : Addr
  d_least_members : FuncData
  F_least_members : Fun K "least_members" "least_members" st_least_members a_least_members d_least_members
  b_least_members : Binds K d_least_members ["side", "gaps"] []
  g_least_members : mg "least_members" = some (.ref a_least_members)
  a_with_more : Addr
  d_with_more : FuncData
  F_with_more : Fun K "with_more" "with_more" st_with_more a_with_more d_with_more
  b_with_more : Binds K d_with_more ["gaps", "more"] []
  g_with_more : mg "with_more" = some (.ref a_with_more)
  a_sides : Addr
  d_sides : FuncData
  F_sides : Fun K "sides" "sides" st_sides a_sides d_sides
  b_sides : Binds K d_sides ["slope"] []
  g_sides : mg "sides" = some (.ref a_sides)
  a_members_below : Addr
  d_members_below : FuncData
  F_members_below : Fun K "members_below" "members_below" st_members_below a_members_below d_members_below
  b_members_below : Binds K d_members_below ["slope", "gaps", "number"] []
  g_members_below : mg "members_below" = some (.ref a_members_below)
  a_gaps_of : Addr
  d_gaps_of : FuncData
  F_gaps_of : Fun K "gaps_of" "gaps_of" st_gaps_of a_gaps_of d_gaps_of
  b_gaps_of : Binds K d_gaps_of ["way"] []
  g_gaps_of : mg "gaps_of" = some (.ref a_gaps_of)
  a_is_gaps : Addr
  d_is_gaps : FuncData
  F_is_gaps : Fun K "is_gaps" "is_gaps" st_is_gaps a_is_gaps d_is_gaps
  b_is_gaps : Binds K d_is_gaps ["slope", "value"] []
  g_is_gaps : mg "is_gaps" = some (.ref a_is_gaps)
  a_Heap_init : Addr
  d_Heap_init : FuncData
  e_Heap_init : Addr
  F_Heap_init : FunD K "__init__" "Heap.__init__" (defArgs st_Heap_init) (defBody st_Heap_init) (defScope st_Heap_init) [.ref e_Heap_init] [] a_Heap_init d_Heap_init
  et_Heap_init : ∀ H, SqT K H e_Heap_init []
  b_Heap_init : Binds K d_Heap_init ["self", "rows"] []
  bd_Heap_init : Binds K d_Heap_init ["self", "rows"] [.ref e_Heap_init]
  a_Heap_of_first_hooks : Addr
  d_Heap_of_first_hooks : FuncData
  F_Heap_of_first_hooks : Fun K "of_first_hooks" "Heap.of_first_hooks" st_Heap_of_first_hooks a_Heap_of_first_hooks d_Heap_of_first_hooks
  b_Heap_of_first_hooks : Binds K d_Heap_of_first_hooks ["cls", "hooks"] []
  a_Heap_rows : Addr
  d_Heap_rows : FuncData
  F_Heap_rows : Fun K "rows" "Heap.rows" st_Heap_rows a_Heap_rows d_Heap_rows
  b_Heap_rows : Binds K d_Heap_rows ["self"] []
  a_Heap_size : Addr
  d_Heap_size : FuncData
  F_Heap_size : Fun K "size" "Heap.size" st_Heap_size a_Heap_size d_Heap_size
  b_Heap_size : Binds K d_Heap_size ["self"] []
  a_Heap_first_hooks : Addr
  d_Heap_first_hooks : FuncData
  F_Heap_first_hooks : Fun K "first_hooks" "Heap.first_hooks" st_Heap_first_hooks a_Heap_first_hooks d_Heap_first_hooks
  b_Heap_first_hooks : Binds K d_Heap_first_hooks ["self"] []
  a_Heap_turned : Addr
  d_Heap_turned : FuncData
  F_Heap_turned : Fun K "turned" "Heap.turned" st_Heap_turned a_Heap_turned d_Heap_turned
  b_Heap_turned : Binds K d_Heap_turned ["self"] []
  a_Heap_hooks : Addr
  d_Heap_hooks : FuncData
  F_Heap_hooks : Fun K "hooks" "Heap.hooks" st_Heap_hooks a_Heap_hooks d_Heap_hooks
  b_Heap_hooks : Binds K d_Heap_hooks ["self"] []
  a_Heap_len : Addr
  d_Heap_len : FuncData
  F_Heap_len : Fun K "__len__" "Heap.__len__" st_Heap_len a_Heap_len d_Heap_len
  b_Heap_len : Binds K d_Heap_len ["self"] []
  a_Heap_eq : Addr
  d_Heap_eq : FuncData
  F_Heap_eq : Fun K "__eq__" "Heap.__eq__" st_Heap_eq a_Heap_eq d_Heap_eq
  b_Heap_eq : Binds K d_Heap_eq ["self", "other"] []
  a_check_heap : Addr
  d_check_heap : FuncData
  F_check_heap : Fun K "check_heap" "check_heap" st_check_heap a_check_heap d_check_heap
  b_check_heap : Binds K d_check_heap ["heap"] []
  g_check_heap : mg "check_heap" = some (.ref a_check_heap)
  a_is_heap_rows : Addr
  d_is_heap_rows : FuncData
  F_is_heap_rows : Fun K "is_heap_rows" "is_heap_rows" st_is_heap_rows a_is_heap_rows d_is_heap_rows
  b_is_heap_rows : Binds K d_is_heap_rows ["value"] []
  g_is_heap_rows : mg "is_heap_rows" = some (.ref a_is_heap_rows)
  a_rows_of_hooks : Addr
  d_rows_of_hooks : FuncData
  F_rows_of_hooks : Fun K "rows_of_hooks" "rows_of_hooks" st_rows_of_hooks a_rows_of_hooks d_rows_of_hooks
  b_rows_of_hooks : Binds K d_rows_of_hooks ["hooks"] []
  g_rows_of_hooks : mg "rows_of_hooks" = some (.ref a_rows_of_hooks)
  a_heap_of : Addr
  d_heap_of : FuncData
  F_heap_of : Fun K "heap_of" "heap_of" st_heap_of a_heap_of d_heap_of
  b_heap_of : Binds K d_heap_of ["shelf"] []
  g_heap_of : mg "heap_of" = some (.ref a_heap_of)
  a_shelf_of : Addr
  d_shelf_of : FuncData
  F_shelf_of : Fun K "shelf_of" "shelf_of" st_shelf_of a_shelf_of d_shelf_of
  b_shelf_of : Binds K d_shelf_of ["slope", "heap"] []
  g_shelf_of : mg "shelf_of" = some (.ref a_shelf_of)
  a_law_dice : Addr
  d_law_dice : FuncData
  F_law_dice : Fun K "_law_dice" "_law_dice" st_law_dice a_law_dice d_law_dice
  b_law_dice : Binds K d_law_dice ["_law_script", "_law_spot"] []
  g_law_dice : mg "_law_dice" = some (.ref a_law_dice)
  a_law_roll : Addr
  d_law_roll : FuncData
  F_law_roll : Fun K "_law_roll" "_law_roll" st_law_roll a_law_roll d_law_roll
  b_law_roll : Binds K d_law_roll ["_law_dice_here", "_law_total"] []
  g_law_roll : mg "_law_roll" = some (.ref a_law_roll)
  a_law_slope : Addr
  d_law_slope : FuncData
  F_law_slope : Fun K "_law_slope" "_law_slope" st_law_slope a_law_slope d_law_slope
  b_law_slope : Binds K d_law_slope ["_law_dice_here", "_law_total"] []
  g_law_slope : mg "_law_slope" = some (.ref a_law_slope)
  a_law_way : Addr
  d_law_way : FuncData
  F_law_way : Fun K "_law_way" "_law_way" st_law_way a_law_way d_law_way
  b_law_way : Binds K d_law_way ["_law_dice_here", "_law_rises", "_law_steps"] []
  g_law_way : mg "_law_way" = some (.ref a_law_way)
  a_law_levels : Addr
  d_law_levels : FuncData
  F_law_levels : Fun K "_law_levels" "_law_levels" st_law_levels a_law_levels d_law_levels
  b_law_levels : Binds K d_law_levels ["_law_rises", "_law_steps", "_law_text"] []
  g_law_levels : mg "_law_levels" = some (.ref a_law_levels)
  a_law_makers : Addr
  d_law_makers : FuncData
  F_law_makers : Fun K "_law_makers" "_law_makers" st_law_makers a_law_makers d_law_makers
  b_law_makers : Binds K d_law_makers ["_law_rises", "_law_steps", "_law_text"] []
  g_law_makers : mg "_law_makers" = some (.ref a_law_makers)
  a_law_gaps : Addr
  d_law_gaps : FuncData
  F_law_gaps : Fun K "_law_gaps" "_law_gaps" st_law_gaps a_law_gaps d_law_gaps
  b_law_gaps : Binds K d_law_gaps ["_law_rises", "_law_makers_here"] []
  g_law_gaps : mg "_law_gaps" = some (.ref a_law_gaps)
  a_law_squares : Addr
  d_law_squares : FuncData
  F_law_squares : Fun K "_law_squares" "_law_squares" st_law_squares a_law_squares d_law_squares
  b_law_squares : Binds K d_law_squares ["_law_rows"] []
  g_law_squares : mg "_law_squares" = some (.ref a_law_squares)
  a_law_rows_of : Addr
  d_law_rows_of : FuncData
  F_law_rows_of : Fun K "_law_rows_of" "_law_rows_of" st_law_rows_of a_law_rows_of d_law_rows_of
  b_law_rows_of : Binds K d_law_rows_of ["_law_squares_here"] []
  g_law_rows_of : mg "_law_rows_of" = some (.ref a_law_rows_of)
  a_law_turned_rows : Addr
  d_law_turned_rows : FuncData
  F_law_turned_rows : Fun K "_law_turned_rows" "_law_turned_rows" st_law_turned_rows a_law_turned_rows d_law_turned_rows
  b_law_turned_rows : Binds K d_law_turned_rows ["_law_rows"] []
  g_law_turned_rows : mg "_law_turned_rows" = some (.ref a_law_turned_rows)
  a_law_gaps_of : Addr
  d_law_gaps_of : FuncData
  F_law_gaps_of : Fun K "_law_gaps_of" "_law_gaps_of" st_law_gaps_of a_law_gaps_of d_law_gaps_of
  b_law_gaps_of : Binds K d_law_gaps_of ["_law_rises", "_law_steps", "_law_text"] []
  g_law_gaps_of : mg "_law_gaps_of" = some (.ref a_law_gaps_of)
  a_law_dual : Addr
  d_law_dual : FuncData
  F_law_dual : Fun K "_law_dual" "_law_dual" st_law_dual a_law_dual d_law_dual
  b_law_dual : Binds K d_law_dual ["_law_gaps_here"] []
  g_law_dual : mg "_law_dual" = some (.ref a_law_dual)
  a_law : Addr
  d_law : FuncData
  F_law : Fun K "law" "law" st_law a_law d_law
  b_law : Binds K d_law ["_law_script"] []
  g_law : mg "law" = some (.ref a_law)
  g_Slope : mg "Slope" = some (.ref C_Slope)
  cl_Slope : Cls K C_Slope
  na_Slope_rises : NoAttr K C_Slope "_rises"
  na_Slope_steps : NoAttr K C_Slope "_steps"
  na_Slope_common : NoAttr K C_Slope "_common"
  mk_Slope : Mk K C_Slope a_Slope_init
  me_Slope_exchanged : Meth K C_Slope "exchanged" a_Slope_exchanged
  me_Slope_eq : Meth K C_Slope "__eq__" a_Slope_eq
  p_Slope_rises : Addr
  pr_Slope_rises : PropOf K C_Slope "rises" p_Slope_rises a_Slope_rises
  p_Slope_steps : Addr
  pr_Slope_steps : PropOf K C_Slope "steps" p_Slope_steps a_Slope_steps
  p_Slope_common : Addr
  pr_Slope_common : PropOf K C_Slope "common" p_Slope_common a_Slope_common
  p_Slope_is_coprime : Addr
  pr_Slope_is_coprime : PropOf K C_Slope "is_coprime" p_Slope_is_coprime a_Slope_is_coprime
  p_Slope_half : Addr
  pr_Slope_half : PropOf K C_Slope "half" p_Slope_half a_Slope_half
  ic_Slope : PySem.W.findIn K (.ref C_Slope) "__class__" = some (some (.builtin "object.__class__"))
  mr_Slope : PySem.W.mroIn K C_Slope (.type "object") = some true
  ks_Slope : PySem.W.kitOne K (.ref C_Slope) (.ref C_Slope) = some true
  nn_Slope : PySem.W.findIn K (.ref C_Slope) "__ne__" = some (some (.builtin "object.__ne__"))
  g_Way : mg "Way" = some (.ref C_Way)
  cl_Way : Cls K C_Way
  na_Way_slope : NoAttr K C_Way "_slope"
  na_Way_text : NoAttr K C_Way "_text"
  na_Way_levels : NoAttr K C_Way "_levels"
  na_Way_runs : NoAttr K C_Way "_runs"
  na_Way_key : NoAttr K C_Way "_key"
  mk_Way : Mk K C_Way a_Way_init
  me_Way_exchanged : Meth K C_Way "exchanged" a_Way_exchanged
  me_Way_eq : Meth K C_Way "__eq__" a_Way_eq
  p_Way_slope : Addr
  pr_Way_slope : PropOf K C_Way "slope" p_Way_slope a_Way_slope
  p_Way_text : Addr
  pr_Way_text : PropOf K C_Way "text" p_Way_text a_Way_text
  p_Way_levels : Addr
  pr_Way_levels : PropOf K C_Way "levels" p_Way_levels a_Way_levels
  ic_Way : PySem.W.findIn K (.ref C_Way) "__class__" = some (some (.builtin "object.__class__"))
  mr_Way : PySem.W.mroIn K C_Way (.type "object") = some true
  ks_Way : PySem.W.kitOne K (.ref C_Way) (.ref C_Way) = some true
  nn_Way : PySem.W.findIn K (.ref C_Way) "__ne__" = some (some (.builtin "object.__ne__"))
  g_Shelf : mg "Shelf" = some (.ref C_Shelf)
  cl_Shelf : Cls K C_Shelf
  na_Shelf_slope : NoAttr K C_Shelf "_slope"
  na_Shelf_gaps : NoAttr K C_Shelf "_gaps"
  na_Shelf_gap_table : NoAttr K C_Shelf "_gap_table"
  na_Shelf_rise_makers : NoAttr K C_Shelf "_rise_makers"
  na_Shelf_step_makers : NoAttr K C_Shelf "_step_makers"
  na_Shelf_makers : NoAttr K C_Shelf "_makers"
  mk_Shelf : Mk K C_Shelf a_Shelf_init
  me_Shelf_way : Meth K C_Shelf "way" a_Shelf_way
  me_Shelf_dual : Meth K C_Shelf "dual" a_Shelf_dual
  me_Shelf_exchanged : Meth K C_Shelf "exchanged" a_Shelf_exchanged
  me_Shelf_eq : Meth K C_Shelf "__eq__" a_Shelf_eq
  mc_Shelf : Value
  cr_Shelf : ClX.CRead K C_Shelf mc_Shelf
  p_Shelf_of_way : Addr
  cm_Shelf_of_way : ClX.CMet K C_Shelf mc_Shelf "of_way" p_Shelf_of_way a_Shelf_of_way
  p_Shelf_slope : Addr
  pr_Shelf_slope : PropOf K C_Shelf "slope" p_Shelf_slope a_Shelf_slope
  p_Shelf_gaps : Addr
  pr_Shelf_gaps : PropOf K C_Shelf "gaps" p_Shelf_gaps a_Shelf_gaps
  ic_Shelf : PySem.W.findIn K (.ref C_Shelf) "__class__" = some (some (.builtin "object.__class__"))
  mr_Shelf : PySem.W.mroIn K C_Shelf (.type "object") = some true
  ks_Shelf : PySem.W.kitOne K (.ref C_Shelf) (.ref C_Shelf) = some true
  nn_Shelf : PySem.W.findIn K (.ref C_Shelf) "__ne__" = some (some (.builtin "object.__ne__"))
  g_Heap : mg "Heap" = some (.ref C_Heap)
  cl_Heap : Cls K C_Heap
  na_Heap_rows : NoAttr K C_Heap "_rows"
  na_Heap_size : NoAttr K C_Heap "_size"
  na_Heap_first_hooks : NoAttr K C_Heap "_first_hooks"
  na_Heap_key : NoAttr K C_Heap "_key"
  mk_Heap : Mk K C_Heap a_Heap_init
  me_Heap_turned : Meth K C_Heap "turned" a_Heap_turned
  me_Heap_hooks : Meth K C_Heap "hooks" a_Heap_hooks
  me_Heap_len : Meth K C_Heap "__len__" a_Heap_len
  me_Heap_eq : Meth K C_Heap "__eq__" a_Heap_eq
  mc_Heap : Value
  cr_Heap : ClX.CRead K C_Heap mc_Heap
  p_Heap_of_first_hooks : Addr
  cm_Heap_of_first_hooks : ClX.CMet K C_Heap mc_Heap "of_first_hooks" p_Heap_of_first_hooks a_Heap_of_first_hooks
  p_Heap_rows : Addr
  pr_Heap_rows : PropOf K C_Heap "rows" p_Heap_rows a_Heap_rows
  p_Heap_size : Addr
  pr_Heap_size : PropOf K C_Heap "size" p_Heap_size a_Heap_size
  p_Heap_first_hooks : Addr
  pr_Heap_first_hooks : PropOf K C_Heap "first_hooks" p_Heap_first_hooks a_Heap_first_hooks
  ic_Heap : PySem.W.findIn K (.ref C_Heap) "__class__" = some (some (.builtin "object.__class__"))
  mr_Heap : PySem.W.mroIn K C_Heap (.type "object") = some true
  ks_Heap : PySem.W.kitOne K (.ref C_Heap) (.ref C_Heap) = some true
  nn_Heap : PySem.W.findIn K (.ref C_Heap) "__ne__" = some (some (.builtin "object.__ne__"))
  cg : PySem.W.specialIn K (.builtin "object.__class__") "__get__" = some (some (.builtin "getset_descriptor.__get__"))
  ct : PySem.W.takesIn K (.builtin "object.__class__") = some true
  n_abs : mg "abs" = none
  n_any : mg "any" = none
  n_bool : mg "bool" = none
  n_enumerate : mg "enumerate" = none
  n_int : mg "int" = none
  n_isinstance : mg "isinstance" = none
  n_len : mg "len" = none
  n_list : mg "list" = none
  n_max : mg "max" = none
  n_min : mg "min" = none
  n_range : mg "range" = none
  n_sorted : mg "sorted" = none
  n_str : mg "str" = none
  n_sum : mg "sum" = none
  n_tuple : mg "tuple" = none
  n_zip : mg "zip" = none
  i_gcd : mg "gcd" = some (.builtin "math.gcd")
  c_GREATEST : ∃ u, mg "GREATEST" = some u ∧ RelV (.int 999999999999999999999999999999999999999999999999999999999999) u
  c_MAX_SIDE : ∃ u, mg "MAX_SIDE" = some u ∧ RelV (.int 60) u
  c_MAX_ROW : ∃ u, mg "MAX_ROW" = some u ∧ RelV (.int 60) u
section
variable {P : Program} {w : World} {K : PySem.W.Frag} {mg : Str → Option Value} {base : Heap}
/-! ### is_number, is_whole_between -/
def sp_is_number (K : PySem.W.Frag) : Sp := fun vs H Q _ => (∃ i : Int, vs = [.int i] ∧ Q (.bl true) H) ∨ ∃ v, vs = [v] ∧ NoNum K H v ∧ Q (.bl false) H
theorem ok_is_number (T : Tx K mg) : FnOk P w K mg base CX0 1 T.a_is_number T.d_is_number ["value"] (sp_is_number K) := by
  refine T.F_is_number.ok sc_is_number (fun vs H Q E h => ?_) (fun cdv A outer s H vs Q E hr h => ?_)
  · obtain ⟨i, rfl, _⟩ | ⟨v, rfl, _⟩ := h <;> rfl
  · refine ⟨_, (pss_one (ps_ret (pe_and (pe_callB call_isi (by rfl) T.n_isinstance Sx.bt_isinstance (pa_cons (pv 0) (pa_cons (pe_bltn (v := .ty "int") (by rfl) T.n_int Sx.bt_int rfl) pa_nil))) (pe_one (pe_not (pe_callB call_isi (by rfl) T.n_isinstance Sx.bt_isinstance (pa_cons (pv 0) (pa_cons (pe_bltn (v := .ty "bool") (by rfl) T.n_bool Sx.bt_bool rfl) pa_nil)))))))), ?_⟩
    obtain ⟨i, rfl, q⟩ | ⟨v, rfl, ⟨t, b1, b2, ht, h1, h2, h3⟩, q⟩ := h
    · refine Sx.r_st (σ' := [some (.int i)]) rfl ?_
      walk_at "sx"
      exact q
    · refine Sx.r_st (σ' := [some (v)]) rfl ?_
      walk_at "sx"
      refine ⟨v, .ty "int", t, .type "int", b1, rfl, .ty _, ht, h1, ?_⟩
      cases b1 with
      | false => walk_at "sx"; exact q
      | true =>
        have e2 : b2 = true := by simpa using h3
        subst e2
        walk_at "sx"
        refine ⟨v, .ty "bool", t, .type "bool", true, rfl, .ty _, ht, h2, ?_⟩
        walk_at "sx"
        exact q
def sp_is_whole_between (K : PySem.W.Frag) : Sp := fun vs H Q _ => (∃ v a b : Int, vs = [.int v, .int a, .int b] ∧ Q (.bl (decide (a ≤ v ∧ v ≤ b))) H) ∨ ∃ v, ∃ a b : Int, vs = [v, .int a, .int b] ∧ NoNum K H v ∧ Q (.bl false) H
theorem ok_is_whole_between (T : Tx K mg) : FnOk P w K mg base CX0 2 T.a_is_whole_between T.d_is_whole_between ["value", "least", "most"] (sp_is_whole_between K) := by
  refine T.F_is_whole_between.ok sc_is_whole_between (fun vs H Q E h => ?_) (fun cdv A outer s H vs Q E hr h => ?_)
  · obtain ⟨v, a, b, rfl, _⟩ | ⟨v, a, b, rfl, _⟩ := h <;> rfl
  · refine ⟨_, (pss_one (ps_ret (pe_and (pe_call (ok_is_number T) (hr.mono (by decide)) (by rfl) T.g_is_number T.F_is_number.kp T.b_is_number .nil pass0 (pa_cons (pv 0) pa_nil)) (pe_one (pe_chain op_le op_le (pv 1) (pv 0) (pv 2)))))), ?_⟩
    obtain ⟨v, a, b, rfl, q⟩ | ⟨v, a, b, rfl, hn, q⟩ := h
    · refine Sx.r_st (σ' := [some (.int v), some (.int a), some (.int b)]) rfl ?_
      walk_at "sx"
      refine .inl ⟨v, rfl, ?_⟩
      walk_at "sx"
      refine ite_d (fun h1 => ?_) (fun h1 => ?_)
      · walk_at "sx"
        have e : decide (a ≤ v ∧ v ≤ b) = decide (v ≤ b) := by simp [h1]
        rw [← e]; exact q
      · have e : decide (a ≤ v ∧ v ≤ b) = false := by simp [h1]
        rw [← e]; exact q
    · refine Sx.r_st (σ' := [some (v), some (.int a), some (.int b)]) rfl ?_
      walk_at "sx"
      refine .inr ⟨v, rfl, hn, ?_⟩
      walk_at "sx"
      exact q
/-! ### Slope -/
def slF (a b : Int) : List (Str × V) := putF "_common" (.int ((Nat.gcd a.natAbs b.natAbs : Nat) : Int)) (putF "_steps" (.int b) (putF "_rises" (.int a) []))
theorem slF_r (a b : Int) : (slF a b).lookup ("_rises" : Str) = some (.int a) := by
  unfold slF; rw [lookup_putF, if_neg (by decide +kernel), lookup_putF, if_neg (by decide +kernel), lookup_putF, if_pos rfl]
theorem slF_s (a b : Int) : (slF a b).lookup ("_steps" : Str) = some (.int b) := by
  unfold slF; rw [lookup_putF, if_neg (by decide +kernel), lookup_putF, if_pos rfl]
theorem slF_c (a b : Int) : (slF a b).lookup ("_common" : Str) = some (.int ((Nat.gcd a.natAbs b.natAbs : Nat) : Int)) := by
  unfold slF; rw [lookup_putF, if_pos rfl]
/-- v is the slope a:b -/
def SlopeAt (C : Addr) (H : Hp) (v : V) (a b : Int) : Prop := (1 ≤ a ∧ a ≤ 60 ∧ 1 ≤ b ∧ b ≤ 60) ∧ ∃ p dx, v = .ref p ∧ H p = some (.ins C dx (slF a b))
theorem SlopeAt.mono {C : Addr} {H H' : Hp} {v : V} {a b : Int} (h : SlopeAt C H v a b) (s : Same H H') : SlopeAt C H' v a b := by
  obtain ⟨h1, p, dx, h2, h3⟩ := h; exact ⟨h1, p, dx, h2, s _ _ h3⟩
theorem SlopeAt.kp {C : Addr} {H H' : Hp} {v : V} {a b : Int} {d : Addr} (h : SlopeAt C H v a b) (s : Kp d H H') : SlopeAt C H' v a b := by
  obtain ⟨h1, p, dx, h2, h3⟩ := h; exact ⟨h1, p, dx, h2, s.ins h3⟩
def sp_Slope_init (C : Addr) : Sp := fun vs H Q _ => ∃ p dx, ∃ a b : Int, vs = [.ref p, .int a, .int b] ∧ (1 ≤ a ∧ a ≤ 60 ∧ 1 ≤ b ∧ b ≤ 60) ∧ H p = some (.ins C dx []) ∧ Q .non (upd (upd (upd H p (.ins C dx (putF "_rises" (.int a) []))) p (.ins C dx (putF "_steps" (.int b) (putF "_rises" (.int a) [])))) p (.ins C dx (slF a b)))
theorem ok_Slope_init (T : Tx K mg) : FnOk P w K mg base CX0 3 T.a_Slope_init T.d_Slope_init ["self", "rises", "steps"] (sp_Slope_init T.C_Slope) := by
  refine T.F_Slope_init.ok sc_Slope_init (fun vs H Q E h => ?_) (fun cdv A outer s H vs Q E hr h => ?_)
  · obtain ⟨p, dx, a, b, rfl, _⟩ := h; rfl
  · obtain ⟨p, dx, a, b, rfl, ⟨a1, a2, b1, b2⟩, hp, q⟩ := h
    refine ⟨_, (pss_cons (ps_if (pt_not (pt_val (pe_call (ok_is_whole_between T) (hr.mono (by decide)) (by rfl) T.g_is_whole_between T.F_is_whole_between.kp T.b_is_whole_between .nil pass0 (pa_cons (pv 1) (pa_cons pe_int (pa_cons (pe_gc (by rfl) T.c_MAX_SIDE) pa_nil)))))) pss_never pss_nil)
      (pss_cons (ps_if (pt_not (pt_val (pe_call (ok_is_whole_between T) (hr.mono (by decide)) (by rfl) T.g_is_whole_between T.F_is_whole_between.kp T.b_is_whole_between .nil pass0 (pa_cons (pv 2) (pa_cons pe_int (pa_cons (pe_gc (by rfl) T.c_MAX_SIDE) pa_nil)))))) pss_never pss_nil)
      (pss_cons (ps_fld (pv 0) (pv 1) rfl)
      (pss_cons (ps_fld (pv 0) (pv 2) rfl)
      (pss_one (ps_fld (pv 0) (pe_callBfun cr_gcd (by rfl) T.i_gcd (pa_cons (pv 1) (pa_cons (pv 2) pa_nil))) rfl)))))), ?_⟩
    refine Sx.r_st (σ' := [some (.ref p), some (.int a), some (.int b)]) rfl ?_
    walk_at "sxi"
    refine .inl ⟨a, 1, 60, rfl, ?_⟩
    walk_at "sx"
    rw [show decide (1 ≤ a ∧ a ≤ 60) = true by simp [a1, a2]]
    walk_at "sxi"
    refine .inl ⟨b, 1, 60, rfl, ?_⟩
    walk_at "sx"
    rw [show decide (1 ≤ b ∧ b ≤ 60) = true by simp [b1, b2]]
    walk_at "sx"

    refine r_insput hp T.cl_Slope T.na_Slope_rises (by decide) ?_
    walk_at "sx"
    refine r_insput upd_same T.cl_Slope T.na_Slope_steps len1 ?_
    walk_at "sx"
    exact ⟨p, _, dx, _, rfl, upd_same, T.cl_Slope, T.na_Slope_common, len2, q⟩
/-- a new slope -/
theorem mk_slope {C : Addr} {H : Hp} {Q : VK} {E : XK} {a b : Int} (h : 1 ≤ a ∧ a ≤ 60 ∧ 1 ≤ b ∧ b ≤ 60) (q : ∀ v H', Same H H' → SlopeAt C H' v a b → Q v H') :
    MakeP C (sp_Slope_init C) E [.int a, .int b] H Q := by
  intro x dx hx hdx hne
  refine ⟨x, dx, a, b, rfl, h, upd_same, rfl, q _ _ ?_ ⟨h, x, dx, rfl, upd_same⟩⟩
  intro c o e
  have n1 : c ≠ x := ne_of_none e hx
  have n2 : c ≠ dx := ne_of_none e hdx
  rw [upd_ne n1, upd_ne n1, upd_ne n1, upd_ne n1, upd_ne n2]; exact e
theorem ok_Slope_rises (T : Tx K mg) : FnOk P w K mg base CX0 1 T.a_Slope_rises T.d_Slope_rises ["self"] (getSp T.C_Slope "_rises") := by
  refine T.F_Slope_rises.ok sc_Slope_rises (fun vs H Q E h => ?_) (fun cdv A outer s H vs Q E hr h => ?_)
  · obtain ⟨a, dx, fs, v, rfl, _⟩ := h; rfl
  · obtain ⟨a, dx, fs, v, rfl, e, l, q⟩ := h
    refine ⟨_, (pss_one (ps_ret (pe_fld (pv 0) rfl))), ?_⟩
    refine Sx.r_st (σ' := [some (.ref a)]) rfl ?_
    walk_at "sx"
    exact ⟨a, _, dx, fs, v, rfl, e, T.cl_Slope, T.na_Slope_rises, l, q⟩
theorem ok_Slope_steps (T : Tx K mg) : FnOk P w K mg base CX0 1 T.a_Slope_steps T.d_Slope_steps ["self"] (getSp T.C_Slope "_steps") := by
  refine T.F_Slope_steps.ok sc_Slope_steps (fun vs H Q E h => ?_) (fun cdv A outer s H vs Q E hr h => ?_)
  · obtain ⟨a, dx, fs, v, rfl, _⟩ := h; rfl
  · obtain ⟨a, dx, fs, v, rfl, e, l, q⟩ := h
    refine ⟨_, (pss_one (ps_ret (pe_fld (pv 0) rfl))), ?_⟩
    refine Sx.r_st (σ' := [some (.ref a)]) rfl ?_
    walk_at "sx"
    exact ⟨a, _, dx, fs, v, rfl, e, T.cl_Slope, T.na_Slope_steps, l, q⟩
/-- a slope's numbers, read -/
theorem rd_r {C : Addr} {H : Hp} {v : V} {a b : Int} {Q : VK} {E : XK} (h : SlopeAt C H v a b) (q : Q (.int a) H) : ∃ p dx fs, v = .ref p ∧ H p = some (.ins C dx fs) ∧ getSp C "_rises" (.ref p :: []) H Q E := by
  obtain ⟨_, p, dx, rfl, e⟩ := h; exact ⟨p, dx, _, rfl, e, r_getSp e (slF_r a b) q⟩
theorem rd_s {C : Addr} {H : Hp} {v : V} {a b : Int} {Q : VK} {E : XK} (h : SlopeAt C H v a b) (q : Q (.int b) H) : ∃ p dx fs, v = .ref p ∧ H p = some (.ins C dx fs) ∧ getSp C "_steps" (.ref p :: []) H Q E := by
  obtain ⟨_, p, dx, rfl, e⟩ := h; exact ⟨p, dx, _, rfl, e, r_getSp e (slF_s a b) q⟩
def sp_check_slope (C : Addr) : Sp := fun vs H Q _ => ∃ v, ∃ a b : Int, vs = [v] ∧ SlopeAt C H v a b ∧ Q .non H
theorem ok_check_slope (T : Tx K mg) : FnOk P w K mg base CX0 1 T.a_check_slope T.d_check_slope ["slope"] (sp_check_slope T.C_Slope) := by
  refine T.F_check_slope.ok sc_check_slope (fun vs H Q E h => ?_) (fun cdv A outer s H vs Q E hr h => ?_)
  · obtain ⟨v, a, b, rfl, _⟩ := h; rfl
  · obtain ⟨v, a, b, rfl, ⟨hb, p, dx, rfl, e⟩, q⟩ := h
    refine ⟨_, (pss_one (ps_if (pt_not (pt_val (pe_callB call_isi (by rfl) T.n_isinstance Sx.bt_isinstance (pa_cons (pv 0) (pa_cons (pe_glob (v := .ref T.C_Slope) (by rfl) T.g_Slope rfl) pa_nil))))) pss_never pss_nil)), ?_⟩
    refine Sx.r_st (σ' := [some (.ref p)]) rfl ?_
    walk_at "sxi"
    refine r_isi_own e T.cl_Slope T.ic_Slope T.cg T.ct T.mr_Slope T.ks_Slope ?_
    walk_at "sx"
    exact q
theorem ok_Slope_common (T : Tx K mg) : FnOk P w K mg base CX0 1 T.a_Slope_common T.d_Slope_common ["self"] (getSp T.C_Slope "_common") := by
  refine T.F_Slope_common.ok sc_Slope_common (fun vs H Q E h => ?_) (fun cdv A outer s H vs Q E hr h => ?_)
  · obtain ⟨a, dx, fs, v, rfl, _⟩ := h; rfl
  · obtain ⟨a, dx, fs, v, rfl, e, l, q⟩ := h
    refine ⟨_, (pss_one (ps_ret (pe_fld (pv 0) rfl))), ?_⟩
    refine Sx.r_st (σ' := [some (.ref a)]) rfl ?_
    walk_at "sx"
    exact ⟨a, _, dx, fs, v, rfl, e, T.cl_Slope, T.na_Slope_common, l, q⟩
theorem rd_c {C : Addr} {H : Hp} {v : V} {a b : Int} {Q : VK} {E : XK} (h : SlopeAt C H v a b) (q : Q (.int ((Nat.gcd a.natAbs b.natAbs : Nat) : Int)) H) : ∃ p dx fs, v = .ref p ∧ H p = some (.ins C dx fs) ∧ getSp C "_common" (.ref p :: []) H Q E := by
  obtain ⟨_, p, dx, rfl, e⟩ := h; exact ⟨p, dx, _, rfl, e, r_getSp e (slF_c a b) q⟩
def sp_Slope_exchanged (C : Addr) : Sp := fun vs H Q _ => ∃ v, ∃ a b : Int, vs = [v] ∧ SlopeAt C H v a b ∧ ∀ u H', Same H H' → SlopeAt C H' u b a → Q u H'
theorem ok_Slope_exchanged (T : Tx K mg) : FnOk P w K mg base CX0 5 T.a_Slope_exchanged T.d_Slope_exchanged ["self"] (sp_Slope_exchanged T.C_Slope) := by
  refine T.F_Slope_exchanged.ok sc_Slope_exchanged (fun vs H Q E h => ?_) (fun cdv A outer s H vs Q E hr h => ?_)
  · obtain ⟨v, a, b, rfl, _⟩ := h; rfl
  · obtain ⟨v, a, b, rfl, ⟨hb, p, dx, rfl, e⟩, q⟩ := h
    refine ⟨_, (pss_one (ps_ret (pe_make T.mk_Slope (ok_Slope_init T) (hr.mono (by decide)) (by rfl) T.g_Slope T.b_Slope_init .nil pass0 (pa_cons (pe_fld (pv 0) rfl) (pa_cons (pe_fld (pv 0) rfl) pa_nil))))), ?_⟩
    refine Sx.r_st (σ' := [some (.ref p)]) rfl ?_
    walk_at "sx"
    refine ⟨p, _, dx, _, _, rfl, e, T.cl_Slope, T.na_Slope_steps, slF_s a b, ?_⟩
    walk_at "sx"
    refine ⟨p, _, dx, _, _, rfl, e, T.cl_Slope, T.na_Slope_rises, slF_r a b, ?_⟩
    walk_at "sx"
    exact mk_slope ⟨hb.2.2.1, hb.2.2.2, hb.1, hb.2.1⟩ q
theorem slF_no {a b : Int} {m : Str} (h1 : m ≠ "_rises") (h2 : m ≠ "_steps") (h3 : m ≠ "_common") : (slF a b).lookup m = none := by
  unfold slF; rw [lookup_putF, if_neg h3, lookup_putF, if_neg h2, lookup_putF, if_neg h1]; rfl
theorem md_slope {C : Addr} {H : Hp} {v : V} {a b : Int} {m : Str} {Pr : Prop} (h : SlopeAt C H v a b) (h1 : m ≠ "_rises") (h2 : m ≠ "_steps") (h3 : m ≠ "_common") (hp : Pr) : ∃ p dx fs, v = .ref p ∧ H p = some (.ins C dx fs) ∧ fs.lookup m = none ∧ Pr := by
  obtain ⟨_, p, dx, rfl, e⟩ := h
  exact ⟨p, dx, _, rfl, e, slF_no h1 h2 h3, hp⟩
/-! ### coprime slopes -/
def sp_is_coprime (C : Addr) : Sp := fun vs H Q _ => ∃ v, ∃ a b : Nat, vs = [v] ∧ SlopeAt C H v a b ∧ Nat.gcd a b = 1 ∧ Q (.bl true) H
theorem ok_Slope_is_coprime (T : Tx K mg) : FnOk P w K mg base CX0 1 T.a_Slope_is_coprime T.d_Slope_is_coprime ["self"] (sp_is_coprime T.C_Slope) := by
  refine T.F_Slope_is_coprime.ok sc_Slope_is_coprime (fun vs H Q E h => ?_) (fun cdv A outer s H vs Q E hr h => ?_)
  · obtain ⟨v, a, b, rfl, _⟩ := h; rfl
  · obtain ⟨v, a, b, rfl, ⟨hb, p, dx, rfl, e⟩, hg, q⟩ := h
    refine ⟨_, (pss_one (ps_ret (pe_cmpR op_eq (pe_fld (pv 0) rfl) pe_int (nomark _)))), ?_⟩
    refine Sx.r_st (σ' := [some (.ref p)]) rfl ?_
    walk_at "sx"
    refine ⟨p, _, dx, _, _, rfl, e, T.cl_Slope, T.na_Slope_common, slF_c a b, ?_⟩
    walk_at "sx"
    rw [Int.natAbs_natCast, Int.natAbs_natCast, hg]
    exact q
theorem rd_cop {C : Addr} {H : Hp} {v : V} {a b : Nat} {Q : VK} {E : XK} (h : SlopeAt C H v a b) (hg : Nat.gcd a b = 1) (q : Q (.bl true) H) : ∃ p dx fs, v = .ref p ∧ H p = some (.ins C dx fs) ∧ sp_is_coprime C (.ref p :: []) H Q E := by
  obtain ⟨h1, p, dx, rfl, e⟩ := h
  exact ⟨p, dx, _, rfl, e, .ref p, a, b, rfl, ⟨h1, p, dx, rfl, e⟩, hg, q⟩
def sp_check_coprime (C : Addr) : Sp := fun vs H Q _ => ∃ v, ∃ a b : Nat, vs = [v] ∧ SlopeAt C H v a b ∧ Nat.gcd a b = 1 ∧ Q .non H
theorem ok_check_coprime (T : Tx K mg) : FnOk P w K mg base CX0 3 T.a_check_coprime T.d_check_coprime ["slope"] (sp_check_coprime T.C_Slope) := by
  refine T.F_check_coprime.ok sc_check_coprime (fun vs H Q E h => ?_) (fun cdv A outer s H vs Q E hr h => ?_)
  · obtain ⟨v, a, b, rfl, _⟩ := h; rfl
  · obtain ⟨v, a, b, rfl, hS, hg, q⟩ := h
    refine ⟨_, (pss_one (ps_if (pt_not (pt_val (pe_prop (pv 0) T.cl_Slope T.pr_Slope_is_coprime (ok_Slope_is_coprime T) (hr.mono (by decide)) T.b_Slope_is_coprime .nil pass0 rfl))) pss_never pss_nil)), ?_⟩
    refine Sx.r_st (σ' := [some (v)]) rfl ?_
    walk_at "sxi"
    refine rd_cop hS hg ?_
    walk_at "sx"
    exact q
def sp_half (C : Addr) : Sp := fun vs H Q _ => ∃ v, ∃ a b : Nat, vs = [v] ∧ SlopeAt C H v a b ∧ Nat.gcd a b = 1 ∧ Q (.int (((a : Int) - 1) * ((b : Int) - 1) / 2)) H
theorem ok_Slope_half (T : Tx K mg) : FnOk P w K mg base CX0 4 T.a_Slope_half T.d_Slope_half ["self"] (sp_half T.C_Slope) := by
  refine T.F_Slope_half.ok sc_Slope_half (fun vs H Q E h => ?_) (fun cdv A outer s H vs Q E hr h => ?_)
  · obtain ⟨v, a, b, rfl, _⟩ := h; rfl
  · obtain ⟨v, a, b, rfl, hS, hg, q⟩ := h
    have hS0 := hS
    obtain ⟨hb, p, dx, rfl, e⟩ := hS
    refine ⟨_, (pss_cons (ps_expr (pe_call (ok_check_coprime T) (hr.mono (by decide)) (by rfl) T.g_check_coprime T.F_check_coprime.kp T.b_check_coprime .nil pass0 (pa_cons (pv 0) pa_nil)))
      (pss_one (ps_ret (pe_op op_fdivW (pe_op Sx.op_mulA (pe_op op_sub (pe_fld (pv 0) rfl) pe_int) (pe_op op_sub (pe_fld (pv 0) rfl) pe_int)) pe_int)))), ?_⟩
    refine Sx.r_st (σ' := [some (.ref p)]) rfl ?_
    walk_at "sx"
    refine ⟨.ref p, a, b, rfl, hS0, hg, ?_⟩
    walk_at "sx"
    refine ⟨p, _, dx, _, _, rfl, e, T.cl_Slope, T.na_Slope_rises, slF_r a b, ?_⟩
    walk_at "sx"
    refine ⟨p, _, dx, _, _, rfl, e, T.cl_Slope, T.na_Slope_steps, slF_s a b, ?_⟩
    walk_at "sx"
    · exact q
    · exact cdivw (b := 64) (by omega) (by omega) (by decide)
    · exact cmA_r (by omega)
theorem rd_half {C : Addr} {H : Hp} {v : V} {a b : Nat} {Q : VK} {E : XK} (h : SlopeAt C H v a b) (hg : Nat.gcd a b = 1) (q : Q (.int (((a : Int) - 1) * ((b : Int) - 1) / 2)) H) : ∃ p dx fs, v = .ref p ∧ H p = some (.ins C dx fs) ∧ sp_half C (.ref p :: []) H Q E := by
  obtain ⟨h1, p, dx, rfl, e⟩ := h
  exact ⟨p, dx, _, rfl, e, .ref p, a, b, rfl, ⟨h1, p, dx, rfl, e⟩, hg, q⟩
def sp_sides (C : Addr) : Sp := fun vs H Q _ => ∃ v, ∃ a b : Nat, vs = [v] ∧ SlopeAt C H v a b ∧ ∀ t H', Same H H' → H' t = some (.tup [.int (min a b : Nat), .int (max a b : Nat)]) → Q (.ref t) H'
theorem ok_sides (T : Tx K mg) : FnOk P w K mg base CX0 3 T.a_sides T.d_sides ["slope"] (sp_sides T.C_Slope) := by
  refine T.F_sides.ok sc_sides (fun vs H Q E h => ?_) (fun cdv A outer s H vs Q E hr h => ?_)
  · obtain ⟨v, a, b, rfl, _⟩ := h; rfl
  · obtain ⟨v, a, b, rfl, hS, q⟩ := h
    refine ⟨_, (pss_cons (ps_if (pt_cmpR op_lt (pe_prop (pv 0) T.cl_Slope T.pr_Slope_rises (ok_Slope_rises T) (hr.mono (by decide)) T.b_Slope_rises .nil pass0 rfl) (pe_prop (pv 0) T.cl_Slope T.pr_Slope_steps (ok_Slope_steps T) (hr.mono (by decide)) T.b_Slope_steps .nil pass0 rfl) (nomark _)) (pss_one (ps_ret (pe_tup (pa_cons (pe_prop (pv 0) T.cl_Slope T.pr_Slope_rises (ok_Slope_rises T) (hr.mono (by decide)) T.b_Slope_rises .nil pass0 rfl) (pa_cons (pe_prop (pv 0) T.cl_Slope T.pr_Slope_steps (ok_Slope_steps T) (hr.mono (by decide)) T.b_Slope_steps .nil pass0 rfl) pa_nil))))) pss_nil)
      (pss_one (ps_ret (pe_tup (pa_cons (pe_prop (pv 0) T.cl_Slope T.pr_Slope_steps (ok_Slope_steps T) (hr.mono (by decide)) T.b_Slope_steps .nil pass0 rfl) (pa_cons (pe_prop (pv 0) T.cl_Slope T.pr_Slope_rises (ok_Slope_rises T) (hr.mono (by decide)) T.b_Slope_rises .nil pass0 rfl) pa_nil)))))), ?_⟩
    refine Sx.r_st (σ' := [some (v)]) rfl ?_
    walk_at "sxi"
    refine rd_r hS ?_
    walk_at "sx"
    refine rd_s hS ?_
    walk_at "sx"
    refine ite_d (fun h => ?_) (fun h => ?_)
    · walk_at "sx"
      refine rd_r hS ?_
      walk_at "sx"
      refine rd_s hS ?_
      walk_at "sx"
      refine ⟨sz _ (Nat.le_of_ble_eq_true rfl), fun t ht => ?_⟩
      refine q t _ (same_new ht) ?_
      rw [Nat.min_eq_left (by omega), Nat.max_eq_right (by omega)]; exact upd_same
    · walk_at "sx"
      refine rd_s hS ?_
      walk_at "sx"
      refine rd_r hS ?_
      walk_at "sx"
      refine ⟨sz _ (Nat.le_of_ble_eq_true rfl), fun t ht => ?_⟩
      refine q t _ (same_new ht) ?_
      rw [Nat.min_eq_right (by omega), Nat.max_eq_left (by omega)]; exact upd_same
/-! ### ascending tuples -/
def AscIn (m M : Int) (ns : List Int) : Prop := ns.Pairwise (· < ·) ∧ ∀ x, x ∈ ns → m ≤ x ∧ x ≤ M
theorem asc_step {m M : Int} {ns : List Int} (h : AscIn m M ns) {i : Nat} {x : Int} (hx : ns[i]? = some x) : (if i = 0 then m else ns.getD (i - 1) 0 + 1) ≤ x ∧ x ≤ M := by
  have hm := h.2 x (List.mem_of_getElem? hx)
  refine ⟨?_, hm.2⟩
  by_cases z : i = 0
  · rw [if_pos z]; exact hm.1
  · rw [if_neg z]
    have hi := (List.getElem?_eq_some_iff.mp hx).1
    have e := (List.getElem?_eq_some_iff.mp hx).2
    have := List.pairwise_iff_getElem.mp h.1 (i - 1) i (by omega) hi (by omega)
    rw [List.getD_eq_getElem?_getD, List.getElem?_eq_getElem (by omega)]
    show ns[i - 1] + 1 ≤ x
    omega
theorem r_isi_tup {t : Addr} {xs : List V} {H : Hp} {Q : VK} (h : SqT K H t xs) (q : Q (.bl true) H) : rIsi K [.ref t, .ty "tuple"] H Q := by
  rcases h with (h | ⟨o, h⟩) | ⟨o, its, n, h, hc, _⟩
  · exact ⟨_, _, _, _, true, rfl, .ty _, .base (.tup h), kit_ty (by decide +kernel), q⟩
  · exact ⟨_, _, _, _, true, rfl, .ty _, .fTuple h, kit_ty (by decide +kernel), q⟩
  · exact ⟨_, _, _, _, true, rfl, .ty _, .kTuple h hc, kit_ty (by decide +kernel), q⟩
def sp_is_ascending (K : PySem.W.Frag) : Sp := fun vs H Q _ => ∃ (t : Addr) (ns : List Int) (m M : Int), vs = [.ref t, .int m, .int M] ∧ SqT K H t (ns.map V.int) ∧ AscIn m M ns ∧ Q (.bl true) H
theorem ok_is_ascending (T : Tx K mg) : FnOk P w K mg base CX0 3 T.a_is_ascending T.d_is_ascending ["value", "least", "most"] (sp_is_ascending K) := by
  refine T.F_is_ascending.ok sc_is_ascending (fun vs H Q E h => ?_) (fun cdv A outer s H vs Q E hr h => ?_)
  · obtain ⟨t, ns, m, M, rfl, _⟩ := h; rfl
  · obtain ⟨t, ns, m, M, rfl, ht, hA, q⟩ := h
    refine ⟨_, (pss_cons (ps_if (pt_not (pt_val (pe_callB call_isi (by rfl) T.n_isinstance Sx.bt_isinstance (pa_cons (pv 0) (pa_cons (pe_bltn (v := .ty "tuple") (by rfl) T.n_tuple Sx.bt_tuple rfl) pa_nil))))) (pss_one (ps_ret pe_bl)) pss_nil)
      (pss_cons (ps_set (i := 3) sc_is_ascending.nd rfl (.inl rfl) (pv 1))
      (pss_cons (ps_for PassesOwn.never rfl (pi_tup (pv 0)) (pg_name (i := 4) sc_is_ascending.nd rfl (.inl rfl)) (pss_cons (ps_if (pt_not (pt_val (pe_call (ok_is_whole_between T) (hr.mono (by decide)) (by rfl) T.g_is_whole_between T.F_is_whole_between.kp T.b_is_whole_between .nil pass0 (pa_cons (pv 4) (pa_cons (pv 3) (pa_cons (pv 2) pa_nil)))))) (pss_one (ps_ret pe_bl)) pss_nil)
      (pss_one (ps_set (i := 3) sc_is_ascending.nd rfl (.inl rfl) (pe_op op_add (pv 4) pe_int)))))
      (pss_one (ps_ret pe_bl))))), ?_⟩
    refine Sx.r_st (σ' := [some (.ref t), some (.int m), some (.int M), none, none]) rfl ?_
    walk_at "sxi"
    refine r_isi_tup ht ?_
    walk_at "sx"
    refine r_seqT ht ?_
    refine fr_tup (xs := ns.map V.int) (fun i σ' H' => H' = H ∧ ∃ y, σ' = [some (.ref t), some (.int m), some (.int M), some (.int (if i = 0 then m else ns.getD (i - 1) 0 + 1)), y]) ⟨rfl, none, rfl⟩ (fun i σ' H' _ z => z.1 ▸ ht) ?_ ?_
    · rintro i x σ' H' hx ⟨rfl, y, rfl⟩
      rw [List.getElem?_map] at hx
      obtain ⟨z, hz, rfl⟩ := Option.map_eq_some_iff.mp hx
      have hs := asc_step hA hz
      walk_at "sxi"
      refine .inl ⟨z, _, M, rfl, ?_⟩
      rw [decide_eq_true hs]
      walk_at "sx"
      refine ⟨rfl, some (.int z), ?_⟩
      rw [if_neg (Nat.succ_ne_zero i), Nat.add_sub_cancel, show ns.getD i 0 = z by rw [List.getD_eq_getElem?_getD, hz]; rfl]; rfl
    · rintro σ' H' ⟨rfl, y, rfl⟩
      walk_at "sx"
      exact q
end
end Lw

namespace Lw
open PySem PySem.Spec PyProof.Rows L2 Sx Sy Sw Mw Me
open En (NoNum)
open SX (S)
open C8 (pe_gc)
open SkE (call_repr_int call_str_str)
open RZ (pi_zipA)
section
variable {P : Program} {w : World} {K : PySem.W.Frag} {mg : Str → Option Value} {base : Heap}
/-! ### words -/
def sp_letter_levels (C : Addr) : Sp := fun vs H Q _ => ∃ v, ∃ a b : Nat, ∃ l : List Nat, vs = [v, .str (S l)] ∧ SlopeAt C H v a b ∧ l.length ≤ 1000 ∧ ∀ p H', Same H H' → H' p = some (.tup ((lvs a b l).map V.int)) → Q (.ref p) H'
theorem ok_letter_levels (T : Tx K mg) : FnOk P w K mg base CX0 3 T.a_letter_levels T.d_letter_levels ["slope", "text"] (sp_letter_levels T.C_Slope) := by
  refine T.F_letter_levels.ok sc_letter_levels (fun vs H Q E h => ?_) (fun cdv A outer s H vs Q E hr h => ?_)
  · obtain ⟨v, a, b, l, rfl, _⟩ := h; rfl
  · obtain ⟨v, a, b, l, rfl, hS, hl, q⟩ := h
    refine ⟨_, (pss_cons (ps_set (i := 2) sc_letter_levels.nd rfl (.inl rfl) (pe_prop (pv 0) T.cl_Slope T.pr_Slope_rises (ok_Slope_rises T) (hr.mono (by decide)) T.b_Slope_rises .nil pass0 rfl))
      (pss_cons (ps_set (i := 3) sc_letter_levels.nd rfl (.inl rfl) (pe_prop (pv 0) T.cl_Slope T.pr_Slope_steps (ok_Slope_steps T) (hr.mono (by decide)) T.b_Slope_steps .nil pass0 rfl))
      (pss_cons (ps_set (i := 4) sc_letter_levels.nd rfl (.inl rfl) pe_int)
      (pss_cons (ps_set (i := 5) sc_letter_levels.nd rfl (.inl rfl) (pe_lst pa_nil))
      (pss_cons (ps_for PassesOwn.never rfl (pi_str (pv 1)) (pg_name (i := 6) sc_letter_levels.nd rfl (.inl rfl)) (pss_cons (ps_expr (pe_bm PySem.F.plainAttrs_list PySem.F.slot_list_append PySem.F.type_list_append mt_append (pv 5) (pa_cons (pv 4) pa_nil)))
      (pss_one (ps_set (i := 4) sc_letter_levels.nd rfl (.inl rfl) (pe_ifExp (pt_cmpR op_eq (pv 6) pe_str (nomark _)) (pe_op op_add (pv 4) (pv 3)) (pe_op op_sub (pv 4) (pv 2)))))))
      (pss_one (ps_ret (pe_callTy Sx.c_tupOf (by rfl) T.n_tuple Sx.bt_tuple (pa_cons (pv 5) pa_nil))))))))), ?_⟩
    refine Sx.r_st (σ' := [some (v), some (.str (S l)), none, none, none, none, none]) rfl ?_
    walk_at "sx"
    refine rd_r hS ?_
    walk_at "sx"
    refine rd_s hS ?_
    walk_at "sx"
    refine ⟨Nat.zero_le _, fun p hp => ?_⟩
    walk_at "sx"
    refine fr_str (fun i σ' H' => Same H H' ∧ (∃ y6, σ' = [some v, some (.str (S l)), some (.int a), some (.int b), some (.int (lev a b (l.take i))), some (.ref p), y6]) ∧ H' p = some (.lst (((lvs a b l).take i).map V.int))) ⟨same_new hp, ⟨none, by rw [List.take_zero, lev_nil]; rfl⟩, upd_same⟩ ?_ ?_
    · rintro i c σ' H1 hc ⟨sm, ⟨y6, rfl⟩, hpp⟩
      rw [S_get] at hc
      have hi : i < l.length := (List.getElem?_eq_some_iff.mp hc).1
      walk_at "sx"
      refine ⟨tyL hpp, ?_⟩
      walk_at "sx"
      refine r_app hpp ?_ ?_
      · rw [← lvs_snoc hi]
        refine r_cutQ (fun x H2 => H2 = upd H1 p (.lst (((lvs a b l).take (i + 1)).map V.int)) ∧ x = .int (lev a b (l.take (i + 1)))) (fun Q' k => ?_) ?_
        · refine r_ifE ?_
          walk_at "sx"
          refine ite_d (fun h => ?_) (fun h => ?_)
          · walk_at "sx"
            refine k _ _ ⟨rfl, ?_⟩
            rw [lev_take hc, if_pos (is_r.mp h)]
          · walk_at "sx"
            refine k _ _ ⟨rfl, ?_⟩
            rw [lev_take hc, if_neg (fun z => h (is_r.mpr z))]; rfl
        · rintro x H2 ⟨rfl, rfl⟩
          walk_at "sx"
          exact ⟨same_mut sm hp, ⟨_, rfl⟩, upd_same⟩
      · rw [List.length_map, List.length_take, lvs_len]; exact sz' _ (by omega)
    · rintro σ' H1 ⟨sm, ⟨y6, rfl⟩, hpp⟩
      rw [S_size, List.take_of_length_le (by rw [lvs_len]; exact Nat.le_refl _)] at hpp
      walk_at "sx"
      refine r_tupOfL (SqL.of hpp) (fun t ht => ?_)
      exact q t _ (fun b o e => same_new ht b o (sm b o e)) upd_same
def sp_is_word (C : Addr) : Sp := fun vs H Q _ => ∃ v, ∃ a b : Nat, ∃ l : List Nat, vs = [v, .str (S l)] ∧ SlopeAt C H v a b ∧ Wd a b l ∧ Q (.bl true) H
theorem ok_is_word (T : Tx K mg) : FnOk P w K mg base CX0 3 T.a_is_word T.d_is_word ["slope", "value"] (sp_is_word T.C_Slope) := by
  refine T.F_is_word.ok sc_is_word (fun vs H Q E h => ?_) (fun cdv A outer s H vs Q E hr h => ?_)
  · obtain ⟨v, a, b, l, rfl, _⟩ := h; rfl
  · obtain ⟨v, a, b, l, rfl, hS, hW, q⟩ := h
    have hl := small_S (show l.length ≤ 1000 by have := hS.1; have := hW.2.2; omega)
    refine ⟨_, (pss_cons (ps_if (PW.pt (pw_or (pt_not (pt_val (pe_callB call_isi (by rfl) T.n_isinstance Sx.bt_isinstance (pa_cons (pv 1) (pa_cons (pe_bltn (v := .ty "str") (by rfl) T.n_str Sx.bt_str rfl) pa_nil))))) (pw_or1 (pt_cmpR op_ne (pe_callB Sx.c_lenS (by rfl) T.n_len Sx.bt_len (pa_cons (pv 1) pa_nil)) (pe_op op_add (pe_prop (pv 0) T.cl_Slope T.pr_Slope_rises (ok_Slope_rises T) (hr.mono (by decide)) T.b_Slope_rises .nil pass0 rfl) (pe_prop (pv 0) T.cl_Slope T.pr_Slope_steps (ok_Slope_steps T) (hr.mono (by decide)) T.b_Slope_steps .nil pass0 rfl)) (nomark _))))) (pss_one (ps_ret pe_bl)) pss_nil)
      (pss_one (ps_ret (pe_and (pe_cmpR op_eq (pe_bm PySem.F.plainAttrs_str PySem.F.slot_str_count PySem.F.type_str_count Sx.m_cntS (pv 1) (pa_cons pe_str pa_nil)) (pe_prop (pv 0) T.cl_Slope T.pr_Slope_rises (ok_Slope_rises T) (hr.mono (by decide)) T.b_Slope_rises .nil pass0 rfl) (nomark _)) (pe_one (pe_cmpR op_eq (pe_bm PySem.F.plainAttrs_str PySem.F.slot_str_count PySem.F.type_str_count Sx.m_cntS (pv 1) (pa_cons pe_str pa_nil)) (pe_prop (pv 0) T.cl_Slope T.pr_Slope_steps (ok_Slope_steps T) (hr.mono (by decide)) T.b_Slope_steps .nil pass0 rfl) (nomark _))))))), ?_⟩
    refine Sx.r_st (σ' := [some (v), some (.str (S l))]) rfl ?_
    walk_at "sxi"
    rotate_left
    · exact hl
    refine rd_r hS ?_
    walk_at "sx"
    refine rd_s hS ?_
    walk_at "sx"
    refine ite_nd (fun h => (h ?_).elim) (fun h => ?_)
    · rw [SX.S_len, hW.2.2]; omega
    walk_at "sx"
    refine rd_r hS ?_
    walk_at "sx"
    rw [lit_r, count_S, hW.1, decide_eq_true rfl]
    walk_at "sx"
    refine rd_s hS ?_
    walk_at "sx"
    rw [lit_s, count_S, hW.2.1, decide_eq_true rfl]
    exact q
theorem wd_len {C : Addr} {H : Hp} {v : V} {a b : Nat} {l : List Nat} (h : SlopeAt C H v a b) (w : Wd a b l) : l.length ≤ 120 ∧ 2 ≤ l.length := by
  have := h.1; have := w.2.2; omega
/-! ### ways -/
/-- the lengths of the parts between steps that are not empty, of the first i parts -/
def runsUp (ys : List Str) (i : Nat) : List Int := ((ys.take i).filter fun x : Str => !decide (x = ("" : Str))).map fun x : Str => (x.length : Int)
def runsOf (l : List Nat) : List Int := runsUp (Txt.split (S l) "s") (Txt.split (S l) "s").length
theorem runsUp_yes {ys : List Str} {i : Nat} {x : Str} (h : ys[i]? = some x) (n : ¬ x = ("" : Str)) : (runsUp ys (i + 1)).map V.int = (runsUp ys i).map V.int ++ [V.int x.length] := by
  unfold runsUp
  rw [List.take_add_one, h, List.filter_append, List.map_append, List.map_append]
  simp [n]
theorem runsUp_no {ys : List Str} {i : Nat} {x : Str} (h : ys[i]? = some x) (n : x = ("" : Str)) : (runsUp ys (i + 1)).map V.int = (runsUp ys i).map V.int := by
  unfold runsUp
  rw [List.take_add_one, h, List.filter_append, List.map_append]
  simp [n]
theorem runsUp_len {ys : List Str} {i : Nat} : (runsUp ys i).length ≤ i := by
  unfold runsUp
  rw [List.length_map]
  exact Nat.le_trans (List.length_filter_le _ _) (by rw [List.length_take]; exact Nat.min_le_left _ _)
theorem le_sum_mem : ∀ {l : List Nat} {y : Nat}, y ∈ l → y ≤ l.sum
  | x :: l, y, h => by
    rw [List.sum_cons]
    rcases List.mem_cons.mp h with rfl | h
    · omega
    · have := le_sum_mem h; omega
def sp_is_way (C : Addr) : Sp := fun vs H Q _ => ∃ v, ∃ a b : Nat, ∃ l : List Nat, vs = [v, .str (S l)] ∧ SlopeAt C H v a b ∧ IsWay a b l ∧ ∀ H', Same H H' → Q (.bl true) H'
theorem none_below {ns : List Int} (h : ∀ x, x ∈ ns → 0 ≤ x) : ((ns.map fun x => decide (x < 0)).any id) = false := by
  rw [List.any_eq_false]
  intro x hx
  obtain ⟨y, hy, rfl⟩ := List.mem_map.mp hx
  have := h y hy
  simp; omega
theorem ok_is_way (T : Tx K mg) : FnOk P w K mg base CX0 4 T.a_is_way T.d_is_way ["slope", "value"] (sp_is_way T.C_Slope) := by
  refine T.F_is_way.ok sc_is_way (fun vs H Q E h => ?_) (fun cdv A outer s H vs Q E hr h => ?_)
  · obtain ⟨v, a, b, l, rfl, _⟩ := h; rfl
  · obtain ⟨v, a, b, l, rfl, hS, hW, q⟩ := h
    have hl := wd_len hS hW.1
    refine ⟨_, (pss_cons (ps_expr (pe_call (ok_check_slope T) (hr.mono (by decide)) (by rfl) T.g_check_slope T.F_check_slope.kp T.b_check_slope .nil pass0 (pa_cons (pv 0) pa_nil)))
      (pss_one (ps_ret (pe_and (pe_call (ok_is_word T) (hr.mono (by decide)) (by rfl) T.g_is_word T.F_is_word.kp T.b_is_word .nil pass0 (pa_cons (pv 0) (pa_cons (pv 1) pa_nil))) (pe_one (pe_not (pe_callB (cr_any rfl) (by rfl) T.n_any Sx.bt_any (pa_cons (pe_lc (own := [("level", 2)]) (g := (gName 2)) (tt := tYes) rfl sc_is_way.nd (pi_tup (pe_call (ok_letter_levels T) (hr.mono (by decide)) (by rfl) T.g_letter_levels T.F_letter_levels.kp T.b_letter_levels .nil pass0 (pa_cons (pv 0) (pa_cons (pv 1) pa_nil)))) (blkOk_by (N := N_is_way) (sc := defScope st_is_way) (by decide +kernel)) (fun _ _ _ _ _ => (pg_name (i := 2) sc_is_way.nd rfl (.inl rfl))) (fun _ _ _ _ _ => pts_nil) (fun _ _ _ _ _ => (pe_cmpR op_lt (pv 2) pe_int (nomark _)))) pa_nil)))))))), ?_⟩
    refine Sx.r_st (σ' := [some (v), some (.str (S l)), none]) rfl ?_
    walk_at "sx"
    refine ⟨v, a, b, rfl, hS, ?_⟩
    walk_at "sx"
    refine ⟨v, a, b, l, rfl, hS, hW.1, ?_⟩
    walk_at "sx"
    refine ⟨v, a, b, l, rfl, hS, by omega, fun p H1 s1 hp => ?_⟩
    have hn := lvs_len (a := a) (b := b) (l := l)
    have pos : ∀ x, x ∈ lvs a b l → 0 ≤ x := by
      intro x hx
      obtain ⟨i, hi⟩ := List.getElem?_of_mem hx
      have hi' : i < l.length := by rw [← hn]; exact (List.getElem?_eq_some_iff.mp hi).1
      rw [lvs_get hi'] at hi
      cases hi
      exact hW.2 i hi'
    generalize lvs a b l = ns at *
    refine r_seqT (SqT.of hp) ?_
    refine lw_tup (xs := ns.map V.int) (fun D i H' => Same H1 H' ∧ H' D = some (.lst (((ns.take i).map fun x => decide (x < 0)).map V.bl))) (fun D hD => ⟨same_new hD, upd_same⟩) (fun D hD i H' _ z => SqT.of (z.1 _ _ hp)) ?_ ?_
    · rintro D hD i x H2 hx ⟨s2, hd⟩
      rw [List.getElem?_map] at hx
      obtain ⟨y, hy, rfl⟩ := Option.map_eq_some_iff.mp hx
      walk_at "sx"
      refine ⟨rfl, ?_⟩
      walk_at "sx"
      refine ⟨_, hd, ?_, same_mut s2 hD, ?_⟩
      · rw [List.length_map, List.length_map, List.length_take, sizeLine_eq]; omega
      · rw [upd_same, List.take_add_one, hy, List.map_append, List.map_append]; rfl
    · rintro D hD H2 ⟨s2, hd⟩
      rw [List.length_map, List.take_length] at hd
      walk_at "sx"
      refine ⟨D, _, rfl, SqL.of hd, ?_⟩
      rw [none_below pos]
      walk_at "sx"
      exact q H2 (fun b o e => s2 b o (s1 b o e))
def wyF (sv : V) (l : List Nat) (t r k : Addr) : List (Str × V) := putF "_key" (.ref k) (putF "_runs" (.ref r) (putF "_levels" (.ref t) (putF "_text" (.str (S l)) (putF "_slope" sv []))))
theorem wyF_key {sv : V} {l : List Nat} {t r k : Addr} : (wyF sv l t r k).lookup ("_key" : Str) = some (.ref k) := by
  unfold wyF; rw [lookup_putF, if_pos rfl]
theorem wyF_runs {sv : V} {l : List Nat} {t r k : Addr} : (wyF sv l t r k).lookup ("_runs" : Str) = some (.ref r) := by
  unfold wyF; rw [lookup_putF, if_neg (by decide +kernel), lookup_putF, if_pos rfl]
theorem wyF_levels {sv : V} {l : List Nat} {t r k : Addr} : (wyF sv l t r k).lookup ("_levels" : Str) = some (.ref t) := by
  unfold wyF; rw [lookup_putF, if_neg (by decide +kernel), lookup_putF, if_neg (by decide +kernel), lookup_putF, if_pos rfl]
theorem wyF_text {sv : V} {l : List Nat} {t r k : Addr} : (wyF sv l t r k).lookup ("_text" : Str) = some (.str (S l)) := by
  unfold wyF; rw [lookup_putF, if_neg (by decide +kernel), lookup_putF, if_neg (by decide +kernel), lookup_putF, if_neg (by decide +kernel), lookup_putF, if_pos rfl]
theorem wyF_slope {sv : V} {l : List Nat} {t r k : Addr} : (wyF sv l t r k).lookup ("_slope" : Str) = some sv := by
  unfold wyF; rw [lookup_putF, if_neg (by decide +kernel), lookup_putF, if_neg (by decide +kernel), lookup_putF, if_neg (by decide +kernel), lookup_putF, if_neg (by decide +kernel), lookup_putF, if_pos rfl]
theorem wyF_no {sv : V} {l : List Nat} {t r k : Addr} {m : Str} (h1 : m ≠ "_key") (h2 : m ≠ "_runs") (h3 : m ≠ "_levels") (h4 : m ≠ "_text") (h5 : m ≠ "_slope") : (wyF sv l t r k).lookup m = none := by
  unfold wyF; rw [lookup_putF, if_neg h1, lookup_putF, if_neg h2, lookup_putF, if_neg h3, lookup_putF, if_neg h4, lookup_putF, if_neg h5]; rfl
/-- what a way's own cells hold -/
def WayIn (CS : Addr) (H : Hp) (sv : V) (a b : Nat) (l : List Nat) (t r k : Addr) : Prop :=
  SlopeAt CS H sv a b ∧ H t = some (.tup ((lvs a b l).map V.int)) ∧ H r = some (.tup ((runsOf l).map V.int)) ∧ H k = some (.tup [.int a, .int b, .str (S l)])
/-- v is the way l of a:b -/
def WayAt (CS CW : Addr) (H : Hp) (v : V) (a b : Nat) (l : List Nat) : Prop := IsWay a b l ∧ ∃ p dx sv t r k, v = .ref p ∧ H p = some (.ins CW dx (wyF sv l t r k)) ∧ WayIn CS H sv a b l t r k
theorem WayAt.mono {CS CW : Addr} {H H' : Hp} {v : V} {a b : Nat} {l : List Nat} (h : WayAt CS CW H v a b l) (s : Same H H') : WayAt CS CW H' v a b l := by
  obtain ⟨h0, p, dx, sv, t, r, k, h1, h2, h3, h4, h5, h6⟩ := h
  exact ⟨h0, p, dx, sv, t, r, k, h1, s _ _ h2, h3.mono s, s _ _ h4, s _ _ h5, s _ _ h6⟩
theorem WayAt.kp {CS CW : Addr} {H H' : Hp} {v : V} {a b : Nat} {l : List Nat} {d : Addr} (h : WayAt CS CW H v a b l) (s : Kp d H H') : WayAt CS CW H' v a b l := by
  obtain ⟨h0, p, dx, sv, t, r, k, h1, h2, h3, h4, h5, h6⟩ := h
  exact ⟨h0, p, dx, sv, t, r, k, h1, s.ins h2, h3.kp s, s.tup h4, s.tup h5, s.tup h6⟩
def sp_Way_init (CS CW : Addr) : Sp := fun vs H Q _ => ∃ p dx sv, ∃ a b : Nat, ∃ l : List Nat, vs = [.ref p, sv, .str (S l)] ∧ H p = some (.ins CW dx []) ∧ SlopeAt CS H sv a b ∧ IsWay a b l ∧
  ∀ t r k H', (∀ c o, c ≠ p → H c = some o → H' c = some o) → H' p = some (.ins CW dx (wyF sv l t r k)) → WayIn CS H' sv a b l t r k → Q .non H'
theorem slope_ne {CS CW : Addr} {H H' : Hp} {sv : V} {a b : Int} {p dx : Addr} (h : SlopeAt CS H sv a b) (ne : ∀ p', sv = .ref p' → p' ≠ p) (s : ∀ c o, c ≠ p → H c = some o → H' c = some o) : SlopeAt CS H' sv a b := by
  obtain ⟨h1, q, dq, h2, h3⟩ := h
  exact ⟨h1, q, dq, h2, s _ _ (ne _ h2) h3⟩
theorem ok_Way_init (T : Tx K mg) : FnOk P w K mg base CX0 5 T.a_Way_init T.d_Way_init ["self", "slope", "text"] (sp_Way_init T.C_Slope T.C_Way) := by
  refine T.F_Way_init.ok sc_Way_init (fun vs H Q E h => ?_) (fun cdv A outer s H vs Q E hr h => ?_)
  · obtain ⟨p, dx, sv, a, b, l, rfl, _⟩ := h; rfl
  · obtain ⟨p, dx, sv, a, b, l, rfl, hp, hS, hW, q⟩ := h
    have hl := wd_len hS hW.1
    have svp : ∀ p', sv = .ref p' → p' ≠ p := by
      rintro p' rfl rfl
      obtain ⟨_, q', dq, h2, h3⟩ := hS
      cases h2
      rw [hp] at h3
      have e := Option.some.inj h3
      injection e with e1 e2 e3
      exact absurd (congrArg List.length e3) (by rw [show (slF (a : Int) (b : Int)).length = 3 from rfl]; decide)
    refine ⟨_, (pss_cons (ps_if (pt_not (pt_val (pe_call (ok_is_way T) (hr.mono (by decide)) (by rfl) T.g_is_way T.F_is_way.kp T.b_is_way .nil pass0 (pa_cons (pv 1) (pa_cons (pv 2) pa_nil))))) pss_never pss_nil)
      (pss_cons (ps_fld (pv 0) (pv 1) rfl)
      (pss_cons (ps_fld (pv 0) (pv 2) rfl)
      (pss_cons (ps_fld (pv 0) (pe_call (ok_letter_levels T) (hr.mono (by decide)) (by rfl) T.g_letter_levels T.F_letter_levels.kp T.b_letter_levels .nil pass0 (pa_cons (pv 1) (pa_cons (pv 2) pa_nil))) rfl)
      (pss_cons (ps_fld (pv 0) (pe_callTy Sx.c_tupOf (by rfl) T.n_tuple Sx.bt_tuple (pa_cons (pe_lc (own := [("run", 3)]) (g := (gName 3)) rfl sc_Way_init.nd (pi_list (pe_bm PySem.F.plainAttrs_str PySem.F.slot_str_split PySem.F.type_str_split Sx.m_split (pv 2) (pa_cons pe_str pa_nil))) (blkOk_by (N := N_Way_init) (sc := defScope st_Way_init) (by decide +kernel)) (fun _ _ _ _ _ => (pg_name (i := 3) sc_Way_init.nd rfl (.inl rfl))) (fun _ _ _ _ _ => (pts_one (pt_cmpR op_ne (pv 3) pe_str (nomark _)))) (fun _ _ _ _ _ => (pe_callB Sx.c_lenS (by rfl) T.n_len Sx.bt_len (pa_cons (pv 3) pa_nil)))) pa_nil)) rfl)
      (pss_one (ps_fld (pv 0) (pe_tup (pa_cons (pe_prop (pv 1) T.cl_Slope T.pr_Slope_rises (ok_Slope_rises T) (hr.mono (by decide)) T.b_Slope_rises .nil pass0 rfl) (pa_cons (pe_prop (pv 1) T.cl_Slope T.pr_Slope_steps (ok_Slope_steps T) (hr.mono (by decide)) T.b_Slope_steps .nil pass0 rfl) (pa_cons (pv 2) pa_nil)))) rfl))))))), ?_⟩
    refine Sx.r_st (σ' := [some (.ref p), some (sv), some (.str (S l)), none]) rfl ?_
    walk_at "sxi"
    refine ⟨sv, a, b, l, rfl, hS, hW, fun H1 s1 => ?_⟩
    walk_at "sx"
    refine r_insput (s1 _ _ hp) T.cl_Way T.na_Way_slope (by decide) ?_
    walk_at "sx"
    refine r_insput upd_same T.cl_Way T.na_Way_text len1 ?_
    walk_at "sx"
    have k2 : ∀ c o, c ≠ p → H1 c = some o → (upd (upd H1 p (.ins T.C_Way dx (putF "_slope" sv []))) p (.ins T.C_Way dx (putF "_text" (.str (S l)) (putF "_slope" sv [])))) c = some o := fun c o n e => by rw [upd_ne n, upd_ne n]; exact e
    have p2 : (upd (upd H1 p (.ins T.C_Way dx (putF "_slope" sv []))) p (.ins T.C_Way dx (putF "_text" (.str (S l)) (putF "_slope" sv [])))) p = some (.ins T.C_Way dx (putF "_text" (.str (S l)) (putF "_slope" sv []))) := upd_same
    generalize upd (upd H1 p (.ins T.C_Way dx (putF "_slope" sv []))) p (.ins T.C_Way dx (putF "_text" (.str (S l)) (putF "_slope" sv []))) = H2 at k2 p2 ⊢
    have hS2 : SlopeAt T.C_Slope H2 sv a b := slope_ne (CW := T.C_Way) (dx := dx) (hS.mono s1) svp k2
    refine ⟨sv, a, b, l, rfl, hS2, by omega, fun t H3 s3 ht => ?_⟩
    walk_at "sx"
    have tp : t ≠ p := by
      rintro rfl
      rw [s3 _ _ p2] at ht; cases ht
    refine r_insput (s3 _ _ p2) T.cl_Way T.na_Way_levels len2 ?_
    have k4 : ∀ c o, c ≠ p → H2 c = some o → (upd H3 p (.ins T.C_Way dx (putF "_levels" (.ref t) (putF "_text" (.str (S l)) (putF "_slope" sv []))))) c = some o := fun c o n e => by rw [upd_ne n]; exact s3 _ _ e
    have p4 : (upd H3 p (.ins T.C_Way dx (putF "_levels" (.ref t) (putF "_text" (.str (S l)) (putF "_slope" sv []))))) p = some (.ins T.C_Way dx (putF "_levels" (.ref t) (putF "_text" (.str (S l)) (putF "_slope" sv [])))) := upd_same
    have t4 : (upd H3 p (.ins T.C_Way dx (putF "_levels" (.ref t) (putF "_text" (.str (S l)) (putF "_slope" sv []))))) t = some (.tup ((lvs a b l).map V.int)) := by rw [upd_ne tp]; exact ht
    generalize upd H3 p (.ins T.C_Way dx (putF "_levels" (.ref t) (putF "_text" (.str (S l)) (putF "_slope" sv [])))) = H4 at k4 p4 t4 ⊢
    have hS4 : SlopeAt T.C_Slope H4 sv a b := slope_ne (CW := T.C_Way) (dx := dx) hS2 svp k4
    walk_at "sx"
    refine ⟨S l, "s", rfl, rfl, by decide +kernel, by rw [SX.S_len, sizeLine_eq]; omega, fun z hz => ?_⟩
    walk_at "sx"
    have z5 : (upd H4 z (.lst ((Txt.split (S l) "s").map V.str))) z = some (.lst ((Txt.split (S l) "s").map V.str)) := upd_same
    have s5 : Same H4 (upd H4 z (.lst ((Txt.split (S l) "s").map V.str))) := same_new hz
    generalize upd H4 z (.lst ((Txt.split (S l) "s").map V.str)) = H5 at z5 s5 ⊢
    have hy := PyProof.Rows.split_le (S l) "s"
    rw [SX.S_len] at hy
    refine r_seqL (SqL.of z5) ?_
    refine lw_list (xs := (Txt.split (S l) "s").map V.str) (fun D i H' => Same H5 H' ∧ H' D = some (.lst ((runsUp (Txt.split (S l) "s") i).map V.int))) (fun D hD => ⟨same_new hD, upd_same⟩) (fun D hD i H' _ z => SqL.of (z.1 _ _ z5)) ?_ ?_
    · rintro D hD i x H6 hx ⟨s6, hd⟩
      rw [List.getElem?_map] at hx
      obtain ⟨y, hy', rfl⟩ := Option.map_eq_some_iff.mp hx
      have hi : i < (Txt.split (S l) "s").length := (List.getElem?_eq_some_iff.mp hy').1
      have yl : y.length ≤ sizeLine := by
        have h1 := PyProof.Rows.split_weight (S l) "s" (by decide +kernel)
        have h2 : y.length ≤ ((Txt.split (S l) "s").map (·.length)).sum := by
          have := List.mem_of_getElem? hy'
          exact le_sum_mem (List.mem_map.mpr ⟨y, this, rfl⟩)
        rw [SX.S_len] at h1
        rw [sizeLine_eq]; omega
      walk_at "sx"
      refine ⟨rfl, ?_⟩
      walk_at "sx"
      refine ite_nd (fun h => ?_) (fun h => ?_)
      · walk_at "sx"
        · refine ⟨_, hd, ?_, same_mut s6 hD, ?_⟩
          · have := runsUp_len (ys := Txt.split (S l) "s") (i := i)
            rw [List.length_map, sizeLine_eq]; omega
          · rw [runsUp_yes hy' h]; exact upd_same
        · exact yl
      · refine ⟨s6, ?_⟩
        rw [runsUp_no hy' h]; exact hd
    · rintro D hD H6 ⟨s6, hd⟩
      rw [List.length_map] at hd
      walk_at "sx"
      refine r_tupOfL (SqL.of hd) (fun r hr => ?_)
      have s7 : Same H4 (upd H6 r (.tup ((runsOf l).map V.int))) := fun b o e => same_new hr b o (s6 b o (s5 b o e))
      have r7 : (upd H6 r (.tup ((runsOf l).map V.int))) r = some (.tup ((runsOf l).map V.int)) := upd_same
      rw [show runsUp (Txt.split (S l) "s") (Txt.split (S l) "s").length = runsOf l from rfl]
      walk_at "sx"
      refine r_insput (s7 _ _ p4) T.cl_Way T.na_Way_runs len3 ?_
      have rp : r ≠ p := by
        rintro rfl
        have e := s7 _ _ p4
        rw [r7] at e; cases e
      have k8 : ∀ c o, c ≠ p → H4 c = some o → (upd (upd H6 r (.tup ((runsOf l).map V.int))) p (.ins T.C_Way dx (putF "_runs" (.ref r) (putF "_levels" (.ref t) (putF "_text" (.str (S l)) (putF "_slope" sv [])))))) c = some o := fun c o n e => by rw [upd_ne n]; exact s7 _ _ e
      have p8 : (upd (upd H6 r (.tup ((runsOf l).map V.int))) p (.ins T.C_Way dx (putF "_runs" (.ref r) (putF "_levels" (.ref t) (putF "_text" (.str (S l)) (putF "_slope" sv [])))))) p = some (.ins T.C_Way dx (putF "_runs" (.ref r) (putF "_levels" (.ref t) (putF "_text" (.str (S l)) (putF "_slope" sv []))))) := upd_same
      have r8 : (upd (upd H6 r (.tup ((runsOf l).map V.int))) p (.ins T.C_Way dx (putF "_runs" (.ref r) (putF "_levels" (.ref t) (putF "_text" (.str (S l)) (putF "_slope" sv [])))))) r = some (.tup ((runsOf l).map V.int)) := by rw [upd_ne rp]; exact r7
      generalize upd (upd H6 r (.tup ((runsOf l).map V.int))) p (.ins T.C_Way dx (putF "_runs" (.ref r) (putF "_levels" (.ref t) (putF "_text" (.str (S l)) (putF "_slope" sv []))))) = H8 at k8 p8 r8 ⊢
      have hS8 : SlopeAt T.C_Slope H8 sv a b := slope_ne (CW := T.C_Way) (dx := dx) hS4 svp k8
      walk_at "sx"
      refine rd_r hS8 ?_
      walk_at "sx"
      refine rd_s hS8 ?_
      walk_at "sx"
      refine ⟨sz _ (Nat.le_of_ble_eq_true rfl), fun k hk => ?_⟩
      walk_at "sx"
      refine ⟨p, _, dx, _, rfl, same_new hk _ _ p8, T.cl_Way, T.na_Way_key, len4, ?_⟩
      have s9 : Same H8 (upd H8 k (.tup [.int a, .int b, .str (S l)])) := same_new hk
      have kp : k ≠ p := by
        rintro rfl
        rw [p8] at hk; cases hk
      refine q t r k _ ?_ upd_same ?_
      · intro c o n e
        rw [upd_ne n]
        exact s9 _ _ (k8 c o n (k4 c o n (k2 c o n (s1 _ _ e))))
      · refine ⟨slope_ne (CW := T.C_Way) (dx := dx) (hS8.mono s9) svp fun c o n e => by rw [upd_ne n]; exact e, ?_, ?_, ?_⟩
        · rw [upd_ne tp]; exact s9 _ _ (k8 _ _ tp t4)
        · rw [upd_ne rp]; exact s9 _ _ r8
        · rw [upd_ne kp, upd_same]
/-- a new way -/
theorem mk_way {CS CW : Addr} {H : Hp} {Q : VK} {E : XK} {sv : V} {a b : Nat} {l : List Nat} (hS : SlopeAt CS H sv a b) (hW : IsWay a b l) (q : ∀ v H', Same H H' → WayAt CS CW H' v a b l → Q v H') :
    MakeP CW (sp_Way_init CS CW) E [sv, .str (S l)] H Q := by
  intro x dx hx hdx hne
  have s1 : Same H (upd (upd H dx (.own x)) x (.ins CW dx [])) := by
    intro c o e
    rw [upd_ne (ne_of_none e hx), upd_ne (ne_of_none e hdx)]; exact e
  refine ⟨x, dx, sv, a, b, l, rfl, upd_same, hS.mono s1, hW, fun t r k H' k1 h1 h2 => ⟨rfl, ?_⟩⟩
  refine q _ H' (fun c o e => k1 c o (ne_of_none e hx) (s1 _ _ e)) ⟨hW, x, dx, sv, t, r, k, rfl, h1, h2⟩
/-- a way's parts, read -/
theorem rw_get {CS CW : Addr} {f : Str} {H : Hp} {v : V} {a b : Nat} {l : List Nat} {Q : VK} {E : XK} (h : WayAt CS CW H v a b l) (q : ∀ sv t r k, WayIn CS H sv a b l t r k → ∃ u, (wyF sv l t r k).lookup f = some u ∧ Q u H) : ∃ p dx fs, v = .ref p ∧ H p = some (.ins CW dx fs) ∧ getSp CW f (.ref p :: []) H Q E := by
  obtain ⟨_, p, dx, sv, t, r, k, rfl, e, hi⟩ := h
  obtain ⟨u, lu, q⟩ := q sv t r k hi
  exact ⟨p, dx, _, rfl, e, r_getSp e lu q⟩
theorem rw_text {CS CW : Addr} {H : Hp} {v : V} {a b : Nat} {l : List Nat} {Q : VK} {E : XK} (h : WayAt CS CW H v a b l) (q : Q (.str (S l)) H) : ∃ p dx fs, v = .ref p ∧ H p = some (.ins CW dx fs) ∧ getSp CW "_text" (.ref p :: []) H Q E :=
  rw_get h fun _ _ _ _ _ => ⟨_, wyF_text, q⟩
theorem rw_slope {CS CW : Addr} {H : Hp} {v : V} {a b : Nat} {l : List Nat} {Q : VK} {E : XK} (h : WayAt CS CW H v a b l) (q : ∀ sv, SlopeAt CS H sv a b → Q sv H) : ∃ p dx fs, v = .ref p ∧ H p = some (.ins CW dx fs) ∧ getSp CW "_slope" (.ref p :: []) H Q E :=
  rw_get h fun _ _ _ _ hi => ⟨_, wyF_slope, q _ hi.1⟩
theorem rw_levels {CS CW : Addr} {H : Hp} {v : V} {a b : Nat} {l : List Nat} {Q : VK} {E : XK} (h : WayAt CS CW H v a b l) (q : ∀ t, H t = some (.tup ((lvs a b l).map V.int)) → Q (.ref t) H) : ∃ p dx fs, v = .ref p ∧ H p = some (.ins CW dx fs) ∧ getSp CW "_levels" (.ref p :: []) H Q E :=
  rw_get h fun _ _ _ _ hi => ⟨_, wyF_levels, q _ hi.2.1⟩
theorem md_way {CS CW : Addr} {H : Hp} {v : V} {a b : Nat} {l : List Nat} {m : Str} {Pr : Prop} (h : WayAt CS CW H v a b l) (h1 : m ≠ "_key") (h2 : m ≠ "_runs") (h3 : m ≠ "_levels") (h4 : m ≠ "_text") (h5 : m ≠ "_slope") (hp : Pr) : ∃ p dx fs, v = .ref p ∧ H p = some (.ins CW dx fs) ∧ fs.lookup m = none ∧ Pr := by
  obtain ⟨_, p, dx, sv, t, r, k, rfl, e, _⟩ := h
  exact ⟨p, dx, _, rfl, e, wyF_no h1 h2 h3 h4 h5, hp⟩
theorem ok_Way_slope (T : Tx K mg) : FnOk P w K mg base CX0 1 T.a_Way_slope T.d_Way_slope ["self"] (getSp T.C_Way "_slope") := by
  refine T.F_Way_slope.ok sc_Way_slope (fun vs H Q E h => ?_) (fun cdv A outer s H vs Q E hr h => ?_)
  · obtain ⟨a, dx, fs, v, rfl, _⟩ := h; rfl
  · obtain ⟨a, dx, fs, v, rfl, e, l, q⟩ := h
    refine ⟨_, (pss_one (ps_ret (pe_fld (pv 0) rfl))), ?_⟩
    refine Sx.r_st (σ' := [some (.ref a)]) rfl ?_
    walk_at "sx"
    exact ⟨a, _, dx, fs, v, rfl, e, T.cl_Way, T.na_Way_slope, l, q⟩
theorem ok_Way_text (T : Tx K mg) : FnOk P w K mg base CX0 1 T.a_Way_text T.d_Way_text ["self"] (getSp T.C_Way "_text") := by
  refine T.F_Way_text.ok sc_Way_text (fun vs H Q E h => ?_) (fun cdv A outer s H vs Q E hr h => ?_)
  · obtain ⟨a, dx, fs, v, rfl, _⟩ := h; rfl
  · obtain ⟨a, dx, fs, v, rfl, e, l, q⟩ := h
    refine ⟨_, (pss_one (ps_ret (pe_fld (pv 0) rfl))), ?_⟩
    refine Sx.r_st (σ' := [some (.ref a)]) rfl ?_
    walk_at "sx"
    exact ⟨a, _, dx, fs, v, rfl, e, T.cl_Way, T.na_Way_text, l, q⟩
theorem ok_Way_levels (T : Tx K mg) : FnOk P w K mg base CX0 1 T.a_Way_levels T.d_Way_levels ["self"] (getSp T.C_Way "_levels") := by
  refine T.F_Way_levels.ok sc_Way_levels (fun vs H Q E h => ?_) (fun cdv A outer s H vs Q E hr h => ?_)
  · obtain ⟨a, dx, fs, v, rfl, _⟩ := h; rfl
  · obtain ⟨a, dx, fs, v, rfl, e, l, q⟩ := h
    refine ⟨_, (pss_one (ps_ret (pe_fld (pv 0) rfl))), ?_⟩
    refine Sx.r_st (σ' := [some (.ref a)]) rfl ?_
    walk_at "sx"
    exact ⟨a, _, dx, fs, v, rfl, e, T.cl_Way, T.na_Way_levels, l, q⟩
def sp_Way_exchanged (CS CW : Addr) : Sp := fun vs H Q _ => ∃ v, ∃ a b : Nat, ∃ l : List Nat, vs = [v] ∧ WayAt CS CW H v a b l ∧ ∀ u H', Same H H' → WayAt CS CW H' u b a (exch l) → Q u H'
theorem exch_snoc {l : List Nat} {i c : Nat} (h : l.reverse[i]? = some c) : ((exch l).take (i + 1)).map (fun c : Nat => V.str ⟨#[c]⟩) = ((exch l).take i).map (fun c : Nat => V.str ⟨#[c]⟩) ++ [V.str ⟨#[swp c]⟩] := by
  unfold exch
  rw [List.take_add_one, List.getElem?_map, h, List.map_append]; rfl
theorem ok_Way_exchanged (T : Tx K mg) : FnOk P w K mg base CX0 7 T.a_Way_exchanged T.d_Way_exchanged ["self"] (sp_Way_exchanged T.C_Slope T.C_Way) := by
  refine T.F_Way_exchanged.ok sc_Way_exchanged (fun vs H Q E h => ?_) (fun cdv A outer s H vs Q E hr h => ?_)
  · obtain ⟨v, a, b, l, rfl, _⟩ := h; rfl
  · obtain ⟨v, a, b, l, rfl, hV, q⟩ := h
    have hV' := hV
    obtain ⟨hW, p, dx, sv, t, r, k, rfl, e, hi⟩ := hV
    have hl := wd_len hi.1 hW.1
    refine ⟨_, (pss_cons (ps_setLc (i := 1) (own := [("letter", 2)]) (g := (gName 2)) (tt := tYes) rfl sc_Way_exchanged.nd rfl rfl (sw_true rfl rfl rfl (by decide +kernel)) (pi_str (Sw.pe_revS (pe_fld (pv 0) rfl))) (blkOk_by (N := N_Way_exchanged) (sc := defScope st_Way_exchanged) (by decide +kernel)) (fun _ _ _ _ _ => (pg_name (i := 2) sc_Way_exchanged.nd rfl (.inl rfl))) (fun _ _ _ _ _ => pts_nil) (fun _ _ _ _ _ => (pe_ifExp (pt_cmpR op_eq (pv 2) pe_str (nomark _)) pe_str pe_str)))
      (pss_one (ps_ret (pe_make T.mk_Way (ok_Way_init T) (hr.mono (by decide)) (by rfl) T.g_Way T.b_Way_init .nil pass0 (pa_cons (pe_meth0 (pe_fld (pv 0) rfl) T.cl_Slope T.me_Slope_exchanged (ok_Slope_exchanged T) (hr.mono (by decide)) T.b_Slope_exchanged .nil pass0) (pa_cons (pe_bm PySem.F.plainAttrs_str PySem.F.slot_str_join PySem.F.type_str_join Sx.m_join pe_str (pa_cons (pv 1) pa_nil)) pa_nil)))))), ?_⟩
    refine Sx.r_st (σ' := [some (.ref p), none, none]) rfl ?_
    walk_at "sx"
    refine r_back ?_
    walk_at "sx"
    refine ⟨p, _, dx, _, _, rfl, e, T.cl_Way, T.na_Way_text, wyF_text, l, rfl, by omega, ?_⟩
    refine r_seqS ?_
    refine lw_it walk_str (fun D i H' => Same H H' ∧ H' D = some (.lst (((exch l).take i).map fun c : Nat => V.str ⟨#[c]⟩))) (fun D hD => ⟨same_new hD, by rw [List.take_zero]; exact upd_same⟩) (fun _ _ _ _ _ _ => trivial) ?_ ?_
    · rintro D hD i x H0 H1 hi0 ⟨s1, hd⟩ ⟨rfl, c, hc, rfl⟩
      have hc' : l.reverse[i]? = some c := by simpa using hc
      have hi' : i < l.length := by have := (List.getElem?_eq_some_iff.mp hc').1; simpa using this
      walk_at "sx"
      refine ⟨rfl, ?_⟩
      walk_at "sx"
      refine r_ifE ?_
      walk_at "sx"
      have big : (((exch l).take i).map fun c : Nat => V.str ⟨#[c]⟩).length < sizeLine := by rw [List.length_map, List.length_take, sizeLine_eq]; omega
      refine ite_d (fun h => ?_) (fun h => ?_)
      · walk_at "sx"
        refine ⟨_, hd, big, same_mut s1 hD, ?_⟩
        rw [upd_same, exch_snoc hc', is_r.mp h]; rfl
      · walk_at "sx"
        refine ⟨_, hd, big, same_mut s1 hD, ?_⟩
        rw [upd_same, exch_snoc hc']
        unfold swp
        rw [if_neg (fun z => h (is_r.mpr z))]; rfl
    · rintro D hD H1 ⟨s1, hd⟩
      have hn : (⟨l.reverse.toArray⟩ : Str).cps.size = (exch l).length := by rw [exch_len]; simp
      rw [hn, List.take_length] at hd
      walk_at "sx"
      refine ⟨p, _, dx, _, _, rfl, s1 _ _ e, T.cl_Way, T.na_Way_slope, wyF_slope, ?_⟩
      refine md_slope (hi.1.mono s1) (by decide +kernel) (by decide +kernel) (by decide +kernel) ?_
      walk_at "sx"
      refine ⟨sv, a, b, rfl, hi.1.mono s1, fun u H2 s2 hu => ?_⟩
      walk_at "sx"
      have hd2 : SqL K H2 D (((exch l).map fun c => (⟨#[c]⟩ : Str)).map V.str) := SqL.of (by rw [List.map_map]; exact s2 _ _ hd)
      refine r_joinL hd2 ?_ ?_
      · rw [join_letters]
        walk_at "sx"
        exact mk_way hu (exch_way hW) fun v H3 s3 hv => q v H3 (fun b o z => s3 b o (s2 b o (s1 b o z))) hv
      · rw [lens_ones, List.length_map, len_0, exch_len]; omega
theorem ok_text {l : List Nat} (h : ∀ c, c ∈ l → c = 114 ∨ c = 115) : PyData.strOk (S l) = true := by
  unfold PyData.strOk
  rw [Array.all_eq_true]
  intro i hi
  have hm : (S l).cps[i] ∈ l := by simp [S]
  rcases h _ hm with e | e <;> rw [e] <;> decide
def keyD (a b : Nat) (l : List Nat) : PyData := .tuple [.int a, .int b, .str (S l)]
theorem key_ok {a b : Nat} {l : List Nat} (h : ∀ c, c ∈ l → c = 114 ∨ c = 115) : SeqAt.shaped (keyD a b l) = true :=
  tup_ok (by simp only [PyData.canLayAll0, PyData.canLay0, ok_text h, Bool.and_self]) (by simp only [PyData.depthAll, PyData.depth]; decide)
theorem key_at {K : PySem.W.Frag} {H : Hp} {k : Addr} {a b : Nat} {l : List Nat} (h : H k = some (.tup [.int a, .int b, .str (S l)])) : Dp K H (.ref k) (keyD a b l) := .tup (SqT.of h) (.cons (.int _) (.cons (.int _) (.cons (.str _) .nil)))
theorem key_eqv {a b c d : Nat} {l m : List Nat} : PyData.eqv (keyD a b l) (keyD c d m) = decide (a = c ∧ b = d ∧ l = m) := by
  unfold keyD
  simp only [PyData.eqv, PyData.eqvAll, Bool.and_true]
  rw [SX.S_beq_eq]
  by_cases h1 : a = c <;> by_cases h2 : b = d <;> by_cases h3 : l = m <;> simp [h1, h2, h3] <;> omega
theorem key_alike {a b c d : Nat} {l m : List Nat} : PySem.W.alike (keyD a b l) (keyD c d m) = true := by
  unfold keyD
  simp [PySem.W.alike, PySem.W.alikeAll]
def sp_Way_eq (CS CW : Addr) : Sp := fun vs H Q _ => ∃ v u, ∃ a b c d : Nat, ∃ l m : List Nat, vs = [v, u] ∧ WayAt CS CW H v a b l ∧ WayAt CS CW H u c d m ∧ Q (.bl (decide (a = c ∧ b = d ∧ l = m))) H
theorem ok_Way_eq (T : Tx K mg) : FnOk P w K mg base CX0 1 T.a_Way_eq T.d_Way_eq ["self", "other"] (sp_Way_eq T.C_Slope T.C_Way) := by
  refine T.F_Way_eq.ok sc_Way_eq (fun vs H Q E h => ?_) (fun cdv A outer s H vs Q E hr h => ?_)
  · obtain ⟨v, u, a, b, c, d, l, m, rfl, _⟩ := h; rfl
  · obtain ⟨v, u, a, b, c, d, l, m, rfl, ⟨w1, p, dx, sv, t, r, k, rfl, e1, i1⟩, ⟨w2, p2, dx2, sv2, t2, r2, k2, rfl, e2, i2⟩, q⟩ := h
    refine ⟨_, (pss_cons (ps_if (pt_not (pt_val (pe_callB call_isi (by rfl) T.n_isinstance Sx.bt_isinstance (pa_cons (pv 1) (pa_cons (pe_glob (v := .ref T.C_Way) (by rfl) T.g_Way rfl) pa_nil))))) pss_never pss_nil)
      (pss_one (ps_ret (pe_cmpR (op_eqD hr.units) (pe_fld (pv 0) rfl) (pe_fld (pv 1) rfl) (nomark _))))), ?_⟩
    refine Sx.r_st (σ' := [some (.ref p), some (.ref p2)]) rfl ?_
    walk_at "sxi"
    refine r_isi_own e2 T.cl_Way T.ic_Way T.cg T.ct T.mr_Way T.ks_Way ?_
    walk_at "sx"
    refine ⟨p, _, dx, _, _, rfl, e1, T.cl_Way, T.na_Way_key, wyF_key, ?_⟩
    walk_at "sx"
    refine ⟨p2, _, dx2, _, _, rfl, e2, T.cl_Way, T.na_Way_key, wyF_key, ?_⟩
    refine r_eqD (key_at i1.2.2.2) (key_at i2.2.2.2) (key_ok (wd_letters w1.1)) (key_ok (wd_letters w2.1)) ?_
    rw [key_eqv]; exact q
/-! ### members below a number -/
noncomputable def bel (G : Int → Prop) (u : List Int) : List Int := u.filter fun m => @decide (0 ≤ m ∧ ¬ G m) (Classical.propDecidable _)
theorem bel_yes {G : Int → Prop} {u : List Int} {i : Nat} {x : Int} (hx : u[i]? = some x) (h : 0 ≤ x ∧ ¬ G x) : (bel G (u.take (i + 1))).map V.int = (bel G (u.take i)).map V.int ++ [V.int x] := by
  unfold bel
  rw [List.take_add_one, hx, List.filter_append, List.map_append]
  simp [h]
theorem bel_no {G : Int → Prop} {u : List Int} {i : Nat} {x : Int} (hx : u[i]? = some x) (h : ¬ (0 ≤ x ∧ ¬ G x)) : bel G (u.take (i + 1)) = bel G (u.take i) := by
  unfold bel
  rw [List.take_add_one, hx, List.filter_append]
  simp [h]
theorem bel_len {G : Int → Prop} {u : List Int} : (bel G u).length ≤ u.length := List.length_filter_le _ _
theorem bel_nil {G : Int → Prop} {u : List Int} : (bel G u).length = 0 ↔ ∀ x, x ∈ u → ¬ (0 ≤ x ∧ ¬ G x) := by
  unfold bel
  rw [List.length_eq_zero_iff, List.filter_eq_nil_iff]
  constructor
  · intro h x hx z
    exact h x hx (by simpa using z)
  · intro h x hx z
    exact h x hx (by simpa using z)
def twoB (a b : Nat) (n : Int) : List Int := [n - (max a b : Nat), n - (min a b : Nat)]
theorem twoB_mem {a b : Nat} {n x : Int} : x ∈ twoB a b n ↔ x = n - a ∨ x = n - b := by
  unfold twoB
  rw [List.mem_cons, List.mem_singleton]
  rcases Nat.le_total a b with h | h
  · rw [Nat.max_eq_right h, Nat.min_eq_left h]; exact or_comm
  · rw [Nat.max_eq_left h, Nat.min_eq_right h]
def sp_members_below (C : Addr) : Sp := fun vs H Q _ => ∃ v, ∃ a b : Nat, ∃ d, ∃ G : Int → Prop, ∃ n : Int, vs = [v, .ref d, .int n] ∧ SlopeAt C H v a b ∧ Mj.TabAt H d G ∧ ∀ D H', Same H H' → H D = none → H' D = some (.lst ((bel G (twoB a b n)).map V.int)) → Q (.ref D) H'
theorem ok_members_below (T : Tx K mg) : FnOk P w K mg base CX0 4 T.a_members_below T.d_members_below ["slope", "gaps", "number"] (sp_members_below T.C_Slope) := by
  refine T.F_members_below.ok sc_members_below (fun vs H Q E h => ?_) (fun cdv A outer s H vs Q E hr h => ?_)
  · obtain ⟨v, a, b, d, G, n, rfl, _⟩ := h; rfl
  · obtain ⟨v, a, b, d, G, n, rfl, hS, hT, q⟩ := h
    refine ⟨_, (pss_cons (ps_setLc (i := 3) (own := [("side", 4)]) (g := (gName 4)) (tt := tYes) rfl sc_members_below.nd rfl rfl (sw_true rfl rfl rfl (by decide +kernel)) (pi_tup (Rt.pe_revT (pe_call (ok_sides T) (hr.mono (by decide)) (by rfl) T.g_sides T.F_sides.kp T.b_sides .nil pass0 (pa_cons (pv 0) pa_nil)))) (blkOk_by (N := N_members_below) (sc := defScope st_members_below) (by decide +kernel)) (fun _ _ _ _ _ => (pg_name (i := 4) sc_members_below.nd rfl (.inl rfl))) (fun _ _ _ _ _ => pts_nil) (fun _ _ _ _ _ => (pe_op op_sub (pv 2) (pv 4))))
      (pss_one (ps_ret (pe_lc (own := [("member", 5)]) (g := (gName 5)) rfl sc_members_below.nd (pi_list (pv 3)) (blkOk_by (N := N_members_below) (sc := defScope st_members_below) (by decide +kernel)) (fun _ _ _ _ _ => (pg_name (i := 5) sc_members_below.nd rfl (.inl rfl))) (fun _ _ _ _ _ => (pts_one (PW.pt (pw_and (pt_cmpR op_ge (pv 5) pe_int (nomark _)) (pw_and1 (pt_cmp (pc_dnotin (Mj.hu1 hr) (pv 5) (pv 1)))))))) (fun _ _ _ _ _ => (pv 5)))))), ?_⟩
    refine Sx.r_st (σ' := [some (v), some (.ref d), some (.int n), none, none, none]) rfl ?_
    walk_at "sx"
    refine ⟨v, a, b, rfl, hS, fun t H1 s1 ht => ?_⟩
    walk_at "sx"
    refine ⟨t, _, rfl, SqT.of ht, fun p hp => ?_⟩
    have s2 : Same H (upd H1 p (.tup ([.int (min a b : Nat), .int (max a b : Nat)] : List V).reverse)) := fun c o e => same_new hp c o (s1 c o e)
    have hp2 : (upd H1 p (.tup ([.int (min a b : Nat), .int (max a b : Nat)] : List V).reverse)) p = some (.tup (([((max a b : Nat) : Int), ((min a b : Nat) : Int)] : List Int).map V.int)) := upd_same
    generalize upd H1 p (.tup ([.int (min a b : Nat), .int (max a b : Nat)] : List V).reverse) = H2 at s2 hp2 ⊢
    refine r_seqT (SqT.of hp2) ?_
    refine lw_tup (xs := ([((max a b : Nat) : Int), ((min a b : Nat) : Int)] : List Int).map V.int) (fun D i H' => Same H2 H' ∧ H' D = some (.lst (((twoB a b n).take i).map V.int))) (fun D hD => ⟨same_new hD, upd_same⟩) (fun D hD i H' _ z => SqT.of (z.1 _ _ hp2)) ?_ ?_
    · rintro D hD i x H3 hx ⟨s3, hd⟩
      rw [List.getElem?_map] at hx
      obtain ⟨y, hy, rfl⟩ := Option.map_eq_some_iff.mp hx
      have hB : (twoB a b n)[i]? = some (n - y) := by
        have e : twoB a b n = ([((max a b : Nat) : Int), ((min a b : Nat) : Int)] : List Int).map fun s => n - s := rfl
        rw [e, List.getElem?_map, hy]; rfl
      walk_at "sx"
      refine ⟨rfl, ?_⟩
      walk_at "sx"
      refine ⟨_, hd, ?_, same_mut s3 hD, ?_⟩
      · rw [List.length_map, List.length_take]; exact sz' _ (by have : (twoB a b n).length = 2 := rfl; omega)
      · rw [upd_same, ← Mw.ints_snoc hB]
    · rintro D hD H3 ⟨s3, hd⟩
      have e2 : (twoB a b n).take (([((max a b : Nat) : Int), ((min a b : Nat) : Int)] : List Int).map V.int).length = twoB a b n := rfl
      rw [e2] at hd
      walk_at "sx"
      refine r_seqL (SqL.of hd) ?_
      refine lw_list (xs := (twoB a b n).map V.int) (fun E i H' => Same H3 H' ∧ H' E = some (.lst ((bel G ((twoB a b n).take i)).map V.int))) (fun E hE => ⟨same_new hE, upd_same⟩) (fun E hE i H' _ z => SqL.of (z.1 _ _ hd)) ?_ ?_
      · rintro E hE i x H4 hx ⟨s4, he⟩
        rw [List.getElem?_map] at hx
        obtain ⟨y, hy, rfl⟩ := Option.map_eq_some_iff.mp hx
        have hT4 : Mj.TabAt H4 d G := hT.mono fun c o e => s4 c o (s3 c o (s2 c o e))
        have hl : (bel G ((twoB a b n).take i)).length ≤ 2 := Nat.le_trans bel_len (by rw [List.length_take]; exact Nat.min_le_right _ _)
        walk_at "sx"
        refine ⟨rfl, ?_⟩
        walk_at "sx"
        refine ite_d (fun h0 => ?_) (fun h0 => ?_)
        · walk_at "sx"
          obtain ⟨o, hg, ho⟩ := hT4.get y
          refine ⟨d, o, rfl, hg, _, rfl, ?_⟩
          cases hk : o.isSome with
          | false =>
            have hy2 : 0 ≤ y ∧ ¬ G y := ⟨h0, fun z => by rw [ho.mpr z] at hk; cases hk⟩
            show if (!false) = true then _ else _
            rw [if_pos (by decide)]
            walk_at "sx"
            refine ⟨_, he, ?_, same_mut s4 hE, ?_⟩
            · rw [List.length_map]; exact sz' _ (by omega)
            · rw [upd_same, bel_yes hy hy2]
          | true =>
            show if (!true) = true then _ else _
            rw [if_neg (by decide)]
            refine ⟨s4, ?_⟩
            rw [bel_no hy (fun z => z.2 (ho.mp hk))]; exact he
        · refine ⟨s4, ?_⟩
          rw [bel_no hy (fun z => h0 z.1)]; exact he
      · rintro E hE H4 ⟨s4, he⟩
        have e3 : (twoB a b n).take ((twoB a b n).map V.int).length = twoB a b n := rfl
        rw [e3] at he
        walk_at "sx"
        refine q E H4 (fun c o e => s4 c o (s3 c o (s2 c o e))) ?_ he
        cases hHE : H E with
        | none => rfl
        | some o => rw [s3 _ _ (s2 _ _ hHE)] at hE; cases hE
/-! ### is_gaps -/
/-- no number of ns has a member below it -/
def Closed (a b : Nat) (ns : List Int) : Prop := ∀ g, g ∈ ns → ∀ x, (x = g - a ∨ x = g - b) → 0 ≤ x → x ∈ ns
theorem any_none : ∀ n, ((List.replicate n false).any id) = false
  | 0 => rfl
  | n + 1 => by rw [List.replicate_succ, List.any_cons, any_none n]; rfl
theorem fl_snoc (n : Nat) : (List.replicate (n + 1) false).map V.bl = (List.replicate n false).map V.bl ++ [V.bl false] := by
  rw [List.replicate_succ', List.map_append]; rfl
theorem tup_dict {ns : List Int} (h : ns.Pairwise (· < ·)) {i : Nat} {x : Int} (hx : ns[i]? = some x) : x ∉ ns.take i := by
  intro m
  obtain ⟨j, hj⟩ := List.getElem?_of_mem m
  have hj1 := (List.getElem?_eq_some_iff.mp hj).1
  rw [List.length_take] at hj1
  rw [List.getElem?_take, if_pos (by omega)] at hj
  have hi := (List.getElem?_eq_some_iff.mp hx).1
  have e1 := (List.getElem?_eq_some_iff.mp hx).2
  have hj2 := (List.getElem?_eq_some_iff.mp hj).1
  have e2 := (List.getElem?_eq_some_iff.mp hj).2
  have := List.pairwise_iff_getElem.mp h j i hj2 hi (by omega)
  omega
def sp_is_gaps (K : PySem.W.Frag) (C : Addr) : Sp := fun vs H Q _ => ∃ v, ∃ a b : Nat, ∃ t, ∃ ns : List Int, vs = [v, .ref t] ∧ SlopeAt C H v a b ∧ Nat.gcd a b = 1 ∧ SqT K H t (ns.map V.int) ∧ AscIn 1 (2 * (((a : Int) - 1) * ((b : Int) - 1) / 2)) ns ∧ ns.length ≤ 10000 ∧ Closed a b ns ∧ ∀ H', Same H H' → Q (.bl true) H'
theorem SqT.same {H H' : Hp} {t : Addr} {xs : List V} (h : SqT K H t xs) (s : Same H H') : SqT K H' t xs := by
  rcases h with (h | ⟨o, h⟩) | h
  · exact .inl (.inl (s _ _ h))
  · exact .inl (.inr ⟨o, s _ _ h⟩)
  · exact .inr h
theorem ok_is_gaps (T : Tx K mg) : FnOk P w K mg base CX0 6 T.a_is_gaps T.d_is_gaps ["slope", "value"] (sp_is_gaps K T.C_Slope) := by
  refine T.F_is_gaps.ok sc_is_gaps (fun vs H Q E h => ?_) (fun cdv A outer s H vs Q E hr h => ?_)
  · obtain ⟨v, a, b, t, ns, rfl, _⟩ := h; rfl
  · obtain ⟨v, a, b, t, ns, rfl, hS, hg, ht, hA, hn, hC, q⟩ := h
    refine ⟨_, (pss_cons (ps_expr (pe_call (ok_check_slope T) (hr.mono (by decide)) (by rfl) T.g_check_slope T.F_check_slope.kp T.b_check_slope .nil pass0 (pa_cons (pv 0) pa_nil)))
      (pss_cons (ps_expr (pe_call (ok_check_coprime T) (hr.mono (by decide)) (by rfl) T.g_check_coprime T.F_check_coprime.kp T.b_check_coprime .nil pass0 (pa_cons (pv 0) pa_nil)))
      (pss_cons (ps_if (pt_not (pt_val (pe_call (ok_is_ascending T) (hr.mono (by decide)) (by rfl) T.g_is_ascending T.F_is_ascending.kp T.b_is_ascending .nil pass0 (pa_cons (pv 1) (pa_cons pe_int (pa_cons (pe_op Sx.op_mulA pe_int (pe_prop (pv 0) T.cl_Slope T.pr_Slope_half (ok_Slope_half T) (hr.mono (by decide)) T.b_Slope_half .nil pass0 rfl)) pa_nil)))))) (pss_one (ps_ret pe_bl)) pss_nil)
      (pss_cons (ps_set (i := 2) sc_is_gaps.nd rfl (.inr rfl) (pe_dc (own := [("gap", 3)]) (g := (gName 3)) (tt := tYes) rfl sc_is_gaps.nd (pi_tup (pv 1)) (blkOk_by (N := N_is_gaps) (sc := defScope st_is_gaps) (by decide +kernel)) (fun _ _ _ _ _ => (pg_name (i := 3) sc_is_gaps.nd rfl (.inl rfl))) (fun _ _ _ _ _ => pts_nil) (fun _ _ _ _ _ => (pv 3)) (fun _ _ _ _ _ => pe_bl)))
      (pss_one (ps_ret (pe_not (pe_callB (cr_any rfl) (by rfl) T.n_any Sx.bt_any (pa_cons (pe_lc (own := [("gap", 3)]) (g := (gName 3)) (tt := tYes) rfl sc_is_gaps.nd (pi_tup (pv 1)) (blkOk_by (N := N_is_gaps) (sc := defScope st_is_gaps) (by decide +kernel)) (fun _ _ _ _ _ => (pg_name (i := 3) sc_is_gaps.nd rfl (.inl rfl))) (fun _ _ _ _ _ => pts_nil) (fun _ _ _ _ _ => (pe_cmpR op_gt (pe_callB (show CallR _ _ (Sx.qLen K) from Sx.c_len) (by rfl) T.n_len Sx.bt_len (pa_cons (pe_call (ok_members_below T) (hr.mono (by decide)) (by rfl) T.g_members_below T.F_members_below.kp T.b_members_below .nil pass0 (pa_cons (pv 0) (pa_cons (pv 2) (pa_cons (pv 3) pa_nil)))) pa_nil)) pe_int (nomark _)))) pa_nil))))))))), ?_⟩
    refine Sx.r_st (σ' := [some (v), some (.ref t), none, none]) rfl ?_
    have hb := hS.1
    walk_at "sx"
    refine ⟨v, a, b, rfl, hS, ?_⟩
    walk_at "sx"
    refine ⟨v, a, b, rfl, hS, hg, ?_⟩
    walk_at "sxi"
    refine rd_half hS hg ?_
    walk_at "sx"
    rotate_left
    · exact cmA_l (by decide)
    refine ⟨t, ns, 1, _, rfl, ht, hA, ?_⟩
    walk_at "sx"
    refine r_seqT ht ?_
    refine Mj.dw_tup (xs := ns.map V.int) (fun D i H' => Same H H' ∧ H' D = some (.dK (Mj.tabKv (ns.take i)))) (fun D hD => ⟨same_new hD, upd_same⟩) (fun D hD i H' _ z => SqT.same ht z.1) ?_ ?_
    · rintro D hD i x H1 hx ⟨s1, hd⟩
      rw [List.getElem?_map] at hx
      obtain ⟨y, hy, rfl⟩ := Option.map_eq_some_iff.mp hx
      walk_at "sx"
      refine ⟨rfl, ?_⟩
      walk_at "sx"
      refine ⟨_, .inl y, rfl, hd, ?_, same_mut s1 hD, ?_⟩
      · unfold Mj.tabKv; rw [List.length_map, List.length_take, sizeLine_eq]; omega
      · rw [upd_same, Mj.tabKv_put (tup_dict hA.1 hy), List.take_add_one, hy]; rfl
    · rintro D hD H1 ⟨s1, hd⟩
      rw [List.length_map, List.take_length] at hd
      have hT : Mj.TabAt H1 D (fun x => x ∈ ns) := ⟨_, hd, Mj.tabKv_get ns⟩
      have ht1 := SqT.same ht s1
      walk_at "sx"
      refine r_seqT ht1 ?_
      refine lw_tup (xs := ns.map V.int) (fun E i H' => Same H1 H' ∧ H' E = some (.lst ((List.replicate i false).map V.bl))) (fun E hE => ⟨same_new hE, upd_same⟩) (fun E hE i H' _ z => SqT.same ht1 z.1) ?_ ?_
      · rintro E hE i x H2 hx ⟨s2, he⟩
        rw [List.getElem?_map] at hx
        obtain ⟨y, hy, rfl⟩ := Option.map_eq_some_iff.mp hx
        have hi : i < ns.length := (List.getElem?_eq_some_iff.mp hy).1
        walk_at "sx"
        refine ⟨rfl, ?_⟩
        walk_at "sx"
        refine ⟨v, a, b, D, _, y, rfl, (hS.mono s1).mono s2, hT.mono s2, fun F H3 s3 hF hf => ?_⟩
        have z : (bel (fun x => x ∈ ns) (twoB a b y)).length = 0 := bel_nil.mpr fun x hx ⟨x0, x1⟩ => x1 (hC y (List.mem_of_getElem? hy) x (twoB_mem.mp hx) x0)
        walk_at "sx"
        refine r_lenL (SqL.of hf) ?_
        walk_at "sx"
        rw [List.length_map, z]
        have e : decide (((0 : Nat) : Int) > 0) = false := by decide
        refine ⟨_, s3 _ _ he, ?_, same_mut (fun c o e => s3 c o (s2 c o e)) hE, ?_⟩
        · rw [List.length_map, List.length_replicate, sizeLine_eq]; omega
        · rw [upd_same, fl_snoc]; rfl
      · rintro E hE H2 ⟨s2, he⟩
        rw [List.length_map] at he
        walk_at "sx"
        refine ⟨E, _, rfl, SqL.of he, ?_⟩
        rw [any_none]
        walk_at "sx"
        exact q H2 fun c o e => s2 c o (s1 c o e)
/-! ### least members -/
open Mg in
theorem lms_len {s : Nat} {G : List Int} : (lms s G).length = s := by unfold lms; rw [List.length_map, List.length_range]
open Mg in
theorem lms_set {s : Nat} {G : List Int} {g : Int} (hs : 0 < s) : ((lms s G).map V.int).set (g % (s : Int)).toNat (.int (g + s)) = (lms s (G ++ [g])).map V.int := by
  have r0 := Int.emod_nonneg g (show (s : Int) ≠ 0 by omega)
  have r1 := Int.emod_lt_of_pos g (show (0 : Int) < s by omega)
  apply List.ext_getElem?
  intro i
  rw [List.getElem?_set]
  by_cases hi : i < s
  · have e1 : (List.range s)[i]? = some i := List.getElem?_range hi
    unfold lms
    rw [List.map_map, List.map_map, List.getElem?_map, List.getElem?_map, e1, List.length_map, List.length_range]
    by_cases e : (g % (s : Int)).toNat = i
    · rw [if_pos e, if_pos (by omega)]
      show some (V.int (g + s)) = some (V.int (lmv s i (G ++ [g])))
      rw [lmv_snoc, if_pos (by omega)]
    · rw [if_neg e]
      show some (V.int (lmv s i G)) = some (V.int (lmv s i (G ++ [g])))
      rw [lmv_snoc, if_neg (by omega)]
  · rw [if_neg (by omega), List.getElem?_eq_none (by rw [List.length_map, lms_len]; omega), List.getElem?_eq_none (by rw [List.length_map, lms_len]; omega)]
open Mg in
theorem lms_0 {s : Nat} : (lms s []).map V.int = rgV 0 s := by
  unfold lms rgV
  rw [List.map_map, show ((s : Int) - 0).toNat = s by omega]
  apply List.map_congr_left
  intro r _
  show V.int (lmv s r []) = V.int (0 + (r : Int))
  rw [Int.zero_add]; rfl
def sp_least (K : PySem.W.Frag) : Sp := fun vs H Q _ => ∃ (s : Nat) (t : Addr) (ns : List Int), vs = [.int s, .ref t] ∧ 0 < s ∧ s ≤ 1000 ∧ SqT K H t (ns.map V.int) ∧ ∀ (p : Addr) (H' : Hp) (v : List Int), Same H H' → H p = none → v.Perm (Mg.lms s ns) → v.Pairwise (· ≤ ·) → H' p = some (.tup (v.map V.int)) → Q (.ref p) H'
theorem ok_least_members (T : Tx K mg) : FnOk P w K mg base CX0 1 T.a_least_members T.d_least_members ["side", "gaps"] (sp_least K) := by
  refine T.F_least_members.ok sc_least_members (fun vs H Q E h => ?_) (fun cdv A outer s H vs Q E hr h => ?_)
  · obtain ⟨s, t, ns, rfl, _⟩ := h; rfl
  · obtain ⟨sd, t, ns, rfl, h0, h1, ht, q⟩ := h
    refine ⟨_, (pss_cons (ps_set (i := 2) sc_least_members.nd rfl (.inl rfl) (pe_listRg rfl (by rfl) T.n_list (prg_1 (by rfl) T.n_range (pv 0))))
      (pss_cons (ps_for PassesOwn.never rfl (pi_tup (pv 1)) (pg_name (i := 3) sc_least_members.nd rfl (.inl rfl)) (pss_one (ps_asg (pe_op op_add (pv 3) (pv 0)) (pg_sub (pv 2) (pe_op op_mod (pv 3) (pv 0)) set_list))))
      (pss_one (ps_ret (pe_callTy Sx.c_tupOf (by rfl) T.n_tuple Sx.bt_tuple (pa_cons (pe_callB cr_sortedI (by rfl) T.n_sorted Sx.bt_sorted (pa_cons (pe_lc (own := [("member", 4)]) (g := (gName 4)) (tt := tYes) rfl sc_least_members.nd (pi_list (pv 2)) (blkOk_by (N := N_least_members) (sc := defScope st_least_members) (by decide +kernel)) (fun _ _ _ _ _ => (pg_name (i := 4) sc_least_members.nd rfl (.inl rfl))) (fun _ _ _ _ _ => pts_nil) (fun _ _ _ _ _ => (pe_callTy Sx.c_int (by rfl) T.n_int Sx.bt_int (pa_cons (pv 4) pa_nil)))) pa_nil)) pa_nil)))))), ?_⟩
    refine Sx.r_st (σ' := [some (.int sd), some (.ref t), none, none, none]) rfl ?_
    walk_at "sx"
    refine ⟨_, rfl, _, rfl, ⟨by omega, by omega, by omega, by omega, by omega⟩, fun m hm => ?_⟩
    walk_at "sx"
    refine r_seqT (SqT.same ht (same_new hm)) ?_
    refine fr_tup (xs := ns.map V.int) (fun i σ' H' => (∃ y, σ' = [some (.int sd), some (.ref t), some (.ref m), y, none]) ∧ Same H H' ∧ H' m = some (.lst ((Mg.lms sd (ns.take i)).map V.int))) ⟨⟨none, rfl⟩, same_new hm, by rw [upd_same, List.take_zero, lms_0]⟩ (fun i σ' H' _ z => SqT.same ht z.2.1) ?_ ?_
    · rintro i x σ' H1 hx ⟨⟨y, rfl⟩, s1, hmm⟩
      rw [List.getElem?_map] at hx
      obtain ⟨g, hy, rfl⟩ := Option.map_eq_some_iff.mp hx
      have r0 := Int.emod_nonneg g (show (sd : Int) ≠ 0 by omega)
      have r1 := Int.emod_lt_of_pos g (show (0 : Int) < sd by omega)
      walk_at "sx"
      · refine r_setL (j := (g % (sd : Int)).toNat) hmm ?_ ?_
        · unfold ixN
          rw [if_pos r0, List.length_map, lms_len, if_pos (by omega)]
        · refine ⟨⟨_, rfl⟩, same_mut s1 hm, ?_⟩
          rw [upd_same, lms_set h0, List.take_add_one, hy]; rfl
      · omega
    · rintro σ' H1 ⟨⟨y, rfl⟩, s1, hmm⟩
      rw [List.length_map, List.take_length] at hmm
      have hl : (Mg.lms sd ns).length = sd := lms_len
      generalize Mg.lms sd ns = ms at *
      walk_at "sx"
      refine r_seqL (SqL.of hmm) ?_
      refine lw_list (xs := ms.map V.int) (fun D i H' => Same H1 H' ∧ H' D = some (.lst ((ms.take i).map V.int))) (fun D hD => ⟨same_new hD, upd_same⟩) (fun D hD i H' _ z => SqL.of (z.1 _ _ hmm)) ?_ ?_
      · rintro D hD i x H2 hx ⟨s2, hd⟩
        rw [List.getElem?_map] at hx
        obtain ⟨y, hy, rfl⟩ := Option.map_eq_some_iff.mp hx
        walk_at "sx"
        refine ⟨rfl, ?_⟩
        walk_at "sx"
        refine ⟨_, hd, ?_, same_mut s2 hD, ?_⟩
        · rw [List.length_map, List.length_take]; exact sz' _ (by omega)
        · rw [ints_snoc hy]; exact upd_same
      · rintro D hD H2 ⟨s2, hd⟩
        rw [List.length_map, List.take_length] at hd
        walk_at "sx"
        refine ⟨D, ms, rfl, SqL.of hd, fun v p pv sv hp => ?_⟩
        walk_at "sx"
        refine r_tupOfL (SqL.of upd_same) (fun t2 ht2 => ?_)
        refine q t2 _ v (fun c o e => same_new ht2 c o (same_new hp c o (s2 c o (s1 c o e)))) ?_ pv sv upd_same
        cases hh : H t2 with
        | none => rfl
        | some o => rw [same_new hp _ _ (s2 _ _ (s1 _ _ hh))] at ht2; cases ht2
end
end Lw

namespace Lw
open PySem PySem.Spec PyProof.Rows L2 Sx Sy Sw Mw Me
open En (NoNum)
open SX (S)
open C8 (pe_gc)
open SkE (call_repr_int call_str_str)
open RZ (pi_zipA)
section
variable {P : Program} {w : World} {K : PySem.W.Frag} {mg : Str → Option Value} {base : Heap}
/-! ### shelves -/
open Mg in
theorem gaps_in {a b : Nat} {l : List Nat} (hW : IsWay a b l) (ha : 0 < a) (hb : 0 < b) (hg : Nat.gcd a b = 1) : AscIn 1 (2 * (((a : Int) - 1) * ((b : Int) - 1) / 2)) (gaps a b l) := by
  refine ⟨gaps_asc, fun x hx => ?_⟩
  obtain ⟨h0, hn⟩ := (gaps_iff hW ha hb hg).mp hx
  have h1 := gap_lt hW ha hb hg h0 hn
  have h2 : x ≠ 0 := by rintro rfl; exact hn (mem_0 hW ha)
  have e : (((a - 1) * (b - 1) : Nat) : Int) = ((a : Int) - 1) * ((b : Int) - 1) := by
    rw [Int.natCast_mul, Int.natCast_sub ha, Int.natCast_sub hb]; rfl
  rw [e] at h1
  omega
open Mg in
theorem gaps_few {a b : Nat} {l : List Nat} (ha : a ≤ 60) (hb : b ≤ 60) : (gaps a b l).length ≤ 10000 := by
  unfold gaps those
  refine Nat.le_trans (List.length_filter_le _ _) ?_
  rw [List.length_map, List.length_range]
  exact Nat.le_trans (Nat.mul_le_mul (show a - 1 ≤ 100 by omega) (show b - 1 ≤ 100 by omega)) (by decide)
open Mg in
theorem gaps_closed {a b : Nat} {l : List Nat} (hW : IsWay a b l) (ha : 0 < a) (hb : 0 < b) (hg : Nat.gcd a b = 1) : Closed a b (gaps a b l) := by
  intro g m x hx h0
  obtain ⟨g0, gn⟩ := (gaps_iff hW ha hb hg).mp m
  refine (gaps_iff hW ha hb hg).mpr ⟨h0, fun z => gn ?_⟩
  rcases hx with rfl | rfl
  · have := mem_add_a z; rwa [show g - (a : Int) + a = g by omega] at this
  · have := mem_add_b hW ha z; rwa [show g - (b : Int) + b = g by omega] at this
open Mg in
noncomputable def mks (a b : Nat) (l : List Nat) : List Int := (rms a b l).filter fun x => decide (x ∈ sms a b l)
theorem fil_yes {p : Int → Prop} [DecidablePred p] {u : List Int} {i : Nat} {x : Int} (hx : u[i]? = some x) (h : p x) : (((u.take (i + 1)).filter fun x => decide (p x)).map V.int) = ((u.take i).filter fun x => decide (p x)).map V.int ++ [V.int x] := by
  rw [List.take_add_one, hx, List.filter_append, List.map_append]
  simp [h]
theorem fil_no {p : Int → Prop} [DecidablePred p] {u : List Int} {i : Nat} {x : Int} (hx : u[i]? = some x) (h : ¬ p x) : ((u.take (i + 1)).filter fun x => decide (p x)) = ((u.take i).filter fun x => decide (p x)) := by
  rw [List.take_add_one, hx, List.filter_append]
  simp [h]
theorem inV_ints {x : Int} : ∀ {zs : List Int}, inV (.int x) (zs.map V.int) = decide (x ∈ zs)
  | [] => rfl
  | z :: zs => by
    show (eqV (.int z) (.int x) || inV (.int x) (zs.map V.int)) = _
    rw [inV_ints, show eqV (.int z) (.int x) = decide (z = x) from rfl]
    by_cases h : z = x
    · subst h; simp
    · simp [h, Ne.symm h]
theorem flat_ints (zs : List Int) : (zs.map V.int).all flatV = true := by
  rw [List.all_eq_true]
  intro x hx
  obtain ⟨y, _, rfl⟩ := List.mem_map.mp hx
  rfl
theorem len5 {f g k j i : Str} {v w u t s : V} : (putF f v (putF g w (putF k u (putF j t (putF i s []))))).length < 1000 := Nat.lt_of_le_of_lt (Nat.le_trans (length_putF f v _) (Nat.succ_le_succ (Nat.le_trans (length_putF g w _) (Nat.succ_le_succ (Nat.le_trans (length_putF k u _) (Nat.succ_le_succ (Nat.le_trans (length_putF j t _) (Nat.succ_le_succ (length_putF i s []))))))))) (by decide)
def shF (sv : V) (t d r s m : Addr) : List (Str × V) := putF "_makers" (.ref m) (putF "_step_makers" (.ref s) (putF "_rise_makers" (.ref r) (putF "_gap_table" (.ref d) (putF "_gaps" (.ref t) (putF "_slope" sv [])))))
def ShelfIn (K : PySem.W.Frag) (CS : Addr) (H : Hp) (sv : V) (a b : Nat) (l : List Nat) (t d r s m : Addr) : Prop :=
  SlopeAt CS H sv a b ∧ SqT K H t ((Mg.gaps a b l).map V.int) ∧ H d = some (.dK (Mj.tabKv (Mg.gaps a b l))) ∧ H r = some (.tup ((Mg.rms a b l).map V.int)) ∧ H s = some (.tup ((Mg.sms a b l).map V.int)) ∧ H m = some (.tup ((mks a b l).map V.int))
/-- v is the shelf of the way l of a:b -/
def ShelfAt (K : PySem.W.Frag) (CS CH : Addr) (H : Hp) (v : V) (a b : Nat) (l : List Nat) : Prop := IsWay a b l ∧ Nat.gcd a b = 1 ∧ ∃ p dx sv t d r s m, v = .ref p ∧ H p = some (.ins CH dx (shF sv t d r s m)) ∧ ShelfIn K CS H sv a b l t d r s m
theorem ShelfIn.mono {K : PySem.W.Frag} {CS : Addr} {H H' : Hp} {sv : V} {a b : Nat} {l : List Nat} {t d r s m : Addr} (h : ShelfIn K CS H sv a b l t d r s m) (k : Same H H') : ShelfIn K CS H' sv a b l t d r s m :=
  ⟨h.1.mono k, SqT.same h.2.1 k, k _ _ h.2.2.1, k _ _ h.2.2.2.1, k _ _ h.2.2.2.2.1, k _ _ h.2.2.2.2.2⟩
theorem ShelfAt.mono {K : PySem.W.Frag} {CS CH : Addr} {H H' : Hp} {v : V} {a b : Nat} {l : List Nat} (h : ShelfAt K CS CH H v a b l) (k : Same H H') : ShelfAt K CS CH H' v a b l := by
  obtain ⟨h0, hg, p, dx, sv, t, d, r, s, m, h1, h2, h3⟩ := h
  exact ⟨h0, hg, p, dx, sv, t, d, r, s, m, h1, k _ _ h2, h3.mono k⟩
def sp_Shelf_init (K : PySem.W.Frag) (CS CH : Addr) : Sp := fun vs H Q _ => ∃ p dx sv t, ∃ a b : Nat, ∃ l : List Nat, vs = [.ref p, sv, .ref t] ∧ H p = some (.ins CH dx []) ∧ SlopeAt CS H sv a b ∧ Nat.gcd a b = 1 ∧ IsWay a b l ∧ SqT K H t ((Mg.gaps a b l).map V.int) ∧
  ∀ d r s m H', (∀ c o, c ≠ p → H c = some o → H' c = some o) → H' p = some (.ins CH dx (shF sv t d r s m)) → ShelfIn K CS H' sv a b l t d r s m → Q .non H'
theorem sqt_ne {K : PySem.W.Frag} {H H' : Hp} {t p C dx : Addr} {fs : List (Str × V)} {xs : List V} (h : SqT K H t xs) (hp : H p = some (.ins C dx fs)) (s : ∀ c o, c ≠ p → H c = some o → H' c = some o) : SqT K H' t xs := by
  have n : ∀ o, H t = some o → (∀ C dx fs, o ≠ .ins C dx fs) → t ≠ p := by
    rintro o e k rfl
    rw [hp] at e
    exact k _ _ _ (Option.some.inj e).symm
  rcases h with (h | ⟨o, h⟩) | h
  · exact .inl (.inl (s _ _ (n _ h (fun _ _ _ z => by cases z)) h))
  · exact .inl (.inr ⟨o, s _ _ (n _ h (fun _ _ _ z => by cases z)) h⟩)
  · exact .inr h
theorem ok_Shelf_init (T : Tx K mg) : FnOk P w K mg base CX0 7 T.a_Shelf_init T.d_Shelf_init ["self", "slope", "gaps"] (sp_Shelf_init K T.C_Slope T.C_Shelf) := by
  refine T.F_Shelf_init.ok sc_Shelf_init (fun vs H Q E h => ?_) (fun cdv A outer s H vs Q E hr h => ?_)
  · obtain ⟨p, dx, sv, t, a, b, l, rfl, _⟩ := h; rfl
  · obtain ⟨p, dx, sv, t, a, b, l, rfl, hp, hS, hg, hW, ht, q⟩ := h
    have hb := hS.1
    have ha0 : 0 < a := by omega
    have hb0 : 0 < b := by omega
    have svp : ∀ p', sv = .ref p' → p' ≠ p := by
      rintro p' rfl rfl
      obtain ⟨_, q', dq, h2, h3⟩ := hS
      cases h2
      rw [hp] at h3
      have e := Option.some.inj h3
      injection e with e1 e2 e3
      exact absurd (congrArg List.length e3) (by rw [show (slF (a : Int) (b : Int)).length = 3 from rfl]; decide)
    refine ⟨_, (pss_cons (ps_if (pt_not (pt_val (pe_call (ok_is_gaps T) (hr.mono (by decide)) (by rfl) T.g_is_gaps T.F_is_gaps.kp T.b_is_gaps .nil pass0 (pa_cons (pv 1) (pa_cons (pv 2) pa_nil))))) pss_never pss_nil)
      (pss_cons (ps_fld (pv 0) (pv 1) rfl)
      (pss_cons (ps_fld (pv 0) (pv 2) rfl)
      (pss_cons (ps_fld (pv 0) (pe_dc (own := [("gap", 3)]) (g := (gName 3)) (tt := tYes) rfl sc_Shelf_init.nd (pi_tup (pv 2)) (blkOk_by (N := N_Shelf_init) (sc := defScope st_Shelf_init) (by decide +kernel)) (fun _ _ _ _ _ => (pg_name (i := 3) sc_Shelf_init.nd rfl (.inl rfl))) (fun _ _ _ _ _ => pts_nil) (fun _ _ _ _ _ => (pv 3)) (fun _ _ _ _ _ => pe_bl)) rfl)
      (pss_cons (ps_fld (pv 0) (pe_call (ok_least_members T) (hr.mono (by decide)) (by rfl) T.g_least_members T.F_least_members.kp T.b_least_members .nil pass0 (pa_cons (pe_prop (pv 1) T.cl_Slope T.pr_Slope_rises (ok_Slope_rises T) (hr.mono (by decide)) T.b_Slope_rises .nil pass0 rfl) (pa_cons (pv 2) pa_nil))) rfl)
      (pss_cons (ps_fld (pv 0) (pe_call (ok_least_members T) (hr.mono (by decide)) (by rfl) T.g_least_members T.F_least_members.kp T.b_least_members .nil pass0 (pa_cons (pe_prop (pv 1) T.cl_Slope T.pr_Slope_steps (ok_Slope_steps T) (hr.mono (by decide)) T.b_Slope_steps .nil pass0 rfl) (pa_cons (pv 2) pa_nil))) rfl)
      (pss_one (ps_fld (pv 0) (pe_callTy Sx.c_tupOf (by rfl) T.n_tuple Sx.bt_tuple (pa_cons (pe_lc (own := [("maker", 4)]) (g := (gName 4)) rfl sc_Shelf_init.nd (pi_tup (pe_fld (pv 0) rfl)) (blkOk_by (N := N_Shelf_init) (sc := defScope st_Shelf_init) (by decide +kernel)) (fun _ _ _ _ _ => (pg_name (i := 4) sc_Shelf_init.nd rfl (.inl rfl))) (fun _ _ _ _ _ => (pts_one (pt_cmpR (show OpR _ _ (rIn K false) from op_in_seq) (pv 4) (show PE _ _ (tFld K _ _) from pe_fld (pv 0) rfl) (by rfl)))) (fun _ _ _ _ _ => (pv 4))) pa_nil)) rfl)))))))), ?_⟩
    refine Sx.r_st (σ' := [some (.ref p), some (sv), some (.ref t), none, none]) rfl ?_
    walk_at "sxi"
    refine ⟨sv, a, b, t, Mg.gaps a b l, rfl, hS, hg, ht, gaps_in hW ha0 hb0 hg, gaps_few (by omega) (by omega), gaps_closed hW ha0 hb0 hg, fun H1 s1 => ?_⟩
    walk_at "sx"
    refine r_insput (s1 _ _ hp) T.cl_Shelf T.na_Shelf_slope (by decide) ?_
    walk_at "sx"
    refine r_insput upd_same T.cl_Shelf T.na_Shelf_gaps len1 ?_
    have k2 : ∀ c o, c ≠ p → H1 c = some o → (upd (upd H1 p (.ins T.C_Shelf dx (putF "_slope" sv []))) p (.ins T.C_Shelf dx (putF "_gaps" (.ref t) (putF "_slope" sv [])))) c = some o := fun c o n e => by rw [upd_ne n, upd_ne n]; exact e
    have p2 : (upd (upd H1 p (.ins T.C_Shelf dx (putF "_slope" sv []))) p (.ins T.C_Shelf dx (putF "_gaps" (.ref t) (putF "_slope" sv [])))) p = some (.ins T.C_Shelf dx (putF "_gaps" (.ref t) (putF "_slope" sv []))) := upd_same
    generalize upd (upd H1 p (.ins T.C_Shelf dx (putF "_slope" sv []))) p (.ins T.C_Shelf dx (putF "_gaps" (.ref t) (putF "_slope" sv []))) = H2 at k2 p2 ⊢
    have hS2 : SlopeAt T.C_Slope H2 sv a b := slope_ne (CW := T.C_Shelf) (dx := dx) (hS.mono s1) svp k2
    have ht2 : SqT K H2 t ((Mg.gaps a b l).map V.int) := sqt_ne (SqT.same ht s1) (s1 _ _ hp) k2
    have hfew := Mg.gaps_asc (a := a) (b := b) (l := l)
    have hlen := gaps_few (a := a) (b := b) (l := l) (by omega) (by omega)
    walk_at "sx"
    refine r_seqT ht2 ?_
    refine Mj.dw_tup (xs := (Mg.gaps a b l).map V.int) (fun D i H' => Same H2 H' ∧ H' D = some (.dK (Mj.tabKv ((Mg.gaps a b l).take i)))) (fun D hD => ⟨same_new hD, upd_same⟩) (fun D hD i H' _ z => SqT.same ht2 z.1) ?_ ?_
    · rintro D hD i x H3 hx ⟨s3, hd⟩
      rw [List.getElem?_map] at hx
      obtain ⟨y, hy, rfl⟩ := Option.map_eq_some_iff.mp hx
      walk_at "sx"
      refine ⟨rfl, ?_⟩
      walk_at "sx"
      refine ⟨_, .inl y, rfl, hd, ?_, same_mut s3 hD, ?_⟩
      · unfold Mj.tabKv; rw [List.length_map, List.length_take, sizeLine_eq]; omega
      · rw [upd_same, Mj.tabKv_put (tup_dict hfew hy), List.take_add_one, hy]; rfl
    · rintro d hD H3 ⟨s3, hd⟩
      rw [List.length_map, List.take_length] at hd
      have dp : d ≠ p := (ne_of_none p2 hD).symm
      walk_at "sx"
      refine r_insput (s3 _ _ p2) T.cl_Shelf T.na_Shelf_gap_table len2 ?_
      have k4 : ∀ c o, c ≠ p → H2 c = some o → (upd H3 p (.ins T.C_Shelf dx (putF "_gap_table" (.ref d) (putF "_gaps" (.ref t) (putF "_slope" sv []))))) c = some o := fun c o n e => by rw [upd_ne n]; exact s3 _ _ e
      have p4 : (upd H3 p (.ins T.C_Shelf dx (putF "_gap_table" (.ref d) (putF "_gaps" (.ref t) (putF "_slope" sv []))))) p = some (.ins T.C_Shelf dx (putF "_gap_table" (.ref d) (putF "_gaps" (.ref t) (putF "_slope" sv [])))) := upd_same
      have d4 : (upd H3 p (.ins T.C_Shelf dx (putF "_gap_table" (.ref d) (putF "_gaps" (.ref t) (putF "_slope" sv []))))) d = some (.dK (Mj.tabKv (Mg.gaps a b l))) := by rw [upd_ne dp]; exact hd
      generalize upd H3 p (.ins T.C_Shelf dx (putF "_gap_table" (.ref d) (putF "_gaps" (.ref t) (putF "_slope" sv [])))) = H4 at k4 p4 d4 ⊢
      have hS4 : SlopeAt T.C_Slope H4 sv a b := slope_ne (CW := T.C_Shelf) (dx := dx) hS2 svp k4
      have ht4 : SqT K H4 t ((Mg.gaps a b l).map V.int) := sqt_ne ht2 p2 k4
      walk_at "sx"
      refine rd_r hS4 ?_
      walk_at "sx"
      refine ⟨a, t, _, rfl, ha0, by omega, ht4, fun r H5 v s5 hr0 pv5 sv5 hr => ?_⟩
      obtain rfl := Mg.lms_a hW ha0 hb0 hg pv5 sv5
      have rp : r ≠ p := (ne_of_none p4 hr0).symm
      walk_at "sx"
      refine r_insput (s5 _ _ p4) T.cl_Shelf T.na_Shelf_rise_makers len3 ?_
      have k6 : ∀ c o, c ≠ p → H4 c = some o → (upd H5 p (.ins T.C_Shelf dx (putF "_rise_makers" (.ref r) (putF "_gap_table" (.ref d) (putF "_gaps" (.ref t) (putF "_slope" sv [])))))) c = some o := fun c o n e => by rw [upd_ne n]; exact s5 _ _ e
      have p6 : (upd H5 p (.ins T.C_Shelf dx (putF "_rise_makers" (.ref r) (putF "_gap_table" (.ref d) (putF "_gaps" (.ref t) (putF "_slope" sv [])))))) p = some (.ins T.C_Shelf dx (putF "_rise_makers" (.ref r) (putF "_gap_table" (.ref d) (putF "_gaps" (.ref t) (putF "_slope" sv []))))) := upd_same
      have r6 : (upd H5 p (.ins T.C_Shelf dx (putF "_rise_makers" (.ref r) (putF "_gap_table" (.ref d) (putF "_gaps" (.ref t) (putF "_slope" sv [])))))) r = some (.tup ((Mg.rms a b l).map V.int)) := by rw [upd_ne rp]; exact hr
      generalize upd H5 p (.ins T.C_Shelf dx (putF "_rise_makers" (.ref r) (putF "_gap_table" (.ref d) (putF "_gaps" (.ref t) (putF "_slope" sv []))))) = H6 at k6 p6 r6 ⊢
      have hS6 : SlopeAt T.C_Slope H6 sv a b := slope_ne (CW := T.C_Shelf) (dx := dx) hS4 svp k6
      have ht6 : SqT K H6 t ((Mg.gaps a b l).map V.int) := sqt_ne ht4 p4 k6
      walk_at "sx"
      refine rd_s hS6 ?_
      walk_at "sx"
      refine ⟨b, t, _, rfl, hb0, by omega, ht6, fun sm H7 v s7 hs0 pv sv7 hs => ?_⟩
      obtain rfl := Mg.lms_b hW ha0 hb0 hg pv sv7
      have sp : sm ≠ p := (ne_of_none p6 hs0).symm
      walk_at "sx"
      refine r_insput (s7 _ _ p6) T.cl_Shelf T.na_Shelf_step_makers len4 ?_
      have k8 : ∀ c o, c ≠ p → H6 c = some o → (upd H7 p (.ins T.C_Shelf dx (putF "_step_makers" (.ref sm) (putF "_rise_makers" (.ref r) (putF "_gap_table" (.ref d) (putF "_gaps" (.ref t) (putF "_slope" sv []))))))) c = some o := fun c o n e => by rw [upd_ne n]; exact s7 _ _ e
      have p8 : (upd H7 p (.ins T.C_Shelf dx (putF "_step_makers" (.ref sm) (putF "_rise_makers" (.ref r) (putF "_gap_table" (.ref d) (putF "_gaps" (.ref t) (putF "_slope" sv []))))))) p = some (.ins T.C_Shelf dx (putF "_step_makers" (.ref sm) (putF "_rise_makers" (.ref r) (putF "_gap_table" (.ref d) (putF "_gaps" (.ref t) (putF "_slope" sv [])))))) := upd_same
      have s8 : (upd H7 p (.ins T.C_Shelf dx (putF "_step_makers" (.ref sm) (putF "_rise_makers" (.ref r) (putF "_gap_table" (.ref d) (putF "_gaps" (.ref t) (putF "_slope" sv []))))))) sm = some (.tup ((Mg.sms a b l).map V.int)) := by rw [upd_ne sp]; exact hs
      generalize upd H7 p (.ins T.C_Shelf dx (putF "_step_makers" (.ref sm) (putF "_rise_makers" (.ref r) (putF "_gap_table" (.ref d) (putF "_gaps" (.ref t) (putF "_slope" sv [])))))) = H8 at k8 p8 s8 ⊢
      have hS8 : SlopeAt T.C_Slope H8 sv a b := slope_ne (CW := T.C_Shelf) (dx := dx) hS6 svp k8
      have ht8 : SqT K H8 t ((Mg.gaps a b l).map V.int) := sqt_ne ht6 p6 k8
      have r8 := k8 _ _ rp r6
      have d8 := k8 _ _ dp (k6 _ _ dp d4)
      walk_at "sx"
      refine ⟨p, _, dx, _, .ref r, rfl, p8, T.cl_Shelf, T.na_Shelf_rise_makers, by rw [lookup_putF, if_neg (by decide +kernel), lookup_putF, if_pos rfl], ?_⟩
      refine r_seqT (SqT.of r8) ?_
      refine lw_tup (xs := (Mg.rms a b l).map V.int) (fun D i H' => Same H8 H' ∧ H' D = some (.lst ((((Mg.rms a b l).take i).filter fun x => decide (x ∈ Mg.sms a b l)).map V.int))) (fun D hD => ⟨same_new hD, upd_same⟩) (fun D hD i H' _ z => SqT.of (z.1 _ _ r8)) ?_ ?_
      · rintro D hD i x H9 hx ⟨s9, hd9⟩
        rw [List.getElem?_map] at hx
        obtain ⟨y, hy, rfl⟩ := Option.map_eq_some_iff.mp hx
        have hi : i < (Mg.rms a b l).length := (List.getElem?_eq_some_iff.mp hy).1
        have hrl : (Mg.rms a b l).length = a := pv5.length_eq.trans lms_len
        walk_at "sx"
        refine ⟨rfl, ?_⟩
        walk_at "sx"
        refine ⟨p, _, dx, _, .ref sm, rfl, s9 _ _ p8, T.cl_Shelf, T.na_Shelf_step_makers, by rw [lookup_putF, if_pos rfl], ?_⟩
        walk_at "sx"
        refine ⟨sm, _, rfl, .inr (SqT.of (s9 _ _ s8)), rfl, flat_ints _, _, rfl, ?_⟩
        show if (if false = true then _ else inV (.int y) ((Mg.sms a b l).map V.int)) = true then _ else _
        rw [show (if false = true then (!inV (.int y) ((Mg.sms a b l).map V.int)) else inV (.int y) ((Mg.sms a b l).map V.int)) = decide (y ∈ Mg.sms a b l) from inV_ints]
        by_cases hm : y ∈ Mg.sms a b l
        · rw [decide_eq_true hm, if_pos rfl]
          walk_at "sx"
          refine ⟨_, hd9, ?_, same_mut s9 hD, ?_⟩
          · rw [List.length_map]
            have q1 := List.length_filter_le (fun x => decide (x ∈ Mg.sms a b l)) ((Mg.rms a b l).take i)
            rw [List.length_take] at q1
            exact sz' _ (by omega)
          · rw [upd_same, fil_yes (p := fun x => x ∈ Mg.sms a b l) hy hm]
        · rw [decide_eq_false hm, if_neg (by decide)]
          refine ⟨s9, ?_⟩
          rw [fil_no (p := fun x => x ∈ Mg.sms a b l) hy hm]; exact hd9
      · rintro D hD H9 ⟨s9, hd9⟩
        rw [List.length_map, List.take_length] at hd9
        walk_at "sx"
        refine r_tupOfL (SqL.of hd9) (fun m hm => ?_)
        walk_at "sx"
        have s10 : Same H8 (upd H9 m (.tup (((Mg.rms a b l).filter fun x => decide (x ∈ Mg.sms a b l)).map V.int))) := fun c o e => same_new hm c o (s9 c o e)
        have hm10 : (upd H9 m (.tup (((Mg.rms a b l).filter fun x => decide (x ∈ Mg.sms a b l)).map V.int))) m = some (.tup ((mks a b l).map V.int)) := upd_same
        generalize upd H9 m (.tup (((Mg.rms a b l).filter fun x => decide (x ∈ Mg.sms a b l)).map V.int)) = H10 at s10 hm10 ⊢
        have mp : m ≠ p := by
          rintro rfl
          rw [s10 _ _ p8] at hm10; cases hm10
        have kk : ∀ c o, c ≠ p → H8 c = some o → (upd H10 p (.ins T.C_Shelf dx (shF sv t d r sm m))) c = some o := fun c o n e => by rw [upd_ne n]; exact s10 _ _ e
        refine ⟨p, _, dx, _, rfl, s10 _ _ p8, T.cl_Shelf, T.na_Shelf_makers, len5, ?_⟩
        refine q d r sm m _ ?_ upd_same ⟨slope_ne (CW := T.C_Shelf) (dx := dx) hS8 svp kk, sqt_ne ht8 p8 kk, kk _ _ dp d8, kk _ _ rp r8, kk _ _ sp s8, by rw [upd_ne mp]; exact hm10⟩
        intro c o n e
        exact kk c o n (k8 c o n (k6 c o n (k4 c o n (k2 c o n (s1 _ _ e)))))
end
end Lw

namespace Lw
open PySem PySem.Spec PyProof.Rows L2 Sx Sy Sw Mw Me
open En (NoNum)
open SX (S)
open C8 (pe_gc)
open SkE (call_repr_int call_str_str)
open RZ (pi_zipA)
section
variable {P : Program} {w : World} {K : PySem.W.Frag} {mg : Str → Option Value} {base : Heap}
/-! ### a shelf's parts -/
/-- a new shelf -/
theorem mk_shelf {K : PySem.W.Frag} {CS CH : Addr} {H : Hp} {Q : VK} {E : XK} {sv : V} {t : Addr} {a b : Nat} {l : List Nat} (hS : SlopeAt CS H sv a b) (hg : Nat.gcd a b = 1) (hW : IsWay a b l) (ht : SqT K H t ((Mg.gaps a b l).map V.int)) (q : ∀ v H', Same H H' → ShelfAt K CS CH H' v a b l → Q v H') :
    MakeP CH (sp_Shelf_init K CS CH) E [sv, .ref t] H Q := by
  intro x dx hx hdx hne
  have s1 : Same H (upd (upd H dx (.own x)) x (.ins CH dx [])) := by
    intro c o e
    rw [upd_ne (ne_of_none e hx), upd_ne (ne_of_none e hdx)]; exact e
  refine ⟨x, dx, sv, t, a, b, l, rfl, upd_same, hS.mono s1, hg, hW, SqT.same ht s1, fun d r s m H' k1 h1 h2 => ⟨rfl, ?_⟩⟩
  exact q _ H' (fun c o e => k1 c o (ne_of_none e hx) (s1 _ _ e)) ⟨hW, hg, x, dx, sv, t, d, r, s, m, rfl, h1, h2⟩
theorem shF_get {f : Str} {sv : V} {t d r s m : Addr} : (shF sv t d r s m).lookup f = if f = "_makers" then some (.ref m) else if f = "_step_makers" then some (.ref s) else if f = "_rise_makers" then some (.ref r) else if f = "_gap_table" then some (.ref d) else if f = "_gaps" then some (.ref t) else if f = "_slope" then some sv else none := by
  unfold shF
  rw [lookup_putF, lookup_putF, lookup_putF, lookup_putF, lookup_putF, lookup_putF]; rfl
theorem rh_get {K : PySem.W.Frag} {CS CH : Addr} {f : Str} {H : Hp} {v : V} {a b : Nat} {l : List Nat} {Q : VK} {E : XK} (h : ShelfAt K CS CH H v a b l) (q : ∀ sv t d r s m, ShelfIn K CS H sv a b l t d r s m → ∃ u, (shF sv t d r s m).lookup f = some u ∧ Q u H) : ∃ p dx fs, v = .ref p ∧ H p = some (.ins CH dx fs) ∧ getSp CH f (.ref p :: []) H Q E := by
  obtain ⟨_, _, p, dx, sv, t, d, r, s, m, rfl, e, hi⟩ := h
  obtain ⟨u, lu, q⟩ := q sv t d r s m hi
  exact ⟨p, dx, _, rfl, e, r_getSp e lu q⟩
theorem rh_slope {K : PySem.W.Frag} {CS CH : Addr} {H : Hp} {v : V} {a b : Nat} {l : List Nat} {Q : VK} {E : XK} (h : ShelfAt K CS CH H v a b l) (q : ∀ sv, SlopeAt CS H sv a b → Q sv H) : ∃ p dx fs, v = .ref p ∧ H p = some (.ins CH dx fs) ∧ getSp CH "_slope" (.ref p :: []) H Q E :=
  rh_get h fun _ _ _ _ _ _ hi => ⟨_, by rw [shF_get, if_neg (by decide +kernel), if_neg (by decide +kernel), if_neg (by decide +kernel), if_neg (by decide +kernel), if_neg (by decide +kernel), if_pos rfl], q _ hi.1⟩
theorem rh_gaps {K : PySem.W.Frag} {CS CH : Addr} {H : Hp} {v : V} {a b : Nat} {l : List Nat} {Q : VK} {E : XK} (h : ShelfAt K CS CH H v a b l) (q : ∀ t, SqT K H t ((Mg.gaps a b l).map V.int) → Q (.ref t) H) : ∃ p dx fs, v = .ref p ∧ H p = some (.ins CH dx fs) ∧ getSp CH "_gaps" (.ref p :: []) H Q E :=
  rh_get h fun _ _ _ _ _ _ hi => ⟨_, by rw [shF_get, if_neg (by decide +kernel), if_neg (by decide +kernel), if_neg (by decide +kernel), if_neg (by decide +kernel), if_pos rfl], q _ hi.2.1⟩
theorem rh_rise {K : PySem.W.Frag} {CS CH : Addr} {H : Hp} {v : V} {a b : Nat} {l : List Nat} {Q : VK} {E : XK} (h : ShelfAt K CS CH H v a b l) (q : ∀ t, H t = some (.tup ((Mg.rms a b l).map V.int)) → Q (.ref t) H) : ∃ p dx fs, v = .ref p ∧ H p = some (.ins CH dx fs) ∧ getSp CH "_rise_makers" (.ref p :: []) H Q E :=
  rh_get h fun _ _ _ _ _ _ hi => ⟨_, by rw [shF_get, if_neg (by decide +kernel), if_neg (by decide +kernel), if_pos rfl], q _ hi.2.2.2.1⟩
theorem rh_step {K : PySem.W.Frag} {CS CH : Addr} {H : Hp} {v : V} {a b : Nat} {l : List Nat} {Q : VK} {E : XK} (h : ShelfAt K CS CH H v a b l) (q : ∀ t, H t = some (.tup ((Mg.sms a b l).map V.int)) → Q (.ref t) H) : ∃ p dx fs, v = .ref p ∧ H p = some (.ins CH dx fs) ∧ getSp CH "_step_makers" (.ref p :: []) H Q E :=
  rh_get h fun _ _ _ _ _ _ hi => ⟨_, by rw [shF_get, if_neg (by decide +kernel), if_pos rfl], q _ hi.2.2.2.2.1⟩
theorem rh_makers {K : PySem.W.Frag} {CS CH : Addr} {H : Hp} {v : V} {a b : Nat} {l : List Nat} {Q : VK} {E : XK} (h : ShelfAt K CS CH H v a b l) (q : ∀ t, H t = some (.tup ((mks a b l).map V.int)) → Q (.ref t) H) : ∃ p dx fs, v = .ref p ∧ H p = some (.ins CH dx fs) ∧ getSp CH "_makers" (.ref p :: []) H Q E :=
  rh_get h fun _ _ _ _ _ _ hi => ⟨_, by rw [shF_get, if_pos rfl], q _ hi.2.2.2.2.2⟩
theorem ok_Shelf_gaps (T : Tx K mg) : FnOk P w K mg base CX0 1 T.a_Shelf_gaps T.d_Shelf_gaps ["self"] (getSp T.C_Shelf "_gaps") := by
  refine T.F_Shelf_gaps.ok sc_Shelf_gaps (fun vs H Q E h => ?_) (fun cdv A outer s H vs Q E hr h => ?_)
  · obtain ⟨a, dx, fs, v, rfl, _⟩ := h; rfl
  · obtain ⟨a, dx, fs, v, rfl, e, l, q⟩ := h
    refine ⟨_, (pss_one (ps_ret (pe_fld (pv 0) rfl))), ?_⟩
    refine Sx.r_st (σ' := [some (.ref a)]) rfl ?_
    walk_at "sx"
    exact ⟨a, _, dx, fs, v, rfl, e, T.cl_Shelf, T.na_Shelf_gaps, l, q⟩
/-! ### the gaps of a way's shelf -/
def sp_with_more (K : PySem.W.Frag) : Sp := fun vs H Q _ => ∃ (x y : Addr) (us ws : List Int), vs = [.ref x, .ref y] ∧ (SqL K H x (us.map V.int) ∨ SqT K H x (us.map V.int)) ∧ (SqL K H y (ws.map V.int) ∨ SqT K H y (ws.map V.int)) ∧ us.length + ws.length ≤ 500000 ∧ ∀ (p : Addr) (H' : Hp) (v : List Int), Same H H' → H p = none → v.Perm (us ++ ws) → v.Pairwise (· ≤ ·) → H' p = some (.tup (v.map V.int)) → Q (.ref p) H'
theorem Sq2.same {K : PySem.W.Frag} {H H' : Hp} {t : Addr} {xs : List V} (h : SqL K H t xs ∨ SqT K H t xs) (s : Same H H') : SqL K H' t xs ∨ SqT K H' t xs := by
  rcases h with h | h
  · refine .inl ?_
    rcases h with (h | ⟨o, h⟩) | h
    · exact .inl (.inl (s _ _ h))
    · exact .inl (.inr ⟨o, s _ _ h⟩)
    · exact .inr h
  · exact .inr (SqT.same h s)
theorem ok_with_more (T : Tx K mg) : FnOk P w K mg base CX0 1 T.a_with_more T.d_with_more ["gaps", "more"] (sp_with_more K) := by
  refine T.F_with_more.ok sc_with_more (fun vs H Q E h => ?_) (fun cdv A outer s H vs Q E hr h => ?_)
  · obtain ⟨x, y, us, ws, rfl, _⟩ := h; rfl
  · obtain ⟨x, y, us, ws, rfl, hx, hy, hl, q⟩ := h
    refine ⟨_, (pss_one (ps_ret (pe_callTy Sx.c_tupOf (by rfl) T.n_tuple Sx.bt_tuple (pa_cons (pe_callB cr_sortedI (by rfl) T.n_sorted Sx.bt_sorted (pa_cons (pe_lc (own := [("gap", 2)]) (g := (gName 2)) (tt := tYes) rfl sc_with_more.nd (pi_list (pe_op op_cat (pe_callTy Sx.c_lstOf (by rfl) T.n_list Sx.bt_list (pa_cons (pv 0) pa_nil)) (pe_callTy Sx.c_lstOf (by rfl) T.n_list Sx.bt_list (pa_cons (pv 1) pa_nil)))) (blkOk_by (N := N_with_more) (sc := defScope st_with_more) (by decide +kernel)) (fun _ _ _ _ _ => (pg_name (i := 2) sc_with_more.nd rfl (.inl rfl))) (fun _ _ _ _ _ => pts_nil) (fun _ _ _ _ _ => (pe_callTy Sx.c_int (by rfl) T.n_int Sx.bt_int (pa_cons (pv 2) pa_nil)))) pa_nil)) pa_nil)))), ?_⟩
    refine Sx.r_st (σ' := [some (.ref x), some (.ref y), none]) rfl ?_
    walk_at "sx"
    refine ⟨x, _, rfl, hx, fun c1 hc1 => ?_⟩
    walk_at "sx"
    have s1 : Same H (upd H c1 (.lst (us.map V.int))) := same_new hc1
    refine ⟨y, _, rfl, Sq2.same hy s1, fun c2 hc2 => ?_⟩
    walk_at "sx"
    have hc21 : c1 ≠ c2 := ne_of_none upd_same hc2
    refine ⟨c1, c2, _, _, rfl, rfl, by rw [upd_ne hc21, upd_same], upd_same, ?_, fun c3 hc3 => ?_⟩
    · rw [List.length_map, List.length_map, sizeLine_eq]; omega
    have s3 : Same H (upd (upd (upd H c1 (.lst (us.map V.int))) c2 (.lst (ws.map V.int))) c3 (.lst (us.map V.int ++ ws.map V.int))) := fun b o z => same_new hc3 b o (same_new hc2 b o (s1 b o z))
    have e3 : (upd (upd (upd H c1 (.lst (us.map V.int))) c2 (.lst (ws.map V.int))) c3 (.lst (us.map V.int ++ ws.map V.int))) c3 = some (.lst ((us ++ ws).map V.int)) := by rw [upd_same, List.map_append]
    generalize upd (upd (upd H c1 (.lst (us.map V.int))) c2 (.lst (ws.map V.int))) c3 (.lst (us.map V.int ++ ws.map V.int)) = H3 at s3 e3 ⊢
    have hl2 : (us ++ ws).length ≤ 500000 := by rw [List.length_append]; exact hl
    generalize us ++ ws = ms at *
    refine r_seqL (SqL.of e3) ?_
    refine lw_list (xs := ms.map V.int) (fun D i H' => Same H3 H' ∧ H' D = some (.lst ((ms.take i).map V.int))) (fun D hD => ⟨same_new hD, upd_same⟩) (fun D hD i H' _ z => SqL.of (z.1 _ _ e3)) ?_ ?_
    · rintro D hD i x H4 hx ⟨s4, hd⟩
      rw [List.getElem?_map] at hx
      obtain ⟨y, hy, rfl⟩ := Option.map_eq_some_iff.mp hx
      walk_at "sx"
      refine ⟨rfl, ?_⟩
      walk_at "sx"
      refine ⟨_, hd, ?_, same_mut s4 hD, ?_⟩
      · rw [List.length_map, List.length_take, sizeLine_eq]; omega
      · rw [ints_snoc hy]; exact upd_same
    · rintro D hD H4 ⟨s4, hd⟩
      rw [List.length_map, List.take_length] at hd
      walk_at "sx"
      refine ⟨D, ms, rfl, SqL.of hd, fun v p pv sv hp => ?_⟩
      walk_at "sx"
      refine r_tupOfL (SqL.of upd_same) (fun t2 ht2 => ?_)
      refine q t2 _ v (fun c o e => same_new ht2 c o (same_new hp c o (s4 c o (s3 c o e)))) ?_ pv sv upd_same
      cases hh : H t2 with
      | none => rfl
      | some o => rw [same_new hp _ _ (s4 _ _ (s3 _ _ hh))] at ht2; cases ht2
def sp_check_way (CS CW : Addr) : Sp := fun vs H Q _ => ∃ v, ∃ a b : Nat, ∃ l : List Nat, vs = [v] ∧ WayAt CS CW H v a b l ∧ Q .non H
theorem ok_check_way (T : Tx K mg) : FnOk P w K mg base CX0 1 T.a_check_way T.d_check_way ["way"] (sp_check_way T.C_Slope T.C_Way) := by
  refine T.F_check_way.ok sc_check_way (fun vs H Q E h => ?_) (fun cdv A outer s H vs Q E hr h => ?_)
  · obtain ⟨v, a, b, l, rfl, _⟩ := h; rfl
  · obtain ⟨v, a, b, l, rfl, ⟨_, p, dx, sv, t, r, k, rfl, e, _⟩, q⟩ := h
    refine ⟨_, (pss_one (ps_if (pt_not (pt_val (pe_callB call_isi (by rfl) T.n_isinstance Sx.bt_isinstance (pa_cons (pv 0) (pa_cons (pe_glob (v := .ref T.C_Way) (by rfl) T.g_Way rfl) pa_nil))))) pss_never pss_nil)), ?_⟩
    refine Sx.r_st (σ' := [some (.ref p)]) rfl ?_
    walk_at "sxi"
    refine r_isi_own e T.cl_Way T.ic_Way T.cg T.ct T.mr_Way T.ks_Way ?_
    walk_at "sx"
    exact q
def sp_check_coprime_way (CS CW : Addr) : Sp := fun vs H Q _ => ∃ v, ∃ a b : Nat, ∃ l : List Nat, vs = [v] ∧ WayAt CS CW H v a b l ∧ Nat.gcd a b = 1 ∧ Q .non H
theorem ok_check_coprime_way (T : Tx K mg) : FnOk P w K mg base CX0 4 T.a_check_coprime_way T.d_check_coprime_way ["way"] (sp_check_coprime_way T.C_Slope T.C_Way) := by
  refine T.F_check_coprime_way.ok sc_check_coprime_way (fun vs H Q E h => ?_) (fun cdv A outer s H vs Q E hr h => ?_)
  · obtain ⟨v, a, b, l, rfl, _⟩ := h; rfl
  · obtain ⟨v, a, b, l, rfl, hw, hg, q⟩ := h
    refine ⟨_, (pss_cons (ps_expr (pe_call (ok_check_way T) (hr.mono (by decide)) (by rfl) T.g_check_way T.F_check_way.kp T.b_check_way .nil pass0 (pa_cons (pv 0) pa_nil)))
      (pss_one (ps_expr (pe_call (ok_check_coprime T) (hr.mono (by decide)) (by rfl) T.g_check_coprime T.F_check_coprime.kp T.b_check_coprime .nil pass0 (pa_cons (pe_prop (pv 0) T.cl_Way T.pr_Way_slope (ok_Way_slope T) (hr.mono (by decide)) T.b_Way_slope .nil pass0 rfl) pa_nil))))), ?_⟩
    refine Sx.r_st (σ' := [some (v)]) rfl ?_
    walk_at "sx"
    refine ⟨v, a, b, l, rfl, hw, ?_⟩
    walk_at "sx"
    refine rw_slope hw fun sv hS => ?_
    walk_at "sx"
    refine ⟨sv, a, b, rfl, hS, hg, ?_⟩
    walk_at "sx"
    exact q
/-- the levels ahead of the rises among the first i letters -/
def upR (a b : Nat) (l : List Nat) (i : Nat) : List Int := ((List.range i).filter fun j => decide (l[j]? = some 114)).map fun j => Mg.lv a b l j
theorem upR_yes {a b : Nat} {l : List Nat} {i : Nat} (h : l[i]? = some 114) : upR a b l (i + 1) = upR a b l i ++ [Mg.lv a b l i] := by
  unfold upR
  rw [List.range_succ, List.filter_append, List.map_append]
  simp [h]
theorem upR_no {a b : Nat} {l : List Nat} {i : Nat} (h : ¬ l[i]? = some 114) : upR a b l (i + 1) = upR a b l i := by
  unfold upR
  rw [List.range_succ, List.filter_append, List.map_append]
  simp [h]
theorem upR_mem {a b : Nat} {l : List Nat} {x : Int} : x ∈ upR a b l l.length ↔ Mg.RL a b l x := by
  unfold upR Mg.RL
  rw [List.mem_map]
  constructor
  · rintro ⟨j, hj, rfl⟩
    rw [List.mem_filter, List.mem_range, decide_eq_true_iff] at hj
    exact ⟨j, hj.2, rfl⟩
  · rintro ⟨j, hj, rfl⟩
    refine ⟨j, ?_, rfl⟩
    rw [List.mem_filter, List.mem_range, decide_eq_true_iff]
    exact ⟨(List.getElem?_eq_some_iff.mp hj).1, hj⟩
theorem nodup_inj {α β : Type} {f : α → β} : ∀ {u : List α}, u.Nodup → (∀ x, x ∈ u → ∀ y, y ∈ u → f x = f y → x = y) → (u.map f).Nodup
  | [], _, _ => List.nodup_nil
  | x :: u, h, g => by
    rw [List.nodup_cons] at h
    rw [List.map_cons, List.nodup_cons]
    refine ⟨fun m => ?_, nodup_inj h.2 fun a ha b hb => g a (List.mem_cons_of_mem _ ha) b (List.mem_cons_of_mem _ hb)⟩
    obtain ⟨y, hy, e⟩ := List.mem_map.mp m
    have := g y (List.mem_cons_of_mem _ hy) x (List.mem_cons_self ..) e
    subst this
    exact h.1 hy
theorem upR_nodup {a b : Nat} {l : List Nat} (hW : IsWay a b l) (ha : 0 < a) (hb : 0 < b) (hg : Nat.gcd a b = 1) : (upR a b l l.length).Nodup := by
  unfold upR
  refine nodup_inj (List.nodup_range.filter _) fun x hx y hy e => ?_
  rw [List.mem_filter, List.mem_range] at hx hy
  exact Mg.lv_inj hW ha hb hg hx.1 hy.1 e
/-- a rise's level that the rises divide is 0 -/
theorem rise_rest {a b : Nat} {l : List Nat} (hW : IsWay a b l) (ha : 0 < a) (hg : Nat.gcd a b = 1) {i : Nat} (hi : l[i]? = some 114) : Mg.lv a b l i = 0 ∨ ¬ (a : Int) ∣ Mg.lv a b l i := by
  by_cases d : (a : Int) ∣ Mg.lv a b l i
  · refine .inl ?_
    have := Mg.rise_place hW.1 hg hi (Mg.first_r hW ha) (by rw [Mg.lv_0, Int.sub_zero]; exact d)
    rw [this]; exact Mg.lv_0
  · exact .inr d
theorem rg_dns {g : Int} {a : Nat} : (List.range (g / (a : Int)).toNat).map (fun t : Nat => V.int (g - a + (t : Int) * -(a : Int))) = (Mg.dn a g).map V.int := by
  unfold Mg.dn
  rw [List.map_map]
  apply List.map_congr_left
  intro t _
  show V.int _ = V.int _
  congr 1
  show g - (a : Int) + (t : Int) * -(a : Int) = g - (a : Int) * ((t : Int) + 1)
  rw [Int.mul_neg, Int.mul_add, Int.mul_one, Int.mul_comm (t : Int)]
  omega
theorem dns_snoc {a : Nat} {u : List Int} {g : Int} : (u ++ [g]).flatMap (Mg.dn a) = u.flatMap (Mg.dn a) ++ Mg.dn a g := by
  rw [List.flatMap_append, List.flatMap_singleton]
theorem lv_small {a b : Nat} {l : List Nat} (hW : IsWay a b l) (hb : 0 < b) (h1 : a ≤ 60) (h2 : b ≤ 60) {i : Nat} (hi : l[i]? = some 114) : Mg.lv a b l i < 3600 := by
  have := Mg.lv_lt hW hb hi
  have h3 : a * b ≤ 60 * 60 := Nat.mul_le_mul h1 h2
  omega
theorem dns_len {a b : Nat} {l : List Nat} (hW : IsWay a b l) (ha : 0 < a) (hb : 0 < b) (h1 : a ≤ 60) (h2 : b ≤ 60) : ∀ i, i ≤ l.length → ((upR a b l i).flatMap (Mg.dn a)).length ≤ 3600 * i
  | 0, _ => by unfold upR; simp
  | i + 1, h => by
    have ih := dns_len hW ha hb h1 h2 i (by omega)
    by_cases e : l[i]? = some 114
    · rw [upR_yes e, dns_snoc, List.length_append]
      have s1 := lv_small hW hb h1 h2 e
      have s0 := Mg.lv_nonneg hW (i := i) (by omega)
      have s2 := Mg.dn_len ha s0
      have s3 := Int.ediv_le_self (a : Int) s0
      omega
    · rw [upR_no e]; omega
def sp_gaps_of (CS CW : Addr) : Sp := fun vs H Q _ => ∃ v, ∃ a b : Nat, ∃ l : List Nat, vs = [v] ∧ WayAt CS CW H v a b l ∧ Nat.gcd a b = 1 ∧ ∀ p H', Same H H' → H p = none → H' p = some (.tup ((Mg.gaps a b l).map V.int)) → Q (.ref p) H'
theorem ok_gaps_of (T : Tx K mg) : FnOk P w K mg base CX0 3 T.a_gaps_of T.d_gaps_of ["way"] (sp_gaps_of T.C_Slope T.C_Way) := by
  refine T.F_gaps_of.ok sc_gaps_of (fun vs H Q E h => ?_) (fun cdv A outer s H vs Q E hr h => ?_)
  · obtain ⟨v, a, b, l, rfl, _⟩ := h; rfl
  · obtain ⟨v, a, b, l, rfl, hw, hg, q⟩ := h
    have hW := hw.1
    obtain ⟨ab, hab⟩ : ∃ z : 1 ≤ a ∧ a ≤ 60 ∧ 1 ≤ b ∧ b ≤ 60, True := by
      obtain ⟨_, p, dx, sv, t, r, k, _, _, hi, _⟩ := hw
      have := hi.1
      exact ⟨by omega, trivial⟩
    have hl : l.length ≤ 120 := by have := hW.1.2.2; omega
    refine ⟨_, (pss_cons (ps_set (i := 1) sc_gaps_of.nd rfl (.inl rfl) (pe_prop (pe_prop (pv 0) T.cl_Way T.pr_Way_slope (ok_Way_slope T) (hr.mono (by decide)) T.b_Way_slope .nil pass0 rfl) T.cl_Slope T.pr_Slope_rises (ok_Slope_rises T) (hr.mono (by decide)) T.b_Slope_rises .nil pass0 rfl))
      (pss_cons (ps_set (i := 2) sc_gaps_of.nd rfl (.inl rfl) (pe_lst pa_nil))
      (pss_cons (ps_for PassesOwn.never rfl (Zp.pi_zip2 (by rfl) T.n_zip (pa_cons (pe_prop (pv 0) T.cl_Way T.pr_Way_text (ok_Way_text T) (hr.mono (by decide)) T.b_Way_text .nil pass0 rfl) (pa_cons (pe_prop (pv 0) T.cl_Way T.pr_Way_levels (ok_Way_levels T) (hr.mono (by decide)) T.b_Way_levels .nil pass0 rfl) pa_nil))) (pg_tup rfl (pgs_cons (pg_name (i := 3) sc_gaps_of.nd rfl (.inl rfl)) (pgs_cons (pg_name (i := 4) sc_gaps_of.nd rfl (.inl rfl)) pgs_nil))) (pss_one (ps_if (pt_cmpR op_eq (pv 3) pe_str (nomark _)) (pss_one (ps_expr (pe_bm PySem.F.plainAttrs_list PySem.F.slot_list_extend PySem.F.type_list_extend mt_extend (pv 2) (pa_cons (pe_callTy (Mj.c_lstR rfl) (by rfl) T.n_list Sx.bt_list (pa_cons (pe_callTy Mj.c_rng3 (by rfl) T.n_range Sx.bt_range (pa_cons (pe_op op_sub (pv 4) (pv 1)) (pa_cons pe_int (pa_cons (pe_un un_neg (pv 1)) pa_nil)))) pa_nil)) pa_nil)))) pss_nil)))
      (pss_one (ps_ret (pe_call (ok_with_more T) (hr.mono (by decide)) (by rfl) T.g_with_more T.F_with_more.kp T.b_with_more .nil pass0 (pa_cons (pv 2) (pa_cons (pe_tup pa_nil) pa_nil)))))))), ?_⟩
    refine Sx.r_st (σ' := [some (v), none, none, none, none]) rfl ?_
    walk_at "sx"
    refine rw_slope hw fun sv hS => ?_
    walk_at "sx"
    refine rd_r hS ?_
    walk_at "sx"
    refine ⟨Nat.zero_le _, fun g hgn => ?_⟩
    walk_at "sx"
    have s0 : Same H (upd H g (.lst [])) := same_new hgn
    have g0 : (upd H g (.lst [])) g = some (.lst []) := upd_same
    generalize upd H g (.lst []) = H0 at s0 g0 ⊢
    have hw0 := hw.mono s0
    refine Zp.r_forP ?_
    walk_at "sx"
    refine rw_text hw0 ?_
    walk_at "sx"
    refine rw_levels hw0 fun t ht => ?_
    walk_at "sx"
    have hn := lvs_len (a := a) (b := b) (l := l)
    have hc : Zp.chars (S l) = l.map fun c => V.str ⟨#[c]⟩ := rfl
    refine ⟨.s (S l), .t t, Zp.chars (S l), (lvs a b l).map V.int, rfl, rfl, SqT.of ht, ?_⟩
    refine fr_it (Zp.walk_zip2 (n := l.length) (by rw [hc, List.length_map]) (by rw [List.length_map, hn])) (fun i σ' H' => (∃ y3 y4, σ' = [some v, some (.int a), some (.ref g), y3, y4]) ∧ (∀ c o, c ≠ g → H0 c = some o → H' c = some o) ∧ H' g = some (.lst (((upR a b l i).flatMap (Mg.dn a)).map V.int))) ⟨⟨none, none, rfl⟩, fun c o _ e => e, g0⟩ (fun i σ' H' _ z => ⟨rfl, SqT.of (z.2.1 _ _ (fun e => by rw [e, g0] at ht; cases ht) ht)⟩) ?_ ?_
    · rintro i x σ' H1 H2 hi ⟨⟨y3, y4, rfl⟩, k1, hg1⟩ ⟨p, xx, yy, rfl, hp, rfl, hxx, hyy⟩
      rw [hc, List.getElem?_map] at hxx
      obtain ⟨c, hcc, rfl⟩ := Option.map_eq_some_iff.mp hxx
      rw [List.getElem?_map, lvs_get hi] at hyy
      obtain rfl := Option.some.inj hyy
      have gp : g ≠ p := ne_of_none hg1 hp
      have k2 : ∀ c' o, c' ≠ g → H0 c' = some o → (upd H1 p (.tup [.str ⟨#[c]⟩, .int (lev a b (l.take i))])) c' = some o := fun c' o n e => by
        rw [upd_ne (ne_of_none (k1 _ _ n e) hp)]; exact k1 _ _ n e
      have hg2 : (upd H1 p (.tup [.str ⟨#[c]⟩, .int (lev a b (l.take i))])) g = some (.lst (((upR a b l i).flatMap (Mg.dn a)).map V.int)) := by rw [upd_ne gp]; exact hg1
      refine r_gtup upd_same rfl ?_
      generalize upd H1 p (.tup [.str ⟨#[c]⟩, .int (lev a b (l.take i))]) = H2 at k2 hg2 ⊢
      walk_at "sxi"
      refine ite_d (fun h => ?_) (fun h => ?_)
      · have c114 := is_r.mp h
        subst c114
        have g0' := Mg.lv_nonneg hW (i := i) (by omega)
        have g1' := lv_small hW ab.2.2.1 ab.2.1 ab.2.2.2 hcc
        have q1 := Int.ediv_le_self (a : Int) g0'
        have q0 : 0 ≤ Mg.lv a b l i / (a : Int) := Int.ediv_nonneg g0' (by omega)
        have ld := Mg.dn_len (g := Mg.lv a b l i) ab.1 g0'
        have ll := dns_len hW ab.1 ab.2.2.1 ab.2.1 ab.2.2.2 i (by omega)
        walk_at "sx"
        refine ⟨tyL hg2, ?_⟩
        walk_at "sx"
        refine ⟨_, _, _, rfl, by omega, by omega, fun p2 hp2 => ?_⟩
        walk_at "sx"
        refine ⟨p2, _, _, _, _, rfl, upd_same, Mj.rg_dn (g := Mg.lv a b l i) ab.1 (by omega) g0' (by omega) (rise_rest hW ab.1 hg hcc), by omega, fun q2 hq2 => ?_⟩
        walk_at "sx"
        have n1 : g ≠ p2 := ne_of_none hg2 hp2
        have n2 : g ≠ q2 := ne_of_none (by rw [upd_ne n1]; exact hg2) hq2
        rw [show (List.range (Mg.lv a b l i / (a : Int)).toNat).map (fun t : Nat => V.int (lev a b (l.take i) - a + (t : Int) * -(a : Int))) = (Mg.dn a (Mg.lv a b l i)).map V.int from rg_dns]
        refine ⟨g, q2, _, _, rfl, rfl, by rw [upd_ne n2, upd_ne n1]; exact hg2, upd_same, ?_, ⟨_, _, rfl⟩, ?_, ?_⟩
        · rw [List.length_map, List.length_map, sizeLine_eq]; omega
        · intro c' o n e
          have e2 := k2 c' o n e
          have m1 := ne_of_none e2 hp2
          have m2 := ne_of_none (show (upd H2 p2 _) c' = some o by rw [upd_ne m1]; exact e2) hq2
          rw [upd_ne n, upd_ne m2, upd_ne m1]; exact e2
        · rw [upd_same, upR_yes hcc, dns_snoc, List.map_append]
      · refine ⟨⟨_, _, rfl⟩, k2, ?_⟩
        rw [upR_no (fun z => h (is_r.mpr (by rw [hcc] at z; exact Option.some.inj z)))]; exact hg2
    · rintro σ' H1 ⟨⟨y3, y4, rfl⟩, k1, hg1⟩
      walk_at "sx"
      refine ⟨sz _ (Nat.le_of_ble_eq_true rfl), fun t0 ht0 => ?_⟩
      walk_at "sx"
      have len := dns_len hW ab.1 ab.2.2.1 ab.2.1 ab.2.2.2 l.length (Nat.le_refl _)
      have gt : g ≠ t0 := ne_of_none hg1 ht0
      refine ⟨g, t0, (upR a b l l.length).flatMap (Mg.dn a), [], rfl, .inl (SqL.of (by rw [upd_ne gt]; exact hg1)), .inr (SqT.of upd_same), ?_, fun p2 H2 w2 s2 hp2 pw sw hw2 => ?_⟩
      · rw [List.length_nil]; omega
      rw [List.append_nil] at pw
      obtain rfl := Mg.dns_sorted hW ab.1 ab.2.2.1 hg (fun x => upR_mem) (upR_nodup hW ab.1 ab.2.2.1 hg) pw sw
      have keep : ∀ c o, H c = some o → (upd H1 t0 (.tup [])) c = some o := fun c o e => by
        have e1 := k1 c o (ne_of_none e hgn) (s0 _ _ e)
        rw [upd_ne (ne_of_none e1 ht0)]; exact e1
      refine q p2 H2 (fun c o e => s2 _ _ (keep c o e)) ?_ hw2
      cases hh : H p2 with
      | none => rfl
      | some o => rw [keep _ _ hh] at hp2; cases hp2
end
end Lw

namespace Lw
open PySem PySem.Spec PyProof.Rows L2 Sx Sy Sw Mw Me
open En (NoNum)
open SX (S)
open C8 (pe_gc)
open SkE (call_repr_int call_str_str)
open RZ (pi_zipA)
section
variable {P : Program} {w : World} {K : PySem.W.Frag} {mg : Str → Option Value} {base : Heap}
/-! ### Shelf.of_way, exchanged, in, == -/
def sp_of_way (K : PySem.W.Frag) (CS CW CH : Addr) : Sp := fun vs H Q _ => ∃ v, ∃ a b : Nat, ∃ l : List Nat, vs = [.ref CH, v] ∧ WayAt CS CW H v a b l ∧ Nat.gcd a b = 1 ∧ ∀ u H', Same H H' → ShelfAt K CS CH H' u a b l → Q u H'
theorem ok_Shelf_of_way (T : Tx K mg) : FnOk P w K mg base CX0 9 T.a_Shelf_of_way T.d_Shelf_of_way ["cls", "way"] (sp_of_way K T.C_Slope T.C_Way T.C_Shelf) := by
  refine T.F_Shelf_of_way.ok sc_Shelf_of_way (fun vs H Q E h => ?_) (fun cdv A outer s H vs Q E hr h => ?_)
  · obtain ⟨v, a, b, l, rfl, _⟩ := h; rfl
  · obtain ⟨v, a, b, l, rfl, hw, hg, q⟩ := h
    refine ⟨_, (pss_cons (ps_expr (pe_call (ok_check_coprime_way T) (hr.mono (by decide)) (by rfl) T.g_check_coprime_way T.F_check_coprime_way.kp T.b_check_coprime_way .nil pass0 (pa_cons (pv 1) pa_nil)))
      (pss_one (ps_ret (Mj.pe_makeL (i := 0) T.mk_Shelf (ok_Shelf_init T) (hr.mono (by decide)) rfl (.inl rfl) T.b_Shelf_init .nil pass0 (pa_cons (pe_prop (pv 1) T.cl_Way T.pr_Way_slope (ok_Way_slope T) (hr.mono (by decide)) T.b_Way_slope .nil pass0 rfl) (pa_cons (pe_call (ok_gaps_of T) (hr.mono (by decide)) (by rfl) T.g_gaps_of T.F_gaps_of.kp T.b_gaps_of .nil pass0 (pa_cons (pv 1) pa_nil)) pa_nil)))))), ?_⟩
    refine Sx.r_st (σ' := [some (.ref T.C_Shelf), some (v)]) rfl ?_
    walk_at "sx"
    refine ⟨v, a, b, l, rfl, hw, hg, ?_⟩
    walk_at "sx"
    refine ⟨rfl, ?_⟩
    walk_at "sx"
    refine rw_slope hw fun sv hS => ?_
    walk_at "sx"
    refine ⟨v, a, b, l, rfl, hw, hg, fun t H1 s1 ht0 ht => ?_⟩
    walk_at "sx"
    exact mk_shelf (hS.mono s1) hg hw.1 (SqT.of ht) fun u H2 s2 hu => q u H2 (fun c o e => s2 _ _ (s1 _ _ e)) hu
end
end Lw

namespace Lw
open PySem PySem.Spec PyProof.Rows L2 Sx Sy Sw Mw Me
open En (NoNum)
open SX (S)
open C8 (pe_gc)
open SkE (call_repr_int call_str_str)
open RZ (pi_zipA)
section
variable {P : Program} {w : World} {K : PySem.W.Frag} {mg : Str → Option Value} {base : Heap}
def sp_law_dice (K : PySem.W.Frag) : Sp := fun vs H Q _ => ∃ (a : Addr) (ns : List Int) (i : Nat), vs = [.ref a, .int i] ∧ SqL K H a (ns.map V.int) ∧ i ≤ 63 ∧ ∀ d H', Same H H' → H d = none → Dice H' d → Q (.ref d) H'
theorem ok_law_dice (T : Tx K mg) : FnOk P w K mg base CX0 1 T.a_law_dice T.d_law_dice ["_law_script", "_law_spot"] (sp_law_dice K) := by
  refine T.F_law_dice.ok sc_law_dice (fun vs H Q E h => ?_) (fun cdv A outer s H vs Q E hr h => ?_)
  · obtain ⟨a, ns, i, rfl, _⟩ := h; rfl
  · obtain ⟨a, ns, i, rfl, hS, hi, q⟩ := h
    refine ⟨_, (pss_cons (ps_set (i := 2) sc_law_dice.nd rfl (.inl rfl) (pe_ifExp (pt_cmpR op_lt (pv 1) (pe_callB Sx.c_len (by rfl) T.n_len Sx.bt_len (pa_cons (pv 0) pa_nil)) (nomark _)) (pe_callTy Sx.c_int (by rfl) T.n_int Sx.bt_int (pa_cons (pe_ix ix_list (pv 0) (pv 1) (fun _ _ => rfl)) pa_nil)) (pe_op op_add (pe_op Sx.op_mulA pe_int (pv 1)) pe_int)))
      (pss_cons (ps_set (i := 3) sc_law_dice.nd rfl (.inl rfl) (pe_op op_mod (pe_callB (Sx.c_max rfl) (by rfl) T.n_max Sx.bt_max (pa_cons pe_int (pa_cons (pe_op op_sub (pe_callB Sx.c_abs (by rfl) T.n_abs Sx.bt_abs (pa_cons (pv 2) pa_nil)) (pe_op op_pow pe_int pe_int)) pa_nil))) (pe_op Sx.op_mulA (pe_op op_pow pe_int pe_int) (pe_op op_pow pe_int pe_int))))
      (pss_one (ps_ret (pe_lst (pa_cons (pv 3) (pa_cons (pe_op op_add (pe_op op_add (pe_op op_add (pe_op Sx.op_mulA (pe_op op_mod (pe_callB Sx.c_abs (by rfl) T.n_abs Sx.bt_abs (pa_cons (pv 2) pa_nil)) pe_int) pe_int) (pe_op Sx.op_mulA pe_int (pv 1))) (pe_op Sx.op_mulA pe_int (pe_callTy Sx.c_int (by rfl) T.n_int Sx.bt_int (pa_cons (pe_cmpR op_lt (pv 2) pe_int (nomark _)) pa_nil)))) pe_int) (pa_cons pe_int pa_nil)))))))), ?_⟩
    refine Sx.r_st (σ' := [some (.ref a), some (.int i), none, none]) rfl ?_
    walk_at "sx"
    refine r_cutQ (fun v H1 => H1 = H ∧ ∃ x : Int, v = .int x) (fun Q' k => ?_) ?_
    · refine r_ifE ?_
      walk_at "sx"
      refine r_lenL hS ?_
      walk_at "sx"
      rw [List.length_map]
      refine ite_d (fun h => ?_) (fun h => ?_)
      · have h' : i < ns.length := by omega
        walk_at "sx"
        refine ⟨a, _, _, _, rfl, rfl, hS, atI_nat (j := i) (v := .int ns[i]) (by rw [List.getElem?_map, List.getElem?_eq_getElem h']; rfl), ?_⟩
        walk_at "sx"
        exact k _ _ ⟨rfl, _, rfl⟩
      · walk_at "sx"
        · exact k _ _ ⟨rfl, _, rfl⟩
        all_goals walk_at "sd"
    · rintro v H1 ⟨rfl, x, rfl⟩
      walk_at "sx"
      · refine ⟨sz _ (Nat.le_of_ble_eq_true rfl), fun d hd => ?_⟩
        exact q _ _ (same_new hd) hd ⟨_, _, _, upd_same⟩
      all_goals first | walk_at "sd" | exact cmA_w (by unfold CMulW; decide +kernel)
def sp_law_roll : Sp := fun vs H Q _ => ∃ (d : Addr) (n : Int), vs = [.ref d, .int n] ∧ Dice H d ∧ 0 < n ∧ n.natAbs.log2 < 9000 ∧ ∀ r H', 0 ≤ r → r < n → Kp d H H' → Q (.int r) H'
theorem ok_law_roll (T : Tx K mg) : FnOk P w K mg base CX0 1 T.a_law_roll T.d_law_roll ["_law_dice_here", "_law_total"] sp_law_roll := by
  refine T.F_law_roll.ok sc_law_roll (fun vs H Q E h => ?_) (fun cdv A outer s H vs Q E hr h => ?_)
  · obtain ⟨d, n, rfl, _⟩ := h; rfl
  · obtain ⟨d, n, rfl, ⟨x, y, z, hd⟩, hn, hl, q⟩ := h
    refine ⟨_, (pss_cons (ps_if (pt_cmpR op_gt (pe_ix ix_list (pv 0) pe_int (fun _ _ => rfl)) pe_int (nomark _)) (pss_cons (ps_set (i := 2) sc_law_roll.nd rfl (.inl rfl) (pe_op op_mod (pe_callTy Sx.c_int (by rfl) T.n_int Sx.bt_int (pa_cons (pe_ix ix_list (pv 0) pe_int (fun _ _ => rfl)) pa_nil)) (pv 1)))
      (pss_cons (ps_asg (pe_op op_fdivW (pe_ix ix_list (pv 0) pe_int (fun _ _ => rfl)) (pv 1)) (pg_sub (pv 0) pe_int set_list))
      (pss_one (ps_ret (pv 2))))) pss_nil)
      (pss_cons (ps_asg (pe_op op_add (pe_ix ix_list (pv 0) pe_int (fun _ _ => rfl)) pe_int) (pg_sub (pv 0) pe_int set_list))
      (pss_cons (ps_set (i := 3) sc_law_roll.nd rfl (.inl rfl) (pe_op op_mod (pe_callTy Sx.c_int (by rfl) T.n_int Sx.bt_int (pa_cons (pe_op op_add (pe_ix ix_list (pv 0) pe_int (fun _ _ => rfl)) (pe_op Sx.op_mulA pe_int (pe_ix ix_list (pv 0) pe_int (fun _ _ => rfl)))) pa_nil)) pe_int))
      (pss_cons (ps_set (i := 4) sc_law_roll.nd rfl (.inl rfl) (pe_op op_add (pe_op Sx.op_mulA (pe_op op_mod (pe_callTy Sx.c_int (by rfl) T.n_int Sx.bt_int (pa_cons (pe_op op_add (pe_op Sx.op_mulA (pv 3) (pv 3)) (pe_op Sx.op_mulA pe_int (pe_ix ix_list (pv 0) pe_int (fun _ _ => rfl)))) pa_nil)) pe_int) pe_int) (pv 3)))
      (pss_one (ps_ret (pe_op op_mod (pe_callTy Sx.c_int (by rfl) T.n_int Sx.bt_int (pa_cons (pe_op op_fdivW (pv 4) pe_int) pa_nil)) (pv 1)))))))), ?_⟩
    refine Sx.r_st (σ' := [some (.ref d), some (.int n), none, none, none]) rfl ?_
    walk_at "sxi"
    refine r_ixL hd (v := .int x) rfl ?_
    walk_at "sx"
    refine ite_d (fun h => ?_) (fun h => ?_)
    · walk_at "sx"
      refine r_ixL hd (v := .int x) rfl ?_
      walk_at "sx"
      · refine r_ixL hd (v := .int x) rfl ?_
        walk_at "sx"
        · refine r_setL hd (j := 0) rfl ?_
          walk_at "sx"
          refine q _ _ (Int.emod_nonneg _ (by omega)) (Int.emod_lt_of_pos _ hn) (Kp.put ⟨x, y, z, hd⟩)
        · exact ⟨hn, hl⟩
      · exact hn
    · walk_at "sx"
      refine r_ixL hd (v := .int z) rfl ?_
      walk_at "sx"
      refine r_setL hd (j := 2) rfl ?_
      walk_at "sx"
      refine r_ixL upd_same (v := .int y) rfl ?_
      walk_at "sx"
      refine r_ixL upd_same (v := .int (z + 1)) rfl ?_
      walk_at "sx"
      refine r_ixL upd_same (v := .int (z + 1)) rfl ?_
      walk_at "sx"
      · exact q _ _ (Int.emod_nonneg _ (by omega)) (Int.emod_lt_of_pos _ hn) (Kp.put ⟨x, y, z, hd⟩)
      all_goals walk_at "sd"
theorem log_small {n : Int} (h0 : 0 ≤ n) (h : n ≤ 1000) : n.natAbs.log2 < 9000 := PySem.Flt.log2_lt_of (by decide) (Nat.lt_of_le_of_lt (show n.natAbs ≤ 1000 by omega) (by decide +kernel))
/-! ### drawn ways -/
def sp_law_way : Sp := fun vs H Q _ => ∃ (d : Addr) (a b : Nat), vs = [.ref d, .int a, .int b] ∧ Dice H d ∧ 1 ≤ a ∧ a ≤ 60 ∧ 1 ≤ b ∧ b ≤ 60 ∧ ∀ l H', IsWay a b l → Kp d H H' → Q (.str (S l)) H'
/-- a beginning of a way: no level below 0 -/
structure Beg (a b : Nat) (l : List Nat) : Prop where
  let' : ∀ c, c ∈ l → c = 114 ∨ c = 115
  pos : ∀ i, i ≤ l.length → 0 ≤ lev a b (l.take i)
  r : l.count 114 ≤ a
  s : l.count 115 ≤ b
theorem Beg.snoc {a b c : Nat} {l : List Nat} (h : Beg a b l) (hc : c = 114 ∨ c = 115) (h0 : 0 ≤ lev a b (l ++ [c])) (h1 : (l ++ [c]).count 114 ≤ a) (h2 : (l ++ [c]).count 115 ≤ b) : Beg a b (l ++ [c]) := by
  refine ⟨fun x hx => ?_, fun i hi => ?_, h1, h2⟩
  · rcases List.mem_append.mp hx with hx | hx
    · exact h.let' x hx
    · rw [List.mem_singleton.mp hx]; exact hc
  · rw [List.length_append] at hi
    by_cases e : i ≤ l.length
    · rw [List.take_append_of_le_length e]; exact h.pos i e
    · rw [List.take_of_length_le (by rw [List.length_append]; exact Nat.le_of_not_lt fun z => by simp at hi z; omega)]; exact h0
theorem Beg.way {a b : Nat} {l : List Nat} (h : Beg a b l) (hl : l.length = a + b) : IsWay a b l := by
  have hc := count_both l h.let'
  have h1 := h.r
  have h2 := h.s
  exact ⟨⟨by omega, by omega, hl⟩, fun i hi => h.pos i (by omega)⟩
theorem Beg.lv {a b : Nat} {l : List Nat} (h : Beg a b l) : lev a b l = (b : Int) * (l.count 114 : Nat) - (a : Int) * (l.count 115 : Nat) := lev_two h.let'
theorem cnt_snoc {c d : Nat} {l : List Nat} : (l ++ [c]).count d = l.count d + if c = d then 1 else 0 := by
  rw [List.count_append, List.count_cons, List.count_nil]; simp
theorem Beg.add_r {a b : Nat} {l : List Nat} (h : Beg a b l) (h1 : l.count 114 < a) : Beg a b (l ++ [114]) := by
  refine h.snoc (.inl rfl) ?_ ?_ ?_
  · have := h.pos l.length (Nat.le_refl _)
    rw [List.take_length] at this
    rw [lev_snoc]; simp; omega
  · rw [cnt_snoc]; simp; omega
  · rw [cnt_snoc]; simp; exact h.s
theorem Beg.add_s {a b : Nat} {l : List Nat} (h : Beg a b l) (h1 : l.count 115 < b) (h2 : (a : Int) ≤ lev a b l) : Beg a b (l ++ [115]) := by
  refine h.snoc (.inr rfl) ?_ ?_ ?_
  · rw [lev_snoc]; simp; omega
  · rw [cnt_snoc]; simp; exact h.r
  · rw [cnt_snoc]; simp; omega
/-- no rises left: each further step is free -/
theorem Beg.full {a b : Nat} {l : List Nat} (h : Beg a b l) (h1 : l.count 114 = a) (h2 : l.count 115 < b) : (a : Int) ≤ Mw.lev a b l := by
  rw [h.lv, h1]
  have e : (a : Int) * (l.count 115 : Nat) + a ≤ (a : Int) * b := by
    have : (a : Int) * ((l.count 115 : Nat) + 1) ≤ (a : Int) * b := Int.mul_le_mul_of_nonneg_left (by omega) (Int.natCast_nonneg _)
    rw [Int.mul_add, Int.mul_one] at this
    exact this
  rw [Int.mul_comm (b : Int)]; omega
theorem Beg.low {a b : Nat} {l : List Nat} (h : Beg a b l) (h1 : Mw.lev a b l < a) (h2 : l.count 115 < b) : l.count 114 < a := by
  rcases Nat.lt_or_ge (l.count 114) a with z | z
  · exact z
  · have := h.full (Nat.le_antisymm h.r z) h2
    omega
theorem r_cutB {σ : L2.St} {H : Hp} {tt : TT} {Q : Bool → Hp → Prop} (S : Bool → Hp → Prop) (h : ∀ Q', (∀ b H1, S b H1 → Q' b H1) → tt σ H Q') (k : ∀ b H1, S b H1 → Q b H1) : tt σ H Q := h Q k
theorem S_snoc {l : List Nat} {c : Nat} : S l ++ (⟨#[c]⟩ : Str) = S (l ++ [c]) := SX.S_cat l [c]
theorem one_len {c : Nat} : (⟨#[c]⟩ : Str).length = 1 := rfl
theorem ok_law_way (T : Tx K mg) : FnOk P w K mg base CX0 2 T.a_law_way T.d_law_way ["_law_dice_here", "_law_rises", "_law_steps"] sp_law_way := by
  refine T.F_law_way.ok sc_law_way (fun vs H Q E h => ?_) (fun cdv A outer s H vs Q E hr h => ?_)
  · obtain ⟨d, a, b, rfl, _⟩ := h; rfl
  · obtain ⟨d, a, b, rfl, hd, a1, a2, b1, b2, q⟩ := h
    refine ⟨_, (pss_cons (ps_asg (pe_tup (pa_cons pe_str (pa_cons pe_int (pa_cons (pv 1) (pa_cons (pv 2) pa_nil))))) (pg_tup rfl (pgs_cons (pg_name (i := 3) sc_law_way.nd rfl (.inl rfl)) (pgs_cons (pg_name (i := 4) sc_law_way.nd rfl (.inl rfl)) (pgs_cons (pg_name (i := 5) sc_law_way.nd rfl (.inl rfl)) (pgs_cons (pg_name (i := 6) sc_law_way.nd rfl (.inl rfl)) pgs_nil))))))
      (pss_cons (ps_for PassesOwn.never rfl (pi_range1 (by rfl) T.n_range (pa_cons (pe_op op_add (pv 1) (pv 2)) pa_nil)) (pg_name (i := 7) sc_law_way.nd rfl (.inl rfl)) (pss_one (ps_if (PW.pt (pw_and (pt_cmpR op_gt (pv 5) pe_int (nomark _)) (pw_and1 (PW.pt (pw_or (pt_cmpR op_lt (pv 4) (pv 1) (nomark _)) (pw_or (pt_cmpR op_eq (pv 6) pe_int (nomark _)) (pw_or1 (pt_cmpR op_eq (pe_call (ok_law_roll T) (hr.mono (by decide)) (by rfl) T.g_law_roll T.F_law_roll.kp T.b_law_roll .nil pass0 (pa_cons (pv 0) (pa_cons pe_int pa_nil))) pe_int (nomark _))))))))) (pss_one (ps_par3 (i := 3) (j := 4) (l := 5) (by rfl) sc_law_way.nd rfl rfl rfl (by decide) (by decide) (by decide) rfl rfl rfl (pa_cons (pe_op Sx.o_addS (pv 3) pe_str) (pa_cons (pe_op op_add (pv 4) (pv 2)) (pa_cons (pe_op op_sub (pv 5) pe_int) pa_nil))) (by rfl))) (pss_one (ps_par3 (i := 3) (j := 4) (l := 6) (by rfl) sc_law_way.nd rfl rfl rfl (by decide) (by decide) (by decide) rfl rfl rfl (pa_cons (pe_op Sx.o_addS (pv 3) pe_str) (pa_cons (pe_op op_sub (pv 4) (pv 1)) (pa_cons (pe_op op_sub (pv 6) pe_int) pa_nil))) (by rfl))))))
      (pss_one (ps_ret (pv 3))))), ?_⟩
    refine Sx.r_st (σ' := [some (.ref d), some (.int a), some (.int b), none, none, none, none, none]) rfl ?_
    walk_at "sx"
    refine ⟨sz _ (Nat.le_of_ble_eq_true rfl), fun t ht => ?_⟩
    refine r_gtup upd_same rfl ?_
    walk_at "sx"
    refine r_rng1 ?_ (by omega) (by omega)
    refine fr_range (fun i σ' H' => Kp d H H' ∧ ∃ l y7, Beg a b l ∧ l.length = i ∧ σ' = [some (.ref d), some (.int a), some (.int b), some (.str (S l)), some (.int (Mw.lev a b l)), some (.int ((a : Int) - (l.count 114 : Nat))), some (.int ((b : Int) - (l.count 115 : Nat))), y7]) ⟨(Kp.refl hd).new ht, [], none, ⟨fun c hc => by simp at hc, fun i hi => by simp [lev_nil], by simp, by simp⟩, rfl, ?_⟩ ?_ ?_
    · rw [lev_nil]
      show [some (V.ref d), some (V.int a), some (V.int b), some (V.str ("" : Str)), some (V.int 0), some (V.int a), some (V.int b), none] = _
      rw [show ("" : Str) = S [] by decide +kernel]
      simp
    · rintro i σ' H1 hi ⟨k1, l, y7, hB, hl, rfl⟩
      have hi' : i < a + b := by omega
      have hc := count_both l hB.let'
      have hr := hB.r
      have hs := hB.s
      walk_at "sx"
      refine r_ifs ?_
      refine r_cutB (fun z H2 => Kp d H1 H2 ∧ (z = true → l.count 114 < a) ∧ (z = false → l.count 115 < b ∧ (a : Int) ≤ Mw.lev a b l)) (fun Q' k => ?_) ?_
      · walk_at "sx"
        refine ite_d (fun h1 => ?_) (fun h1 => ?_)
        · walk_at "sx"
          refine ite_d (fun h2 => ?_) (fun h2 => ?_)
          · exact k _ _ ⟨Kp.refl k1.d1, fun _ => by omega, (fun z => nomatch z)⟩
          · walk_at "sx"
            refine ite_d (fun h3 => ?_) (fun h3 => ?_)
            · exact k _ _ ⟨Kp.refl k1.d1, fun _ => by omega, (fun z => nomatch z)⟩
            · walk_at "sx"
              refine ⟨d, 2, rfl, k1.d1, by decide, log_small (by decide) (by decide), fun r H2 r0 r1 k2 => ?_⟩
              walk_at "sx"
              exact k _ _ ⟨k2, fun _ => by omega, fun _ => ⟨by omega, by omega⟩⟩
        · exact k _ _ ⟨Kp.refl k1.d1, (fun z => nomatch z), fun _ => ⟨by omega, hB.full (by omega) (by omega)⟩⟩
      · rintro z H2 ⟨k2, z1, z2⟩
        have big : (S l).length + 1 ≤ sizeLine := by rw [SX.S_len, sizeLine_eq]; omega
        cases z with
        | true =>
          have h1 := z1 rfl
          walk_at "sx"
          · refine ⟨k1.trans k2, l ++ [114], some (.int (0 + i)), hB.add_r h1, by rw [List.length_append, hl]; rfl, ?_⟩
            rw [lit_r, S_snoc, lev_snoc, if_pos rfl, cnt_snoc, cnt_snoc, if_pos rfl, if_neg (by decide), show (a : Int) - ((l.count 114 + 1 : Nat) : Int) = (a : Int) - (l.count 114 : Nat) - 1 by omega]; rfl
          · rw [len_r]; exact big
        | false =>
          obtain ⟨h1, h2⟩ := z2 rfl
          walk_at "sx"
          · refine ⟨k1.trans k2, l ++ [115], some (.int (0 + i)), hB.add_s h1 h2, by rw [List.length_append, hl]; rfl, ?_⟩
            rw [lit_s, S_snoc, lev_snoc, if_neg (by decide), cnt_snoc, cnt_snoc, if_pos rfl, if_neg (by decide), show (b : Int) - ((l.count 115 + 1 : Nat) : Int) = (b : Int) - (l.count 115 : Nat) - 1 by omega]; rfl
          · rw [len_s]; exact big
    · rintro σ' H1 ⟨k1, l, y7, hB, hl, rfl⟩
      walk_at "sx"
      exact q l H1 (hB.way (by omega)) k1
/-! ### the law's own words -/
def sp_law_levels : Sp := fun vs H Q _ => ∃ a b : Nat, ∃ l : List Nat, vs = [.int a, .int b, .str (S l)] ∧ l.length ≤ 1000 ∧ ∀ p H', H p = none → Same H H' → H' p = some (.lst ((lvs a b l).map V.int)) → Q (.ref p) H'
theorem ok_law_levels (T : Tx K mg) : FnOk P w K mg base CX0 1 T.a_law_levels T.d_law_levels ["_law_rises", "_law_steps", "_law_text"] sp_law_levels := by
  refine T.F_law_levels.ok sc_law_levels (fun vs H Q E h => ?_) (fun cdv A outer s H vs Q E hr h => ?_)
  · obtain ⟨a, b, l, rfl, _⟩ := h; rfl
  · obtain ⟨a, b, l, rfl, hl, q⟩ := h
    refine ⟨_, (pss_cons (ps_par (i := 3) (j := 4) (by rfl) sc_law_levels.nd rfl rfl (by decide) rfl rfl (pa_cons (pe_lst pa_nil) (pa_cons pe_int pa_nil)) (by rfl))
      (pss_cons (ps_for PassesOwn.never rfl (pi_str (pv 2)) (pg_name (i := 5) sc_law_levels.nd rfl (.inl rfl)) (pss_cons (ps_expr (pe_bm PySem.F.plainAttrs_list PySem.F.slot_list_append PySem.F.type_list_append mt_append (pv 3) (pa_cons (pv 4) pa_nil)))
      (pss_one (ps_set (i := 4) sc_law_levels.nd rfl (.inl rfl) (pe_op op_add (pv 4) (pe_ifExp (pt_cmpR op_eq (pv 5) pe_str (nomark _)) (pv 1) (pe_un un_neg (pv 0))))))))
      (pss_one (ps_ret (pv 3))))), ?_⟩
    refine Sx.r_st (σ' := [some (.int a), some (.int b), some (.str (S l)), none, none, none]) rfl ?_
    walk_at "sx"
    refine ⟨Nat.zero_le _, fun p hp => ?_⟩
    walk_at "sx"
    refine fr_str (fun i σ' H' => Same H H' ∧ (∃ y5, σ' = [some (.int a), some (.int b), some (.str (S l)), some (.ref p), some (.int (lev a b (l.take i))), y5]) ∧ H' p = some (.lst (((lvs a b l).take i).map V.int))) ⟨same_new hp, ⟨none, by rw [List.take_zero, lev_nil]; rfl⟩, upd_same⟩ ?_ ?_
    · rintro i c σ' H1 hc ⟨sm, ⟨y6, rfl⟩, hpp⟩
      rw [S_get] at hc
      have hi : i < l.length := (List.getElem?_eq_some_iff.mp hc).1
      walk_at "sx"
      refine ⟨tyL hpp, ?_⟩
      walk_at "sx"
      refine r_app hpp ?_ ?_
      · rw [← lvs_snoc hi]
        walk_at "sx"
        refine r_cutQ (fun x H2 => H2 = upd H1 p (.lst (((lvs a b l).take (i + 1)).map V.int)) ∧ x = .int (if c = 114 then (b : Int) else -(a : Int))) (fun Q' k => ?_) ?_
        · refine r_ifE ?_
          walk_at "sx"
          refine ite_d (fun h => ?_) (fun h => ?_)
          · walk_at "sx"
            refine k _ _ ⟨rfl, ?_⟩
            rw [if_pos (is_r.mp h)]
          · walk_at "sx"
            refine k _ _ ⟨rfl, ?_⟩
            rw [if_neg (fun z => h (is_r.mpr z))]
        · rintro x H2 ⟨rfl, rfl⟩
          walk_at "sx"
          rw [← lev_take hc]
          exact ⟨same_mut sm hp, ⟨_, rfl⟩, upd_same⟩
      · rw [List.length_map, List.length_take, lvs_len]; exact sz' _ (by omega)
    · rintro σ' H1 ⟨sm, ⟨y6, rfl⟩, hpp⟩
      rw [S_size, List.take_of_length_le (by rw [lvs_len]; exact Nat.le_refl _)] at hpp
      walk_at "sx"
      exact q p _ hp sm hpp
/-! ### a drawn coprime slope -/
def sp_law_slope : Sp := fun vs H Q _ => ∃ (d : Addr) (n : Int), vs = [.ref d, .int n] ∧ Dice H d ∧ 2 ≤ n ∧ n ≤ 500 ∧ ∀ p (a b : Nat) H', 1 ≤ a → 1 ≤ b → (a : Int) + b ≤ n → Nat.gcd a b = 1 → Kp d H H' → H' p = some (.tup [.int a, .int b]) → Q (.ref p) H'
theorem ok_law_slope (T : Tx K mg) : FnOk P w K mg base CX0 2 T.a_law_slope T.d_law_slope ["_law_dice_here", "_law_total"] sp_law_slope := by
  refine T.F_law_slope.ok sc_law_slope (fun vs H Q E h => ?_) (fun cdv A outer s H vs Q E hr h => ?_)
  · obtain ⟨d, n, rfl, _⟩ := h; rfl
  · obtain ⟨d, n, rfl, hd, h0, hn, q⟩ := h
    refine ⟨_, (pss_cons (ps_set (i := 2) sc_law_slope.nd rfl (.inl rfl) (pe_op op_add pe_int (pe_call (ok_law_roll T) (hr.mono (by decide)) (by rfl) T.g_law_roll T.F_law_roll.kp T.b_law_roll .nil pass0 (pa_cons (pv 0) (pa_cons (pe_op op_sub (pv 1) pe_int) pa_nil)))))
      (pss_cons (ps_set (i := 3) sc_law_slope.nd rfl (.inl rfl) (pe_op op_add pe_int (pe_call (ok_law_roll T) (hr.mono (by decide)) (by rfl) T.g_law_roll T.F_law_roll.kp T.b_law_roll .nil pass0 (pa_cons (pv 0) (pa_cons (pe_op op_sub (pv 1) (pv 2)) pa_nil)))))
      (pss_cons (ps_par (i := 4) (j := 5) (by rfl) sc_law_slope.nd rfl rfl (by decide) rfl rfl (pa_cons (pv 2) (pa_cons (pv 3) pa_nil)) (by rfl))
      (pss_cons (ps_while PassesOwn.never (pt_cmpR op_gt (pv 5) pe_int (nomark _)) (pss_one (ps_par (i := 4) (j := 5) (by rfl) sc_law_slope.nd rfl rfl (by decide) rfl rfl (pa_cons (pv 5) (pa_cons (pe_op op_sub (pv 4) (pe_op Sx.op_mulA (pe_op op_fdivW (pv 4) (pv 5)) (pv 5))) pa_nil)) (by rfl))))
      (pss_one (ps_ret (pe_tup (pa_cons (pe_op op_fdivW (pv 2) (pv 4)) (pa_cons (pe_op op_fdivW (pv 3) (pv 4)) pa_nil))))))))), ?_⟩
    refine Sx.r_st (σ' := [some (.ref d), some (.int n), none, none, none, none]) rfl ?_
    walk_at "sx"
    refine ⟨d, n - 1, rfl, hd, by omega, log_small (by omega) (by omega), fun r H1 h1 h2 k1 => ?_⟩
    walk_at "sx"
    refine ⟨d, n - (1 + r), rfl, k1.d1, by omega, log_small (by omega) (by omega), fun r2 H2 h3 h4 k2 => ?_⟩
    obtain ⟨x, hx⟩ : ∃ x : Nat, 1 + r = x := ⟨(1 + r).toNat, by omega⟩
    obtain ⟨y, hy⟩ : ∃ y : Nat, 1 + r2 = y := ⟨(1 + r2).toNat, by omega⟩
    have k := k1.trans k2
    walk_at "sx"
    rw [hx, hy]
    refine r_while (fun m σ' H' => H' = H2 ∧ ∃ u v : Nat, σ' = [some (.ref d), some (.int n), some (.int x), some (.int y), some (.int u), some (.int v)] ∧ u ≤ 1000000 ∧ v ≤ 1000000 ∧ Nat.gcd u v = Nat.gcd x y ∧ v = m) y ⟨rfl, x, y, rfl, by omega, by omega, rfl, rfl⟩ ?_
    rintro m σ' H' ⟨rfl, u, v, rfl, hu, hv, hg, rfl⟩
    walk_at "sx"
    refine ite_d (fun h => ?_) (fun h => ?_)
    · refine ⟨fun σ2 H2 => H2 = H' ∧ σ2 = [some (.ref d), some (.int n), some (.int x), some (.int y), some (.int v), some (.int ((u % v : Nat) : Int))], ?_, ?_⟩
      · rintro σ2 H2 ⟨rfl, rfl⟩
        have hy0 : 0 < v := by omega
        have hm := Nat.mod_lt u hy0
        refine ⟨u % v, hm, rfl, v, u % v, rfl, hv, by omega, ?_, rfl⟩
        rw [← hg, Nat.gcd_comm u v, Nat.gcd_comm v (u % v), ← Nat.gcd_rec]
      · have hy0 : 0 < v := by omega
        have e : (u : Int) - (u : Int) / (v : Int) * (v : Int) = ((u % v : Nat) : Int) := by
          have h1 := Int.mul_ediv_add_emod (u : Int) (v : Int)
          rw [Int.natCast_emod, Int.mul_comm ((u : Int) / (v : Int))]; omega
        walk_at "sx"
        · rw [e]; exact ⟨rfl, rfl⟩
        · exact cmA_r (by omega)
        · exact cdivw (b := 64) (by omega) (by omega) (by decide)
    · have hy0 : v = 0 := by omega
      subst hy0
      rw [Nat.gcd_zero_right] at hg
      have g0 : 0 < u := by rw [hg]; exact Nat.gcd_pos_of_pos_left y (by omega)
      have d1 : u ∣ x := by rw [hg]; exact Nat.gcd_dvd_left x y
      have d2 : u ∣ y := by rw [hg]; exact Nat.gcd_dvd_right x y
      obtain ⟨a, rfl⟩ := d1
      obtain ⟨b, rfl⟩ := d2
      have e1 : ((u * a : Nat) : Int) / (u : Int) = a := by rw [Int.natCast_mul, Int.mul_ediv_cancel_left _ (by omega)]
      have e2 : ((u * b : Nat) : Int) / (u : Int) = b := by rw [Int.natCast_mul, Int.mul_ediv_cancel_left _ (by omega)]
      have a0 : 0 < a := by
        rcases Nat.eq_zero_or_pos a with z | z
        · subst z; omega
        · exact z
      have b0 : 0 < b := by
        rcases Nat.eq_zero_or_pos b with z | z
        · subst z; omega
        · exact z
      have gab : Nat.gcd a b = 1 := by
        rw [Nat.gcd_mul_left] at hg
        have : u * 1 = u * Nat.gcd a b := by omega
        exact (Nat.eq_of_mul_eq_mul_left g0 this).symm
      have la : a ≤ u * a := Nat.le_mul_of_pos_left a g0
      have lb : b ≤ u * b := Nat.le_mul_of_pos_left b g0
      walk_at "sx"
      · refine ⟨sz _ (Nat.le_of_ble_eq_true rfl), fun p hp => ?_⟩
        rw [e1, e2]
        exact q p a b _ a0 b0 (by omega) gab (k.new hp) upd_same
      all_goals first | exact cdivw (b := 64) (by omega) (by omega) (by decide) | omega
end
end Lw

namespace Lw
open PySem PySem.Spec PyProof.Rows L2 Sx Sy Sw Mw Me
open En (NoNum)
open SX (S)
open C8 (pe_gc)
open SkE (call_repr_int call_str_str)
open RZ (pi_zipA)
section
variable {P : Program} {w : World} {K : PySem.W.Frag} {mg : Str → Option Value} {base : Heap}
/-! ### heaps: the class -/
def Rows (rs : List Nat) : Prop := rs.Pairwise (fun x y => y ≤ x) ∧ (∀ x, x ∈ rs → 1 ≤ x ∧ x ≤ 60) ∧ rs.length ≤ 60
def iv (rs : List Nat) : List V := (rs.map fun x : Nat => (x : Int)).map V.int
theorem iv_len (rs : List Nat) : (iv rs).length = rs.length := by unfold iv; rw [List.length_map, List.length_map]
theorem iv_at {rs : List Nat} {i : Nat} {x : V} (h : (iv rs)[i]? = some x) : ∃ n, rs[i]? = some n ∧ x = .int (n : Int) := by
  unfold iv at h
  rw [List.getElem?_map, List.getElem?_map] at h
  obtain ⟨z, h1, h2⟩ := Option.map_eq_some_iff.mp h
  obtain ⟨n, h3, h4⟩ := Option.map_eq_some_iff.mp h1
  exact ⟨n, h3, by rw [← h2, ← h4]⟩
def sp_is_heap_rows (K : PySem.W.Frag) : Sp := fun vs H Q _ => ∃ t rs, vs = [.ref t] ∧ SqT K H t (iv rs) ∧ Rows rs ∧ Q (.bl true) H
theorem ok_is_heap_rows (T : Tx K mg) : FnOk P w K mg base CX0 3 T.a_is_heap_rows T.d_is_heap_rows ["value"] (sp_is_heap_rows K) := by
  refine T.F_is_heap_rows.ok sc_is_heap_rows (fun vs H Q E h => ?_) (fun cdv A outer s H vs Q E hr h => ?_)
  · obtain ⟨t, rs, rfl, _⟩ := h; rfl
  · obtain ⟨t, rs, rfl, ht, ⟨r1, r2, r3⟩, q⟩ := h
    refine ⟨_, (pss_cons (ps_if (PW.pt (pw_or (pt_not (pt_val (pe_callB call_isi (by rfl) T.n_isinstance Sx.bt_isinstance (pa_cons (pv 0) (pa_cons (pe_bltn (v := .ty "tuple") (by rfl) T.n_tuple Sx.bt_tuple rfl) pa_nil))))) (pw_or1 (pt_cmpR op_gt (pe_callB Sx.c_len (by rfl) T.n_len Sx.bt_len (pa_cons (pv 0) pa_nil)) (pe_gc (by rfl) T.c_MAX_ROW) (nomark _))))) (pss_one (ps_ret pe_bl)) pss_nil)
      (pss_cons (ps_set (i := 1) sc_is_heap_rows.nd rfl (.inl rfl) (pe_gc (by rfl) T.c_MAX_ROW))
      (pss_cons (ps_for PassesOwn.never rfl (pi_tup (pv 0)) (pg_name (i := 2) sc_is_heap_rows.nd rfl (.inl rfl)) (pss_cons (ps_if (pt_not (pt_val (pe_call (ok_is_whole_between T) (hr.mono (by decide)) (by rfl) T.g_is_whole_between T.F_is_whole_between.kp T.b_is_whole_between .nil pass0 (pa_cons (pv 2) (pa_cons pe_int (pa_cons (pv 1) pa_nil)))))) (pss_one (ps_ret pe_bl)) pss_nil)
      (pss_one (ps_set (i := 1) sc_is_heap_rows.nd rfl (.inl rfl) (pv 2)))))
      (pss_one (ps_ret pe_bl))))), ?_⟩
    refine Sx.r_st (σ' := [some (.ref t), none, none]) rfl ?_
    walk_at "sxi"
    refine r_isi_tup ht ?_
    walk_at "sx"
    refine ⟨t, _, rfl, .inr ht, ?_⟩
    walk_at "sx"
    rw [iv_len]
    refine ite_d (fun h => ?_) (fun h => ?_)
    · omega
    walk_at "sx"
    refine r_seqT ht ?_
    refine fr_tup (xs := iv rs) (fun i σ' H' => H' = H ∧ ∃ m y, σ' = [some (.ref t), some (.int m), y] ∧ ∀ j x, i ≤ j → rs[j]? = some x → (x : Int) ≤ m) ⟨rfl, 60, none, rfl, fun j x _ e => by have := (r2 x (List.mem_of_getElem? e)).2; omega⟩ (fun i σ' H' _ z => z.1 ▸ ht) ?_ ?_
    · rintro i x σ' H' hx ⟨rfl, m, y, rfl, hm⟩
      obtain ⟨n, hn, rfl⟩ := iv_at hx
      have b1 := (r2 n (List.mem_of_getElem? hn)).1
      have b2 := hm i n (Nat.le_refl _) hn
      walk_at "sxi"
      refine .inl ⟨(n : Int), 1, m, rfl, ?_⟩
      rw [decide_eq_true (show (1 : Int) ≤ n ∧ (n : Int) ≤ m by omega)]
      walk_at "sx"
      refine ⟨rfl, (n : Int), some (.int (n : Int)), rfl, fun j z hj e => ?_⟩
      obtain ⟨l1, g1⟩ := List.getElem?_eq_some_iff.mp hn
      obtain ⟨l2, g2⟩ := List.getElem?_eq_some_iff.mp e
      have := List.pairwise_iff_getElem.mp r1 i j l1 l2 (by omega)
      omega
    · rintro σ' H' ⟨rfl, m, y, rfl, hm⟩
      walk_at "sx"
      exact q
/-- no other field -/
def NoF (fs : List (Str × V)) : Prop := ∀ m : Str, m ≠ "_rows" → m ≠ "_size" → m ≠ "_first_hooks" → m ≠ "_key" → fs.lookup m = none
/-- the first hooks are kept -/
def FHat (H : Hp) (fs : List (Str × V)) (rs : List Nat) : Prop := ∃ g, fs.lookup ("_first_hooks" : Str) = some (.ref g) ∧ H g = some (.tup (iv (Hk.fh rs)))
theorem FHat.mono {H H' : Hp} {fs : List (Str × V)} {rs : List Nat} (h : FHat H fs rs) (s : Same H H') : FHat H' fs rs := by
  obtain ⟨g, h1, h2⟩ := h
  exact ⟨g, h1, s _ _ h2⟩
/-- v is the heap with these rows -/
def HeapAt (K : PySem.W.Frag) (C : Addr) (H : Hp) (v : V) (rs : List Nat) : Prop := ∃ p dx fs t, v = .ref p ∧ H p = some (.ins C dx fs) ∧ fs.lookup ("_rows" : Str) = some (.ref t) ∧ fs.lookup ("_size" : Str) = some (.int ((rs.sum : Nat) : Int)) ∧ SqT K H t (iv rs) ∧ (∃ k, fs.lookup ("_key" : Str) = some (.ref k) ∧ H k = some (.tup [.int ((rs.sum : Nat) : Int), .ref t])) ∧ Rows rs ∧ NoF fs ∧ FHat H fs rs
theorem HeapAt.mono {K : PySem.W.Frag} {C : Addr} {H H' : Hp} {v : V} {rs : List Nat} (h : HeapAt K C H v rs) (s : Same H H') : HeapAt K C H' v rs := by
  obtain ⟨p, dx, fs, t, h1, h2, h3, h4, h5, ⟨k, h6, h7⟩, h8, h9, h10⟩ := h
  exact ⟨p, dx, fs, t, h1, s _ _ h2, h3, h4, SqT.same h5 s, ⟨k, h6, s _ _ h7⟩, h8, h9, h10.mono s⟩
def sp_Heap_init (K : PySem.W.Frag) (C : Addr) : Sp := fun vs H Q _ => ∃ p dx t rs, vs = [.ref p, .ref t] ∧ H p = some (.ins C dx []) ∧ SqT K H t (iv rs) ∧ Rows rs ∧
  ∀ H' fs, (∀ c o, c ≠ p → H c = some o → H' c = some o) → H' p = some (.ins C dx fs) → fs.lookup ("_rows" : Str) = some (.ref t) → fs.lookup ("_size" : Str) = some (.int ((rs.sum : Nat) : Int)) → (∃ k, fs.lookup ("_key" : Str) = some (.ref k) ∧ H' k = some (.tup [.int ((rs.sum : Nat) : Int), .ref t])) → NoF fs → FHat H' fs rs → Q .non H'
theorem iv_sum (rs : List Nat) : (rs.map fun x : Nat => (x : Int)).sum = ((rs.sum : Nat) : Int) := (Rm.cast_sum rs).symm
theorem ok_Heap_init (T : Tx K mg) : FnOk P w K mg base CX0 4 T.a_Heap_init T.d_Heap_init ["self", "rows"] (sp_Heap_init K T.C_Heap) := by
  refine T.F_Heap_init.ok sc_Heap_init (fun vs H Q E h => ?_) (fun cdv A outer s H vs Q E hr h => ?_)
  · obtain ⟨p, dx, t, rs, rfl, _⟩ := h; rfl
  · obtain ⟨p, dx, t, rs, rfl, hp, ht, hr', q⟩ := h
    have r3 := hr'.2.2
    refine ⟨_, (pss_cons (ps_if (pt_not (pt_val (pe_call (ok_is_heap_rows T) (hr.mono (by decide)) (by rfl) T.g_is_heap_rows T.F_is_heap_rows.kp T.b_is_heap_rows .nil pass0 (pa_cons (pv 1) pa_nil)))) pss_never pss_nil)
      (pss_cons (ps_fld (pv 0) (pv 1) rfl)
      (pss_cons (ps_fld (pv 0) (pe_callB (Sm.cr_sumT rfl) (by rfl) T.n_sum Sx.bt_sum (pa_cons (pv 1) pa_nil)) rfl)
      (pss_cons (ps_fld (pv 0) (pe_callTy Sx.c_tupOf (by rfl) T.n_tuple Sx.bt_tuple (pa_cons (pe_lc (own := [("below", 2), ("row", 3)]) (g := (gTup K 2 (gCons (gName 2) (gCons (gName 3) gNil)))) (tt := tYes) rfl sc_Heap_init.nd (Sy.pi_enumT (by rfl) T.n_enumerate (pa_cons (Rt.pe_revT (pv 1)) pa_nil)) (blkOk_by (N := N_Heap_init) (sc := defScope st_Heap_init) (by decide +kernel)) (fun _ _ _ _ _ => (pg_tup rfl (pgs_cons (pg_name (i := 2) sc_Heap_init.nd rfl (.inl rfl)) (pgs_cons (pg_name (i := 3) sc_Heap_init.nd rfl (.inl rfl)) pgs_nil)))) (fun _ _ _ _ _ => pts_nil) (fun _ _ _ _ _ => (pe_op op_add (pv 3) (pv 2)))) pa_nil)) rfl)
      (pss_one (ps_fld (pv 0) (pe_tup (pa_cons (pe_fld (pv 0) rfl) (pa_cons (pv 1) pa_nil))) rfl)))))), ?_⟩
    refine Sx.r_st (σ' := [some (.ref p), some (.ref t), none, none]) rfl ?_
    walk_at "sxi"
    refine ⟨t, rs, rfl, ht, hr', ?_⟩
    walk_at "sx"
    refine r_insput hp T.cl_Heap T.na_Heap_rows (by decide) ?_
    have k1 : ∀ c o, c ≠ p → H c = some o → (upd H p (.ins T.C_Heap dx (putF "_rows" (.ref t) []))) c = some o := fun c o n e => by rw [upd_ne n]; exact e
    have p1 : (upd H p (.ins T.C_Heap dx (putF "_rows" (.ref t) []))) p = some (.ins T.C_Heap dx (putF "_rows" (.ref t) [])) := upd_same
    generalize upd H p (.ins T.C_Heap dx (putF "_rows" (.ref t) [])) = H1 at k1 p1 ⊢
    have ht1 := sqt_ne ht hp k1
    walk_at "sx"
    refine ⟨t, _, rfl, ht1, ?_⟩
    rw [iv_sum]
    walk_at "sx"
    refine r_insput p1 T.cl_Heap T.na_Heap_size len1 ?_
    have k2 : ∀ c o, c ≠ p → H c = some o → (upd H1 p (.ins T.C_Heap dx (putF "_size" (.int ((rs.sum : Nat) : Int)) (putF "_rows" (.ref t) [])))) c = some o := fun c o n e => by rw [upd_ne n]; exact k1 _ _ n e
    have p2 : (upd H1 p (.ins T.C_Heap dx (putF "_size" (.int ((rs.sum : Nat) : Int)) (putF "_rows" (.ref t) [])))) p = some (.ins T.C_Heap dx (putF "_size" (.int ((rs.sum : Nat) : Int)) (putF "_rows" (.ref t) []))) := upd_same
    generalize upd H1 p (.ins T.C_Heap dx (putF "_size" (.int ((rs.sum : Nat) : Int)) (putF "_rows" (.ref t) []))) = H2 at k2 p2 ⊢
    have ht2 := sqt_ne ht hp k2
    walk_at "sx"
    refine ⟨t, _, rfl, ht2, fun a ha => ?_⟩
    have s3 : Same H2 (upd H2 a (.tup (iv rs).reverse)) := same_new ha
    have a3 : (upd H2 a (.tup (iv rs).reverse)) a = some (.tup (iv rs).reverse) := upd_same
    generalize upd H2 a (.tup (iv rs).reverse) = H3 at s3 a3 ⊢
    walk_at "sx"
    refine r_seqN (SqT.of a3) ?_
    have ivr : (iv rs).reverse = iv rs.reverse := by unfold iv; rw [← List.map_reverse, ← List.map_reverse]
    rw [ivr] at a3
    refine lw_it (walk_num (ys := iv rs.reverse)) (fun D i H' => Same H3 H' ∧ H' D = some (.lst (iv ((List.range i).map fun k => rs.reverse.getD k 0 + k)))) (fun D hD => ⟨same_new hD, upd_same⟩) (fun D hD i H' _ z => SqT.of (z.1 _ _ a3)) ?_ ?_
    · rintro D hD i x H4 H5 hi ⟨s4, hd⟩ ⟨T', u, z, rfl, hT, rfl, hu, hz⟩
      cases hu
      rw [iv_len, List.length_reverse] at hi
      obtain ⟨y, hy, rfl⟩ := iv_at hz
      have s5 : Same H3 (upd H4 T' (.tup [.int (i : Nat), .int (y : Int)])) := fun b o e => same_new hT b o (s4 b o e)
      have hd5 := same_new (o := .tup [.int (i : Nat), .int (y : Int)]) hT _ _ hd
      refine r_gtup upd_same rfl ?_
      generalize upd H4 T' (.tup [.int (i : Nat), .int (y : Int)]) = H5 at s5 hd5 ⊢
      walk_at "sx"
      refine ⟨rfl, ?_⟩
      walk_at "sx"
      refine ⟨_, hd5, ?_, same_mut s5 hD, ?_⟩
      · rw [iv_len, List.length_map, List.length_range, sizeLine_eq]; omega
      · rw [upd_same, List.range_succ, List.map_append, List.map_singleton, List.getD_eq_getElem?_getD, hy]
        unfold iv
        rw [List.map_append, List.map_append]; rfl
    · rintro D hD H4 ⟨s4, hd⟩
      rw [iv_len, List.length_reverse] at hd
      obtain ⟨xs, exs⟩ : ∃ xs, xs = iv (Hk.fh rs) := ⟨_, rfl⟩
      rw [show iv ((List.range rs.length).map fun k => rs.reverse.getD k 0 + k) = iv (Hk.fh rs) from rfl, ← exs] at hd
      have k4 : ∀ c o, c ≠ p → H c = some o → H4 c = some o := fun c o n e => s4 _ _ (s3 _ _ (k2 _ _ n e))
      have p4 := s4 _ _ (s3 _ _ p2)
      walk_at "sx"
      refine r_tupOfL (SqL.of hd) fun l hl => ?_
      have s5 := same_new (o := .tup xs) hl
      have k5 : ∀ c o, c ≠ p → H c = some o → (upd H4 l (.tup xs)) c = some o := fun c o n e => s5 _ _ (k4 _ _ n e)
      have p5 := s5 _ _ p4
      have l5 : (upd H4 l (.tup xs)) l = some (.tup xs) := upd_same
      generalize upd H4 l (.tup xs) = H5 at k5 p5 l5 ⊢
      walk_at "sx"
      refine r_insput p5 T.cl_Heap T.na_Heap_first_hooks len2 ?_
      have k6 : ∀ c o, c ≠ p → H c = some o → (upd H5 p (.ins T.C_Heap dx (putF "_first_hooks" (.ref l) (putF "_size" (.int ((rs.sum : Nat) : Int)) (putF "_rows" (.ref t) []))))) c = some o := fun c o n e => by rw [upd_ne n]; exact k5 _ _ n e
      have p6 : (upd H5 p (.ins T.C_Heap dx (putF "_first_hooks" (.ref l) (putF "_size" (.int ((rs.sum : Nat) : Int)) (putF "_rows" (.ref t) []))))) p = some (.ins T.C_Heap dx (putF "_first_hooks" (.ref l) (putF "_size" (.int ((rs.sum : Nat) : Int)) (putF "_rows" (.ref t) [])))) := upd_same
      have l6 : (upd H5 p (.ins T.C_Heap dx (putF "_first_hooks" (.ref l) (putF "_size" (.int ((rs.sum : Nat) : Int)) (putF "_rows" (.ref t) []))))) l = some (.tup xs) := by rw [upd_ne (fun e => by rw [e, p5] at l5; cases l5)]; exact l5
      generalize upd H5 p (.ins T.C_Heap dx (putF "_first_hooks" (.ref l) (putF "_size" (.int ((rs.sum : Nat) : Int)) (putF "_rows" (.ref t) [])))) = H6 at k6 p6 l6 ⊢
      walk_at "sx"
      refine ⟨p, _, dx, _, _, rfl, p6, T.cl_Heap, T.na_Heap_size, by rw [lookup_putF, if_neg (by decide +kernel), lookup_putF, if_pos rfl], ?_⟩
      walk_at "sx"
      refine ⟨sz _ (Nat.le_of_ble_eq_true rfl), fun k hk => ?_⟩
      have s7 := same_new (o := .tup [.int ((rs.sum : Nat) : Int), .ref t]) hk
      have k7 : ∀ c o, c ≠ p → H c = some o → (upd H6 k (.tup [.int ((rs.sum : Nat) : Int), .ref t])) c = some o := fun c o n e => s7 _ _ (k6 _ _ n e)
      have p7 := s7 _ _ p6
      have l7 := s7 _ _ l6
      have kk : (upd H6 k (.tup [.int ((rs.sum : Nat) : Int), .ref t])) k = some (.tup [.int ((rs.sum : Nat) : Int), .ref t]) := upd_same
      generalize upd H6 k (.tup [.int ((rs.sum : Nat) : Int), .ref t]) = H7 at k7 p7 kk l7 ⊢
      walk_at "sx"
      refine ⟨p, _, dx, _, rfl, p7, T.cl_Heap, T.na_Heap_key, len3, ?_⟩
      have kp : k ≠ p := fun e => by rw [e, p6] at hk; cases hk
      have kk7 : H7 k = some (.tup [.int ((rs.sum : Nat) : Int), .ref t]) := kk
      have lp : l ≠ p := fun e => by rw [e, p5] at l5; cases l5
      refine q _ _ (fun c o n e => by rw [upd_ne n]; exact k7 _ _ n e) upd_same ?_ ?_ ⟨k, ?_, ?_⟩ (fun m n1 n2 n3 n4 => ?_) ⟨l, ?_, ?_⟩
      · rw [lookup_putF, if_neg (by decide +kernel), lookup_putF, if_neg (by decide +kernel), lookup_putF, if_neg (by decide +kernel), lookup_putF, if_pos rfl]
      · rw [lookup_putF, if_neg (by decide +kernel), lookup_putF, if_neg (by decide +kernel), lookup_putF, if_pos rfl]
      · rw [lookup_putF, if_pos rfl]
      · rw [upd_ne kp]; exact kk7
      · rw [lookup_putF, if_neg n4, lookup_putF, if_neg n3, lookup_putF, if_neg n2, lookup_putF, if_neg n1]; rfl
      · rw [lookup_putF, if_neg (by decide +kernel), lookup_putF, if_pos rfl]
      · rw [upd_ne lp, ← exs]; exact l7
theorem mk_heap {K : PySem.W.Frag} {C : Addr} {H : Hp} {Q : VK} {E : XK} {t : Addr} {rs : List Nat} (ht : SqT K H t (iv rs)) (hr : Rows rs) (q : ∀ v H', Same H H' → HeapAt K C H' v rs → Q v H') :
    MakeP C (sp_Heap_init K C) E [.ref t] H Q := by
  intro x dx hx hdx hne
  have s1 : Same H (upd (upd H dx (.own x)) x (.ins C dx [])) := by
    intro c o e
    rw [upd_ne (ne_of_none e hx), upd_ne (ne_of_none e hdx)]; exact e
  refine ⟨x, dx, t, rs, rfl, upd_same, SqT.same ht s1, hr, fun H' fs k h1 h2 h3 h4 h5 h6 => ⟨rfl, ?_⟩⟩
  have s2 : Same H H' := fun c o e => k c o (ne_of_none e hx) (s1 _ _ e)
  exact q _ H' s2 ⟨x, dx, fs, t, rfl, h1, h2, h3, SqT.same ht s2, h4, hr, h5, h6⟩
theorem ok_Heap_rows (T : Tx K mg) : FnOk P w K mg base CX0 1 T.a_Heap_rows T.d_Heap_rows ["self"] (getSp T.C_Heap "_rows") := by
  refine T.F_Heap_rows.ok sc_Heap_rows (fun vs H Q E h => ?_) (fun cdv A outer s H vs Q E hr h => ?_)
  · obtain ⟨a, dx, fs, v, rfl, _⟩ := h; rfl
  · obtain ⟨a, dx, fs, v, rfl, e, l, q⟩ := h
    refine ⟨_, (pss_one (ps_ret (pe_fld (pv 0) rfl))), ?_⟩
    refine Sx.r_st (σ' := [some (.ref a)]) rfl ?_
    walk_at "sx"
    exact ⟨a, _, dx, fs, v, rfl, e, T.cl_Heap, T.na_Heap_rows, l, q⟩
theorem ok_Heap_size (T : Tx K mg) : FnOk P w K mg base CX0 1 T.a_Heap_size T.d_Heap_size ["self"] (getSp T.C_Heap "_size") := by
  refine T.F_Heap_size.ok sc_Heap_size (fun vs H Q E h => ?_) (fun cdv A outer s H vs Q E hr h => ?_)
  · obtain ⟨a, dx, fs, v, rfl, _⟩ := h; rfl
  · obtain ⟨a, dx, fs, v, rfl, e, l, q⟩ := h
    refine ⟨_, (pss_one (ps_ret (pe_fld (pv 0) rfl))), ?_⟩
    refine Sx.r_st (σ' := [some (.ref a)]) rfl ?_
    walk_at "sx"
    exact ⟨a, _, dx, fs, v, rfl, e, T.cl_Heap, T.na_Heap_size, l, q⟩
def sp_Heap_len (K : PySem.W.Frag) (C : Addr) : Sp := fun vs H Q _ => ∃ v rs, vs = [v] ∧ HeapAt K C H v rs ∧ rs.length ≤ 60 ∧ Q (.int (rs.length : Int)) H
theorem ok_Heap_len (T : Tx K mg) : FnOk P w K mg base CX0 1 T.a_Heap_len T.d_Heap_len ["self"] (sp_Heap_len K T.C_Heap) := by
  refine T.F_Heap_len.ok sc_Heap_len (fun vs H Q E h => ?_) (fun cdv A outer s H vs Q E hr h => ?_)
  · obtain ⟨v, rs, rfl, _⟩ := h; rfl
  · obtain ⟨v, rs, rfl, ⟨p, dx, fs, t, rfl, h1, h2, h3, h4, _⟩, hl, q⟩ := h
    refine ⟨_, (pss_one (ps_ret (pe_callB Sx.c_len (by rfl) T.n_len Sx.bt_len (pa_cons (pe_fld (pv 0) rfl) pa_nil)))), ?_⟩
    refine Sx.r_st (σ' := [some (.ref p)]) rfl ?_
    walk_at "sx"
    refine ⟨p, _, dx, _, _, rfl, h1, T.cl_Heap, T.na_Heap_rows, h2, ?_⟩
    walk_at "sx"
    refine ⟨t, _, rfl, .inr h4, ?_⟩
    rw [iv_len]
    exact q
theorem ok_Heap_first_hooks (T : Tx K mg) : FnOk P w K mg base CX0 1 T.a_Heap_first_hooks T.d_Heap_first_hooks ["self"] (getSp T.C_Heap "_first_hooks") := by
  refine T.F_Heap_first_hooks.ok sc_Heap_first_hooks (fun vs H Q E h => ?_) (fun cdv A outer s H vs Q E hr h => ?_)
  · obtain ⟨a, dx, fs, v, rfl, _⟩ := h; rfl
  · obtain ⟨a, dx, fs, v, rfl, e, l, q⟩ := h
    refine ⟨_, (pss_one (ps_ret (pe_fld (pv 0) rfl))), ?_⟩
    refine Sx.r_st (σ' := [some (.ref a)]) rfl ?_
    walk_at "sx"
    exact ⟨a, _, dx, fs, v, rfl, e, T.cl_Heap, T.na_Heap_first_hooks, l, q⟩
end
end Lw

namespace Lw
open PySem PySem.Spec PyProof.Rows L2 Sx Sy Sw Me Mw
open En (NoNum)
open SX (S)
open C8 (pe_gc)
open SkE (call_repr_int call_str_str)
open RZ (pi_zipA)
section
variable {P : Program} {w : World} {K : PySem.W.Frag} {mg : Str → Option Value} {base : Heap}
theorem iv_snoc (u : List Nat) (x : Nat) : iv (u ++ [x]) = iv u ++ [.int (x : Int)] := by
  unfold iv; rw [List.map_append, List.map_append]; rfl
/-! ### turned heaps -/
theorem sk_rows {a b : Nat} {l : List Nat} (h : Wd a b l) (ha : a ≤ 60) (hb : b ≤ 60) : Rows (Rm.sk l) :=
  ⟨Rm.sk_desc l, fun x m => by have := Rm.sk_bd h m; omega, by have := Rm.sk_len h; omega⟩
def sp_Heap_turned (K : PySem.W.Frag) (C : Addr) : Sp := fun vs H Q _ => ∃ v rs, vs = [v] ∧ HeapAt K C H v rs ∧ Rows (Ex.tn rs) ∧ ∀ u H', Same H H' → HeapAt K C H' u (Ex.tn rs) → Q u H'
theorem ok_Heap_turned (T : Tx K mg) : FnOk P w K mg base CX0 6 T.a_Heap_turned T.d_Heap_turned ["self"] (sp_Heap_turned K T.C_Heap) := by
  refine T.F_Heap_turned.ok sc_Heap_turned (fun vs H Q E h => ?_) (fun cdv A outer s H vs Q E hr h => ?_)
  · obtain ⟨v, rs, rfl, _⟩ := h; rfl
  · obtain ⟨v, rs, rfl, hv, hrt, q⟩ := h
    refine ⟨_, (pss_cons (ps_set (i := 1) sc_Heap_turned.nd rfl (.inl rfl) (pe_ifExp (pt_cmpR op_gt (pe_callB Sx.c_len (by rfl) T.n_len Sx.bt_len (pa_cons (pe_fld (pv 0) rfl) pa_nil)) pe_int (nomark _)) (pe_ix ix_tup (pe_fld (pv 0) rfl) pe_int (fun _ _ => rfl)) pe_int))
      (pss_one (ps_ret (pe_make T.mk_Heap (ok_Heap_init T) (hr.mono (by decide)) (by rfl) T.g_Heap T.b_Heap_init .nil pass0 (pa_cons (pe_callTy Sx.c_tupOf (by rfl) T.n_tuple Sx.bt_tuple (pa_cons (pe_lc (own := [("column", 2)]) (g := (gName 2)) (tt := tYes) rfl sc_Heap_turned.nd (pi_range1 (by rfl) T.n_range (pa_cons (pv 1) pa_nil)) (blkOk_by (N := N_Heap_turned) (sc := defScope st_Heap_turned) (by decide +kernel)) (fun _ _ _ _ _ => (pg_name (i := 2) sc_Heap_turned.nd rfl (.inr rfl))) (fun _ _ _ _ _ => pts_nil) (fun _ _ _ _ _ => (pe_callB (show CallR _ _ (Sx.qLen K) from Sx.c_len) (by rfl) T.n_len Sx.bt_len (pa_cons (pe_lc (own := [("row", 3)]) (g := (gName 3)) rfl sc_Heap_turned.nd (show PI _ _ _ (iTup K _) from (pi_tup (show PE _ _ (tFld K _ _) from pe_fld (pv 0) rfl))) (blkOk_by (N := N_Heap_turned) (sc := _) (by kernel_rfl)) (fun _ _ _ _ _ => (pg_name (i := 3) sc_Heap_turned.nd rfl (.inl rfl))) (fun _ _ _ _ _ => (pts_one (pt_cmpR op_gt (pv 3) (pv 2) (nomark _)))) (fun _ _ _ _ _ => (pv 3))) pa_nil)))) pa_nil)) pa_nil))))), ?_⟩
    obtain ⟨p, dx, fs, t, rfl, h1, h2, h3, h4, h5, h6⟩ := id hv
    refine Sx.r_st (σ' := [some (.ref p), none, none, none]) rfl ?_
    walk_at "sx"
    have hr' := h6.1
    have rb := hr'.2.2
    refine r_cutQ (fun x H' => H' = H ∧ x = .int ((rs.headD 0 : Nat) : Int)) (fun Q' kk => ?_) ?_
    · refine r_ifE ?_
      walk_at "sx"
      refine ⟨p, _, dx, _, _, rfl, h1, T.cl_Heap, T.na_Heap_rows, h2, ?_⟩
      walk_at "sx"
      refine ⟨t, _, rfl, .inr h4, ?_⟩
      rw [iv_len]
      walk_at "sx"
      refine ite_d (fun h => ?_) (fun h => ?_)
      · walk_at "sx"
        refine ⟨p, _, dx, _, _, rfl, h1, T.cl_Heap, T.na_Heap_rows, h2, ?_⟩
        walk_at "sx"
        cases rs with
        | nil => simp at h
        | cons y r => exact ⟨t, _, ((0 : Nat) : Int), .int (y : Int), rfl, rfl, h4, atI_nat rfl, kk _ _ ⟨rfl, rfl⟩⟩
      · walk_at "sx"
        refine kk _ _ ⟨rfl, ?_⟩
        cases rs with
        | nil => rfl
        | cons y r => rw [List.length_cons] at h; omega
    rintro x H0 ⟨rfl, rfl⟩
    walk_at "sx"
    have hd60 : rs.headD 0 ≤ 60 := by
      cases rs with
      | nil => exact Nat.zero_le _
      | cons y r => exact (hr'.2.1 y List.mem_cons_self).2
    refine r_rng1 ?_ (by omega) (by omega)
    rw [Int.toNat_natCast]
    refine lw_range (fun D i H' => Same H0 H' ∧ H' D = some (.lst (iv ((List.range i).map (Ex.above rs))))) (fun D hD => ⟨same_new hD, by rw [upd_same]; rfl⟩) ?_ ?_
    · rintro D hD c H2 hc ⟨s2, d2⟩
      walk_at "sx"
      refine ⟨rfl, ?_⟩
      walk_at "sx"
      refine ⟨p, _, dx, _, _, rfl, s2 _ _ h1, T.cl_Heap, T.na_Heap_rows, h2, ?_⟩
      refine r_seqT (SqT.same h4 s2) ?_
      refine lw_tup (fun F j H' => Same H2 H' ∧ H' F = some (.lst (iv ((rs.take j).filter fun r => decide (c < r))))) (fun F hF => ⟨same_new hF, by rw [upd_same]; rfl⟩) (fun F hF j H' _ z => SqT.same h4 (s2.trans z.1)) ?_ ?_
      · rintro F hF j x H3 hx ⟨s3, f3⟩
        obtain ⟨n, hn, rfl⟩ := iv_at hx
        have tk : (rs.take (j + 1)).filter (fun r => decide (c < r)) = (rs.take j).filter (fun r => decide (c < r)) ++ if c < n then [n] else [] := by
          rw [List.take_add_one, hn, List.filter_append]
          by_cases h : c < n
          · rw [if_pos h]; simp [h]
          · rw [if_neg h]; simp [h]
        have jl := (List.getElem?_eq_some_iff.mp hn).1
        walk_at "sx"
        refine ⟨rfl, ?_⟩
        walk_at "sx"
        refine ite_d (fun h => ?_) (fun h => ?_)
        · walk_at "sx"
          refine ⟨_, f3, ?_, same_mut s3 hF, ?_⟩
          · have h1 := List.length_filter_le (fun r => decide (c < r)) (rs.take j)
            rw [List.length_take] at h1
            rw [iv_len, sizeLine_eq]; omega
          · rw [upd_same, tk, if_pos (by omega), iv_snoc]
        · refine ⟨s3, ?_⟩
          rw [tk, if_neg (by omega), List.append_nil]; exact f3
      · rintro F hF H3 ⟨s3, f3⟩
        rw [iv_len, List.take_length] at f3
        walk_at "sx"
        refine r_lenL (SqL.of f3) ?_
        rw [iv_len]
        refine ⟨_, s3 _ _ d2, ?_, same_mut (s2.trans s3) hD, ?_⟩
        · rw [iv_len, List.length_map, List.length_range, sizeLine_eq]; omega
        · rw [upd_same, List.range_succ, List.map_append]
          exact congrArg (fun z => some (HO.lst z)) (iv_snoc _ _).symm
    · rintro D hD H2 ⟨s2, d2⟩
      walk_at "sx"
      refine r_tupOfL (SqL.of d2) fun z hz => ?_
      walk_at "sx"
      have s3 : Same H0 (upd H2 z (.tup (iv (Ex.tn rs)))) := s2.trans (same_new hz)
      refine mk_heap (SqT.of upd_same) hrt fun u H4 s4 hu => q u H4 (s3.trans s4) hu
/-! ### equal heaps -/
theorem key_ok2 (s : Int) (ns : List Int) : SeqAt.shaped (.tuple [.int s, .tuple (ns.map PyData.int)]) = true := by
  refine tup_ok ?_ ?_
  · have h := lay_ints ns
    simp only [PyData.canLayAll0, PyData.canLay0, h, Bool.and_self]
  · have h := deep_ints ns
    simp only [PyData.depthAll, PyData.depth]; omega
theorem eqvAll_ints : ∀ {u v : List Int}, PyData.eqvAll (u.map PyData.int) (v.map PyData.int) = decide (u = v)
  | [], [] => by simp [PyData.eqvAll]
  | [], _ :: _ => by simp [PyData.eqvAll]
  | _ :: _, [] => by simp [PyData.eqvAll]
  | x :: u, y :: v => by
    rw [List.map_cons, List.map_cons, PyData.eqvAll, eqvAll_ints, PyData.eqv]
    by_cases h1 : x = y <;> by_cases h2 : u = v <;> simp [h1, h2]
theorem eqv_ints {u v : List Int} : PyData.eqv (.tuple (u.map PyData.int)) (.tuple (v.map PyData.int)) = decide (u = v) := by
  rw [PyData.eqv]; exact eqvAll_ints
theorem cast_inj : ∀ {u v : List Nat}, (u.map fun x : Nat => (x : Int)) = (v.map fun x : Nat => (x : Int)) → u = v
  | [], [], _ => rfl
  | [], _ :: _, h => by cases h
  | _ :: _, [], h => by cases h
  | x :: u, y :: v, h => by
    rw [List.map_cons, List.map_cons] at h
    injection h with h1 h2
    rw [cast_inj h2, Int.ofNat.inj h1]
theorem hkey_eqv (rs us : List Nat) : PyData.eqv (.tuple [.int ((rs.sum : Nat) : Int), .tuple ((rs.map fun x : Nat => (x : Int)).map PyData.int)]) (.tuple [.int ((us.sum : Nat) : Int), .tuple ((us.map fun x : Nat => (x : Int)).map PyData.int)]) = decide (rs = us) := by
  have inj : (rs.map fun x : Nat => (x : Int)) = (us.map fun x : Nat => (x : Int)) → rs = us := cast_inj
  rw [PyData.eqv, PyData.eqvAll, PyData.eqvAll, PyData.eqvAll, eqv_ints, PyData.eqv]
  by_cases h : rs = us
  · subst h; simp
  · rw [decide_eq_false h, decide_eq_false (fun z => h (inj z))]; simp
def sp_Heap_eq (K : PySem.W.Frag) (C : Addr) : Sp := fun vs H Q _ => ∃ v u rs us, vs = [v, u] ∧ HeapAt K C H v rs ∧ HeapAt K C H u us ∧ Q (.bl (decide (rs = us))) H
theorem ok_Heap_eq (T : Tx K mg) : FnOk P w K mg base CX0 1 T.a_Heap_eq T.d_Heap_eq ["self", "other"] (sp_Heap_eq K T.C_Heap) := by
  refine T.F_Heap_eq.ok sc_Heap_eq (fun vs H Q E h => ?_) (fun cdv A outer s H vs Q E hr h => ?_)
  · obtain ⟨v, u, rs, us, rfl, _⟩ := h; rfl
  · obtain ⟨v, u, rs, us, rfl, ⟨p, dx, fs, t, rfl, h1, h2, h3, h4, ⟨k, h5, h6⟩, h7⟩, ⟨p', dx', fs', t', rfl, g1, g2, g3, g4, ⟨k', g5, g6⟩, g7⟩, q⟩ := h
    refine ⟨_, (pss_cons (ps_if (pt_not (pt_val (pe_callB call_isi (by rfl) T.n_isinstance Sx.bt_isinstance (pa_cons (pv 1) (pa_cons (pe_glob (v := .ref T.C_Heap) (by rfl) T.g_Heap rfl) pa_nil))))) pss_never pss_nil)
      (pss_one (ps_ret (pe_cmpR (op_eqD hr.units) (pe_fld (pv 0) rfl) (pe_fld (pv 1) rfl) (nomark _))))), ?_⟩
    refine Sx.r_st (σ' := [some (.ref p), some (.ref p')]) rfl ?_
    walk_at "sxi"
    refine r_isi_own g1 T.cl_Heap T.ic_Heap T.cg T.ct T.mr_Heap T.ks_Heap ?_
    walk_at "sx"
    refine ⟨p, _, dx, _, _, rfl, h1, T.cl_Heap, T.na_Heap_key, h5, ?_⟩
    walk_at "sx"
    refine ⟨p', _, dx', _, _, rfl, g1, T.cl_Heap, T.na_Heap_key, g5, ?_⟩
    refine r_eqD (.tup (SqT.of h6) (.cons (.int _) (.cons (.tup h4 (dpI _)) .nil))) (.tup (SqT.of g6) (.cons (.int _) (.cons (.tup g4 (dpI _)) .nil))) (key_ok2 _ _) (key_ok2 _ _) ?_
    rw [hkey_eqv]; exact q
/-! ### paired squares -/
theorem shelf_ins {K : PySem.W.Frag} {CS CH : Addr} {H : Hp} {v : V} {a b : Nat} {l : List Nat} (h : ShelfAt K CS CH H v a b l) : ∃ p dx fs, v = .ref p ∧ H p = some (.ins CH dx fs) := by
  obtain ⟨_, _, p, dx, sv, t, d, r, s, m, e1, e2, _⟩ := h
  exact ⟨p, dx, _, e1, e2⟩
def sp_check_shelf (K : PySem.W.Frag) (CS CH : Addr) : Sp := fun vs H Q _ => ∃ v, ∃ a b : Nat, ∃ l : List Nat, vs = [v] ∧ ShelfAt K CS CH H v a b l ∧ Q .non H
theorem ok_check_shelf (T : Tx K mg) : FnOk P w K mg base CX0 1 T.a_check_shelf T.d_check_shelf ["shelf"] (sp_check_shelf K T.C_Slope T.C_Shelf) := by
  refine T.F_check_shelf.ok sc_check_shelf (fun vs H Q E h => ?_) (fun cdv A outer s H vs Q E hr h => ?_)
  · obtain ⟨v, a, b, l, rfl, _⟩ := h; rfl
  · obtain ⟨v, a, b, l, rfl, hv, q⟩ := h
    refine ⟨_, (pss_one (ps_if (pt_not (pt_val (pe_callB call_isi (by rfl) T.n_isinstance Sx.bt_isinstance (pa_cons (pv 0) (pa_cons (pe_glob (v := .ref T.C_Shelf) (by rfl) T.g_Shelf rfl) pa_nil))))) pss_never pss_nil)), ?_⟩
    obtain ⟨p, dx, fs, rfl, e⟩ := shelf_ins hv
    refine Sx.r_st (σ' := [some (.ref p)]) rfl ?_
    walk_at "sxi"
    refine r_isi_own e T.cl_Shelf T.ic_Shelf T.cg T.ct T.mr_Shelf T.ks_Shelf ?_
    walk_at "sx"
    exact q
end
end Lw

namespace Lw
open PySem PySem.Spec PyProof.Rows L2 Sx Sy Sw Me Mw
open En (NoNum)
open SX (S)
open C8 (pe_gc)
open SkE (call_repr_int call_str_str)
open RZ (pi_zipA)
section
variable {P : Program} {w : World} {K : PySem.W.Frag} {mg : Str → Option Value} {base : Heap}
/-! ### the law's own shelves -/
theorem ch_r {l : List Nat} {i c : Nat} (h : l[i]? = some c) : (⟨#[c]⟩ : Str) = ("r" : Str) ↔ l[i]? = some 114 := by
  rw [is_r, h]; exact ⟨fun z => by rw [z], fun z => Option.some.inj z⟩
open Mg in
theorem upR_sorted {a b : Nat} {l : List Nat} (hW : IsWay a b l) (ha : 0 < a) (hb : 0 < b) (hg : Nat.gcd a b = 1) {v : List Int} (p : v.Perm (upR a b l l.length)) (s : v.Pairwise (· ≤ ·)) : v = rms a b l :=
  sorted_is p s (upR_nodup hW ha hb hg) those_asc fun x => upR_mem.trans (rms_iff hW ha hb).symm
theorem upR_len {a b : Nat} {l : List Nat} : ∀ i, (upR a b l i).length ≤ i := by
  intro i
  unfold upR
  rw [List.length_map]
  exact Nat.le_trans (List.length_filter_le _ _) (by rw [List.length_range]; exact Nat.le_refl _)
def sp_law_makers : Sp := fun vs H Q _ => ∃ a b : Nat, ∃ l : List Nat, vs = [.int a, .int b, .str (S l)] ∧ IsWay a b l ∧ (1 ≤ a ∧ a ≤ 60 ∧ 1 ≤ b ∧ b ≤ 60) ∧ Nat.gcd a b = 1 ∧ ∀ p H', Same H H' → H p = none → H' p = some (.lst ((Mg.rms a b l).map V.int)) → Q (.ref p) H'
theorem ok_law_makers (T : Tx K mg) : FnOk P w K mg base CX0 2 T.a_law_makers T.d_law_makers ["_law_rises", "_law_steps", "_law_text"] sp_law_makers := by
  refine T.F_law_makers.ok sc_law_makers (fun vs H Q E h => ?_) (fun cdv A outer s H vs Q E hr h => ?_)
  · obtain ⟨a, b, l, rfl, _⟩ := h; rfl
  · obtain ⟨a, b, l, rfl, hW, ab, hg, q⟩ := h
    have hl : l.length ≤ 120 := by have := hW.1.2.2; omega
    refine ⟨_, (pss_one (ps_ret (pe_callB cr_sortedI (by rfl) T.n_sorted Sx.bt_sorted (pa_cons (pe_lc (own := [("_law_level", 3), ("_law_sign", 4)]) (g := (gTup K 2 (gCons (gName 3) (gCons (gName 4) gNil)))) rfl sc_law_makers.nd (Zp.pi_zip2 (by rfl) T.n_zip (pa_cons (pe_call (ok_law_levels T) (hr.mono (by decide)) (by rfl) T.g_law_levels T.F_law_levels.kp T.b_law_levels .nil pass0 (pa_cons (pv 0) (pa_cons (pv 1) (pa_cons (pv 2) pa_nil)))) (pa_cons (pv 2) pa_nil))) (blkOk_by (N := N_law_makers) (sc := defScope st_law_makers) (by decide +kernel)) (fun _ _ _ _ _ => (pg_tup rfl (pgs_cons (pg_name (i := 3) sc_law_makers.nd rfl (.inl rfl)) (pgs_cons (pg_name (i := 4) sc_law_makers.nd rfl (.inl rfl)) pgs_nil)))) (fun _ _ _ _ _ => (pts_one (pt_cmpR op_eq (pv 4) pe_str (nomark _)))) (fun _ _ _ _ _ => (pv 3))) pa_nil)))), ?_⟩
    refine Sx.r_st (σ' := [some (.int a), some (.int b), some (.str (S l)), none, none]) rfl ?_
    walk_at "sx"
    refine Zp.r_lcP ?_
    walk_at "sx"
    refine ⟨a, b, l, rfl, by omega, fun e H1 hen s1 he => ?_⟩
    walk_at "sx"
    have hn := lvs_len (a := a) (b := b) (l := l)
    have hc : Zp.chars (S l) = l.map fun c => V.str ⟨#[c]⟩ := rfl
    refine ⟨.l e, .s (S l), (lvs a b l).map V.int, Zp.chars (S l), rfl, SqL.of he, rfl, ?_⟩
    refine lw_it (Zp.walk_zip2 (n := l.length) (by rw [List.length_map, hn]) (by rw [hc, List.length_map])) (fun D i H' => Same H1 H' ∧ H' D = some (.lst ((upR a b l i).map V.int))) (fun D hD => ⟨same_new hD, upd_same⟩) (fun D hD i H' _ z => ⟨SqL.of (z.1 _ _ he), rfl⟩) ?_ ?_
    · rintro D hD i x H2 H3 hi ⟨s2, hd⟩ ⟨p, xx, yy, rfl, hp, rfl, hxx, hyy⟩
      rw [hc, List.getElem?_map] at hyy
      obtain ⟨c, hcc, rfl⟩ := Option.map_eq_some_iff.mp hyy
      rw [List.getElem?_map, lvs_get hi] at hxx
      obtain rfl := Option.some.inj hxx
      have s3 : Same H1 (upd H2 p (.tup [.int (lev a b (l.take i)), .str ⟨#[c]⟩])) := fun z o ee => same_new hp z o (s2 z o ee)
      have hd3 := same_new (o := .tup [.int (lev a b (l.take i)), .str ⟨#[c]⟩]) hp _ _ hd
      refine r_gtup upd_same rfl ?_
      walk_at "sx"
      refine ⟨rfl, ?_⟩
      walk_at "sx"
      refine ite_d (fun h => ?_) (fun h => ?_)
      · walk_at "sx"
        refine ⟨_, hd3, ?_, same_mut s3 hD, ?_⟩
        · have := upR_len (a := a) (b := b) (l := l) i
          rw [List.length_map]; exact sz' _ (by omega)
        · rw [upd_same, upR_yes ((ch_r hcc).mp h), List.map_append]; rfl
      · refine ⟨s3, ?_⟩
        rw [upR_no (fun z => h ((ch_r hcc).mpr z))]; exact hd3
    · rintro D hD H2 ⟨s2, hd⟩
      walk_at "sx"
      refine ⟨D, _, rfl, SqL.of hd, fun v p pv sv hp => ?_⟩
      obtain rfl := upR_sorted hW ab.1 ab.2.2.1 hg pv sv
      refine q p _ (fun c o ee => same_new hp c o (s2 c o (s1 c o ee))) ?_ upd_same
      cases hh : H p with
      | none => rfl
      | some o => rw [s2 _ _ (s1 _ _ hh)] at hp; cases hp
/-- the gaps below a maker, as the law lists them -/
theorem dn_at {a : Nat} {g : Int} {i : Nat} (h : i < (g / (a : Int)).toNat) : (Mg.dn a g)[i]? = some (g - (a : Int) * ((i : Int) + 1)) := by
  unfold Mg.dn
  rw [List.getElem?_map, List.getElem?_range h]; rfl
def sp_law_gaps : Sp := fun vs H Q _ => ∃ a b : Nat, ∃ l : List Nat, ∃ t, vs = [.int a, .ref t] ∧ H t = some (.lst ((Mg.rms a b l).map V.int)) ∧ IsWay a b l ∧ (1 ≤ a ∧ a ≤ 60 ∧ 1 ≤ b ∧ b ≤ 60) ∧ Nat.gcd a b = 1 ∧ ∀ p H', Same H H' → H p = none → H' p = some (.lst ((Mg.gaps a b l).map V.int)) → Q (.ref p) H'
theorem rms_le {a b : Nat} {l : List Nat} (hW : IsWay a b l) (ha : 0 < a) (hb : 0 < b) (hg : Nat.gcd a b = 1) : (Mg.rms a b l).length ≤ a := by
  open Mg in
  have hnd : (rms a b l).Nodup := asc_nodup those_asc
  have hp : (rms a b l).Perm (lms a (gaps a b l)) := (List.perm_ext_iff_of_nodup hnd (lms_nodup (M := Mem a b l) ha gaps_asc (fun x => gaps_iff hW ha hb hg) (fun x => mem_nonneg hW))).mpr fun x => by
    rw [rms_iff hW ha hb, rl_iff hW ha hg, lms_iff (M := Mem a b l) ha gaps_asc (fun x => gaps_iff hW ha hb hg) (fun x => mem_nonneg hW) (fun x => mem_add_a)]
  rw [hp.length_eq, lms_len]; exact Nat.le_refl _
theorem fm_len {a : Nat} (ha : 0 < a) : ∀ {u : List Int}, (∀ x, x ∈ u → 0 ≤ x ∧ x < 3600) → (u.flatMap (Mg.dn a)).length ≤ 3600 * u.length
  | [], _ => Nat.le_refl _
  | x :: u, h => by
    rw [List.flatMap_cons, List.length_append, List.length_cons]
    have ih := fm_len ha (u := u) fun y m => h y (List.mem_cons_of_mem _ m)
    have hx := h x (List.mem_cons_self ..)
    have h1 := Mg.dn_len ha hx.1
    have h2 := Int.ediv_le_self (a : Int) hx.1
    omega
theorem ok_law_gaps (T : Tx K mg) : FnOk P w K mg base CX0 1 T.a_law_gaps T.d_law_gaps ["_law_rises", "_law_makers_here"] sp_law_gaps := by
  refine T.F_law_gaps.ok sc_law_gaps (fun vs H Q E h => ?_) (fun cdv A outer s H vs Q E hr h => ?_)
  · obtain ⟨a, b, l, t, rfl, _⟩ := h; rfl
  · obtain ⟨a, b, l, t, rfl, ht, hW, ab, hg, q⟩ := h
    have hr : ∀ x, x ∈ Mg.rms a b l → 0 ≤ x ∧ x < 3600 := fun x hx => by
      obtain ⟨i, hi, rfl⟩ := (Mg.rms_iff hW ab.1 ab.2.2.1).mp hx
      exact ⟨Mg.lv_nonneg hW (Nat.le_of_lt (List.getElem?_eq_some_iff.mp hi).1), lv_small hW ab.2.2.1 ab.2.1 ab.2.2.2 hi⟩
    have hrl := rms_le hW ab.1 ab.2.2.1 hg
    refine ⟨_, (pss_cons (ps_set (i := 2) sc_law_gaps.nd rfl (.inl rfl) (pe_lst pa_nil))
      (pss_cons (ps_for PassesOwn.never rfl (pi_list (pv 1)) (pg_name (i := 3) sc_law_gaps.nd rfl (.inr rfl)) (pss_one (ps_expr (pe_bm PySem.F.plainAttrs_list PySem.F.slot_list_extend PySem.F.type_list_extend mt_extend (pv 2) (pa_cons (pe_lc (own := [("_law_back", 4)]) (g := (gName 4)) (tt := tYes) rfl sc_law_gaps.nd (pi_range2 (by rfl) T.n_range (pa_cons pe_int (pa_cons (pe_op op_add (pe_op op_fdivW (pv 3) (pv 0)) pe_int) pa_nil))) (blkOk_by (N := N_law_gaps) (sc := defScope st_law_gaps) (by decide +kernel)) (fun _ _ _ _ _ => (pg_name (i := 4) sc_law_gaps.nd rfl (.inl rfl))) (fun _ _ _ _ _ => pts_nil) (fun _ _ _ _ _ => (pe_op op_sub (pv 3) (pe_op Sx.op_mulA (pv 0) (pv 4))))) pa_nil)))))
      (pss_one (ps_ret (pe_callB cr_sortedI (by rfl) T.n_sorted Sx.bt_sorted (pa_cons (pv 2) pa_nil)))))), ?_⟩
    refine Sx.r_st (σ' := [some (.int a), some (.ref t), none, none, none]) rfl ?_
    walk_at "sx"
    refine ⟨Nat.zero_le _, fun g hgn => ?_⟩
    walk_at "sx"
    have s0 : Same H (upd H g (.lst [])) := same_new hgn
    have g0 : (upd H g (.lst [])) g = some (.lst []) := upd_same
    generalize upd H g (.lst []) = H0 at s0 g0 ⊢
    have tg : t ≠ g := ne_of_none ht hgn
    refine r_seqL (SqL.of (s0 _ _ ht)) ?_
    refine fr_list (xs := (Mg.rms a b l).map V.int) (fun i σ' H' => (∃ y3 y4, σ' = [some (.int a), some (.ref t), some (.ref g), y3, y4]) ∧ (∀ c o, c ≠ g → H0 c = some o → H' c = some o) ∧ H' g = some (.lst ((((Mg.rms a b l).take i).flatMap (Mg.dn a)).map V.int))) ⟨⟨none, none, rfl⟩, fun c o _ e => e, by rw [g0, List.take_zero]; rfl⟩ (fun i σ' H' _ z => SqL.of (z.2.1 _ _ tg (s0 _ _ ht))) ?_ ?_
    · rintro i x σ' H1 hx ⟨⟨y3, y4, rfl⟩, k1, hg1⟩
      rw [List.getElem?_map] at hx
      obtain ⟨y, hy, rfl⟩ := Option.map_eq_some_iff.mp hx
      have hy2 := hr y (List.mem_of_getElem? hy)
      have q0 : 0 ≤ y / (a : Int) := Int.ediv_nonneg hy2.1 (by omega)
      have q1 := Int.ediv_le_self (a : Int) hy2.1
      have fl := fm_len ab.1 (u := (Mg.rms a b l).take i) fun x hx => hr x (List.mem_of_mem_take hx)
      have ld := Mg.dn_len (g := y) ab.1 hy2.1
      rw [List.length_take] at fl
      walk_at "sx"
      refine ⟨tyL hg1, ?_⟩
      walk_at "sx"
      rotate_left
      · exact cdivw (b := 64) (by omega) (by omega) (by decide)
      refine ⟨1, _, rfl, ⟨by omega, by omega, by omega, by omega⟩, ?_⟩
      rw [show (y / (a : Int) + 1 - 1).toNat = (y / (a : Int)).toNat by rw [Int.add_sub_cancel]]
      refine lw_range (fun D k H' => Same H1 H' ∧ H' D = some (.lst (((Mg.dn a y).take k).map V.int))) (fun D hD => ⟨same_new hD, upd_same⟩) ?_ ?_
      · rintro D hD k H2 hk ⟨s2, hd⟩
        walk_at "sx"
        refine ⟨rfl, ?_⟩
        walk_at "sx"
        · refine ⟨_, hd, ?_, same_mut s2 hD, ?_⟩
          · rw [List.length_map, List.length_take, sizeLine_eq]; omega
          · rw [upd_same, ints_snoc (dn_at hk), Int.add_comm 1 (k : Int)]
        · exact cmA_l (by omega)
      · rintro D hD H2 ⟨s2, hd⟩
        rw [List.take_of_length_le (by omega)] at hd
        walk_at "sx"
        have gD : D ≠ g := (ne_of_none hg1 hD).symm
        refine ⟨g, D, _, _, rfl, rfl, s2 _ _ hg1, hd, ?_, ⟨_, _, rfl⟩, ?_, ?_⟩
        · rw [List.length_map, List.length_map, sizeLine_eq]; omega
        · intro c o n e
          rw [upd_ne n]; exact s2 _ _ (k1 c o n e)
        · rw [upd_same, List.take_add_one, hy, ← List.map_append]
          show _ = some (HO.lst ((((Mg.rms a b l).take i ++ [y]).flatMap (Mg.dn a)).map V.int))
          rw [dns_snoc]
    · rintro σ' H1 ⟨⟨y3, y4, rfl⟩, k1, hg1⟩
      rw [List.length_map, List.take_length] at hg1
      walk_at "sx"
      refine ⟨g, _, rfl, SqL.of hg1, fun v p pv sv hp => ?_⟩
      obtain rfl := Mg.dns_sorted hW ab.1 ab.2.2.1 hg (fun x => Mg.rms_iff hW ab.1 ab.2.2.1) (Mg.asc_nodup Mg.those_asc) pv sv
      have keep : ∀ c o, H c = some o → H1 c = some o := fun c o e => k1 c o (ne_of_none e hgn) (s0 _ _ e)
      refine q p _ (fun c o e => same_new hp c o (keep c o e)) ?_ upd_same
      cases hh : H p with
      | none => rfl
      | some o => rw [keep _ _ hh] at hp; cases hp
theorem shF_slope {sv : V} {t d r s m : Addr} : (shF sv t d r s m).lookup ("_slope" : Str) = some sv := by rw [shF_get, if_neg (by decide +kernel), if_neg (by decide +kernel), if_neg (by decide +kernel), if_neg (by decide +kernel), if_neg (by decide +kernel), if_pos rfl]
theorem shF_gaps {sv : V} {t d r s m : Addr} : (shF sv t d r s m).lookup ("_gaps" : Str) = some (.ref t) := by rw [shF_get, if_neg (by decide +kernel), if_neg (by decide +kernel), if_neg (by decide +kernel), if_neg (by decide +kernel), if_pos rfl]
/-! ### way_with_rises -/
def sp_way_with_rises (K : PySem.W.Frag) (CS CW : Addr) : Sp := fun vs H Q _ => ∃ (sv : V) (r : Addr) (a b : Nat) (l : List Nat), vs = [sv, .ref r] ∧ SlopeAt CS H sv a b ∧ IsWay a b l ∧ Nat.gcd a b = 1 ∧ SqT K H r ((Mg.rms a b l).map V.int) ∧ ∀ u H', Same H H' → WayAt CS CW H' u a b l → Q u H'
theorem let_snoc {l : List Nat} {i c : Nat} (h : l[i]? = some c) : (l.take (i + 1)).map (fun c : Nat => V.str ⟨#[c]⟩) = (l.take i).map (fun c : Nat => V.str ⟨#[c]⟩) ++ [V.str ⟨#[c]⟩] := by
  rw [List.take_add_one, h, List.map_append]; rfl
theorem str_r : V.str ("r" : Str) = V.str ⟨#[114]⟩ := by rw [lit_r]
theorem str_s : V.str ("s" : Str) = V.str ⟨#[115]⟩ := by rw [lit_s]
theorem ok_way_with_rises (T : Tx K mg) : FnOk P w K mg base CX0 7 T.a_way_with_rises T.d_way_with_rises ["slope", "levels"] (sp_way_with_rises K T.C_Slope T.C_Way) := by
  refine T.F_way_with_rises.ok sc_way_with_rises (fun vs H Q E h => ?_) (fun cdv A outer s H vs Q E hr h => ?_)
  · obtain ⟨sv, r, a, b, l, rfl, _⟩ := h; rfl
  · obtain ⟨sv, r, a, b, l, rfl, hS, hW, hg, hr', q⟩ := h
    have ab := hS.1
    have ha : 0 < a := by omega
    have hb : 0 < b := by omega
    have hl := wd_len hS hW.1
    have el := hW.1.2.2
    refine ⟨_, (pss_cons (ps_set (i := 2) sc_way_with_rises.nd rfl (.inl rfl) pe_int)
      (pss_cons (ps_set (i := 3) sc_way_with_rises.nd rfl (.inl rfl) (pe_lst pa_nil))
      (pss_cons (ps_for PassesOwn.never rfl (pi_range1 (by rfl) T.n_range (pa_cons (pe_op op_add (pe_prop (pv 0) T.cl_Slope T.pr_Slope_rises (ok_Slope_rises T) (hr.mono (by decide)) T.b_Slope_rises .nil pass0 rfl) (pe_prop (pv 0) T.cl_Slope T.pr_Slope_steps (ok_Slope_steps T) (hr.mono (by decide)) T.b_Slope_steps .nil pass0 rfl)) pa_nil)) (pg_name (i := 4) sc_way_with_rises.nd rfl (.inl rfl)) (pss_one (ps_if (pt_cmpR op_in_seq (pv 2) (pv 1) (by rfl)) (pss_cons (ps_expr (pe_bm PySem.F.plainAttrs_list PySem.F.slot_list_append PySem.F.type_list_append mt_append (pv 3) (pa_cons pe_str pa_nil)))
      (pss_one (ps_set (i := 2) sc_way_with_rises.nd rfl (.inl rfl) (pe_op op_add (pv 2) (pe_prop (pv 0) T.cl_Slope T.pr_Slope_steps (ok_Slope_steps T) (hr.mono (by decide)) T.b_Slope_steps .nil pass0 rfl))))) (pss_cons (ps_expr (pe_bm PySem.F.plainAttrs_list PySem.F.slot_list_append PySem.F.type_list_append mt_append (pv 3) (pa_cons pe_str pa_nil)))
      (pss_one (ps_set (i := 2) sc_way_with_rises.nd rfl (.inl rfl) (pe_op op_sub (pv 2) (pe_prop (pv 0) T.cl_Slope T.pr_Slope_rises (ok_Slope_rises T) (hr.mono (by decide)) T.b_Slope_rises .nil pass0 rfl))))))))
      (pss_one (ps_ret (pe_make T.mk_Way (ok_Way_init T) (hr.mono (by decide)) (by rfl) T.g_Way T.b_Way_init .nil pass0 (pa_cons (pv 0) (pa_cons (pe_bm PySem.F.plainAttrs_str PySem.F.slot_str_join PySem.F.type_str_join Sx.m_join pe_str (pa_cons (pv 3) pa_nil)) pa_nil)))))))), ?_⟩
    refine Sx.r_st (σ' := [some (sv), some (.ref r), none, none, none]) rfl ?_
    walk_at "sx"
    refine ⟨Nat.zero_le _, fun g hgn => ?_⟩
    walk_at "sx"
    have s1 : Same H (upd H g (.lst [])) := same_new hgn
    have g1 : (upd H g (.lst [])) g = some (.lst []) := upd_same
    generalize upd H g (.lst []) = H1 at s1 g1 ⊢
    refine rd_r (hS.mono s1) ?_
    walk_at "sx"
    refine rd_s (hS.mono s1) ?_
    walk_at "sx"
    rw [show ((a : Int) + (b : Int)) = ((l.length : Nat) : Int) by omega]
    refine r_rng1 ?_ (by omega) (by omega)
    refine fr_range (fun i σ' H' => (∃ y3, σ' = [some sv, some (.ref r), some (.int (Mg.lv a b l i)), some (.ref g), y3]) ∧ Same H H' ∧ H' g = some (.lst ((l.take i).map fun c : Nat => V.str ⟨#[c]⟩))) ⟨⟨none, by rw [Mg.lv_0]; rfl⟩, s1, by rw [g1, List.take_zero]; rfl⟩ ?_ ?_
    · rintro i σ' H2 hi2 ⟨⟨y3, rfl⟩, s2, hg2⟩
      rw [Int.toNat_natCast] at hi2
      have big : ((l.take i).map fun c : Nat => V.str ⟨#[c]⟩).length < sizeLine := by rw [List.length_map, List.length_take, sizeLine_eq]; omega
      have mem := Mg.is_rise hW ha hb hg hi2
      walk_at "sxi"
      refine ⟨r, _, rfl, .inr (SqT.same hr' s2), rfl, flat_ints _, _, rfl, ?_⟩
      show if (if false = true then (!inV (.int (Mg.lv a b l i)) ((Mg.rms a b l).map V.int)) else inV (.int (Mg.lv a b l i)) ((Mg.rms a b l).map V.int)) = true then _ else _
      rw [show (if false = true then (!inV (.int (Mg.lv a b l i)) ((Mg.rms a b l).map V.int)) else inV (.int (Mg.lv a b l i)) ((Mg.rms a b l).map V.int)) = decide (Mg.lv a b l i ∈ Mg.rms a b l) from inV_ints]
      refine ite_d (fun h => ?_) (fun h => ?_)
      · have hc := mem.mp h
        walk_at "sx"
        refine ⟨tyL hg2, ?_⟩
        walk_at "sx"
        refine r_app hg2 ?_ big
        walk_at "sx"
        refine rd_s (hS.mono (same_mut s2 hgn)) ?_
        walk_at "sx"
        refine ⟨⟨_, by rw [Mg.lv_r hW.1 hc]; rfl⟩, same_mut s2 hgn, ?_⟩
        rw [upd_same, let_snoc hc, str_r]
      · have hc : l[i]? = some 115 := (Mg.letter hW.1 hi2).resolve_left fun z => h (mem.mpr z)
        walk_at "sx"
        refine ⟨tyL hg2, ?_⟩
        walk_at "sx"
        refine r_app hg2 ?_ big
        walk_at "sx"
        refine rd_r (hS.mono (same_mut s2 hgn)) ?_
        walk_at "sx"
        refine ⟨⟨_, by rw [Mg.lv_s hW.1 hc]; rfl⟩, same_mut s2 hgn, ?_⟩
        rw [upd_same, let_snoc hc, str_s]
    · rintro σ' H2 ⟨⟨y3, rfl⟩, s2, hg2⟩
      rw [Int.toNat_natCast, List.take_length] at hg2
      walk_at "sx"
      have hd2 : SqL K H2 g ((l.map fun c => (⟨#[c]⟩ : Str)).map V.str) := SqL.of (by rw [List.map_map]; exact hg2)
      refine r_joinL hd2 ?_ ?_
      · rw [join_letters]
        exact mk_way (hS.mono s2) hW fun u H3 s3 hu => q u H3 (fun c o z => s3 c o (s2 c o z)) hu
      · rw [lens_ones, List.length_map, len_0]; omega
/-! ### Shelf.way -/
def sp_Shelf_way (K : PySem.W.Frag) (CS CW CH : Addr) : Sp := fun vs H Q _ => ∃ v, ∃ a b : Nat, ∃ l : List Nat, vs = [v] ∧ ShelfAt K CS CH H v a b l ∧ ∀ u H', Same H H' → WayAt CS CW H' u a b l → Q u H'
theorem ok_Shelf_way (T : Tx K mg) : FnOk P w K mg base CX0 8 T.a_Shelf_way T.d_Shelf_way ["self"] (sp_Shelf_way K T.C_Slope T.C_Way T.C_Shelf) := by
  refine T.F_Shelf_way.ok sc_Shelf_way (fun vs H Q E h => ?_) (fun cdv A outer s H vs Q E hr h => ?_)
  · obtain ⟨v, a, b, l, rfl, _⟩ := h; rfl
  · obtain ⟨v, a, b, l, rfl, ⟨hW, hg, p, dx, sv, t, d, r, s0, m, rfl, e, hi⟩, q⟩ := h
    refine ⟨_, (pss_one (ps_ret (pe_call (ok_way_with_rises T) (hr.mono (by decide)) (by rfl) T.g_way_with_rises T.F_way_with_rises.kp T.b_way_with_rises .nil pass0 (pa_cons (pe_fld (pv 0) rfl) (pa_cons (pe_fld (pv 0) rfl) pa_nil))))), ?_⟩
    refine Sx.r_st (σ' := [some (.ref p)]) rfl ?_
    have lk := shF_slope (sv := sv) (t := t) (d := d) (r := r) (s := s0) (m := m)
    walk_at "sx"
    refine ⟨p, _, dx, _, _, rfl, e, T.cl_Shelf, T.na_Shelf_slope, lk, ?_⟩
    walk_at "sx"
    refine ⟨p, _, dx, _, .ref r, rfl, e, T.cl_Shelf, T.na_Shelf_rise_makers, by rw [shF_get, if_neg (by decide +kernel), if_neg (by decide +kernel), if_pos rfl], ?_⟩
    walk_at "sx"
    exact ⟨sv, r, a, b, l, rfl, hi.1, hW, hg, .of hi.2.2.2.1, fun u H' s' hu => q u H' s' hu⟩
/-! ### equal, less -/
def sp_Slope_eq (C : Addr) : Sp := fun vs H Q _ => ∃ v u, ∃ a b c d : Int, vs = [v, u] ∧ SlopeAt C H v a b ∧ SlopeAt C H u c d ∧ Q (.bl (decide (a = c ∧ b = d))) H
theorem ok_Slope_eq (T : Tx K mg) : FnOk P w K mg base CX0 1 T.a_Slope_eq T.d_Slope_eq ["self", "other"] (sp_Slope_eq T.C_Slope) := by
  refine T.F_Slope_eq.ok sc_Slope_eq (fun vs H Q E h => ?_) (fun cdv A outer s H vs Q E hr h => ?_)
  · obtain ⟨v, u, a, b, c, d, rfl, _⟩ := h; rfl
  · obtain ⟨v, u, a, b, c, d, rfl, ⟨_, p, dx, rfl, e1⟩, ⟨_, p2, dx2, rfl, e2⟩, q⟩ := h
    refine ⟨_, (pss_one (ps_ret (pe_and (pe_callB call_isi (by rfl) T.n_isinstance Sx.bt_isinstance (pa_cons (pv 1) (pa_cons (pe_glob (v := .ref T.C_Slope) (by rfl) T.g_Slope rfl) pa_nil))) (pe_and (pe_cmpR op_eq (pe_fld (pv 0) rfl) (pe_fld (pv 1) rfl) (nomark _)) (pe_one (pe_cmpR op_eq (pe_fld (pv 0) rfl) (pe_fld (pv 1) rfl) (nomark _))))))), ?_⟩
    refine Sx.r_st (σ' := [some (.ref p), some (.ref p2)]) rfl ?_
    walk_at "sx"
    refine r_isi_own e2 T.cl_Slope T.ic_Slope T.cg T.ct T.mr_Slope T.ks_Slope ?_
    walk_at "sx"
    refine ⟨p, _, dx, _, _, rfl, e1, T.cl_Slope, T.na_Slope_rises, slF_r a b, ?_⟩
    walk_at "sx"
    refine ⟨p2, _, dx2, _, _, rfl, e2, T.cl_Slope, T.na_Slope_rises, slF_r c d, ?_⟩
    walk_at "sx"
    refine ite_d (fun h => ?_) (fun h => ?_)
    · walk_at "sx"
      refine ⟨p, _, dx, _, _, rfl, e1, T.cl_Slope, T.na_Slope_steps, slF_s a b, ?_⟩
      walk_at "sx"
      refine ⟨p2, _, dx2, _, _, rfl, e2, T.cl_Slope, T.na_Slope_steps, slF_s c d, ?_⟩
      walk_at "sx"
      rw [show decide (a = c ∧ b = d) = decide (b = d) by simp [h]] at q
      exact q
    · rw [show decide (a = c ∧ b = d) = false by simp [h]] at q
      exact q
/-! ### Shelf.__eq__ -/
def sp_Shelf_eq (K : PySem.W.Frag) (CS CH : Addr) : Sp := fun vs H Q _ => (∃ v u, ∃ a b c d : Nat, ∃ l m : List Nat, vs = [v, u] ∧ ShelfAt K CS CH H v a b l ∧ ShelfAt K CS CH H u c d m ∧ ∀ k : Bool, (k = true ↔ a = c ∧ b = d ∧ Mg.gaps a b l = Mg.gaps c d m) → Q (.bl k) H) ∨ ∃ v y t, ∃ a b : Nat, ∃ l : List Nat, vs = [v, y] ∧ ShelfAt K CS CH H v a b l ∧ TyX K H y t ∧ PySem.W.kitOne K t (.ref CH) = some false ∧ Q (.bl false) H
theorem ok_Shelf_eq (T : Tx K mg) : FnOk P w K mg base CX0 5 T.a_Shelf_eq T.d_Shelf_eq ["self", "other"] (sp_Shelf_eq K T.C_Slope T.C_Shelf) := by
  refine T.F_Shelf_eq.ok sc_Shelf_eq (fun vs H Q E h => ?_) (fun cdv A outer s H vs Q E hr h => ?_)
  · obtain ⟨v, u, a, b, c, d, l, m, rfl, _⟩ | ⟨v, y, t, a, b, l, rfl, _⟩ := h <;> rfl
  · refine ⟨_, (pss_one (ps_ret (pe_and (pe_callB call_isi (by rfl) T.n_isinstance Sx.bt_isinstance (pa_cons (pv 1) (pa_cons (pe_glob (v := .ref T.C_Shelf) (by rfl) T.g_Shelf rfl) pa_nil))) (pe_and (pe_cmpR (Sw.op_own (fun _ _ => rfl) ⟨T.me_Slope_eq.1, T.me_Slope_eq.2⟩ (ok_Slope_eq T) (hr.mono (by decide)) T.b_Slope_eq) (pe_fld (pv 0) rfl) (pe_fld (pv 1) rfl) (nomark _)) (pe_one (pe_cmpR (op_eqD hr.units) (pe_fld (pv 0) rfl) (pe_fld (pv 1) rfl) (nomark _))))))), ?_⟩
    obtain ⟨v, u, a, b, c, d, l, m, rfl, ⟨w1, g1, p, dx, sv, t, dd, r, s0, mm, rfl, e1, i1⟩, ⟨w2, g2, p2, dx2, sv2, t2, dd2, r2, s2, mm2, rfl, e2, i2⟩, q⟩ | ⟨v, y, t, a, b, l, rfl, ⟨w1, g1, p, dx, sv, tt, dd, r, s0, mm, rfl, e1, i1⟩, ty, kt, q⟩ := h
    · refine Sx.r_st (σ' := [some (.ref p), some (.ref p2)]) rfl ?_
      walk_at "sx"
      refine r_isi_own e2 T.cl_Shelf T.ic_Shelf T.cg T.ct T.mr_Shelf T.ks_Shelf ?_
      walk_at "sx"
      refine ⟨p, _, dx, _, _, rfl, e1, T.cl_Shelf, T.na_Shelf_slope, shF_slope, ?_⟩
      walk_at "sx"
      refine ⟨p2, _, dx2, _, _, rfl, e2, T.cl_Shelf, T.na_Shelf_slope, shF_slope, ?_⟩
      obtain ⟨x1, x2⟩ : (1 ≤ a ∧ 1 ≤ b) ∧ (1 ≤ c ∧ 1 ≤ d) := by
        have h1 := i1.1.1; have h2 := i2.1.1; omega
      obtain ⟨_, ps, dxs, rfl, es⟩ := id i1.1
      obtain ⟨_, ps2, dxs2, rfl, es2⟩ := id i2.1
      refine ⟨ps, dxs, _, ps2, dxs2, _, rfl, rfl, es, es2, .ref ps, .ref ps2, a, b, c, d, rfl, i1.1, i2.1, ?_⟩
      refine ⟨_, rfl, ?_⟩
      refine ite_d (fun h => ?_) (fun h => ?_)
      · walk_at "sx"
        refine ⟨p, _, dx, _, _, rfl, e1, T.cl_Shelf, T.na_Shelf_gaps, shF_gaps, ?_⟩
        walk_at "sx"
        refine ⟨p2, _, dx2, _, _, rfl, e2, T.cl_Shelf, T.na_Shelf_gaps, shF_gaps, ?_⟩
        refine r_eqD (.tup i1.2.1 (dpI _)) (.tup i2.2.1 (dpI _)) sh_tupI sh_tupI ?_
        rw [eqv_ints]
        refine q _ ?_
        rw [decide_eq_true_iff]
        exact ⟨fun z => ⟨by omega, by omega, z⟩, fun z => z.2.2⟩
      · refine q false ⟨fun z => Bool.noConfusion z, fun z => absurd (show (a : Int) = c ∧ (b : Int) = d by omega) h⟩
    · refine Sx.r_st (σ' := [some (.ref p), some (y)]) rfl ?_
      walk_at "sx"
      refine ⟨y, .ref T.C_Shelf, t, .ref T.C_Shelf, false, rfl, .own _, ty, kt, ?_⟩
      walk_at "sx"
      exact q
end
end Lw

namespace Lw
open PySem PySem.Spec PyProof.Rows L2 Sx Sy Sw Me Mw
open En (NoNum)
open SX (S)
open C8 (pe_gc)
open SkE (call_repr_int call_str_str)
open RZ (pi_zipA)
section
variable {P : Program} {w : World} {K : PySem.W.Frag} {mg : Str → Option Value} {base : Heap}
theorem r_revLs {te : TE} {σ : L2.St} {H : Hp} {Q : VK} (h : te σ H fun x H1 => ∃ a xs, x = .ref a ∧ SqL K H1 a xs ∧ ∀ p, H1 p = none → Q (.ref p) (upd H1 p (.lst xs.reverse))) : tRevL K te σ H Q := h
/-! ### rows by first hooks -/
def rwT (hs : List Nat) (i : Nat) : List Nat := (List.range i).map fun k => hs.getD k 0 - k
def sp_rows_of_hooks (K : PySem.W.Frag) : Sp := fun vs H Q _ => ∃ t hs, vs = [.ref t] ∧ SqT K H t (iv hs) ∧ (∀ i x : Nat, hs[i]? = some x → i ≤ x) ∧ hs.length ≤ 1000 ∧
  ∀ u H', Same H H' → H' u = some (.tup (iv (Du.hr hs))) → Q (.ref u) H'
theorem ok_rows_of_hooks (T : Tx K mg) : FnOk P w K mg base CX0 1 T.a_rows_of_hooks T.d_rows_of_hooks ["hooks"] (sp_rows_of_hooks K) := by
  refine T.F_rows_of_hooks.ok sc_rows_of_hooks (fun vs H Q E h => ?_) (fun cdv A outer s H vs Q E hr h => ?_)
  · obtain ⟨t, hs, rfl, _⟩ := h; rfl
  · obtain ⟨t, hs, rfl, ht, hi0, hl, q⟩ := h
    refine ⟨_, (pss_cons (ps_setLc (i := 1) (own := [("below", 2), ("hook", 3)]) (g := (gTup K 2 (gCons (gName 2) (gCons (gName 3) gNil)))) (tt := tYes) rfl sc_rows_of_hooks.nd rfl rfl (sw_true rfl rfl rfl (by decide +kernel)) (Sy.pi_enumT (by rfl) T.n_enumerate (pa_cons (pv 0) pa_nil)) (blkOk_by (N := N_rows_of_hooks) (sc := defScope st_rows_of_hooks) (by decide +kernel)) (fun _ _ _ _ _ => (pg_tup rfl (pgs_cons (pg_name (i := 2) sc_rows_of_hooks.nd rfl (.inl rfl)) (pgs_cons (pg_name (i := 3) sc_rows_of_hooks.nd rfl (.inl rfl)) pgs_nil)))) (fun _ _ _ _ _ => pts_nil) (fun _ _ _ _ _ => (pe_op op_sub (pv 3) (pv 2))))
      (pss_one (ps_ret (pe_callTy Sx.c_tupOf (by rfl) T.n_tuple Sx.bt_tuple (pa_cons (pe_lc (own := [("row", 4)]) (g := (gName 4)) rfl sc_rows_of_hooks.nd (pi_list (pe_revL (pv 1))) (blkOk_by (N := N_rows_of_hooks) (sc := defScope st_rows_of_hooks) (by decide +kernel)) (fun _ _ _ _ _ => (pg_name (i := 4) sc_rows_of_hooks.nd rfl (.inl rfl))) (fun _ _ _ _ _ => (pts_one (pt_cmpR op_gt (pv 4) pe_int (nomark _)))) (fun _ _ _ _ _ => (pv 4))) pa_nil))))), ?_⟩
    refine Sx.r_st (σ' := [some (.ref t), none, none, none, none]) rfl ?_
    walk_at "sx"
    refine r_seqN ht ?_
    refine lw_it (walk_num (ys := iv hs)) (fun D i H' => Same H H' ∧ H' D = some (.lst (iv (rwT hs i)))) (fun D hD => ⟨same_new hD, upd_same⟩) (fun D hD i H' _ z => SqT.same ht z.1) ?_ ?_
    · rintro D hD i x H2 H3 hi ⟨s2, hd⟩ ⟨p, xx, yy, rfl, hp, rfl, hxx, hyy⟩
      cases hxx
      obtain ⟨j, hj, rfl⟩ := iv_at hyy
      have ij := hi0 i j hj
      rw [iv_len] at hi
      have s3 : Same H (upd H2 p (.tup [.int (i : Nat), .int (j : Int)])) := s2.trans (same_new hp)
      have hd2 := same_new (o := .tup [.int (i : Nat), .int (j : Int)]) hp _ _ hd
      refine r_gtup upd_same rfl ?_
      generalize upd H2 p (.tup [.int (i : Nat), .int (j : Int)]) = H3 at s3 hd2 ⊢
      walk_at "sx"
      refine ⟨rfl, ?_⟩
      walk_at "sx"
      refine ⟨_, hd2, ?_, same_mut s3 hD, ?_⟩
      · rw [iv_len, sizeLine_eq]; unfold rwT; rw [List.length_map, List.length_range]; omega
      · rw [upd_same]
        have e : rwT hs (i + 1) = rwT hs i ++ [j - i] := by
          unfold rwT
          rw [List.range_succ, List.map_append, List.map_singleton, List.getD_eq_getElem?_getD, hj]; rfl
        rw [e, show (j : Int) - (i : Nat) = ((j - i : Nat) : Int) by omega, iv_snoc]
    rintro g hgn H1 ⟨s1, hg1⟩
    rw [iv_len] at hg1
    walk_at "sx"
    refine r_revLs ?_
    walk_at "sx"
    refine ⟨g, _, rfl, SqL.of hg1, fun r hr0 => ?_⟩
    have ir : (iv (rwT hs hs.length)).reverse = iv (rwT hs hs.length).reverse := by
      unfold iv; rw [← List.map_reverse, ← List.map_reverse]
    rw [ir]
    have s3 := s1.trans (same_new (o := .lst (iv (rwT hs hs.length).reverse)) hr0)
    have hr3 : (upd H1 r (.lst (iv (rwT hs hs.length).reverse))) r = some (.lst (iv (rwT hs hs.length).reverse)) := upd_same
    generalize upd H1 r (.lst (iv (rwT hs hs.length).reverse)) = H3 at s3 hr3 ⊢
    obtain ⟨rv, erv⟩ : ∃ rv, rv = (rwT hs hs.length).reverse := ⟨_, rfl⟩
    rw [← erv] at hr3
    have lrv : rv.length ≤ 1000 := by rw [erv, List.length_reverse]; unfold rwT; rw [List.length_map, List.length_range]; exact hl
    refine r_seqL (SqL.of hr3) ?_
    refine lw_list (fun D i H' => Same H3 H' ∧ H' D = some (.lst (iv ((rv.take i).filter fun x => decide (0 < x))))) (fun D hD => ⟨same_new hD, upd_same⟩) (fun D hD i H' _ z => SqL.of (z.1 _ _ hr3)) ?_ ?_
    · rintro D hD i x H4 hx ⟨s4, hd⟩
      obtain ⟨n, hn, rfl⟩ := iv_at hx
      walk_at "sx"
      refine ⟨rfl, ?_⟩
      walk_at "sx"
      refine ite_d (fun h => ?_) (fun h => ?_)
      · walk_at "sx"
        refine ⟨_, hd, ?_, same_mut s4 hD, ?_⟩
        · rw [iv_len, sizeLine_eq]
          have := List.length_filter_le (fun x => decide (0 < x)) (rv.take i)
          have := List.length_take_le' i rv
          omega
        · rw [upd_same, List.take_add_one, hn, List.filter_append, ← iv_snoc]
          have : 0 < n := by omega
          simp [this]
      · refine ⟨s4, ?_⟩
        rw [List.take_add_one, hn, List.filter_append]
        have : ¬ 0 < n := by omega
        simp [this, hd]
    · rintro D hD H4 ⟨s4, hd⟩
      rw [iv_len, List.take_length, erv] at hd
      walk_at "sx"
      refine r_tupOfL (SqL.of hd) fun z hz => ?_
      exact q z _ (s3.trans (s4.trans (same_new hz))) upd_same
theorem hr_rows {hs : List Nat} (d : (Du.hr hs).Pairwise (fun x y => y ≤ x)) (h1 : ∀ x, x ∈ hs → x ≤ 60) (h2 : hs.length ≤ 60) : Rows (Du.hr hs) :=
  ⟨d, fun x m => ⟨(Du.hr_bd m).1, by obtain ⟨g, mg, le⟩ := (Du.hr_bd m).2; have := h1 g mg; omega⟩, Nat.le_trans (Du.hr_len hs) h2⟩
theorem any_false : ∀ n, ((List.replicate n false).any id) = false
  | 0 => rfl
  | n + 1 => by rw [List.replicate_succ, List.any_cons, any_false n]; rfl
def sp_of_first_hooks (K : PySem.W.Frag) (C : Addr) : Sp := fun vs H Q _ => ∃ t hs, vs = [.ref C, .ref t] ∧ SqT K H t (iv hs) ∧ hs.Pairwise (· < ·) ∧ (∀ x, x ∈ hs → 1 ≤ x ∧ x ≤ 60) ∧ hs.length ≤ 60 ∧ Rows (Du.hr hs) ∧ (∀ i x : Nat, hs[i]? = some x → i ≤ x) ∧
  ∀ u H', Same H H' → HeapAt K C H' u (Du.hr hs) → Q u H'
theorem ok_Heap_of_first_hooks (T : Tx K mg) : FnOk P w K mg base CX0 6 T.a_Heap_of_first_hooks T.d_Heap_of_first_hooks ["cls", "hooks"] (sp_of_first_hooks K T.C_Heap) := by
  refine T.F_Heap_of_first_hooks.ok sc_Heap_of_first_hooks (fun vs H Q E h => ?_) (fun cdv A outer s H vs Q E hr h => ?_)
  · obtain ⟨t, hs, rfl, _⟩ := h; rfl
  · obtain ⟨t, hs, rfl, ht, hp, hb, hl, hr', hi0, q⟩ := h
    refine ⟨_, (pss_cons (ps_if (pt_not (pt_val (pe_call (ok_is_ascending T) (hr.mono (by decide)) (by rfl) T.g_is_ascending T.F_is_ascending.kp T.b_is_ascending .nil pass0 (pa_cons (pv 1) (pa_cons pe_int (pa_cons (pe_gc (by rfl) T.c_GREATEST) pa_nil)))))) pss_never pss_nil)
      (pss_cons (ps_set (i := 2) sc_Heap_of_first_hooks.nd rfl (.inl rfl) (pe_call (ok_rows_of_hooks T) (hr.mono (by decide)) (by rfl) T.g_rows_of_hooks T.F_rows_of_hooks.kp T.b_rows_of_hooks .nil pass0 (pa_cons (pv 1) pa_nil)))
      (pss_cons (ps_if (PW.pt (pw_or (pt_cmpR op_gt (pe_callB Sx.c_len (by rfl) T.n_len Sx.bt_len (pa_cons (pv 2) pa_nil)) (pe_gc (by rfl) T.c_MAX_ROW) (nomark _)) (pw_or1 (pt_val (pe_callB (cr_any rfl) (by rfl) T.n_any Sx.bt_any (pa_cons (pe_lc (own := [("row", 3)]) (g := (gName 3)) (tt := tYes) rfl sc_Heap_of_first_hooks.nd (pi_tup (pv 2)) (blkOk_by (N := N_Heap_of_first_hooks) (sc := defScope st_Heap_of_first_hooks) (by decide +kernel)) (fun _ _ _ _ _ => (pg_name (i := 3) sc_Heap_of_first_hooks.nd rfl (.inl rfl))) (fun _ _ _ _ _ => pts_nil) (fun _ _ _ _ _ => (pe_cmpR op_gt (pv 3) (pe_gc (by rfl) T.c_MAX_ROW) (nomark _)))) pa_nil)))))) pss_never pss_nil)
      (pss_one (ps_ret (Mj.pe_makeL (i := 0) T.mk_Heap (ok_Heap_init T) (hr.mono (by decide)) rfl (.inl rfl) T.b_Heap_init .nil pass0 (pa_cons (pv 2) pa_nil))))))), ?_⟩
    refine Sx.r_st (σ' := [some (.ref T.C_Heap), some (.ref t), none, none]) rfl ?_
    walk_at "sxi"
    refine ⟨t, hs.map fun x : Nat => (x : Int), 1, _, rfl, ht, ⟨?_, ?_⟩, ?_⟩
    · rw [List.pairwise_map]; exact hp.imp fun h => by omega
    · intro x m
      obtain ⟨y, my, rfl⟩ := List.mem_map.mp m
      have := hb y my
      exact ⟨by omega, by omega⟩
    walk_at "sx"
    refine ⟨t, hs, rfl, ht, hi0, by omega, fun u H1 s1 e1 => ?_⟩
    walk_at "sxi"
    refine ⟨u, _, rfl, .inr (SqT.of e1), ?_⟩
    rw [iv_len]
    walk_at "sx"
    have l60 := hr'.2.2
    rw [decide_eq_false (by omega)]
    walk_at "sx"
    refine r_seqT (SqT.of e1) ?_
    refine lw_tup (fun D i H' => Same H1 H' ∧ H' D = some (.lst ((List.replicate i false).map V.bl))) (fun D hD => ⟨same_new hD, upd_same⟩) (fun D hD i H' _ z => SqT.of (z.1 _ _ e1)) ?_ ?_
    · rintro D hD i x H2 hx ⟨s2, d2⟩
      obtain ⟨n, hn, rfl⟩ := iv_at hx
      have n60 := hr'.2.1 n (List.mem_of_getElem? hn)
      have i60 := (List.getElem?_eq_some_iff.mp hn).1
      walk_at "sx"
      refine ⟨rfl, ?_⟩
      walk_at "sx"
      rw [decide_eq_false (by omega)]
      refine ⟨_, d2, ?_, same_mut s2 hD, ?_⟩
      · rw [List.length_map, List.length_replicate, sizeLine_eq]; omega
      · rw [upd_same, List.replicate_succ', List.map_append]; rfl
    rintro D hD H2 ⟨s2, d2⟩
    walk_at "sx"
    refine ⟨D, _, rfl, SqL.of d2, ?_⟩
    rw [any_false]
    walk_at "sx"
    refine ⟨rfl, ?_⟩
    walk_at "sx"
    refine mk_heap (SqT.of (s2 _ _ e1)) hr' fun v H3 s3 hv => ?_
    exact q v H3 (s1.trans (s2.trans s3)) hv
/-- the heap of a shelf -/
theorem sh_of {K : PySem.W.Frag} {CS CH : Addr} {H : Hp} {v : V} {a b : Nat} {l : List Nat} (h : ShelfAt K CS CH H v a b l) : Du.Sh a b l ∧ 1 ≤ a ∧ a ≤ 60 ∧ 1 ≤ b ∧ b ≤ 60 := by
  obtain ⟨hW, hg, p, dx, sv, t, d, r, s, m, _, _, hi⟩ := h
  have := hi.1.1
  exact ⟨⟨hW, by omega, by omega, hg⟩, by omega, by omega, by omega, by omega⟩
def sp_heap_of (K : PySem.W.Frag) (CS CH C : Addr) : Sp := fun vs H Q _ => ∃ v, ∃ a b : Nat, ∃ l : List Nat, vs = [v] ∧ ShelfAt K CS CH H v a b l ∧ (a - 1) * (b - 1) ≤ 60 ∧ ∀ u H', Same H H' → HeapAt K C H' u (Du.hr (Du.gN a b l)) → Q u H'
theorem gaps_iv {a b : Nat} {l : List Nat} (s : Du.Sh a b l) : (Mg.gaps a b l).map V.int = iv (Du.gN a b l) := by
  rw [Du.gaps_N s]; rfl
theorem ok_heap_of (T : Tx K mg) : FnOk P w K mg base CX0 8 T.a_heap_of T.d_heap_of ["shelf"] (sp_heap_of K T.C_Slope T.C_Shelf T.C_Heap) := by
  refine T.F_heap_of.ok sc_heap_of (fun vs H Q E h => ?_) (fun cdv A outer s H vs Q E hr h => ?_)
  · obtain ⟨v, a, b, l, rfl, _⟩ := h; rfl
  · obtain ⟨v, a, b, l, rfl, hv, h60, q⟩ := h
    refine ⟨_, (pss_cons (ps_expr (pe_call (ok_check_shelf T) (hr.mono (by decide)) (by rfl) T.g_check_shelf T.F_check_shelf.kp T.b_check_shelf .nil pass0 (pa_cons (pv 0) pa_nil)))
      (pss_one (ps_ret (ClX.pe_cmeth (pe_glob (v := .ref T.C_Heap) (by rfl) T.g_Heap rfl) T.cr_Heap T.cm_Heap_of_first_hooks ((ok_Heap_of_first_hooks T).raw T.b_Heap_of_first_hooks .nil) (hr.mono (by decide)) pass0 (pa_cons (pe_prop (pv 0) T.cl_Shelf T.pr_Shelf_gaps (ok_Shelf_gaps T) (hr.mono (by decide)) T.b_Shelf_gaps .nil pass0 rfl) pa_nil))))), ?_⟩
    refine Sx.r_st (σ' := [some (v)]) rfl ?_
    have s := (sh_of hv).1
    have gl := Du.gN_len s
    walk_at "sx"
    refine ⟨v, a, b, l, rfl, hv, ?_⟩
    walk_at "sx"
    refine ⟨rfl, ?_⟩
    walk_at "sx"
    refine rh_gaps hv fun tg htg => ?_
    walk_at "sx"
    rw [gaps_iv s] at htg
    refine ⟨tg, _, rfl, htg, Du.gN_asc, fun x m => ?_, by omega, hr_rows (Du.hr_desc s) (fun x m => ?_) (by omega), Du.gN_ge s, fun u H' sm hu => q u H' sm hu⟩
    · have := Du.gN_lt s m; omega
    · have := Du.gN_lt s m; omega
theorem at_last {xs : List Int} (h : xs ≠ []) : atI (xs.map V.int) (-1) = some (.int (xs.getLastD (-1))) := by
  rcases List.eq_nil_or_concat xs with rfl | ⟨v, z, rfl⟩
  · exact absurd rfl h
  rw [List.concat_eq_append, List.getLastD_concat]
  unfold atI ixN
  rw [if_neg (by omega), if_pos (by rw [List.length_map, List.length_append, List.length_singleton]; omega), List.length_map, List.length_append, List.length_singleton]
  show ((v ++ [z]).map V.int)[(-1 + ((v.length + 1 : Nat) : Int)).toNat]? = _
  rw [show (-1 + ((v.length + 1 : Nat) : Int)).toNat = v.length by omega, List.getElem?_map, List.getElem?_append_right (Nat.le_refl _), Nat.sub_self]; rfl
/-- the dual shelf -/
def sp_Shelf_dual (K : PySem.W.Frag) (CS CH : Addr) : Sp := fun vs H Q _ => ∃ v, ∃ a b : Nat, ∃ l : List Nat, vs = [v] ∧ ShelfAt K CS CH H v a b l ∧ ∀ u l' H', Du.IsDual a b l l' → Same H H' → ShelfAt K CS CH H' u a b l' → Q u H'
theorem ok_Shelf_dual (T : Tx K mg) : FnOk P w K mg base CX0 9 T.a_Shelf_dual T.d_Shelf_dual ["self"] (sp_Shelf_dual K T.C_Slope T.C_Shelf) := by
  refine T.F_Shelf_dual.ok sc_Shelf_dual (fun vs H Q E h => ?_) (fun cdv A outer s H vs Q E hr h => ?_)
  · obtain ⟨v, a, b, l, rfl, _⟩ := h; rfl
  · obtain ⟨v, a, b, l, rfl, hv, q⟩ := h
    have s := (sh_of hv).1
    have ab := (sh_of hv).2
    obtain ⟨hW, hg, p, dx, sv, t, dd, r, s0, m, rfl, e, hi⟩ := id hv
    refine ⟨_, (pss_cons (ps_if (pt_cmpR op_eq (pe_callB Sx.c_len (by rfl) T.n_len Sx.bt_len (pa_cons (pe_fld (pv 0) rfl) pa_nil)) pe_int (nomark _)) (pss_one (ps_ret (pe_make T.mk_Shelf (ok_Shelf_init T) (hr.mono (by decide)) (by rfl) T.g_Shelf T.bd_Shelf_init (.cons (show RelV (.ref T.e_Shelf_init) (.ref T.e_Shelf_init) from rfl) .nil) pass0 (pa_cons (pe_fld (pv 0) rfl) pa_nil)))) pss_nil)
      (pss_cons (ps_set (i := 1) sc_Shelf_dual.nd rfl (.inr rfl) (pe_ix ix_tup (pe_fld (pv 0) rfl) (pe_un un_neg pe_int) (fun _ _ => rfl)))
      (pss_one (ps_ret (pe_make T.mk_Shelf (ok_Shelf_init T) (hr.mono (by decide)) (by rfl) T.g_Shelf T.b_Shelf_init .nil pass0 (pa_cons (pe_fld (pv 0) rfl) (pa_cons (pe_callTy Sx.c_tupOf (by rfl) T.n_tuple Sx.bt_tuple (pa_cons (pe_lc (own := [("gap", 2)]) (g := (gName 2)) rfl sc_Shelf_dual.nd (pi_range2 (by rfl) T.n_range (pa_cons pe_int (pa_cons (pe_op op_add (pv 1) pe_int) pa_nil))) (blkOk_by (N := N_Shelf_dual) (sc := defScope st_Shelf_dual) (by decide +kernel)) (fun _ _ _ _ _ => (pg_name (i := 2) sc_Shelf_dual.nd rfl (.inl rfl))) (fun _ _ _ _ _ => (pts_one (pt_cmp (pc_dnotin (Mj.hu1 hr) (pe_op op_sub (pv 1) (pv 2)) (show PE _ _ (tFld K _ _) from pe_fld (pv 0) rfl))))) (fun _ _ _ _ _ => (pv 2))) pa_nil)) pa_nil))))))), ?_⟩
    refine Sx.r_st (σ' := [some (.ref p), none, none]) rfl ?_
    have lk := shF_slope (sv := sv) (t := t) (d := dd) (r := r) (s := s0) (m := m)
    have lg := shF_gaps (sv := sv) (t := t) (d := dd) (r := r) (s := s0) (m := m)
    obtain ⟨l', d⟩ := Du.ex_dual s
    walk_at "sxi"
    refine ⟨p, _, dx, _, _, rfl, e, T.cl_Shelf, T.na_Shelf_gaps, lg, ?_⟩
    walk_at "sx"
    refine ⟨t, _, rfl, .inr hi.2.1, ?_⟩
    rw [List.length_map]
    walk_at "sx"
    refine ite_d (fun h => ?_) (fun h => ?_)
    · have hn : Mg.gaps a b l = [] := List.length_eq_zero_iff.mp (by omega)
      walk_at "sx"
      refine ⟨p, _, dx, _, _, rfl, e, T.cl_Shelf, T.na_Shelf_slope, lk, ?_⟩
      walk_at "sx"
      exact mk_shelf (l := l') hi.1 hg d.way (by rw [d.nil s hn]; exact T.et_Shelf_init H) fun u H1 s1 hu => q u l' H1 d s1 hu
    · have hn : Mg.gaps a b l ≠ [] := fun z => h (by rw [z]; rfl)
      have la0 : 0 ≤ Du.la a b l := (s.gap.mp (Du.last_mem hn)).1
      have las := Mg.gap_lt s.way s.ha s.hb s.hg la0 s.last
      have l36 : (a - 1) * (b - 1) ≤ 3600 := Nat.mul_le_mul (show a - 1 ≤ 60 by omega) (show b - 1 ≤ 60 by omega)
      have lst : atI ((Mg.gaps a b l).map V.int) (-1) = some (.int (Du.la a b l)) := by
        exact at_last hn
      walk_at "sx"
      refine ⟨p, _, dx, _, _, rfl, e, T.cl_Shelf, T.na_Shelf_gaps, lg, ?_⟩
      walk_at "sx"
      refine ⟨t, _, -1, _, rfl, rfl, hi.2.1, lst, ?_⟩
      walk_at "sx"
      refine ⟨p, _, dx, _, _, rfl, e, T.cl_Shelf, T.na_Shelf_slope, lk, ?_⟩
      walk_at "sx"
      refine ⟨1, _, rfl, ⟨by omega, by omega, by omega, by omega⟩, ?_⟩
      rw [show (Du.la a b l + 1 - 1).toNat = (Du.la a b l).toNat by rw [Int.add_sub_cancel]]
      have hT : Mj.TabAt H dd (fun x => x ∈ Mg.gaps a b l) := ⟨_, hi.2.2.1, Mj.tabKv_get _⟩
      refine lw_range (fun D i H' => Same H H' ∧ H' D = some (.lst ((Du.dg a b l i).map V.int))) (fun D hD => ⟨same_new hD, by rw [upd_same]; rfl⟩) ?_ ?_
      · rintro D hD i H2 hi2 ⟨s2, d2⟩
        walk_at "sx"
        refine ⟨rfl, ?_⟩
        walk_at "sx"
        refine ⟨p, _, dx, _, .ref dd, rfl, s2 _ _ e, T.cl_Shelf, T.na_Shelf_gap_table, by rw [shF_get, if_neg (by decide +kernel), if_neg (by decide +kernel), if_neg (by decide +kernel), if_pos rfl], ?_⟩
        walk_at "sx"
        obtain ⟨o, ho, hb⟩ := (hT.mono s2).get (Du.la a b l - (1 + (i : Int)))
        obtain ⟨bb, ebb⟩ : ∃ bb, bb = !o.isSome := ⟨_, rfl⟩
        have hbb : bb = true ↔ ¬ (Du.la a b l - (1 + (i : Int))) ∈ Mg.gaps a b l := by
          rw [← hb, ebb]; simp
        refine ⟨dd, o, rfl, ho, bb, by rw [ebb], ?_⟩
        have len := Du.dg_len (a := a) (b := b) (l := l) i
        by_cases g : (Du.la a b l - (1 + (i : Int))) ∈ Mg.gaps a b l
        · have : bb = false := by
            cases bb with
            | false => rfl
            | true => exact absurd g (hbb.mp rfl)
          subst this
          walk_at "sx"
          refine ⟨s2, ?_⟩
          rw [Du.dg_no g]; exact d2
        · obtain rfl : bb = true := hbb.mpr g
          walk_at "sx"
          refine ⟨_, d2, ?_, same_mut s2 hD, ?_⟩
          · rw [List.length_map, sizeLine_eq]; omega
          · rw [upd_same, Du.dg_yes g, List.map_append]; rfl
      · rintro D hD H2 ⟨s2, d2⟩
        rw [Du.dg_is d s] at d2
        walk_at "sx"
        refine r_tupOfL (SqL.of d2) fun z hz => ?_
        have s3 := s2.trans (same_new (o := .tup ((Mg.gaps a b l').map V.int)) hz)
        walk_at "sx"
        exact mk_shelf (l := l') (hi.1.mono s3) hg d.way (SqT.of upd_same) fun u H1 s1 hu => q u l' H1 d (s3.trans s1) hu
end
end Lw

namespace Lw
open PySem PySem.Spec PyProof.Rows L2 Sx Sy Sw Me Mw
open En (NoNum)
open SX (S)
open C8 (pe_gc)
open SkE (call_repr_int call_str_str)
open RZ (pi_zipA)
section
variable {P : Program} {w : World} {K : PySem.W.Frag} {mg : Str → Option Value} {base : Heap}
/-! ### hooks -/
def hrow (rs : List Nat) (x : Nat) : List Nat := (List.range (rs.getD x 0)).map (Hk.hk rs x)
structure HT (H : Hp) (ps : List Addr) (rs : List Nat) (n : Nat) : Prop where
  len : ps.length = n
  at_ : ∀ (x : Nat) (p : Addr), ps[x]? = some p → H p = some (.tup (iv (hrow rs x)))
theorem HT.mono {H H' : Hp} {ps : List Addr} {rs : List Nat} {n : Nat} (h : HT H ps rs n) (s : Same H H') : HT H' ps rs n := ⟨h.len, fun x p e => s _ _ (h.at_ x p e)⟩
theorem HT.off {H : Hp} {ps : List Addr} {rs : List Nat} {n : Nat} {m : Addr} {o : HO} {ys : List V} (h : HT H ps rs n) (hm : H m = some (.lst ys)) : HT (upd H m o) ps rs n := by
  refine ⟨h.len, fun x p e => ?_⟩
  have := h.at_ x p e
  rw [upd_ne (fun e => by rw [e, hm] at this; cases this)]; exact this
theorem HT.snoc {H : Hp} {ps : List Addr} {rs : List Nat} {n : Nat} (h : HT H ps rs n) {t : Addr} (e : H t = some (.tup (iv (hrow rs n)))) : HT H (ps ++ [t]) rs (n + 1) := by
  refine ⟨by rw [List.length_append, h.len]; rfl, fun x p e1 => ?_⟩
  rcases Nat.lt_or_ge x ps.length with g | g
  · rw [List.getElem?_append_left g] at e1
    exact h.at_ x p e1
  · have l1 := (List.getElem?_eq_some_iff.mp e1).1
    rw [List.length_append, List.length_singleton] at l1
    have je : x = ps.length := by omega
    subst je
    rw [List.getElem?_append_right (Nat.le_refl _), Nat.sub_self] at e1
    obtain rfl := Option.some.inj e1
    rw [h.len]; exact e
def sp_Heap_hooks (K : PySem.W.Frag) (C : Addr) : Sp := fun vs H Q _ => ∃ v rs, vs = [v] ∧ HeapAt K C H v rs ∧ Rows (Ex.tn rs) ∧ ∀ t ps H', Same H H' → H' t = some (.tup (ps.map V.ref)) → HT H' ps rs rs.length → Q (.ref t) H'
theorem ok_Heap_hooks (T : Tx K mg) : FnOk P w K mg base CX0 7 T.a_Heap_hooks T.d_Heap_hooks ["self"] (sp_Heap_hooks K T.C_Heap) := by
  refine T.F_Heap_hooks.ok sc_Heap_hooks (fun vs H Q E h => ?_) (fun cdv A outer s H vs Q E hr h => ?_)
  · obtain ⟨v, rs, rfl, _⟩ := h; rfl
  · obtain ⟨v, rs, rfl, hv, rt', q⟩ := h
    obtain ⟨p, dx, fs, t, rfl, h1, h2, h3, h4, h5, hr', h6⟩ := id hv
    refine ⟨_, (pss_cons (ps_set (i := 1) sc_Heap_hooks.nd rfl (.inr rfl) (pe_prop (pe_meth0 (pv 0) T.cl_Heap T.me_Heap_turned (ok_Heap_turned T) (hr.mono (by decide)) T.b_Heap_turned .nil pass0) T.cl_Heap T.pr_Heap_rows (ok_Heap_rows T) (hr.mono (by decide)) T.b_Heap_rows .nil pass0 rfl))
      (pss_cons (ps_set (i := 2) sc_Heap_hooks.nd rfl (.inl rfl) (pe_lst pa_nil))
      (pss_cons (ps_for PassesOwn.never rfl (Sy.pi_enumT (by rfl) T.n_enumerate (pa_cons (pe_fld (pv 0) rfl) pa_nil)) (pg_tup rfl (pgs_cons (pg_name (i := 3) sc_Heap_hooks.nd rfl (.inr rfl)) (pgs_cons (pg_name (i := 4) sc_Heap_hooks.nd rfl (.inr rfl)) pgs_nil))) (pss_one (ps_expr (pe_bm PySem.F.plainAttrs_list PySem.F.slot_list_append PySem.F.type_list_append mt_append (pv 2) (pa_cons (pe_callTy Sx.c_tupOf (by rfl) T.n_tuple Sx.bt_tuple (pa_cons (pe_lc (own := [("column", 5)]) (g := (gName 5)) (tt := tYes) rfl sc_Heap_hooks.nd (pi_range1 (by rfl) T.n_range (pa_cons (pv 4) pa_nil)) (blkOk_by (N := N_Heap_hooks) (sc := defScope st_Heap_hooks) (by decide +kernel)) (fun _ _ _ _ _ => (pg_name (i := 5) sc_Heap_hooks.nd rfl (.inl rfl))) (fun _ _ _ _ _ => pts_nil) (fun _ _ _ _ _ => (pe_op op_sub (pe_op op_sub (pe_op op_add (pe_op op_sub (pv 4) (pv 5)) (pe_ix (show IxR _ (rIxT K) from ix_tup) (pv 1) (pv 5) (fun _ _ => rfl))) (pv 3)) pe_int))) pa_nil)) pa_nil)))))
      (pss_one (ps_ret (pe_callTy Sx.c_tupOf (by rfl) T.n_tuple Sx.bt_tuple (pa_cons (pv 2) pa_nil))))))), ?_⟩
    refine Sx.r_st (σ' := [some (.ref p), none, none, none, none, none]) rfl ?_
    walk_at "sx"
    refine ⟨p, dx, fs, rfl, h1, h6.1 _ (by decide) (by decide) (by decide) (by decide), ?_⟩
    walk_at "sx"
    refine ⟨.ref p, _, rfl, hv, rt', fun w H2 s2 hw => ?_⟩
    obtain ⟨p2, dx2, fs2, t2, rfl, g1, g2, g3, g4, g5, g6⟩ := id hw
    refine ⟨p2, dx2, fs2, rfl, g1, p2, dx2, fs2, _, rfl, g1, g2, ?_⟩
    walk_at "sx"
    refine ⟨Nat.zero_le _, fun f hf => ?_⟩
    have s3 : Same H2 (upd H2 f (.lst [])) := same_new hf
    have f3 : (upd H2 f (.lst [])) f = some (.lst []) := upd_same
    generalize upd H2 f (.lst []) = H3 at s3 f3 ⊢
    have k3 := s2.trans s3
    walk_at "sx"
    refine ⟨p, _, dx, _, _, rfl, k3 _ _ h1, T.cl_Heap, T.na_Heap_rows, h2, ?_⟩
    walk_at "sx"
    have h43 := SqT.same h4 k3
    have rb := hr'.2.2
    refine r_seqN h43 ?_
    refine fr_it (walk_num (ys := iv rs)) (fun i σ' H' => Same H2 H' ∧ ∃ ps y4 y5 y6, σ' = [some (.ref p), some (.ref t2), some (.ref f), y4, y5, y6] ∧ H' f = some (.lst (ps.map V.ref)) ∧ HT H' ps rs i)
      ⟨s3, [], _, _, _, rfl, f3, ⟨rfl, fun x p e => by simp at e⟩⟩ (fun i σ' H' _ z => SqT.same (SqT.same h4 s2) z.1) ?_ ?_
    · rintro i x σ' H4 H5 hi ⟨s4, ps, y4, y5, y6, rfl, f4, ph⟩ ⟨T', u', z, rfl, hT, rfl, hu', hz⟩
      cases hu'
      rw [iv_len] at hi
      obtain ⟨n, hn, rfl⟩ := iv_at hz
      have n60 := hr'.2.1 n (List.mem_of_getElem? hn)
      have nd : rs.getD i 0 = n := by rw [List.getD_eq_getElem?_getD, hn]; rfl
      have s5 : Same H2 (upd H4 T' (.tup [.int (i : Nat), .int (n : Int)])) := s4.trans (same_new hT)
      have f5 := same_new (o := .tup [.int (i : Nat), .int (n : Int)]) hT _ _ f4
      have ph5 := ph.mono (same_new (o := .tup [.int (i : Nat), .int (n : Int)]) hT)
      refine r_gtup upd_same rfl ?_
      generalize upd H4 T' (.tup [.int (i : Nat), .int (n : Int)]) = H5 at s5 f5 ph5 ⊢
      walk_at "sx"
      refine ⟨tyL f5, ?_⟩
      walk_at "sx"
      refine r_rng1 ?_ (by omega) (by omega)
      rw [Int.toNat_natCast]
      refine lw_range (fun D c H' => Same H5 H' ∧ H' D = some (.lst (iv ((List.range c).map (Hk.hk rs i))))) (fun D hD => ⟨same_new hD, by rw [upd_same]; rfl⟩) ?_ ?_
      · rintro D hD c H6 hc ⟨s6, d6⟩
        have cn : c < rs.headD 0 := by
          have := Ex.head_max hr'.1 n (List.mem_of_getElem? hn); omega
        have ca := Ex.tn_at cn
        have ia : i < Ex.above rs c := (Ex.above_iff hr'.1 i c).mpr ⟨hi, by rw [nd]; exact hc⟩
        have tl := Ex.tn_len rs
        have c0 : (0 : Int) + (c : Int) = (c : Int) := Int.zero_add _
        walk_at "sx"
        refine ⟨rfl, ?_⟩
        walk_at "sx"
        refine ⟨t2, _, (c : Int), .int ((Ex.tn rs).getD c 0 : Nat), rfl, by rw [Int.zero_add], SqT.same g4 (s5.trans s6), ?_, ?_⟩
        · refine atI_nat ?_
          unfold iv
          rw [List.getElem?_map, List.getElem?_map, List.getD_eq_getElem?_getD, List.getElem?_eq_getElem (by omega)]; rfl
        walk_at "sx"
        refine ⟨_, d6, by rw [iv_len, List.length_map, List.length_range, sizeLine_eq]; omega, same_mut s6 hD, ?_⟩
        have e : ((n : Int) - (0 + (c : Int)) + (((Ex.tn rs).getD c 0 : Nat) : Int) - (i : Nat) - 1) = ((Hk.hk rs i c : Nat) : Int) := by
          unfold Hk.hk
          rw [ca, nd]; omega
        rw [upd_same, List.range_succ, List.map_append, List.map_singleton, e, ← iv_snoc]
      · rintro D hD H6 ⟨s6, d6⟩
        walk_at "sx"
        refine r_tupOfL (SqL.of d6) fun t7 ht7 => ?_
        have s7 : Same H5 (upd H6 t7 (.tup (iv ((List.range n).map (Hk.hk rs i))))) := s6.trans (same_new ht7)
        have e7 : (upd H6 t7 (.tup (iv ((List.range n).map (Hk.hk rs i))))) t7 = some (.tup (iv (hrow rs i))) := by rw [upd_same]; unfold hrow; rw [nd]
        generalize upd H6 t7 (.tup (iv ((List.range n).map (Hk.hk rs i)))) = H7 at s7 e7 ⊢
        have f7 := s7 _ _ f5
        have tf : t7 ≠ f := fun e => by rw [e, f7] at e7; cases e7
        walk_at "sx"
        refine r_app f7 ?_ (by rw [List.length_map, ph5.len, sizeLine_eq]; omega)
        refine ⟨same_mut (s5.trans s7) hf, ps ++ [t7], _, _, _, rfl, ?_, ?_⟩
        · rw [upd_same, List.map_append]; rfl
        · refine HT.snoc (HT.off (ph5.mono s7) f7) ?_
          rw [upd_ne tf]; exact e7
    · rintro σ' H4 ⟨s4, ps, y4, y5, y6, rfl, f4, ph⟩
      rw [iv_len] at ph
      walk_at "sx"
      refine r_tupOfL (SqL.of f4) fun z hz => ?_
      exact q z ps _ (s2.trans (s4.trans (same_new hz))) upd_same (ph.mono (same_new hz))
end
end Lw

namespace Lw
open PySem PySem.Spec PyProof.Rows L2 Sx Sy Sw Me Mw
open En (NoNum)
open SX (S)
open C8 (pe_gc)
open SkE (call_repr_int call_str_str)
open RZ (pi_zipA)
section
variable {P : Program} {w : World} {K : PySem.W.Frag} {mg : Str → Option Value} {base : Heap}
/-! ### shelf_of -/
theorem heap_ins {K : PySem.W.Frag} {C : Addr} {H : Hp} {v : V} {rs : List Nat} (h : HeapAt K C H v rs) : ∃ p dx fs, v = .ref p ∧ H p = some (.ins C dx fs) := by
  obtain ⟨p, dx, fs, t, e1, e2, _⟩ := h
  exact ⟨p, dx, fs, e1, e2⟩
theorem md_heap {K : PySem.W.Frag} {C : Addr} {H : Hp} {v : V} {rs : List Nat} {f : Str} {Pr : Prop} (h : HeapAt K C H v rs) (n1 : f ≠ "_rows") (n2 : f ≠ "_size") (n3 : f ≠ "_first_hooks") (n4 : f ≠ "_key") (pr : Pr) : ∃ p dx fs, v = .ref p ∧ H p = some (.ins C dx fs) ∧ fs.lookup f = none ∧ Pr := by
  obtain ⟨p, dx, fs, t, e1, e2, _, _, _, _, _, nf, _⟩ := h
  exact ⟨p, dx, fs, e1, e2, nf f n1 n2 n3 n4, pr⟩
theorem rd_first {K : PySem.W.Frag} {C : Addr} {H : Hp} {v : V} {rs : List Nat} {Q : VK} {E : XK} (h : HeapAt K C H v rs) (q : ∀ t, H t = some (.tup (iv (Hk.fh rs))) → Q (.ref t) H) : ∃ p dx fs, v = .ref p ∧ H p = some (.ins C dx fs) ∧ getSp C "_first_hooks" (.ref p :: []) H Q E := by
  obtain ⟨p, dx, fs, t, rfl, e1, _, _, _, _, _, _, g, e2, e3⟩ := h
  exact ⟨p, dx, _, rfl, e1, r_getSp e1 e2 (q g e3)⟩
def sp_check_heap (K : PySem.W.Frag) (C : Addr) : Sp := fun vs H Q _ => ∃ v rs, vs = [v] ∧ HeapAt K C H v rs ∧ Q .non H
theorem ok_check_heap (T : Tx K mg) : FnOk P w K mg base CX0 1 T.a_check_heap T.d_check_heap ["heap"] (sp_check_heap K T.C_Heap) := by
  refine T.F_check_heap.ok sc_check_heap (fun vs H Q E h => ?_) (fun cdv A outer s H vs Q E hr h => ?_)
  · obtain ⟨v, rs, rfl, _⟩ := h; rfl
  · obtain ⟨v, rs, rfl, hv, q⟩ := h
    refine ⟨_, (pss_one (ps_if (pt_not (pt_val (pe_callB call_isi (by rfl) T.n_isinstance Sx.bt_isinstance (pa_cons (pv 0) (pa_cons (pe_glob (v := .ref T.C_Heap) (by rfl) T.g_Heap rfl) pa_nil))))) pss_never pss_nil)), ?_⟩
    obtain ⟨p, dx, fs, rfl, e⟩ := heap_ins hv
    refine Sx.r_st (σ' := [some (.ref p)]) rfl ?_
    walk_at "sxi"
    refine r_isi_own e T.cl_Heap T.ic_Heap T.cg T.ct T.mr_Heap T.ks_Heap ?_
    walk_at "sx"
    exact q
def sp_shelf_of (K : PySem.W.Frag) (CS CH C : Addr) : Sp := fun vs H Q _ => ∃ (sv v : V) (a b : Nat) (l : List Nat), vs = [sv, v] ∧ SlopeAt CS H sv a b ∧ HeapAt K C H v (Du.hr (Du.gN a b l)) ∧ Du.Sh a b l ∧ Rows (Ex.tn (Du.hr (Du.gN a b l))) ∧
  ∀ u H', Same H H' → ShelfAt K CS CH H' u a b l → Q u H'
theorem ok_shelf_of (T : Tx K mg) : FnOk P w K mg base CX0 9 T.a_shelf_of T.d_shelf_of ["slope", "heap"] (sp_shelf_of K T.C_Slope T.C_Shelf T.C_Heap) := by
  refine T.F_shelf_of.ok sc_shelf_of (fun vs H Q E h => ?_) (fun cdv A outer s H vs Q E hr h => ?_)
  · obtain ⟨sv, v, a, b, l, rfl, _⟩ := h; rfl
  · obtain ⟨sv, v, a, b, l, rfl, hS, hv, s, rt, q⟩ := h
    refine ⟨_, (pss_cons (ps_expr (pe_call (ok_check_slope T) (hr.mono (by decide)) (by rfl) T.g_check_slope T.F_check_slope.kp T.b_check_slope .nil pass0 (pa_cons (pv 0) pa_nil)))
      (pss_cons (ps_expr (pe_call (ok_check_heap T) (hr.mono (by decide)) (by rfl) T.g_check_heap T.F_check_heap.kp T.b_check_heap .nil pass0 (pa_cons (pv 1) pa_nil)))
      (pss_cons (ps_expr (pe_call (ok_check_coprime T) (hr.mono (by decide)) (by rfl) T.g_check_coprime T.F_check_coprime.kp T.b_check_coprime .nil pass0 (pa_cons (pv 0) pa_nil)))
      (pss_cons (ps_for PassesOwn.never rfl (Sy.pi_enumT (by rfl) T.n_enumerate (pa_cons (pe_meth0 (pv 1) T.cl_Heap T.me_Heap_hooks (ok_Heap_hooks T) (hr.mono (by decide)) T.b_Heap_hooks .nil pass0) pa_nil)) (pg_tup rfl (pgs_cons (pg_name (i := 2) sc_shelf_of.nd rfl (.inl rfl)) (pgs_cons (pg_name (i := 3) sc_shelf_of.nd rfl (.inl rfl)) pgs_nil))) (pss_one (ps_for PassesOwn.never rfl (Sy.pi_enumT (by rfl) T.n_enumerate (pa_cons (pv 3) pa_nil)) (pg_tup rfl (pgs_cons (pg_name (i := 4) sc_shelf_of.nd rfl (.inl rfl)) (pgs_cons (pg_name (i := 5) sc_shelf_of.nd rfl (.inl rfl)) pgs_nil))) (pss_one (ps_if (pt_cmpR op_in_seq (pv 5) (pe_tup (pa_cons (pe_prop (pv 0) T.cl_Slope T.pr_Slope_rises (ok_Slope_rises T) (hr.mono (by decide)) T.b_Slope_rises .nil pass0 rfl) (pa_cons (pe_prop (pv 0) T.cl_Slope T.pr_Slope_steps (ok_Slope_steps T) (hr.mono (by decide)) T.b_Slope_steps .nil pass0 rfl) pa_nil))) (by rfl)) pss_never pss_nil)))))
      (pss_one (ps_ret (pe_make T.mk_Shelf (ok_Shelf_init T) (hr.mono (by decide)) (by rfl) T.g_Shelf T.b_Shelf_init .nil pass0 (pa_cons (pv 0) (pa_cons (pe_prop (pv 1) T.cl_Heap T.pr_Heap_first_hooks (ok_Heap_first_hooks T) (hr.mono (by decide)) T.b_Heap_first_hooks .nil pass0 rfl) pa_nil))))))))), ?_⟩
    refine Sx.r_st (σ' := [some (sv), some (v), none, none, none, none]) rfl ?_
    have ab := hS.1
    walk_at "sx"
    refine ⟨sv, a, b, rfl, hS, ?_⟩
    walk_at "sx"
    refine ⟨v, _, rfl, hv, ?_⟩
    walk_at "sx"
    refine ⟨sv, a, b, rfl, hS, s.hg, ?_⟩
    walk_at "sx"
    refine md_heap hv (by decide +kernel) (by decide +kernel) (by decide +kernel) (by decide +kernel) ?_
    walk_at "sx"
    refine ⟨v, _, rfl, hv, rt, fun t ps H1 s1 e1 ht => ?_⟩
    walk_at "sx"
    refine r_seqN (SqT.of e1) ?_
    refine fr_it (walk_num (ys := ps.map V.ref)) (fun i σ' H' => Same H1 H' ∧ ∃ y2 y3 y4 y5, σ' = [some sv, some v, y2, y3, y4, y5]) ⟨Same.refl H1, _, _, _, _, rfl⟩ (fun i σ' H' _ z => SqT.of (z.1 _ _ e1)) ?_ ?_
    · rintro x w σ' H4 H5 hi ⟨s4, y2, y3, y4, y5, rfl⟩ ⟨T', u', z, rfl, hT, rfl, hu', hz⟩
      cases hu'
      have hz : (ps.map V.ref)[x]? = some z := hz
      rw [List.getElem?_map] at hz
      obtain ⟨pp, hp, rfl⟩ := Option.map_eq_some_iff.mp hz
      have xl := (List.getElem?_eq_some_iff.mp hp).1
      rw [ht.len] at xl
      have s5 : Same H1 (upd H4 T' (.tup [.int (x : Nat), .ref pp])) := s4.trans (same_new hT)
      refine r_gtup upd_same rfl ?_
      generalize upd H4 T' (.tup [.int (x : Nat), .ref pp]) = H5 at s5 ⊢
      have ep := s5 _ _ (ht.at_ x pp hp)
      walk_at "sx"
      refine r_seqN (SqT.of ep) ?_
      refine fr_it (walk_num (ys := iv (hrow (Du.hr (Du.gN a b l)) x))) (fun i σ' H' => Same H1 H' ∧ ∃ y2 y3 y4 y5, σ' = [some sv, some v, y2, y3, y4, y5]) ⟨s5, _, _, _, _, rfl⟩ (fun i σ' H' _ z => SqT.of (z.1 _ _ (ht.at_ x pp hp))) ?_ ?_
      · rintro y w σ' H6 H7 hi2 ⟨s6, y2, y3, y4, y5, rfl⟩ ⟨T2, u2, z2, rfl, hT2, rfl, hu2, hz2⟩
        cases hu2
        obtain ⟨h, hh, rfl⟩ := iv_at hz2
        have s7 : Same H1 (upd H6 T2 (.tup [.int (y : Nat), .int (h : Int)])) := s6.trans (same_new hT2)
        refine r_gtup upd_same rfl ?_
        generalize upd H6 T2 (.tup [.int (y : Nat), .int (h : Int)]) = H7 at s7 ⊢
        have yl : y < (Du.hr (Du.gN a b l)).getD x 0 := by
          rw [iv_len] at hi2; unfold hrow at hi2; rw [List.length_map, List.length_range] at hi2; exact hi2
        have eh : h = Hk.hk (Du.hr (Du.gN a b l)) x y := by
          unfold hrow at hh
          rw [List.getElem?_map, List.getElem?_range yl] at hh
          exact (Option.some.inj hh).symm
        have no := Hk.no_hook s xl yl
        rw [← eh] at no
        have hS7 := (hS.mono s1).mono s7
        walk_at "sxi"
        refine rd_r hS7 ?_
        walk_at "sx"
        refine rd_s hS7 ?_
        walk_at "sx"
        refine ⟨sz _ (Nat.le_of_ble_eq_true rfl), fun t8 ht8 => ?_⟩
        have s8 := same_new (o := .tup [.int (a : Int), .int (b : Int)]) ht8
        have e8 : (upd H7 t8 (.tup [.int (a : Int), .int (b : Int)])) t8 = some (.tup (([(a : Int), (b : Int)] : List Int).map V.int)) := upd_same
        generalize upd H7 t8 (.tup [.int (a : Int), .int (b : Int)]) = H8 at s8 e8 ⊢
        refine ⟨t8, _, rfl, .inr (SqT.of e8), rfl, flat_ints _, ?_⟩
        show ∃ k, V.bl (if false = true then (!inV (.int (h : Int)) (([(a : Int), (b : Int)] : List Int).map V.int)) else inV (.int (h : Int)) (([(a : Int), (b : Int)] : List Int).map V.int)) = V.bl k ∧ _
        rw [show (if false = true then (!inV (.int (h : Int)) (([(a : Int), (b : Int)] : List Int).map V.int)) else inV (.int (h : Int)) (([(a : Int), (b : Int)] : List Int).map V.int)) = decide ((h : Int) ∈ [(a : Int), (b : Int)]) from inV_ints]
        refine ⟨_, rfl, ?_⟩
        rw [decide_eq_false (by simp; omega)]
        walk_at "sx"
        exact ⟨s7.trans s8, _, _, _, _, rfl⟩
      · rintro σ' H6 ⟨s6, y2, y3, y4, y5, rfl⟩
        exact ⟨s6, _, _, _, _, rfl⟩
    · rintro σ' H4 ⟨s4, y2, y3, y4, y5, rfl⟩
      walk_at "sx"
      have hv4 := (hv.mono s1).mono s4
      refine rd_first hv4 fun g hg9 => ?_
      rw [Hk.fh_hr Du.gN_asc fun x m => (Du.gN_lt s m).1, ← gaps_iv s] at hg9
      walk_at "sx"
      exact mk_shelf (l := l) ((hS.mono s1).mono s4) s.hg s.way (SqT.of hg9) fun u H5 s5 hu => q u H5 (s1.trans (s4.trans s5)) hu
end
end Lw

namespace Lw
open PySem PySem.Spec PyProof.Rows L2 Sx Sy Sw Me Mw
open En (NoNum)
open SX (S)
open C8 (pe_gc)
open SkE (call_repr_int call_str_str)
open RZ (pi_zipA)
section
variable {P : Program} {w : World} {K : PySem.W.Frag} {mg : Str → Option Value} {base : Heap}
open Mg in
def sp_Shelf_exchanged (K : PySem.W.Frag) (CS CH : Addr) : Sp := fun vs H Q _ => ∃ v, ∃ a b : Nat, ∃ l : List Nat, vs = [v] ∧ ShelfAt K CS CH H v a b l ∧ ∀ u H', Same H H' → ShelfAt K CS CH H' u b a (exch l) → Q u H'
theorem ok_Shelf_exchanged (T : Tx K mg) : FnOk P w K mg base CX0 9 T.a_Shelf_exchanged T.d_Shelf_exchanged ["self"] (sp_Shelf_exchanged K T.C_Slope T.C_Shelf) := by
  refine T.F_Shelf_exchanged.ok sc_Shelf_exchanged (fun vs H Q E h => ?_) (fun cdv A outer s H vs Q E hr h => ?_)
  · obtain ⟨v, a, b, l, rfl, _⟩ := h; rfl
  · obtain ⟨v, a, b, l, rfl, ⟨hW, hg, p, dx, sv, t, d, r, s, m, rfl, e, hi⟩, q⟩ := h
    have hS := hi.1
    have ab := hS.1
    refine ⟨_, (pss_one (ps_ret (pe_make T.mk_Shelf (ok_Shelf_init T) (hr.mono (by decide)) (by rfl) T.g_Shelf T.b_Shelf_init .nil pass0 (pa_cons (pe_meth0 (pe_fld (pv 0) rfl) T.cl_Slope T.me_Slope_exchanged (ok_Slope_exchanged T) (hr.mono (by decide)) T.b_Slope_exchanged .nil pass0) (pa_cons (pe_fld (pv 0) rfl) pa_nil))))), ?_⟩
    refine Sx.r_st (σ' := [some (.ref p)]) rfl ?_
    walk_at "sx"
    refine ⟨p, _, dx, _, _, rfl, e, T.cl_Shelf, T.na_Shelf_slope, by rw [shF_get, if_neg (by decide +kernel), if_neg (by decide +kernel), if_neg (by decide +kernel), if_neg (by decide +kernel), if_neg (by decide +kernel), if_pos rfl], ?_⟩
    walk_at "sx"
    refine md_slope hS (by decide +kernel) (by decide +kernel) (by decide +kernel) ?_
    walk_at "sx"
    refine ⟨sv, a, b, rfl, hS, fun u H1 s1 hu => ?_⟩
    walk_at "sx"
    refine ⟨p, _, dx, _, _, rfl, s1 _ _ e, T.cl_Shelf, T.na_Shelf_gaps, by rw [shF_get, if_neg (by decide +kernel), if_neg (by decide +kernel), if_neg (by decide +kernel), if_neg (by decide +kernel), if_pos rfl], ?_⟩
    walk_at "sx"
    refine mk_shelf (l := exch l) hu (by rw [Nat.gcd_comm]; exact hg) (exch_way hW) ?_ fun u H2 s2 hu => q u H2 (fun c o e => s2 _ _ (s1 _ _ e)) hu
    rw [Mg.gaps_exch hW (by omega) (by omega) hg]
    exact SqT.same hi.2.1 s1
/-- these are the pairs -/
structure PA (H : Hp) (ps : List Addr) (qs : List (Nat × Nat)) : Prop where
  len : ps.length = qs.length
  at_ : ∀ (j : Nat) (p : Addr) (q : Nat × Nat), ps[j]? = some p → qs[j]? = some q → H p = some (.tup [.int (q.1 : Nat), .int (q.2 : Nat)])
theorem PA.mono {H H' : Hp} {ps : List Addr} {qs : List (Nat × Nat)} (h : PA H ps qs) (s : Same H H') : PA H' ps qs := ⟨h.len, fun j p q e1 e2 => s _ _ (h.at_ j p q e1 e2)⟩
theorem PA.snoc {H : Hp} {ps : List Addr} {qs : List (Nat × Nat)} (h : PA H ps qs) {x y : Nat} {t : Addr} (e : H t = some (.tup [.int x, .int y])) : PA H (ps ++ [t]) (qs ++ [(x, y)]) := by
  refine ⟨by rw [List.length_append, List.length_append, h.len]; rfl, fun j p q e1 e2 => ?_⟩
  rcases Nat.lt_or_ge j ps.length with g | g
  · rw [List.getElem?_append_left g] at e1
    rw [List.getElem?_append_left (by rw [← h.len]; exact g)] at e2
    exact h.at_ j p q e1 e2
  · have l1 := (List.getElem?_eq_some_iff.mp e1).1
    rw [List.length_append, List.length_singleton] at l1
    have je : j = ps.length := by omega
    subst je
    rw [List.getElem?_append_right (Nat.le_refl _), Nat.sub_self] at e1
    rw [h.len, List.getElem?_append_right (Nat.le_refl _), Nat.sub_self] at e2
    obtain rfl := Option.some.inj e1
    obtain rfl := Option.some.inj e2
    exact e
theorem PA.off {H : Hp} {ps : List Addr} {qs : List (Nat × Nat)} {m : Addr} {o : HO} {ys : List V} (h : PA H ps qs) (hm : H m = some (.lst ys)) : PA (upd H m o) ps qs := by
  refine ⟨h.len, fun j p q e1 e2 => ?_⟩
  have := h.at_ j p q e1 e2
  rw [upd_ne (fun e => by rw [e, hm] at this; cases this)]; exact this
theorem PA.app {H : Hp} {ps qs : List Addr} {xs ys : List (Nat × Nat)} (h1 : PA H ps xs) (h2 : PA H qs ys) : PA H (ps ++ qs) (xs ++ ys) := by
  refine ⟨by rw [List.length_append, List.length_append, h1.len, h2.len], fun j p q e1 e2 => ?_⟩
  rcases Nat.lt_or_ge j ps.length with g | g
  · rw [List.getElem?_append_left g] at e1
    rw [List.getElem?_append_left (by rw [← h1.len]; exact g)] at e2
    exact h1.at_ j p q e1 e2
  · rw [List.getElem?_append_right g] at e1
    rw [List.getElem?_append_right (by rw [← h1.len]; exact g), ← h1.len] at e2
    exact h2.at_ _ p q e1 e2
/-! ### the law's words -/
theorem r_lc3 {tl : TA} {g : TG} {tt : TT} {te : TE} {vs : List Nat} {σ : L2.St} {H : Hp} {Q : VK} (h : tl σ H fun us H1 => ∃ (i j c : Int) (n : Nat), us = [.int i, .int j, .int c] ∧ RgC i j c n ∧ LCW (L2.Itc i c n) g tt te vs σ H1 Q) : tLc (iRng3 tl) g tt te vs σ H Q := h
def sp_law_gaps_of : Sp := fun vs H Q _ => ∃ a b : Nat, ∃ l : List Nat, vs = [.int a, .int b, .str (S l)] ∧ IsWay a b l ∧ (1 ≤ a ∧ a ≤ 60 ∧ 1 ≤ b ∧ b ≤ 60) ∧ Nat.gcd a b = 1 ∧ ∀ p H', Same H H' → H' p = some (.tup ((Mg.gaps a b l).map V.int)) → Q (.ref p) H'
theorem ok_law_gaps_of (T : Tx K mg) : FnOk P w K mg base CX0 3 T.a_law_gaps_of T.d_law_gaps_of ["_law_rises", "_law_steps", "_law_text"] sp_law_gaps_of := by
  refine T.F_law_gaps_of.ok sc_law_gaps_of (fun vs H Q E h => ?_) (fun cdv A outer s H vs Q E hr h => ?_)
  · obtain ⟨a, b, l, rfl, _⟩ := h; rfl
  · obtain ⟨a, b, l, rfl, hW, ab, hg, q⟩ := h
    refine ⟨_, (pss_one (ps_ret (pe_callTy Sx.c_tupOf (by rfl) T.n_tuple Sx.bt_tuple (pa_cons (pe_call (ok_law_gaps T) (hr.mono (by decide)) (by rfl) T.g_law_gaps T.F_law_gaps.kp T.b_law_gaps .nil pass0 (pa_cons (pv 0) (pa_cons (pe_call (ok_law_makers T) (hr.mono (by decide)) (by rfl) T.g_law_makers T.F_law_makers.kp T.b_law_makers .nil pass0 (pa_cons (pv 0) (pa_cons (pv 1) (pa_cons (pv 2) pa_nil)))) pa_nil))) pa_nil)))), ?_⟩
    refine Sx.r_st (σ' := [some (.int a), some (.int b), some (.str (S l))]) rfl ?_
    walk_at "sx"
    refine ⟨a, b, l, rfl, hW, ab, hg, fun p1 H1 s1 hp1 e1 => ?_⟩
    walk_at "sx"
    refine ⟨a, b, l, p1, rfl, e1, hW, ab, hg, fun p2 H2 s2 hp2 e2 => ?_⟩
    walk_at "sx"
    refine r_tupOfL (SqL.of e2) fun z hz => ?_
    exact q z _ (s1.trans (s2.trans (same_new hz))) upd_same
def sp_law_dual (K : PySem.W.Frag) : Sp := fun vs H Q _ => ∃ a b : Nat, ∃ l l' : List Nat, ∃ t, vs = [.ref t] ∧ H t = some (.tup ((Mg.gaps a b l).map V.int)) ∧ Du.Sh a b l ∧ Du.IsDual a b l l' ∧ a ≤ 60 ∧ b ≤ 60 ∧ ∀ p H', Same H H' → SqT K H' p ((Mg.gaps a b l').map V.int) → Q (.ref p) H'
theorem ok_law_dual (T : Tx K mg) : FnOk P w K mg base CX0 1 T.a_law_dual T.d_law_dual ["_law_gaps_here"] (sp_law_dual K) := by
  refine T.F_law_dual.ok sc_law_dual (fun vs H Q E h => ?_) (fun cdv A outer s H vs Q E hr h => ?_)
  · obtain ⟨a, b, l, l', t, rfl, _⟩ := h; rfl
  · obtain ⟨a, b, l, l', t, rfl, ht, s, d, ha, hb, q⟩ := h
    refine ⟨_, (pss_cons (ps_if (pt_cmpR (op_eqD hr.units) (pv 0) (pe_tup pa_nil) (nomark _)) (pss_one (ps_ret (pe_tup pa_nil))) pss_nil)
      (pss_cons (ps_set (i := 1) sc_law_dual.nd rfl (.inr rfl) (pe_ix ix_tup (pv 0) (pe_un un_neg pe_int) (fun _ _ => rfl)))
      (pss_one (ps_ret (pe_callTy Sx.c_tupOf (by rfl) T.n_tuple Sx.bt_tuple (pa_cons (pe_lc (own := [("_law_number", 2)]) (g := (gName 2)) rfl sc_law_dual.nd (pi_range3 (by rfl) T.n_range (pa_cons (pe_op op_sub (pv 1) pe_int) (pa_cons (pe_un un_neg pe_int) (pa_cons (pe_un un_neg pe_int) pa_nil)))) (blkOk_by (N := N_law_dual) (sc := defScope st_law_dual) (by decide +kernel)) (fun _ _ _ _ _ => (pg_name (i := 2) sc_law_dual.nd rfl (.inl rfl))) (fun _ _ _ _ _ => (pts_one (pt_cmpR (show OpR _ _ (rIn K true) from op_notIn_seq) (pv 2) (pv 0) (by rfl)))) (fun _ _ _ _ _ => (pe_op op_sub (pv 1) (pv 2)))) pa_nil)))))), ?_⟩
    refine Sx.r_st (σ' := [some (.ref t), none, none]) rfl ?_
    walk_at "sxi"
    refine ⟨Nat.zero_le _, fun e he => ?_⟩
    have s1 : Same H (upd H e (.tup [])) := same_new he
    have e1 : (upd H e (.tup [])) e = some (.tup (([] : List Int).map V.int)) := upd_same
    generalize upd H e (.tup []) = H1 at s1 e1 ⊢
    have t1 := s1 _ _ ht
    refine r_eqD (.tup (SqT.of t1) (dpI _)) (.tup (SqT.of e1) (dpI _)) sh_tupI sh_tupI ?_
    by_cases hn : Mg.gaps a b l = []
    · rw [hn, Me.eqv_same sh_tupI]
      walk_at "sx"
      refine ⟨Nat.zero_le _, fun p hp => ?_⟩
      exact q p _ (s1.trans (same_new hp)) (SqT.of (by rw [upd_same, d.nil s hn]; rfl))
    · have ev : PyData.eqv (.tuple ((Mg.gaps a b l).map PyData.int)) (.tuple (([] : List Int).map PyData.int)) = false := by
        cases hg : Mg.gaps a b l with
        | nil => exact absurd hg hn
        | cons x r => rfl
      rw [ev]
      have la0 : 0 ≤ Du.la a b l := (s.gap.mp (Du.last_mem hn)).1
      have las := Mg.gap_lt s.way s.ha s.hb s.hg la0 s.last
      have l36 : (a - 1) * (b - 1) ≤ 3600 := Nat.mul_le_mul (show a - 1 ≤ 60 by omega) (show b - 1 ≤ 60 by omega)
      have lst : atI ((Mg.gaps a b l).map V.int) (-1) = some (.int (Du.la a b l)) := at_last hn
      walk_at "sx"
      refine ⟨t, _, -1, _, rfl, rfl, SqT.of t1, lst, ?_⟩
      walk_at "sx"
      refine r_lc3 ?_
      walk_at "sx"
      refine ⟨Du.la a b l - 1, -1, -1, (Du.la a b l).toNat, rfl, ?_, ?_⟩
      · have := RgC.neg (i := Du.la a b l - 1) (j := -1) (by omega) (by omega) (by omega) (by omega)
        rw [show (Du.la a b l - 1 - -1).toNat = (Du.la a b l).toNat by omega] at this
        exact this
      refine lw_it walk_rangeC (fun D i H' => Same H1 H' ∧ H' D = some (.lst ((Du.dg a b l i).map V.int))) (fun D hD => ⟨same_new hD, by rw [upd_same]; rfl⟩) (fun D hD i H' _ z => trivial) ?_ ?_
      · rintro D hD i x H2 H3 hi2 ⟨s2, d2⟩ ⟨rfl, rfl⟩
        have ei : Du.la a b l - 1 + (i : Nat) * -1 = Du.la a b l - (1 + (i : Int)) := by omega
        show gName 2 (.int (Du.la a b l - 1 + (i : Nat) * -1)) _ _ _
        rw [ei]
        have len := Du.dg_len (a := a) (b := b) (l := l) i
        walk_at "sx"
        refine ⟨rfl, ?_⟩
        walk_at "sx"
        refine ⟨t, _, rfl, .inr (SqT.of (s2 _ _ t1)), rfl, flat_ints _, ?_⟩
        show ∃ k, V.bl (if true = true then (!inV (.int (Du.la a b l - (1 + (i : Int)))) ((Mg.gaps a b l).map V.int)) else inV (.int (Du.la a b l - (1 + (i : Int)))) ((Mg.gaps a b l).map V.int)) = V.bl k ∧ _
        rw [if_pos rfl, inV_ints]
        refine ⟨_, rfl, ?_⟩
        by_cases g : (Du.la a b l - (1 + (i : Int))) ∈ Mg.gaps a b l
        · rw [decide_eq_true g]
          walk_at "sx"
          refine ⟨s2, ?_⟩
          rw [Du.dg_no g]; exact d2
        · rw [decide_eq_false g]
          walk_at "sx"
          refine ⟨_, d2, ?_, same_mut s2 hD, ?_⟩
          · rw [List.length_map, sizeLine_eq]; omega
          · rw [upd_same, Du.dg_yes g, List.map_append, show Du.la a b l - (Du.la a b l - (1 + (i : Int))) = 1 + (i : Int) by omega]; rfl
      · rintro D hD H2 ⟨s2, d2⟩
        rw [Du.dg_is d s] at d2
        walk_at "sx"
        refine r_tupOfL (SqL.of d2) fun z hz => ?_
        exact q z _ (s1.trans (s2.trans (same_new hz))) (SqT.of upd_same)
end
end Lw

namespace Lw
open PySem PySem.Spec PyProof.Rows L2 Sx Sy Sw Me Mw
open En (NoNum)
open SX (S)
open C8 (pe_gc)
open SkE (call_repr_int call_str_str)
open RZ (pi_zipA)
section
variable {P : Program} {w : World} {K : PySem.W.Frag} {mg : Str → Option Value} {base : Heap}
/-! ### the law's squares and turned rows -/
/-- the squares of some rows -/
def sqs (rs : List Nat) (i : Nat) : List (Nat × Nat) := (List.range i).flatMap fun x => (List.range (rs.getD x 0)).map fun y => (x, y)
def sp_law_squares (K : PySem.W.Frag) : Sp := fun vs H Q _ => ∃ (t : Addr) (rs : List Nat), vs = [.ref t] ∧ SqT K H t (iv rs) ∧ Rows rs ∧ ∀ p ps H', Same H H' → H p = none → H' p = some (.lst (ps.map V.ref)) → PA H' ps (sqs rs rs.length) → Q (.ref p) H'
theorem sqs_len {rs : List Nat} (h : ∀ x, x ∈ rs → x ≤ 60) : ∀ i, i ≤ rs.length → (sqs rs i).length ≤ i * 60
  | 0, _ => Nat.le_refl _
  | i + 1, hi => by
    have ih := sqs_len h i (by omega)
    unfold sqs at ih ⊢
    rw [List.range_succ, List.flatMap_append, List.flatMap_singleton, List.length_append, List.length_map, List.length_range]
    have : rs.getD i 0 ≤ 60 := by
      rw [List.getD_eq_getElem?_getD, List.getElem?_eq_getElem (by omega)]
      exact h _ (List.getElem_mem _)
    omega
theorem ok_law_squares (T : Tx K mg) : FnOk P w K mg base CX0 1 T.a_law_squares T.d_law_squares ["_law_rows"] (sp_law_squares K) := by
  refine T.F_law_squares.ok sc_law_squares (fun vs H Q E h => ?_) (fun cdv A outer s H vs Q E hr h => ?_)
  · obtain ⟨t, rs, rfl, _⟩ := h; rfl
  · obtain ⟨t, rs, rfl, ht, hr', q⟩ := h
    refine ⟨_, (pss_cons (ps_set (i := 1) sc_law_squares.nd rfl (.inl rfl) (pe_lst pa_nil))
      (pss_cons (ps_for PassesOwn.never rfl (Sy.pi_enumT (by rfl) T.n_enumerate (pa_cons (pv 0) pa_nil)) (pg_tup rfl (pgs_cons (pg_name (i := 2) sc_law_squares.nd rfl (.inr rfl)) (pgs_cons (pg_name (i := 3) sc_law_squares.nd rfl (.inl rfl)) pgs_nil))) (pss_one (ps_expr (pe_bm PySem.F.plainAttrs_list PySem.F.slot_list_extend PySem.F.type_list_extend mt_extend (pv 1) (pa_cons (pe_lc (own := [("_law_column", 4)]) (g := (gName 4)) (tt := tYes) rfl sc_law_squares.nd (pi_range1 (by rfl) T.n_range (pa_cons (pv 3) pa_nil)) (blkOk_by (N := N_law_squares) (sc := defScope st_law_squares) (by decide +kernel)) (fun _ _ _ _ _ => (pg_name (i := 4) sc_law_squares.nd rfl (.inl rfl))) (fun _ _ _ _ _ => pts_nil) (fun _ _ _ _ _ => (pe_tup (pa_cons (pv 2) (pa_cons (pv 4) pa_nil))))) pa_nil)))))
      (pss_one (ps_ret (pv 1))))), ?_⟩
    refine Sx.r_st (σ' := [some (.ref t), none, none, none, none]) rfl ?_
    have rb := hr'.2.2
    walk_at "sx"
    refine ⟨Nat.zero_le _, fun f hf => ?_⟩
    have s1 : Same H (upd H f (.lst [])) := same_new hf
    have f1 : (upd H f (.lst [])) f = some (.lst []) := upd_same
    generalize upd H f (.lst []) = H1 at s1 f1 ⊢
    walk_at "sx"
    refine r_seqN (SqT.same ht s1) ?_
    refine fr_it (walk_num (ys := iv rs)) (fun i σ' H' => Same H H' ∧ ∃ ps y2 y3 y4, σ' = [some (.ref t), some (.ref f), y2, y3, y4] ∧ H' f = some (.lst (ps.map V.ref)) ∧ PA H' ps (sqs rs i))
      ⟨s1, [], none, none, none, rfl, f1, ⟨rfl, fun j p q e => by simp at e⟩⟩ (fun i σ' H' _ z => SqT.same ht z.1) ?_ ?_
    · rintro i x σ' H4 H5 hi ⟨s4, ps, y2, y3, y4, rfl, f4, pa⟩ ⟨T', u', z, rfl, hT, rfl, hu', hz⟩
      cases hu'
      rw [iv_len] at hi
      obtain ⟨n, hn, rfl⟩ := iv_at hz
      have n60 := hr'.2.1 n (List.mem_of_getElem? hn)
      have nd : rs.getD i 0 = n := by rw [List.getD_eq_getElem?_getD, hn]; rfl
      have sl := sqs_len (fun x m => (hr'.2.1 x m).2) i (by omega)
      have s5 : Same H (upd H4 T' (.tup [.int (i : Nat), .int (n : Int)])) := s4.trans (same_new hT)
      have f5 := same_new (o := .tup [.int (i : Nat), .int (n : Int)]) hT _ _ f4
      have pa5 := pa.mono (same_new (o := .tup [.int (i : Nat), .int (n : Int)]) hT)
      refine r_gtup upd_same rfl ?_
      generalize upd H4 T' (.tup [.int (i : Nat), .int (n : Int)]) = H5 at s5 f5 pa5 ⊢
      walk_at "sx"
      refine ⟨tyL f5, ?_⟩
      walk_at "sx"
      refine r_rng1 ?_ (by omega) (by omega)
      rw [Int.toNat_natCast]
      refine lw_range (fun D c H' => Same H5 H' ∧ ∃ qs, H' D = some (.lst (qs.map V.ref)) ∧ PA H' qs ((List.range c).map fun y => (i, y))) (fun D hD => ⟨same_new hD, [], upd_same, ⟨rfl, fun j p q e => by simp at e⟩⟩) ?_ ?_
      · rintro D hD c H6 hc ⟨s6, qs, d6, pq⟩
        have c0 : (0 : Int) + (c : Int) = (c : Int) := Int.zero_add _
        have ql := pq.len
        rw [List.length_map, List.length_range] at ql
        walk_at "sx"
        refine ⟨rfl, ?_⟩
        walk_at "sx"
        rw [c0]
        refine ⟨sz _ (Nat.le_of_ble_eq_true rfl), fun t9 ht9 => ?_⟩
        have s9 : Same H5 (upd H6 t9 (.tup [.int (i : Nat), .int (c : Nat)])) := s6.trans (same_new ht9)
        have d9 := same_new (o := .tup [.int (i : Nat), .int (c : Nat)]) ht9 _ _ d6
        have pa9 := pq.mono (same_new (o := .tup [.int (i : Nat), .int (c : Nat)]) ht9)
        have t99 : (upd H6 t9 (.tup [.int (i : Nat), .int (c : Nat)])) t9 = some (.tup [.int (i : Nat), .int (c : Nat)]) := upd_same
        have tf : t9 ≠ D := (ne_of_none d6 ht9).symm
        generalize upd H6 t9 (.tup [.int (i : Nat), .int (c : Nat)]) = H9 at s9 d9 pa9 t99 ⊢
        refine ⟨_, d9, by rw [List.length_map, sizeLine_eq]; omega, same_mut s9 hD, qs ++ [t9], ?_, ?_⟩
        · rw [upd_same, List.map_append]; rfl
        · rw [List.range_succ, List.map_append]
          refine PA.snoc (PA.off pa9 d9) ?_
          rw [upd_ne tf]; exact t99
      · rintro D hD H6 ⟨s6, qs, d6, pq⟩
        have ql := pq.len
        rw [List.length_map, List.length_range] at ql
        have f6 := s6 _ _ f5
        have fD : D ≠ f := (ne_of_none f5 hD).symm
        have pa6 := pa5.mono s6
        have pl := pa6.len
        walk_at "sx"
        refine ⟨f, D, _, _, rfl, rfl, f6, d6, ?_, ?_⟩
        · rw [List.length_map, List.length_map, sizeLine_eq]; omega
        refine ⟨same_mut (s5.trans s6) hf, ps ++ qs, _, _, _, rfl, ?_, ?_⟩
        · rw [upd_same, List.map_append]
        · have e1 : sqs rs (i + 1) = sqs rs i ++ (List.range n).map fun y => (i, y) := by
            unfold sqs
            rw [List.range_succ, List.flatMap_append, List.flatMap_singleton, nd]
          rw [e1]
          exact PA.app (PA.off pa6 f6) (PA.off pq f6)
    · rintro σ' H4 ⟨s4, ps, y2, y3, y4, rfl, f4, pa⟩
      rw [iv_len] at pa
      walk_at "sx"
      exact q f ps _ s4 hf f4 pa
/-- how many squares stand in each row -/
def cr (qs : List (Nat × Nat)) (r : Nat) : Nat := (qs.filter fun z => decide (z.1 = r)).length
def ro (qs : List (Nat × Nat)) (i : Nat) : List Nat := ((List.range i).map (cr qs)).filter fun x => decide (0 < x)
def sp_law_rows_of : Sp := fun vs H Q _ => ∃ (t : Addr) (ps : List Addr) (qs : List (Nat × Nat)), vs = [.ref t] ∧ H t = some (.lst (ps.map V.ref)) ∧ PA H ps qs ∧ qs.length ≤ 4000 ∧ ∀ p H', Same H H' → H' p = some (.tup (iv (ro qs qs.length))) → Q (.ref p) H'
theorem ok_law_rows_of (T : Tx K mg) : FnOk P w K mg base CX0 1 T.a_law_rows_of T.d_law_rows_of ["_law_squares_here"] sp_law_rows_of := by
  refine T.F_law_rows_of.ok sc_law_rows_of (fun vs H Q E h => ?_) (fun cdv A outer s H vs Q E hr h => ?_)
  · obtain ⟨t, ps, qs, rfl, _⟩ := h; rfl
  · obtain ⟨t, ps, qs, rfl, ht, pa, hl, q⟩ := h
    refine ⟨_, (pss_cons (ps_set (i := 1) sc_law_rows_of.nd rfl (.inl rfl) (pe_lst pa_nil))
      (pss_cons (ps_for PassesOwn.never rfl (pi_range1 (by rfl) T.n_range (pa_cons (pe_callB Sx.c_len (by rfl) T.n_len Sx.bt_len (pa_cons (pv 0) pa_nil)) pa_nil)) (pg_name (i := 2) sc_law_rows_of.nd rfl (.inr rfl)) (pss_cons (ps_set (i := 3) sc_law_rows_of.nd rfl (.inl rfl) (pe_callB Sx.c_len (by rfl) T.n_len Sx.bt_len (pa_cons (pe_lc (own := [("_law_square", 4)]) (g := (gName 4)) rfl sc_law_rows_of.nd (pi_list (pv 0)) (blkOk_by (N := N_law_rows_of) (sc := defScope st_law_rows_of) (by decide +kernel)) (fun _ _ _ _ _ => (pg_name (i := 4) sc_law_rows_of.nd rfl (.inl rfl))) (fun _ _ _ _ _ => (pts_one (pt_cmpR op_eq (pe_ix (show IxR _ (rIxT K) from ix_tup) (pv 4) pe_int (fun _ _ => rfl)) (pv 2) (nomark _)))) (fun _ _ _ _ _ => pe_int)) pa_nil)))
      (pss_one (ps_if (pt_cmpR op_gt (pv 3) pe_int (nomark _)) (pss_one (ps_expr (pe_bm PySem.F.plainAttrs_list PySem.F.slot_list_append PySem.F.type_list_append mt_append (pv 1) (pa_cons (pv 3) pa_nil)))) pss_nil))))
      (pss_one (ps_ret (pe_callTy Sx.c_tupOf (by rfl) T.n_tuple Sx.bt_tuple (pa_cons (pv 1) pa_nil)))))), ?_⟩
    refine Sx.r_st (σ' := [some (.ref t), none, none, none, none]) rfl ?_
    have pl := pa.len
    walk_at "sx"
    refine ⟨Nat.zero_le _, fun f hf => ?_⟩
    have s1 : Same H (upd H f (.lst [])) := same_new hf
    have f1 : (upd H f (.lst [])) f = some (.lst []) := upd_same
    generalize upd H f (.lst []) = H1 at s1 f1 ⊢
    walk_at "sx"
    refine r_lenL (SqL.of (s1 _ _ ht)) ?_
    rw [List.length_map, pl]
    walk_at "sx"
    refine r_rng1 ?_ (by omega) (by omega)
    rw [Int.toNat_natCast]
    refine fr_range (fun i σ' H' => Same H H' ∧ (∃ y2 y3 y4, σ' = [some (.ref t), some (.ref f), y2, y3, y4]) ∧ H' f = some (.lst (iv (ro qs i)))) ⟨s1, ⟨none, none, none, rfl⟩, f1⟩ ?_ ?_
    · rintro i σ' H2 hi ⟨s2, ⟨y2, y3, y4, rfl⟩, f2⟩
      have c0 : (0 : Int) + (i : Int) = (i : Int) := Int.zero_add _
      walk_at "sx"
      rw [c0]
      refine r_seqL (SqL.of (s2 _ _ ht)) ?_
      refine lw_list (fun D j H' => Same H2 H' ∧ H' D = some (.lst ((List.replicate (cr (qs.take j) i) (1 : Int)).map V.int))) (fun D hD => ⟨same_new hD, upd_same⟩) (fun D hD j H' _ z => SqL.of (z.1 _ _ (s2 _ _ ht))) ?_ ?_
      · rintro D hD j x H3 hx ⟨s3, d3⟩
        rw [List.getElem?_map] at hx
        obtain ⟨p, hp, rfl⟩ := Option.map_eq_some_iff.mp hx
        have jl := (List.getElem?_eq_some_iff.mp hp).1
        obtain ⟨z, hz⟩ : ∃ z, qs[j]? = some z := ⟨_, List.getElem?_eq_getElem (by rw [← pl]; exact jl)⟩
        have ep := s3 _ _ (s2 _ _ (pa.at_ j p z hp hz))
        have tk : cr (qs.take (j + 1)) i = cr (qs.take j) i + if z.1 = i then 1 else 0 := by
          unfold cr
          rw [List.take_add_one, hz, List.filter_append, List.length_append]
          congr 1
          by_cases h : z.1 = i
          · rw [if_pos h]; simp [h]
          · rw [if_neg h]; simp [h]
        have cl : cr (qs.take j) i ≤ j := by
          unfold cr
          refine Nat.le_trans (List.length_filter_le _ _) ?_
          rw [List.length_take]; omega
        walk_at "sx"
        refine ⟨rfl, ?_⟩
        walk_at "sx"
        refine ⟨p, _, 0, .int (z.1 : Nat), rfl, rfl, SqT.of ep, rfl, ?_⟩
        walk_at "sx"
        refine ite_d (fun h => ?_) (fun h => ?_)
        · walk_at "sx"
          refine ⟨_, d3, by rw [List.length_map, List.length_replicate, sizeLine_eq]; omega, same_mut s3 hD, ?_⟩
          rw [upd_same, tk, if_pos (by omega), List.replicate_succ', List.map_append]; rfl
        · refine ⟨s3, ?_⟩
          rw [tk, if_neg (by omega)]; exact d3
      · rintro D hD H3 ⟨s3, d3⟩
        rw [List.length_map, pl, List.take_length] at d3
        have cl : cr qs i ≤ qs.length := List.length_filter_le _ _
        have rk : ro qs (i + 1) = ro qs i ++ if 0 < cr qs i then [cr qs i] else [] := by
          unfold ro
          rw [List.range_succ, List.map_append, List.filter_append, List.map_singleton]
          congr 1
          by_cases h : 0 < cr qs i
          · rw [if_pos h]; simp [h]
          · rw [if_neg h]; simp at h; simp [h]
        have rl : (ro qs i).length ≤ i := by
          unfold ro
          refine Nat.le_trans (List.length_filter_le _ _) ?_
          rw [List.length_map, List.length_range]; exact Nat.le_refl _
        walk_at "sx"
        refine r_lenL (SqL.of d3) ?_
        rw [List.length_map, List.length_replicate]
        walk_at "sxi"
        refine ite_d (fun h => ?_) (fun h => ?_)
        · walk_at "sx"
          refine ⟨tyL (s3 _ _ f2), ?_⟩
          walk_at "sx"
          refine r_app (s3 _ _ f2) ?_ (by rw [iv_len, sizeLine_eq]; omega)
          refine ⟨same_mut (s2.trans s3) hf, ⟨_, _, _, rfl⟩, ?_⟩
          rw [upd_same, rk, if_pos (by omega), iv_snoc]
        · walk_at "sx"
          refine ⟨s2.trans s3, ⟨_, _, _, rfl⟩, ?_⟩
          rw [rk, if_neg (by omega), List.append_nil]; exact s3 _ _ f2
    · rintro σ' H2 ⟨s2, ⟨y2, y3, y4, rfl⟩, f2⟩
      walk_at "sx"
      refine r_tupOfL (SqL.of f2) fun z hz => ?_
      exact q z _ (s2.trans (same_new hz)) upd_same
end
end Lw

namespace Lw
open PySem PySem.Spec PyProof.Rows L2 Sx Sy Sw Me Mw
open En (NoNum)
open SX (S)
open C8 (pe_gc)
open SkE (call_repr_int call_str_str)
open RZ (pi_zipA)
section
variable {P : Program} {w : World} {K : PySem.W.Frag} {mg : Str → Option Value} {base : Heap}
/-! ### turned rows -/
theorem one_in (n c i : Nat) : ((((List.range n).map fun y => (y, i)).filter fun z : Nat × Nat => decide (z.1 = c))).length = if c < n then 1 else 0 := by
  induction n with
  | zero => simp
  | succ n ih =>
    rw [List.range_succ, List.map_append, List.filter_append, List.length_append, ih, List.map_singleton]
    by_cases h : n = c
    · subst h
      rw [if_neg (by omega), if_pos (by omega), List.filter_cons_of_pos (by simp)]; rfl
    · rw [List.filter_cons_of_neg (by simpa using h), List.filter_nil]
      by_cases g : c < n
      · rw [if_pos g, if_pos (by omega)]; rfl
      · rw [if_neg g, if_neg (by omega)]; rfl
def sw (z : Nat × Nat) : Nat × Nat := (z.2, z.1)
theorem cr_sqs (rs : List Nat) (c : Nat) : ∀ i, i ≤ rs.length → cr ((sqs rs i).map sw) c = Ex.above (rs.take i) c
  | 0, _ => rfl
  | i + 1, h => by
    have ih := cr_sqs rs c i (by omega)
    have e : rs[i]? = some (rs.getD i 0) := by rw [List.getD_eq_getElem?_getD, List.getElem?_eq_getElem h]; rfl
    have e1 : sqs rs (i + 1) = sqs rs i ++ (List.range (rs.getD i 0)).map fun y => (i, y) := by
      unfold sqs
      rw [List.range_succ, List.flatMap_append, List.flatMap_singleton]
    have e2 : ((List.range (rs.getD i 0)).map fun y => (i, y)).map sw = (List.range (rs.getD i 0)).map fun y => (y, i) := by
      rw [List.map_map]; rfl
    unfold cr at ih ⊢
    rw [e1, List.map_append, List.filter_append, List.length_append, ih, e2, one_in, List.take_add_one, e]
    unfold Ex.above
    rw [List.filter_append, List.length_append]
    congr 1
    by_cases g : c < rs.getD i 0
    · rw [if_pos g, Option.toList_some, List.filter_cons, if_pos (decide_eq_true g)]; rfl
    · rw [if_neg g, Option.toList_some, List.filter_cons, if_neg (by rw [decide_eq_false g]; decide)]; rfl
theorem sqs_sum (rs : List Nat) : ∀ i, i ≤ rs.length → (sqs rs i).length = (rs.take i).sum
  | 0, _ => rfl
  | i + 1, h => by
    have e : rs[i]? = some (rs.getD i 0) := by rw [List.getD_eq_getElem?_getD, List.getElem?_eq_getElem h]; rfl
    have ih := sqs_sum rs i (by omega)
    unfold sqs at ih ⊢
    rw [List.range_succ, List.flatMap_append, List.flatMap_singleton, List.length_append, ih, List.length_map, List.length_range, List.take_add_one, e, List.sum_append]
    simp
theorem ro_turned {rs : List Nat} (p : rs.Pairwise (fun x y => y ≤ x)) : ro ((sqs rs rs.length).map sw) ((sqs rs rs.length).map sw).length = Ex.tn rs := by
  have e : (List.range ((sqs rs rs.length).map sw).length).map (cr ((sqs rs rs.length).map sw)) = (List.range ((sqs rs rs.length).map sw).length).map (Ex.above rs) := List.map_congr_left fun c _ => by
    rw [cr_sqs rs c _ (Nat.le_refl _), List.take_length]
  unfold ro Ex.tn
  rw [e, List.filter_map]
  have f : ∀ c, ((fun x => decide (0 < x)) ∘ Ex.above rs) c = decide (c < rs.headD 0) := fun c => decide_eq_decide.mpr (Ex.above_pos p c)
  rw [List.filter_congr fun c _ => f c, Ex.filter_range]
  rw [List.length_map, sqs_sum rs _ (Nat.le_refl _), List.take_length]
  cases rs with
  | nil => exact Nat.zero_le _
  | cons y r => rw [List.sum_cons]; exact Nat.le_add_right _ _
def sp_law_turned (K : PySem.W.Frag) : Sp := fun vs H Q _ => ∃ (t : Addr) (rs : List Nat), vs = [.ref t] ∧ SqT K H t (iv rs) ∧ Rows rs ∧ ∀ p H', Same H H' → H' p = some (.tup (iv (Ex.tn rs))) → Q (.ref p) H'
theorem ok_law_turned_rows (T : Tx K mg) : FnOk P w K mg base CX0 2 T.a_law_turned_rows T.d_law_turned_rows ["_law_rows"] (sp_law_turned K) := by
  refine T.F_law_turned_rows.ok sc_law_turned_rows (fun vs H Q E h => ?_) (fun cdv A outer s H vs Q E hr h => ?_)
  · obtain ⟨t, rs, rfl, _⟩ := h; rfl
  · obtain ⟨t, rs, rfl, ht, hr', q⟩ := h
    refine ⟨_, (pss_one (ps_ret (pe_call (ok_law_rows_of T) (hr.mono (by decide)) (by rfl) T.g_law_rows_of T.F_law_rows_of.kp T.b_law_rows_of .nil pass0 (pa_cons (pe_lc (own := [("_law_row", 1), ("_law_column", 2)]) (g := (gTup K 2 (gCons (gName 1) (gCons (gName 2) gNil)))) (tt := tYes) rfl sc_law_turned_rows.nd (pi_list (pe_call (ok_law_squares T) (hr.mono (by decide)) (by rfl) T.g_law_squares T.F_law_squares.kp T.b_law_squares .nil pass0 (pa_cons (pv 0) pa_nil))) (blkOk_by (N := N_law_turned_rows) (sc := defScope st_law_turned_rows) (by decide +kernel)) (fun _ _ _ _ _ => (pg_tup rfl (pgs_cons (pg_name (i := 1) sc_law_turned_rows.nd rfl (.inl rfl)) (pgs_cons (pg_name (i := 2) sc_law_turned_rows.nd rfl (.inl rfl)) pgs_nil)))) (fun _ _ _ _ _ => pts_nil) (fun _ _ _ _ _ => (pe_tup (pa_cons (pv 2) (pa_cons (pv 1) pa_nil))))) pa_nil)))), ?_⟩
    refine Sx.r_st (σ' := [some (.ref t), none, none]) rfl ?_
    have sl := sqs_len (fun x m => (hr'.2.1 x m).2) rs.length (Nat.le_refl _)
    have rb := hr'.2.2
    walk_at "sx"
    refine ⟨t, rs, rfl, ht, hr', fun p1 ps1 H1 s1 hp1 e1 pa1 => ?_⟩
    walk_at "sx"
    refine r_seqL (SqL.of e1) ?_
    refine lw_list (fun D j H' => Same H1 H' ∧ ∃ qs, H' D = some (.lst (qs.map V.ref)) ∧ PA H' qs (((sqs rs rs.length).take j).map sw)) (fun D hD => ⟨same_new hD, [], upd_same, ⟨rfl, fun j p q e => by simp at e⟩⟩) (fun D hD j H' _ z => SqL.of (z.1 _ _ e1)) ?_ ?_
    · rintro D hD j x H3 hx ⟨s3, qs, d3, pq⟩
      rw [List.getElem?_map] at hx
      obtain ⟨p, hp, rfl⟩ := Option.map_eq_some_iff.mp hx
      have jl := (List.getElem?_eq_some_iff.mp hp).1
      obtain ⟨z, hz⟩ : ∃ z, (sqs rs rs.length)[j]? = some z := ⟨_, List.getElem?_eq_getElem (by rw [← pa1.len]; exact jl)⟩
      have ep := s3 _ _ (pa1.at_ j p z hp hz)
      have ql := pq.len
      rw [List.length_map, List.length_take] at ql
      refine r_gtup ep rfl ?_
      walk_at "sx"
      refine ⟨rfl, ?_⟩
      walk_at "sx"
      refine ⟨sz _ (Nat.le_of_ble_eq_true rfl), fun t9 ht9 => ?_⟩
      have s9 : Same H1 (upd H3 t9 (.tup [.int (z.2 : Nat), .int (z.1 : Nat)])) := s3.trans (same_new ht9)
      have d9 := same_new (o := .tup [.int (z.2 : Nat), .int (z.1 : Nat)]) ht9 _ _ d3
      have pa9 := pq.mono (same_new (o := .tup [.int (z.2 : Nat), .int (z.1 : Nat)]) ht9)
      have t99 : (upd H3 t9 (.tup [.int (z.2 : Nat), .int (z.1 : Nat)])) t9 = some (.tup [.int (z.2 : Nat), .int (z.1 : Nat)]) := upd_same
      have tf : t9 ≠ D := (ne_of_none d3 ht9).symm
      generalize upd H3 t9 (.tup [.int (z.2 : Nat), .int (z.1 : Nat)]) = H9 at s9 d9 pa9 t99 ⊢
      refine ⟨_, d9, by rw [List.length_map, sizeLine_eq]; omega, same_mut s9 hD, qs ++ [t9], ?_, ?_⟩
      · rw [upd_same, List.map_append]; rfl
      · rw [List.take_add_one, hz, List.map_append]
        refine PA.snoc (PA.off pa9 d9) ?_
        rw [upd_ne tf]; exact t99
    · rintro D hD H3 ⟨s3, qs, d3, pq⟩
      rw [List.length_map, pa1.len, List.take_length] at pq
      walk_at "sx"
      refine ⟨D, qs, _, rfl, d3, pq, by rw [List.length_map]; omega, fun p5 H5 s5 e5 => ?_⟩
      rw [ro_turned hr'.1] at e5
      exact q p5 H5 (s1.trans (s3.trans s5)) e5
end
end Lw

namespace Lw
open PySem PySem.Spec PyProof.Rows L2 Sx Sy Sw Me Mw
open En (NoNum)
open SX (S)
open C8 (pe_gc)
open SkE (call_repr_int call_str_str)
open RZ (pi_zipA)
section
variable {P : Program} {w : World} {K : PySem.W.Frag} {mg : Str → Option Value} {base : Heap}
/-! ### the law -/
theorem neq_gaps {K : PySem.W.Frag} {H : Hp} {Q : VK} {t u : Addr} {ns : List Int} (h1 : SqT K H t (ns.map V.int)) (h2 : SqT K H u (ns.map V.int)) (q : Q (.bl false) H) : rNeD K (.ref t) (.ref u) H Q := by
  refine r_neD (.tup h1 (dpI ns)) (.tup h2 (dpI ns)) sh_tupI sh_tupI ?_
  rw [Me.eqv_same sh_tupI]; exact q
theorem neq_shelf {K : PySem.W.Frag} {CS CH : Addr} {H : Hp} {Q : VK} {v u : V} {a b : Nat} {l m : List Nat} (h1 : ShelfAt K CS CH H v a b l) (h2 : ShelfAt K CS CH H u a b m) (eg : Mg.gaps a b l = Mg.gaps a b m) (q : Q (.bl false) H) : qOwnNe CH (sp_Shelf_eq K CS CH) v u H Q := by
  obtain ⟨p, dx, fs, rfl, e1⟩ := shelf_ins h1
  obtain ⟨p2, dx2, fs2, rfl, e2⟩ := shelf_ins h2
  refine ⟨p, dx, fs, p2, dx2, fs2, rfl, rfl, e1, e2, .inl ⟨.ref p, .ref p2, a, b, a, b, l, m, rfl, h1, h2, fun k hk => ⟨k, rfl, ?_⟩⟩⟩
  rw [hk.mpr ⟨rfl, rfl, eg⟩]; exact q
theorem md_shelf {K : PySem.W.Frag} {CS CH : Addr} {H : Hp} {v : V} {a b : Nat} {l : List Nat} {f : Str} {Pr : Prop} (h : ShelfAt K CS CH H v a b l) (n1 : f ≠ "_makers") (n2 : f ≠ "_step_makers") (n3 : f ≠ "_rise_makers") (n4 : f ≠ "_gap_table") (n5 : f ≠ "_gaps") (n6 : f ≠ "_slope") (pr : Pr) : ∃ p dx fs, v = .ref p ∧ H p = some (.ins CH dx fs) ∧ fs.lookup f = none ∧ Pr := by
  obtain ⟨_, _, p, dx, sv, t, d, r, s, m, e1, e2, _⟩ := h
  exact ⟨p, dx, _, e1, e2, by rw [shF_get, if_neg n1, if_neg n2, if_neg n3, if_neg n4, if_neg n5, if_neg n6], pr⟩
theorem gaps_uniq {a b : Nat} {l m k : List Nat} (s : Du.Sh a b l) (d1 : Du.IsDual a b l m) (d2 : Du.IsDual a b l k) : Mg.gaps a b m = Mg.gaps a b k :=
  Mg.asc_ext Mg.gaps_asc Mg.gaps_asc fun x => (d1.gap s).trans (d2.gap s).symm
theorem small_ab {a b : Nat} (h : a + b ≤ 17) : (a - 1) * (b - 1) ≤ 60 := by
  have z : ∀ a, a < 18 → ∀ b, b < 18 → a + b ≤ 17 → (a - 1) * (b - 1) ≤ 60 := by decide +kernel
  exact z a (by omega) b (by omega) h
theorem neq_way {CS CW : Addr} {H : Hp} {Q : VK} {v u : V} {a b : Nat} {l : List Nat} (h1 : WayAt CS CW H v a b l) (h2 : WayAt CS CW H u a b l) (q : Q (.bl false) H) : qOwnNe CW (sp_Way_eq CS CW) v u H Q := by
  obtain ⟨w1, p, dx, sv, t, r, k, rfl, e1, i1⟩ := id h1
  obtain ⟨w2, p2, dx2, sv2, t2, r2, k2, rfl, e2, i2⟩ := id h2
  refine ⟨p, dx, _, p2, dx2, _, rfl, rfl, e1, e2, .ref p, .ref p2, a, b, a, b, l, l, rfl, h1, h2, true, ?_, q⟩
  simp
theorem neq_heap {K : PySem.W.Frag} {C : Addr} {H : Hp} {Q : VK} {v u : V} {rs : List Nat} (h1 : HeapAt K C H v rs) (h2 : HeapAt K C H u rs) (q : Q (.bl false) H) : qOwnNe C (sp_Heap_eq K C) v u H Q := by
  obtain ⟨p, dx, fs, t, rfl, e1, _⟩ := id h1
  obtain ⟨p2, dx2, fs2, t2, rfl, e2, _⟩ := id h2
  exact ⟨p, dx, _, p2, dx2, _, rfl, rfl, e1, e2, .ref p, .ref p2, rs, rs, rfl, h1, h2, true, by rw [decide_eq_true rfl], q⟩
theorem eq_heap {K : PySem.W.Frag} {C : Addr} {H : Hp} {Q : VK} {v u : V} {rs us : List Nat} (h1 : HeapAt K C H v rs) (h2 : HeapAt K C H u us) (q : Q (.bl (decide (rs = us))) H) : qOwn C (sp_Heap_eq K C) v u H Q := by
  obtain ⟨p, dx, fs, t, rfl, e1, _⟩ := id h1
  obtain ⟨p2, dx2, fs2, t2, rfl, e2, _⟩ := id h2
  exact ⟨p, dx, _, p2, dx2, _, rfl, rfl, e1, e2, .ref p, .ref p2, rs, us, rfl, h1, h2, q⟩
theorem rd_rows {K : PySem.W.Frag} {C : Addr} {H : Hp} {v : V} {rs : List Nat} {Q : VK} {E : XK} (h : HeapAt K C H v rs) (q : ∀ t, SqT K H t (iv rs) → Q (.ref t) H) : ∃ p dx fs, v = .ref p ∧ H p = some (.ins C dx fs) ∧ getSp C "_rows" (.ref p :: []) H Q E := by
  obtain ⟨p, dx, fs, t, rfl, e1, e2, _, e4, _⟩ := h
  exact ⟨p, dx, _, rfl, e1, r_getSp e1 e2 (q t e4)⟩
theorem rd_size {K : PySem.W.Frag} {C : Addr} {H : Hp} {v : V} {rs : List Nat} {Q : VK} {E : XK} (h : HeapAt K C H v rs) (q : Q (.int ((rs.sum : Nat) : Int)) H) : ∃ p dx fs, v = .ref p ∧ H p = some (.ins C dx fs) ∧ getSp C "_size" (.ref p :: []) H Q E := by
  obtain ⟨p, dx, fs, t, rfl, e1, _, e3, _⟩ := h
  exact ⟨p, dx, _, rfl, e1, r_getSp e1 e3 q⟩
theorem sh_rows {a b : Nat} {l : List Nat} (s : Du.Sh a b l) (h60 : (a - 1) * (b - 1) ≤ 60) : Rows (Du.hr (Du.gN a b l)) :=
  hr_rows (Du.hr_desc s) (fun x m => by have := Du.gN_lt s m; omega) (by have := Du.gN_len s; omega)
theorem gN_eq {a b : Nat} {l m : List Nat} (s : Du.Sh a b l) (s2 : Du.Sh a b m) (e : Mg.gaps a b l = Mg.gaps a b m) : Du.gN a b l = Du.gN a b m := by
  rw [Du.gaps_N s, Du.gaps_N s2] at e
  exact cast_inj e
def spLaw (K : PySem.W.Frag) : Sp := fun vs H Q _ => ∃ (a : Addr) (ns : List Int), vs = [.ref a] ∧ SqL K H a (ns.map V.int) ∧ ns.length ≤ 63 ∧ ∀ H', Q (.bl true) H'
theorem ok_law (T : Tx K mg) : FnOk P w K mg base CX0 11 T.a_law T.d_law ["_law_script"] (spLaw K) := by
  refine T.F_law.ok sc_law (fun vs H Q E h => ?_) (fun cdv A outer s H vs Q E hr h => ?_)
  · obtain ⟨a, ns, rfl, _⟩ := h; rfl
  · obtain ⟨a, ns, rfl, hS, hl, q⟩ := h
    refine ⟨_, (pss_cons (ps_for PassesOwn.never rfl (pi_range1 (by rfl) T.n_range (pa_cons (pe_callB (Sx.c_max rfl) (by rfl) T.n_max Sx.bt_max (pa_cons pe_int (pa_cons (pe_callB (Sx.c_min rfl) (by rfl) T.n_min Sx.bt_min (pa_cons pe_int (pa_cons (pe_callB Sx.c_len (by rfl) T.n_len Sx.bt_len (pa_cons (pv 0) pa_nil)) pa_nil))) pa_nil))) pa_nil)) (pg_name (i := 1) sc_law.nd rfl (.inl rfl)) (pss_cons (ps_set (i := 2) sc_law.nd rfl (.inl rfl) (pe_call (ok_law_dice T) (hr.mono (by decide)) (by rfl) T.g_law_dice T.F_law_dice.kp T.b_law_dice .nil pass0 (pa_cons (pv 0) (pa_cons (pv 1) pa_nil))))
      (pss_cons (ps_asg (pe_call (ok_law_slope T) (hr.mono (by decide)) (by rfl) T.g_law_slope T.F_law_slope.kp T.b_law_slope .nil pass0 (pa_cons (pv 2) (pa_cons pe_int pa_nil))) (pg_tup rfl (pgs_cons (pg_name (i := 3) sc_law.nd rfl (.inl rfl)) (pgs_cons (pg_name (i := 4) sc_law.nd rfl (.inl rfl)) pgs_nil))))
      (pss_cons (ps_par (i := 5) (j := 6) (by rfl) sc_law.nd rfl rfl (by decide) rfl rfl (pa_cons (pe_make T.mk_Slope (ok_Slope_init T) (hr.mono (by decide)) (by rfl) T.g_Slope T.b_Slope_init .nil pass0 (pa_cons (pv 3) (pa_cons (pv 4) pa_nil))) (pa_cons (pe_call (ok_law_way T) (hr.mono (by decide)) (by rfl) T.g_law_way T.F_law_way.kp T.b_law_way .nil pass0 (pa_cons (pv 2) (pa_cons (pv 3) (pa_cons (pv 4) pa_nil)))) pa_nil)) (by rfl))
      (pss_cons (ps_par (i := 7) (j := 8) (by rfl) sc_law.nd rfl rfl (by decide) rfl rfl (pa_cons (pe_call (ok_law_gaps_of T) (hr.mono (by decide)) (by rfl) T.g_law_gaps_of T.F_law_gaps_of.kp T.b_law_gaps_of .nil pass0 (pa_cons (pv 3) (pa_cons (pv 4) (pa_cons (pv 6) pa_nil)))) (pa_cons (pe_make T.mk_Way (ok_Way_init T) (hr.mono (by decide)) (by rfl) T.g_Way T.b_Way_init .nil pass0 (pa_cons (pv 5) (pa_cons (pv 6) pa_nil))) pa_nil)) (by rfl))
      (pss_cons (ps_set (i := 9) sc_law.nd rfl (.inl rfl) (ClX.pe_cmeth (pe_glob (v := .ref T.C_Shelf) (by rfl) T.g_Shelf rfl) T.cr_Shelf T.cm_Shelf_of_way ((ok_Shelf_of_way T).raw T.b_Shelf_of_way .nil) (hr.mono (by decide)) pass0 (pa_cons (pv 8) pa_nil)))
      (pss_cons (ps_par (i := 10) (j := 11) (by rfl) sc_law.nd rfl rfl (by decide) rfl rfl (pa_cons (pe_call (ok_heap_of T) (hr.mono (by decide)) (by rfl) T.g_heap_of T.F_heap_of.kp T.b_heap_of .nil pass0 (pa_cons (pv 9) pa_nil)) (pa_cons (pe_meth0 (pv 9) T.cl_Shelf T.me_Shelf_dual (ok_Shelf_dual T) (hr.mono (by decide)) T.b_Shelf_dual .nil pass0) pa_nil)) (by rfl))
      (pss_cons (ps_if (PW.pt (pw_or (pt_cmpR (op_neD hr.units) (pe_prop (pv 11) T.cl_Shelf T.pr_Shelf_gaps (ok_Shelf_gaps T) (hr.mono (by decide)) T.b_Shelf_gaps .nil pass0 rfl) (pe_call (ok_law_dual T) (hr.mono (by decide)) (by rfl) T.g_law_dual T.F_law_dual.kp T.b_law_dual .nil pass0 (pa_cons (pv 7) pa_nil)) (nomark _)) (pw_or (pt_cmpR (Sw.op_ownNe ⟨T.me_Heap_eq.1, T.me_Heap_eq.2⟩ T.mr_Heap T.nn_Heap (ok_Heap_eq T) (hr.mono (by decide)) T.b_Heap_eq) (pe_call (ok_heap_of T) (hr.mono (by decide)) (by rfl) T.g_heap_of T.F_heap_of.kp T.b_heap_of .nil pass0 (pa_cons (pv 11) pa_nil)) (pe_meth0 (pv 10) T.cl_Heap T.me_Heap_turned (ok_Heap_turned T) (hr.mono (by decide)) T.b_Heap_turned .nil pass0) (nomark _)) (pw_or1 (pt_cmpR (op_neD hr.units) (pe_prop (pe_call (ok_heap_of T) (hr.mono (by decide)) (by rfl) T.g_heap_of T.F_heap_of.kp T.b_heap_of .nil pass0 (pa_cons (pv 11) pa_nil)) T.cl_Heap T.pr_Heap_rows (ok_Heap_rows T) (hr.mono (by decide)) T.b_Heap_rows .nil pass0 rfl) (pe_call (ok_law_turned_rows T) (hr.mono (by decide)) (by rfl) T.g_law_turned_rows T.F_law_turned_rows.kp T.b_law_turned_rows .nil pass0 (pa_cons (pe_prop (pv 10) T.cl_Heap T.pr_Heap_rows (ok_Heap_rows T) (hr.mono (by decide)) T.b_Heap_rows .nil pass0 rfl) pa_nil)) (nomark _)))))) (pss_one (ps_ret pe_bl)) pss_nil)
      (pss_cons (ps_if (PW.pt (pw_or (pt_cmpR (Sw.op_ownNe ⟨T.me_Shelf_eq.1, T.me_Shelf_eq.2⟩ T.mr_Shelf T.nn_Shelf (ok_Shelf_eq T) (hr.mono (by decide)) T.b_Shelf_eq) (pe_call (ok_shelf_of T) (hr.mono (by decide)) (by rfl) T.g_shelf_of T.F_shelf_of.kp T.b_shelf_of .nil pass0 (pa_cons (pv 5) (pa_cons (pe_meth0 (pv 10) T.cl_Heap T.me_Heap_turned (ok_Heap_turned T) (hr.mono (by decide)) T.b_Heap_turned .nil pass0) pa_nil))) (pv 11) (nomark _)) (pw_or (pt_cmpR (Sw.op_ownNe ⟨T.me_Heap_eq.1, T.me_Heap_eq.2⟩ T.mr_Heap T.nn_Heap (ok_Heap_eq T) (hr.mono (by decide)) T.b_Heap_eq) (pe_call (ok_heap_of T) (hr.mono (by decide)) (by rfl) T.g_heap_of T.F_heap_of.kp T.b_heap_of .nil pass0 (pa_cons (pe_meth0 (pv 11) T.cl_Shelf T.me_Shelf_dual (ok_Shelf_dual T) (hr.mono (by decide)) T.b_Shelf_dual .nil pass0) pa_nil)) (pv 10) (nomark _)) (pw_or1 (pt_cmpR (Sw.op_ownNe ⟨T.me_Shelf_eq.1, T.me_Shelf_eq.2⟩ T.mr_Shelf T.nn_Shelf (ok_Shelf_eq T) (hr.mono (by decide)) T.b_Shelf_eq) (pe_meth0 (pv 11) T.cl_Shelf T.me_Shelf_dual (ok_Shelf_dual T) (hr.mono (by decide)) T.b_Shelf_dual .nil pass0) (pv 9) (nomark _)))))) (pss_one (ps_ret pe_bl)) pss_nil)
      (pss_cons (ps_if (PW.pt (pw_or (pt_cmpR (Sw.op_ownNe ⟨T.me_Heap_eq.1, T.me_Heap_eq.2⟩ T.mr_Heap T.nn_Heap (ok_Heap_eq T) (hr.mono (by decide)) T.b_Heap_eq) (pe_call (ok_heap_of T) (hr.mono (by decide)) (by rfl) T.g_heap_of T.F_heap_of.kp T.b_heap_of .nil pass0 (pa_cons (pe_meth0 (pv 9) T.cl_Shelf T.me_Shelf_exchanged (ok_Shelf_exchanged T) (hr.mono (by decide)) T.b_Shelf_exchanged .nil pass0) pa_nil)) (pv 10) (nomark _)) (pw_or1 (pt_cmpR (Sw.op_ownNe ⟨T.me_Heap_eq.1, T.me_Heap_eq.2⟩ T.mr_Heap T.nn_Heap (ok_Heap_eq T) (hr.mono (by decide)) T.b_Heap_eq) (pe_call (ok_heap_of T) (hr.mono (by decide)) (by rfl) T.g_heap_of T.F_heap_of.kp T.b_heap_of .nil pass0 (pa_cons (ClX.pe_cmeth (pe_glob (v := .ref T.C_Shelf) (by rfl) T.g_Shelf rfl) T.cr_Shelf T.cm_Shelf_of_way ((ok_Shelf_of_way T).raw T.b_Shelf_of_way .nil) (hr.mono (by decide)) pass0 (pa_cons (pe_meth0 (pv 8) T.cl_Way T.me_Way_exchanged (ok_Way_exchanged T) (hr.mono (by decide)) T.b_Way_exchanged .nil pass0) pa_nil)) pa_nil)) (pv 10) (nomark _))))) (pss_one (ps_ret pe_bl)) pss_nil)
      (pss_cons (ps_if (PW.pt (pw_or (pt_cmpR (Sw.op_ownNe ⟨T.me_Shelf_eq.1, T.me_Shelf_eq.2⟩ T.mr_Shelf T.nn_Shelf (ok_Shelf_eq T) (hr.mono (by decide)) T.b_Shelf_eq) (pe_call (ok_shelf_of T) (hr.mono (by decide)) (by rfl) T.g_shelf_of T.F_shelf_of.kp T.b_shelf_of .nil pass0 (pa_cons (pe_meth0 (pv 5) T.cl_Slope T.me_Slope_exchanged (ok_Slope_exchanged T) (hr.mono (by decide)) T.b_Slope_exchanged .nil pass0) (pa_cons (pv 10) pa_nil))) (pe_meth0 (pv 9) T.cl_Shelf T.me_Shelf_exchanged (ok_Shelf_exchanged T) (hr.mono (by decide)) T.b_Shelf_exchanged .nil pass0) (nomark _)) (pw_or1 (pt_cmpR (Sw.op_ownNe ⟨T.me_Way_eq.1, T.me_Way_eq.2⟩ T.mr_Way T.nn_Way (ok_Way_eq T) (hr.mono (by decide)) T.b_Way_eq) (pe_meth0 (pe_call (ok_shelf_of T) (hr.mono (by decide)) (by rfl) T.g_shelf_of T.F_shelf_of.kp T.b_shelf_of .nil pass0 (pa_cons (pv 5) (pa_cons (pv 10) pa_nil))) T.cl_Shelf T.me_Shelf_way (ok_Shelf_way T) (hr.mono (by decide)) T.b_Shelf_way .nil pass0) (pv 8) (nomark _))))) (pss_one (ps_ret pe_bl)) pss_nil)
      (pss_cons (ps_if (PW.pt (pw_or (pt_cmpR op_ne (pe_prop (pv 10) T.cl_Heap T.pr_Heap_size (ok_Heap_size T) (hr.mono (by decide)) T.b_Heap_size .nil pass0 rfl) (pe_op op_sub (pe_callB (Sm.cr_sumT rfl) (by rfl) T.n_sum Sx.bt_sum (pa_cons (pv 7) pa_nil)) (pe_op op_fdivW (pe_op Sx.op_mulA (pe_callB Sx.c_len (by rfl) T.n_len Sx.bt_len (pa_cons (pv 7) pa_nil)) (pe_op op_sub (pe_callB Sx.c_len (by rfl) T.n_len Sx.bt_len (pa_cons (pv 7) pa_nil)) pe_int)) pe_int)) (nomark _)) (pw_or1 (pt_cmpR op_ne (pe_prop (pe_meth0 (pv 10) T.cl_Heap T.me_Heap_turned (ok_Heap_turned T) (hr.mono (by decide)) T.b_Heap_turned .nil pass0) T.cl_Heap T.pr_Heap_size (ok_Heap_size T) (hr.mono (by decide)) T.b_Heap_size .nil pass0 rfl) (pe_prop (pv 10) T.cl_Heap T.pr_Heap_size (ok_Heap_size T) (hr.mono (by decide)) T.b_Heap_size .nil pass0 rfl) (nomark _))))) (pss_one (ps_ret pe_bl)) pss_nil)
      (pss_one (ps_if (pt_cmpR op_ne (pe_cmpR (Sw.op_own (fun _ _ => rfl) ⟨T.me_Heap_eq.1, T.me_Heap_eq.2⟩ (ok_Heap_eq T) (hr.mono (by decide)) T.b_Heap_eq) (pe_meth0 (pv 10) T.cl_Heap T.me_Heap_turned (ok_Heap_turned T) (hr.mono (by decide)) T.b_Heap_turned .nil pass0) (pv 10) (nomark _)) (pe_cmpR (op_eqD hr.units) (pe_call (ok_law_dual T) (hr.mono (by decide)) (by rfl) T.g_law_dual T.F_law_dual.kp T.b_law_dual .nil pass0 (pa_cons (pv 7) pa_nil)) (pv 7) (nomark _)) (nomark _)) (pss_one (ps_ret pe_bl)) pss_nil))))))))))))))
      (pss_one (ps_ret pe_bl))), ?_⟩
    refine Sx.r_st (σ' := [some (.ref a), none, none, none, none, none, none, none, none, none, none, none]) rfl ?_
    walk_at "sx"
    refine r_lenL hS ?_
    walk_at "sx"
    obtain ⟨n, hn, hn6⟩ : ∃ n : Nat, (if (if ((ns.map V.int).length : Int) < 4 then ((ns.map V.int).length : Int) else 4) > 1 then (if ((ns.map V.int).length : Int) < 4 then ((ns.map V.int).length : Int) else 4) else 1) = (n : Int) ∧ n ≤ 4 := by
      refine ⟨(if (if ((ns.map V.int).length : Int) < 4 then ((ns.map V.int).length : Int) else 4) > 1 then (if ((ns.map V.int).length : Int) < 4 then ((ns.map V.int).length : Int) else 4) else 1).toNat, ?_, ?_⟩
      · split <;> split <;> omega
      · split <;> split <;> omega
    rw [hn]
    refine r_rng1 ?_ (by omega) (by omega)
    refine fr_range (fun i σ' H' => Same H H' ∧ ∃ y1 y2 y3 y4 y5 y6 y7 y8 y9 y10 y11, σ' = [some (.ref a), y1, y2, y3, y4, y5, y6, y7, y8, y9, y10, y11]) ⟨Same.refl H, _, _, _, _, _, _, _, _, _, _, _, rfl⟩ ?_ ?_
    · rintro i σ' H1 hi ⟨sm, y1, y2, y3, y4, y5, y6, y7, y8, y9, y10, y11, rfl⟩
      walk_at "sx"
      refine ⟨a, ns, i, by rw [Int.zero_add]; rfl, sm.seq hS, by omega, fun d H3 sm2 hdn hd => ?_⟩
      walk_at "sx"
      refine ⟨d, 14, rfl, hd, by decide, by decide, fun t a' b H4 a1 b1 ab hg k1 ht => ?_⟩
      refine r_gtup ht rfl ?_
      walk_at "sx"
      refine mk_slope (by omega) fun sv H5 s5 hS5 => ?_
      walk_at "sx"
      have k5 := k1.same s5
      refine ⟨d, a', b, rfl, k5.d1, a1, by omega, b1, by omega, fun l H6 lW k6 => ?_⟩
      have s : Du.Sh a' b l := ⟨lW, by omega, by omega, hg⟩
      have hn : a' + b ≤ 14 := by omega
      have h60 := small_ab (a := a') (b := b) (by omega)
      obtain ⟨l1, d1⟩ := Du.ex_dual s
      have hS6 : SlopeAt T.C_Slope H6 sv a' b := by
        obtain ⟨hb, p, dx, rfl, e⟩ := hS5
        refine ⟨hb, p, dx, rfl, k6.k _ _ ?_ e⟩
        obtain ⟨x, y, z, ed⟩ := k5.d1
        rintro rfl; rw [ed] at e; cases e
      have fin : ∀ H', Same H6 H' → Same H H' := fun H' sk c o e => sk _ _ (k6.k c o (ne_of_none (sm _ _ e) hdn) (k5.k c o (ne_of_none (sm _ _ e) hdn) (sm2 _ _ (sm _ _ e))))
      walk_at "sx"
      refine ⟨a', b, l, rfl, lW, by omega, hg, fun p7 H7 s7 e7 => ?_⟩
      walk_at "sx"
      refine mk_way (hS6.mono s7) lW fun wv H8 s8 hw => ?_
      walk_at "sx"
      refine ⟨rfl, ?_⟩
      walk_at "sx"
      refine ⟨wv, a', b, l, rfl, hw, hg, fun hv H9 s9 hsv => ?_⟩
      walk_at "sx"
      refine ⟨hv, a', b, l, rfl, hsv, h60, fun hp H10 s10 hhp => ?_⟩
      walk_at "sx"
      refine md_shelf (hsv.mono s10) (by decide +kernel) (by decide +kernel) (by decide +kernel) (by decide +kernel) (by decide +kernel) (by decide +kernel) ?_
      walk_at "sx"
      refine ⟨hv, a', b, l, rfl, hsv.mono s10, fun u l2 H11 d2 s11 hu => ?_⟩
      have sd := d2.sh s
      have hd2 := Du.heap_dual d2 s
      have rt := sh_rows sd h60
      rw [hd2] at rt
      have k11 : Same H6 H11 := s7.trans (s8.trans (s9.trans (s10.trans s11)))
      have e11 := s11 _ _ (s10 _ _ (s9 _ _ (s8 _ _ e7)))
      have hS11 := hS6.mono k11
      have hw11 := ((hw.mono s9).mono s10).mono s11
      have hsv11 := (hsv.mono s10).mono s11
      have hhp11 := hhp.mono s11
      clear s7 s8 s9 s10 s11 hw hsv hhp e7
      walk_at "sxi"
      refine rh_gaps hu fun tg htg => ?_
      walk_at "sx"
      refine ⟨a', b, l, l2, p7, rfl, e11, s, d2, by omega, by omega, fun p12 H12 s12 e12 => ?_⟩
      walk_at "sx"
      refine neq_gaps (SqT.same htg s12) e12 ?_
      walk_at "sx"
      refine ⟨u, a', b, l2, rfl, hu.mono s12, h60, fun x13 H13 s13 hx13 => ?_⟩
      rw [hd2] at hx13
      walk_at "sx"
      have hhp13 := (hhp11.mono s12).mono s13
      refine md_heap hhp13 (by decide +kernel) (by decide +kernel) (by decide +kernel) (by decide +kernel) ?_
      walk_at "sx"
      refine ⟨hp, _, rfl, hhp13, rt, fun x14 H14 s14 hx14 => ?_⟩
      walk_at "sx"
      refine neq_heap (hx13.mono s14) hx14 ?_
      walk_at "sx"
      have s1114 := s12.trans (s13.trans s14)
      refine ⟨u, a', b, l2, rfl, hu.mono s1114, h60, fun x15 H15 s15 hx15 => ?_⟩
      rw [hd2] at hx15
      walk_at "sx"
      refine rd_rows hx15 fun t15 ht15 => ?_
      walk_at "sx"
      have s1115 := s1114.trans s15
      have hhp15 := hhp11.mono s1115
      refine rd_rows hhp15 fun t16 ht16 => ?_
      walk_at "sx"
      refine ⟨t16, _, rfl, ht16, sh_rows s h60, fun p17 H17 s17 e17 => ?_⟩
      walk_at "sx"
      refine neq_gaps (ns := (Ex.tn (Du.hr (Du.gN a' b l))).map fun x : Nat => (x : Int)) (SqT.same ht15 s17) (SqT.of e17) ?_
      have k17 := k11.trans (s1115.trans s17)
      have s1117 := s1115.trans s17
      walk_at "sxi"
      have hg' : Nat.gcd b a' = 1 := by rw [Nat.gcd_comm]; exact hg
      have eg : Mg.gaps b a' (exch l) = Mg.gaps a' b l := Mg.gaps_exch lW s.ha s.hb hg
      have sx : Du.Sh b a' (exch l) := ⟨exch_way lW, s.hb, s.ha, hg'⟩
      have egN : Du.gN b a' (exch l) = Du.gN a' b l := by
        rw [Du.gaps_N s, Du.gaps_N sx] at eg
        exact cast_inj eg
      have h60' : (b - 1) * (a' - 1) ≤ 60 := by rw [Nat.mul_comm]; exact h60
      have hdb := Du.heap_dual (d2.back s) sd
      have rt2 := sh_rows s h60
      rw [hdb] at rt2
      have hhp17 := hhp15.mono s17
      refine md_heap hhp17 (by decide +kernel) (by decide +kernel) (by decide +kernel) (by decide +kernel) ?_
      walk_at "sx"
      refine ⟨hp, _, rfl, hhp17, rt, fun x18 H18 s18 hx18 => ?_⟩
      rw [← hd2] at hx18
      walk_at "sx"
      have s1118 := s1117.trans s18
      have hu18 := hu.mono s1118
      refine ⟨sv, x18, a', b, l2, rfl, hS11.mono s1118, hx18, sd, rt2, fun u19 H19 s19 hu19 => ?_⟩
      walk_at "sx"
      refine neq_shelf hu19 (hu18.mono s19) rfl ?_
      walk_at "sx"
      have hu19b := hu18.mono s19
      refine md_shelf hu19b (by decide +kernel) (by decide +kernel) (by decide +kernel) (by decide +kernel) (by decide +kernel) (by decide +kernel) ?_
      walk_at "sx"
      refine ⟨u, a', b, l2, rfl, hu19b, fun u20 l20 H20 d20 s20 hu20 => ?_⟩
      walk_at "sx"
      refine ⟨u20, a', b, l20, rfl, hu20, h60, fun x21 H21 s21 hx21 => ?_⟩
      have g20 := gaps_uniq sd d20 (d2.back s)
      rw [gN_eq (d20.sh sd) s g20] at hx21
      walk_at "sx"
      have s1121 := s1118.trans (s19.trans (s20.trans s21))
      refine neq_heap hx21 (hhp11.mono s1121) ?_
      walk_at "sx"
      refine md_shelf (hu.mono s1121) (by decide +kernel) (by decide +kernel) (by decide +kernel) (by decide +kernel) (by decide +kernel) (by decide +kernel) ?_
      walk_at "sx"
      refine ⟨u, a', b, l2, rfl, hu.mono s1121, fun u22 l22 H22 d22 s22 hu22 => ?_⟩
      walk_at "sx"
      have s1122 := s1121.trans s22
      refine neq_shelf hu22 (hsv11.mono s1122) (gaps_uniq sd d22 (d2.back s)) ?_
      walk_at "sxi"
      have hsv22 := hsv11.mono s1122
      have hw22 := hw11.mono s1122
      have hhp22 := hhp11.mono s1122
      have hS22 := hS11.mono s1122
      refine md_shelf hsv22 (by decide +kernel) (by decide +kernel) (by decide +kernel) (by decide +kernel) (by decide +kernel) (by decide +kernel) ?_
      walk_at "sx"
      refine ⟨hv, a', b, l, rfl, hsv22, fun u23 H23 s23 hu23 => ?_⟩
      walk_at "sx"
      refine ⟨u23, b, a', exch l, rfl, hu23, h60', fun x24 H24 s24 hx24 => ?_⟩
      rw [egN] at hx24
      walk_at "sx"
      have hhp24 := (hhp22.mono s23).mono s24
      refine neq_heap hx24 hhp24 ?_
      walk_at "sx"
      have hw24 := (hw22.mono s23).mono s24
      refine ⟨rfl, ?_⟩
      walk_at "sx"
      refine md_way hw24 (by decide +kernel) (by decide +kernel) (by decide +kernel) (by decide +kernel) (by decide +kernel) ?_
      walk_at "sx"
      refine ⟨wv, a', b, l, rfl, hw24, fun o25 H25 s25 ho25 => ?_⟩
      walk_at "sx"
      refine ⟨o25, b, a', exch l, rfl, ho25, hg', fun u26 H26 s26 hu26 => ?_⟩
      walk_at "sx"
      refine ⟨u26, b, a', exch l, rfl, hu26, h60', fun x27 H27 s27 hx27 => ?_⟩
      rw [egN] at hx27
      walk_at "sx"
      have s2227 := s23.trans (s24.trans (s25.trans (s26.trans s27)))
      refine neq_heap hx27 (hhp22.mono s2227) ?_
      walk_at "sxi"
      have hS27 := hS22.mono s2227
      have hhp27 := hhp22.mono s2227
      refine md_slope hS27 (by decide +kernel) (by decide +kernel) (by decide +kernel) ?_
      walk_at "sx"
      refine ⟨sv, a', b, rfl, hS27, fun sv28 H28 s28 hsv28 => ?_⟩
      walk_at "sx"
      have hhp28 := hhp27.mono s28
      refine ⟨sv28, hp, b, a', exch l, rfl, hsv28, by rw [egN]; exact hhp28, sx, by rw [egN]; exact rt, fun u29 H29 s29 hu29 => ?_⟩
      walk_at "sx"
      have s2229 := s2227.trans (s28.trans s29)
      refine md_shelf (hsv22.mono s2229) (by decide +kernel) (by decide +kernel) (by decide +kernel) (by decide +kernel) (by decide +kernel) (by decide +kernel) ?_
      walk_at "sx"
      refine ⟨hv, a', b, l, rfl, hsv22.mono s2229, fun u30 H30 s30 hu30 => ?_⟩
      walk_at "sx"
      refine neq_shelf (hu29.mono s30) hu30 rfl ?_
      walk_at "sx"
      have s2230 := s2229.trans s30
      refine ⟨sv, hp, a', b, l, rfl, hS22.mono s2230, hhp22.mono s2230, s, rt, fun u31 H31 s31 hu31 => ?_⟩
      walk_at "sx"
      refine md_shelf hu31 (by decide +kernel) (by decide +kernel) (by decide +kernel) (by decide +kernel) (by decide +kernel) (by decide +kernel) ?_
      walk_at "sx"
      refine ⟨u31, a', b, l, rfl, hu31, fun w32 H32 s32 hw32 => ?_⟩
      walk_at "sx"
      have s2232 := s2230.trans (s31.trans s32)
      refine neq_way hw32 (hw22.mono s2232) ?_
      have e32 := s2232 _ _ (s1122 _ _ e11)
      have hhp32 := hhp22.mono s2232
      have asc := Du.gN_asc (a := a') (b := b) (l := l)
      have g1 : ∀ x, x ∈ Du.gN a' b l → 1 ≤ x := fun x m => (Du.gN_lt s m).1
      have gsum : (Mg.gaps a' b l).sum = (((Du.gN a' b l).sum : Nat) : Int) := by rw [Du.gaps_N s]; exact (Rm.cast_sum _).symm
      have glen : (Mg.gaps a' b l).length = (Du.gN a' b l).length := by rw [Du.gaps_N s, List.length_map]
      have gl60 := Du.gN_len s
      have hsz := Hk.hr_sum asc g1
      walk_at "sxi"
      refine rd_size hhp32 ?_
      walk_at "sx"
      refine ⟨p7, _, rfl, SqT.of e32, ?_⟩
      walk_at "sx"
      refine ⟨p7, _, rfl, .inr (SqT.of e32), ?_⟩
      rw [List.length_map]
      walk_at "sx"
      walk_at "sx"
      refine ⟨p7, _, rfl, .inr (SqT.of e32), ?_⟩
      rw [List.length_map]
      obtain ⟨N, eN⟩ : ∃ N, (Du.gN a' b l).length = N := ⟨_, rfl⟩
      rw [eN] at glen hsz
      rw [glen]
      have nn : ((N : Int) * ((N : Int) - 1)) / 2 = ((N * (N - 1) / 2 : Nat) : Int) := by
        have : ((N * (N - 1) : Nat) : Int) = (N : Int) * ((N : Int) - 1) := by
          cases N with
          | zero => rfl
          | succ k => rw [Int.natCast_mul, Nat.add_sub_cancel, show (((k + 1 : Nat) : Int) - 1) = (k : Int) by omega]
        rw [← this]; rfl
      have sz1 : ((((Du.hr (Du.gN a' b l)).sum : Nat) : Int) = (Mg.gaps a' b l).sum - ((N : Int) * ((N : Int) - 1)) / 2) := by
        rw [nn, gsum]; omega
      have tns := Hk.tn_sum (Du.hr_desc s)
      have N60 : N ≤ 60 := by omega
      walk_at "sx"
      · rw [decide_eq_true sz1]
        walk_at "sx"
        refine md_heap hhp32 (by decide +kernel) (by decide +kernel) (by decide +kernel) (by decide +kernel) ?_
        walk_at "sx"
        refine ⟨hp, _, rfl, hhp32, rt, fun x33 H33 s33 hx33 => ?_⟩
        walk_at "sx"
        refine rd_size hx33 ?_
        walk_at "sx"
        refine rd_size (hhp32.mono s33) ?_
        rw [tns]
        walk_at "sx"
        rw [decide_eq_true rfl]
        walk_at "sx"
        walk_at "sxi"
        have hhp33 := hhp32.mono s33
        refine md_heap hhp33 (by decide +kernel) (by decide +kernel) (by decide +kernel) (by decide +kernel) ?_
        walk_at "sx"
        refine ⟨hp, _, rfl, hhp33, rt, fun x34 H34 s34 hx34 => ?_⟩
        walk_at "sx"
        refine eq_heap hx34 (hhp33.mono s34) ?_
        walk_at "sx"
        have e34 := s34 _ _ (s33 _ _ e32)
        refine ⟨a', b, l, l2, p7, rfl, e34, s, d2, by omega, by omega, fun p35 H35 s35 e35 => ?_⟩
        walk_at "sx"
        refine r_eqD (.tup e35 (dpI _)) (.tup (SqT.of (s35 _ _ e34)) (dpI _)) sh_tupI sh_tupI ?_
        rw [eqv_ints]
        have be : decide (Ex.tn (Du.hr (Du.gN a' b l)) = Du.hr (Du.gN a' b l)) = decide (Mg.gaps a' b l2 = Mg.gaps a' b l) := by
          refine decide_eq_decide.mpr ⟨fun h => ?_, fun h => ?_⟩
          · rw [← hd2] at h
            have := Hk.hr_inj Du.gN_asc (fun x m => (Du.gN_lt sd m).1) Du.gN_asc (fun x m => (Du.gN_lt s m).1) h
            rw [Du.gaps_N s, Du.gaps_N sd, this]
          · rw [← hd2, gN_eq sd s h]
        rw [be]
        walk_at "sx"
        rw [decide_eq_true rfl]
        walk_at "sx"
        exact ⟨fin _ (k11.trans (s1122.trans (s2232.trans (s33.trans (s34.trans s35))))), _, _, _, _, _, _, _, _, _, _, _, rfl⟩
      · exact cdivw (b := 64) (by omega) (by omega) (by decide)
      · exact cmA_r (by omega)
    · rintro σ' H1 ⟨sm, y1, y2, y3, y4, y5, y6, y7, y8, y9, y10, y11, rfl⟩
      walk_at "sx"
      exact q _
end
end Lw

namespace Lw
open PySem PySem.Spec PyProof.Rows L2 Sx Sy Sw Me Mw
open C8 (pe_gc)
open SkE (call_repr_int call_str_str)
open RZ (pi_zipA)
theorem all_mk {l : PySem.W.OpenLaw} {w : World} {K : PySem.W.Frag} {h : Heap} {mg : Str → Option Value} {fa : Addr} (X : K.In h) (G : h.Ns mainGlobals mg) (hfa : mg "law" = some (.ref fa))
    {C_Slope C_Way C_Shelf C_Heap a_is_number a_is_whole_between a_is_ascending a_Slope_init a_Slope_rises p_Slope_rises a_Slope_steps p_Slope_steps a_Slope_common p_Slope_common a_Slope_is_coprime p_Slope_is_coprime a_Slope_half p_Slope_half a_Slope_exchanged a_Slope_eq a_Way_init a_Way_slope p_Way_slope a_Way_text p_Way_text a_Way_levels p_Way_levels a_Way_exchanged a_Way_eq a_check_slope a_check_way a_check_coprime a_check_coprime_way a_letter_levels a_is_word a_is_way a_Shelf_init ed_Shelf_init e_Shelf_init a_Shelf_of_way p_Shelf_of_way a_Shelf_slope p_Shelf_slope a_Shelf_gaps p_Shelf_gaps a_Shelf_way a_Shelf_dual a_Shelf_exchanged a_Shelf_eq a_check_shelf a_way_with_rises a_least_members a_with_more a_sides a_members_below a_gaps_of a_is_gaps a_Heap_init ed_Heap_init e_Heap_init a_Heap_of_first_hooks p_Heap_of_first_hooks a_Heap_rows p_Heap_rows a_Heap_size p_Heap_size a_Heap_first_hooks p_Heap_first_hooks a_Heap_turned a_Heap_hooks a_Heap_len a_Heap_eq a_check_heap a_is_heap_rows a_rows_of_hooks a_heap_of a_shelf_of a_law_dice a_law_roll a_law_slope a_law_way a_law_levels a_law_makers a_law_gaps a_law_squares a_law_rows_of a_law_turned_rows a_law_gaps_of a_law_dual a_law : Addr} {t_GREATEST t_MAX_SIDE t_MAX_ROW : Tok}
    {oc_is_number kV_is_number dc_is_number pm_is_number cd_is_number ct_is_number : Value} {od_is_number an_is_number : Option Addr} {sl_is_number : Array (Option Value)}
    {oc_is_whole_between kV_is_whole_between dc_is_whole_between pm_is_whole_between cd_is_whole_between ct_is_whole_between : Value} {od_is_whole_between an_is_whole_between : Option Addr} {sl_is_whole_between : Array (Option Value)}
    {oc_is_ascending kV_is_ascending dc_is_ascending pm_is_ascending cd_is_ascending ct_is_ascending : Value} {od_is_ascending an_is_ascending : Option Addr} {sl_is_ascending : Array (Option Value)}
    {oc_Slope_init kV_Slope_init dc_Slope_init pm_Slope_init cd_Slope_init ct_Slope_init : Value} {od_Slope_init an_Slope_init : Option Addr} {sl_Slope_init : Array (Option Value)}
    {oc_Slope_rises kV_Slope_rises dc_Slope_rises pm_Slope_rises cd_Slope_rises ct_Slope_rises : Value} {od_Slope_rises an_Slope_rises : Option Addr} {sl_Slope_rises : Array (Option Value)}
    {re_Slope_rises : List Value}
    {oc_Slope_steps kV_Slope_steps dc_Slope_steps pm_Slope_steps cd_Slope_steps ct_Slope_steps : Value} {od_Slope_steps an_Slope_steps : Option Addr} {sl_Slope_steps : Array (Option Value)}
    {re_Slope_steps : List Value}
    {oc_Slope_common kV_Slope_common dc_Slope_common pm_Slope_common cd_Slope_common ct_Slope_common : Value} {od_Slope_common an_Slope_common : Option Addr} {sl_Slope_common : Array (Option Value)}
    {re_Slope_common : List Value}
    {oc_Slope_is_coprime kV_Slope_is_coprime dc_Slope_is_coprime pm_Slope_is_coprime cd_Slope_is_coprime ct_Slope_is_coprime : Value} {od_Slope_is_coprime an_Slope_is_coprime : Option Addr} {sl_Slope_is_coprime : Array (Option Value)}
    {re_Slope_is_coprime : List Value}
    {oc_Slope_half kV_Slope_half dc_Slope_half pm_Slope_half cd_Slope_half ct_Slope_half : Value} {od_Slope_half an_Slope_half : Option Addr} {sl_Slope_half : Array (Option Value)}
    {re_Slope_half : List Value}
    {oc_Slope_exchanged kV_Slope_exchanged dc_Slope_exchanged pm_Slope_exchanged cd_Slope_exchanged ct_Slope_exchanged : Value} {od_Slope_exchanged an_Slope_exchanged : Option Addr} {sl_Slope_exchanged : Array (Option Value)}
    {oc_Slope_eq kV_Slope_eq dc_Slope_eq pm_Slope_eq cd_Slope_eq ct_Slope_eq : Value} {od_Slope_eq an_Slope_eq : Option Addr} {sl_Slope_eq : Array (Option Value)}
    {oc_Way_init kV_Way_init dc_Way_init pm_Way_init cd_Way_init ct_Way_init : Value} {od_Way_init an_Way_init : Option Addr} {sl_Way_init : Array (Option Value)}
    {oc_Way_slope kV_Way_slope dc_Way_slope pm_Way_slope cd_Way_slope ct_Way_slope : Value} {od_Way_slope an_Way_slope : Option Addr} {sl_Way_slope : Array (Option Value)}
    {re_Way_slope : List Value}
    {oc_Way_text kV_Way_text dc_Way_text pm_Way_text cd_Way_text ct_Way_text : Value} {od_Way_text an_Way_text : Option Addr} {sl_Way_text : Array (Option Value)}
    {re_Way_text : List Value}
    {oc_Way_levels kV_Way_levels dc_Way_levels pm_Way_levels cd_Way_levels ct_Way_levels : Value} {od_Way_levels an_Way_levels : Option Addr} {sl_Way_levels : Array (Option Value)}
    {re_Way_levels : List Value}
    {oc_Way_exchanged kV_Way_exchanged dc_Way_exchanged pm_Way_exchanged cd_Way_exchanged ct_Way_exchanged : Value} {od_Way_exchanged an_Way_exchanged : Option Addr} {sl_Way_exchanged : Array (Option Value)}
    {oc_Way_eq kV_Way_eq dc_Way_eq pm_Way_eq cd_Way_eq ct_Way_eq : Value} {od_Way_eq an_Way_eq : Option Addr} {sl_Way_eq : Array (Option Value)}
    {oc_check_slope kV_check_slope dc_check_slope pm_check_slope cd_check_slope ct_check_slope : Value} {od_check_slope an_check_slope : Option Addr} {sl_check_slope : Array (Option Value)}
    {oc_check_way kV_check_way dc_check_way pm_check_way cd_check_way ct_check_way : Value} {od_check_way an_check_way : Option Addr} {sl_check_way : Array (Option Value)}
    {oc_check_coprime kV_check_coprime dc_check_coprime pm_check_coprime cd_check_coprime ct_check_coprime : Value} {od_check_coprime an_check_coprime : Option Addr} {sl_check_coprime : Array (Option Value)}
    {oc_check_coprime_way kV_check_coprime_way dc_check_coprime_way pm_check_coprime_way cd_check_coprime_way ct_check_coprime_way : Value} {od_check_coprime_way an_check_coprime_way : Option Addr} {sl_check_coprime_way : Array (Option Value)}
    {oc_letter_levels kV_letter_levels dc_letter_levels pm_letter_levels cd_letter_levels ct_letter_levels : Value} {od_letter_levels an_letter_levels : Option Addr} {sl_letter_levels : Array (Option Value)}
    {oc_is_word kV_is_word dc_is_word pm_is_word cd_is_word ct_is_word : Value} {od_is_word an_is_word : Option Addr} {sl_is_word : Array (Option Value)}
    {oc_is_way kV_is_way dc_is_way pm_is_way cd_is_way ct_is_way : Value} {od_is_way an_is_way : Option Addr} {sl_is_way : Array (Option Value)}
    {oc_Shelf_init kV_Shelf_init dc_Shelf_init pm_Shelf_init cd_Shelf_init ct_Shelf_init : Value} {od_Shelf_init an_Shelf_init : Option Addr} {sl_Shelf_init : Array (Option Value)}
    {tc_Shelf_init : Value} {td_Shelf_init ud_Shelf_init : Option Addr} {tn_Shelf_init un_Shelf_init : Nat} {ts_Shelf_init us_Shelf_init : Array (Option Value)}
    {oc_Shelf_of_way kV_Shelf_of_way dc_Shelf_of_way pm_Shelf_of_way cd_Shelf_of_way ct_Shelf_of_way : Value} {od_Shelf_of_way an_Shelf_of_way : Option Addr} {sl_Shelf_of_way : Array (Option Value)}
    {re_Shelf_of_way : List Value}
    {oc_Shelf_slope kV_Shelf_slope dc_Shelf_slope pm_Shelf_slope cd_Shelf_slope ct_Shelf_slope : Value} {od_Shelf_slope an_Shelf_slope : Option Addr} {sl_Shelf_slope : Array (Option Value)}
    {re_Shelf_slope : List Value}
    {oc_Shelf_gaps kV_Shelf_gaps dc_Shelf_gaps pm_Shelf_gaps cd_Shelf_gaps ct_Shelf_gaps : Value} {od_Shelf_gaps an_Shelf_gaps : Option Addr} {sl_Shelf_gaps : Array (Option Value)}
    {re_Shelf_gaps : List Value}
    {oc_Shelf_way kV_Shelf_way dc_Shelf_way pm_Shelf_way cd_Shelf_way ct_Shelf_way : Value} {od_Shelf_way an_Shelf_way : Option Addr} {sl_Shelf_way : Array (Option Value)}
    {oc_Shelf_dual kV_Shelf_dual dc_Shelf_dual pm_Shelf_dual cd_Shelf_dual ct_Shelf_dual : Value} {od_Shelf_dual an_Shelf_dual : Option Addr} {sl_Shelf_dual : Array (Option Value)}
    {oc_Shelf_exchanged kV_Shelf_exchanged dc_Shelf_exchanged pm_Shelf_exchanged cd_Shelf_exchanged ct_Shelf_exchanged : Value} {od_Shelf_exchanged an_Shelf_exchanged : Option Addr} {sl_Shelf_exchanged : Array (Option Value)}
    {oc_Shelf_eq kV_Shelf_eq dc_Shelf_eq pm_Shelf_eq cd_Shelf_eq ct_Shelf_eq : Value} {od_Shelf_eq an_Shelf_eq : Option Addr} {sl_Shelf_eq : Array (Option Value)}
    {oc_check_shelf kV_check_shelf dc_check_shelf pm_check_shelf cd_check_shelf ct_check_shelf : Value} {od_check_shelf an_check_shelf : Option Addr} {sl_check_shelf : Array (Option Value)}
    {oc_way_with_rises kV_way_with_rises dc_way_with_rises pm_way_with_rises cd_way_with_rises ct_way_with_rises : Value} {od_way_with_rises an_way_with_rises : Option Addr} {sl_way_with_rises : Array (Option Value)}
    {oc_least_members kV_least_members dc_least_members pm_least_members cd_least_members ct_least_members : Value} {od_least_members an_least_members : Option Addr} {sl_least_members : Array (Option Value)}
    {oc_with_more kV_with_more dc_with_more pm_with_more cd_with_more ct_with_more : Value} {od_with_more an_with_more : Option Addr} {sl_with_more : Array (Option Value)}
    {oc_sides kV_sides dc_sides pm_sides cd_sides ct_sides : Value} {od_sides an_sides : Option Addr} {sl_sides : Array (Option Value)}
    {oc_members_below kV_members_below dc_members_below pm_members_below cd_members_below ct_members_below : Value} {od_members_below an_members_below : Option Addr} {sl_members_below : Array (Option Value)}
    {oc_gaps_of kV_gaps_of dc_gaps_of pm_gaps_of cd_gaps_of ct_gaps_of : Value} {od_gaps_of an_gaps_of : Option Addr} {sl_gaps_of : Array (Option Value)}
    {oc_is_gaps kV_is_gaps dc_is_gaps pm_is_gaps cd_is_gaps ct_is_gaps : Value} {od_is_gaps an_is_gaps : Option Addr} {sl_is_gaps : Array (Option Value)}
    {oc_Heap_init kV_Heap_init dc_Heap_init pm_Heap_init cd_Heap_init ct_Heap_init : Value} {od_Heap_init an_Heap_init : Option Addr} {sl_Heap_init : Array (Option Value)}
    {tc_Heap_init : Value} {td_Heap_init ud_Heap_init : Option Addr} {tn_Heap_init un_Heap_init : Nat} {ts_Heap_init us_Heap_init : Array (Option Value)}
    {oc_Heap_of_first_hooks kV_Heap_of_first_hooks dc_Heap_of_first_hooks pm_Heap_of_first_hooks cd_Heap_of_first_hooks ct_Heap_of_first_hooks : Value} {od_Heap_of_first_hooks an_Heap_of_first_hooks : Option Addr} {sl_Heap_of_first_hooks : Array (Option Value)}
    {re_Heap_of_first_hooks : List Value}
    {oc_Heap_rows kV_Heap_rows dc_Heap_rows pm_Heap_rows cd_Heap_rows ct_Heap_rows : Value} {od_Heap_rows an_Heap_rows : Option Addr} {sl_Heap_rows : Array (Option Value)}
    {re_Heap_rows : List Value}
    {oc_Heap_size kV_Heap_size dc_Heap_size pm_Heap_size cd_Heap_size ct_Heap_size : Value} {od_Heap_size an_Heap_size : Option Addr} {sl_Heap_size : Array (Option Value)}
    {re_Heap_size : List Value}
    {oc_Heap_first_hooks kV_Heap_first_hooks dc_Heap_first_hooks pm_Heap_first_hooks cd_Heap_first_hooks ct_Heap_first_hooks : Value} {od_Heap_first_hooks an_Heap_first_hooks : Option Addr} {sl_Heap_first_hooks : Array (Option Value)}
    {re_Heap_first_hooks : List Value}
    {oc_Heap_turned kV_Heap_turned dc_Heap_turned pm_Heap_turned cd_Heap_turned ct_Heap_turned : Value} {od_Heap_turned an_Heap_turned : Option Addr} {sl_Heap_turned : Array (Option Value)}
    {oc_Heap_hooks kV_Heap_hooks dc_Heap_hooks pm_Heap_hooks cd_Heap_hooks ct_Heap_hooks : Value} {od_Heap_hooks an_Heap_hooks : Option Addr} {sl_Heap_hooks : Array (Option Value)}
    {oc_Heap_len kV_Heap_len dc_Heap_len pm_Heap_len cd_Heap_len ct_Heap_len : Value} {od_Heap_len an_Heap_len : Option Addr} {sl_Heap_len : Array (Option Value)}
    {oc_Heap_eq kV_Heap_eq dc_Heap_eq pm_Heap_eq cd_Heap_eq ct_Heap_eq : Value} {od_Heap_eq an_Heap_eq : Option Addr} {sl_Heap_eq : Array (Option Value)}
    {oc_check_heap kV_check_heap dc_check_heap pm_check_heap cd_check_heap ct_check_heap : Value} {od_check_heap an_check_heap : Option Addr} {sl_check_heap : Array (Option Value)}
    {oc_is_heap_rows kV_is_heap_rows dc_is_heap_rows pm_is_heap_rows cd_is_heap_rows ct_is_heap_rows : Value} {od_is_heap_rows an_is_heap_rows : Option Addr} {sl_is_heap_rows : Array (Option Value)}
    {oc_rows_of_hooks kV_rows_of_hooks dc_rows_of_hooks pm_rows_of_hooks cd_rows_of_hooks ct_rows_of_hooks : Value} {od_rows_of_hooks an_rows_of_hooks : Option Addr} {sl_rows_of_hooks : Array (Option Value)}
    {oc_heap_of kV_heap_of dc_heap_of pm_heap_of cd_heap_of ct_heap_of : Value} {od_heap_of an_heap_of : Option Addr} {sl_heap_of : Array (Option Value)}
    {oc_shelf_of kV_shelf_of dc_shelf_of pm_shelf_of cd_shelf_of ct_shelf_of : Value} {od_shelf_of an_shelf_of : Option Addr} {sl_shelf_of : Array (Option Value)}
    {oc_law_dice kV_law_dice dc_law_dice pm_law_dice cd_law_dice ct_law_dice : Value} {od_law_dice an_law_dice : Option Addr} {sl_law_dice : Array (Option Value)}
    {oc_law_roll kV_law_roll dc_law_roll pm_law_roll cd_law_roll ct_law_roll : Value} {od_law_roll an_law_roll : Option Addr} {sl_law_roll : Array (Option Value)}
    {oc_law_slope kV_law_slope dc_law_slope pm_law_slope cd_law_slope ct_law_slope : Value} {od_law_slope an_law_slope : Option Addr} {sl_law_slope : Array (Option Value)}
    {oc_law_way kV_law_way dc_law_way pm_law_way cd_law_way ct_law_way : Value} {od_law_way an_law_way : Option Addr} {sl_law_way : Array (Option Value)}
    {oc_law_levels kV_law_levels dc_law_levels pm_law_levels cd_law_levels ct_law_levels : Value} {od_law_levels an_law_levels : Option Addr} {sl_law_levels : Array (Option Value)}
    {oc_law_makers kV_law_makers dc_law_makers pm_law_makers cd_law_makers ct_law_makers : Value} {od_law_makers an_law_makers : Option Addr} {sl_law_makers : Array (Option Value)}
    {oc_law_gaps kV_law_gaps dc_law_gaps pm_law_gaps cd_law_gaps ct_law_gaps : Value} {od_law_gaps an_law_gaps : Option Addr} {sl_law_gaps : Array (Option Value)}
    {oc_law_squares kV_law_squares dc_law_squares pm_law_squares cd_law_squares ct_law_squares : Value} {od_law_squares an_law_squares : Option Addr} {sl_law_squares : Array (Option Value)}
    {oc_law_rows_of kV_law_rows_of dc_law_rows_of pm_law_rows_of cd_law_rows_of ct_law_rows_of : Value} {od_law_rows_of an_law_rows_of : Option Addr} {sl_law_rows_of : Array (Option Value)}
    {oc_law_turned_rows kV_law_turned_rows dc_law_turned_rows pm_law_turned_rows cd_law_turned_rows ct_law_turned_rows : Value} {od_law_turned_rows an_law_turned_rows : Option Addr} {sl_law_turned_rows : Array (Option Value)}
    {oc_law_gaps_of kV_law_gaps_of dc_law_gaps_of pm_law_gaps_of cd_law_gaps_of ct_law_gaps_of : Value} {od_law_gaps_of an_law_gaps_of : Option Addr} {sl_law_gaps_of : Array (Option Value)}
    {oc_law_dual kV_law_dual dc_law_dual pm_law_dual cd_law_dual ct_law_dual : Value} {od_law_dual an_law_dual : Option Addr} {sl_law_dual : Array (Option Value)}
    {oc_law kV_law dc_law pm_law cd_law ct_law : Value} {od_law an_law : Option Addr} {sl_law : Array (Option Value)}
    (g_Slope : PySem.W.nsIn K mainGlobals "Slope" = some (some (.ref C_Slope)))
    (g_Way : PySem.W.nsIn K mainGlobals "Way" = some (some (.ref C_Way)))
    (g_Shelf : PySem.W.nsIn K mainGlobals "Shelf" = some (some (.ref C_Shelf)))
    (g_Heap : PySem.W.nsIn K mainGlobals "Heap" = some (some (.ref C_Heap)))
    (g_is_number : PySem.W.nsIn K mainGlobals "is_number" = some (some (.ref a_is_number)))
    (l_is_number : K.lookup a_is_number = some ⟨oc_is_number, od_is_number, .func (PySem.W.fnOf "is_number" "is_number" (defArgs st_is_number) (defBody st_is_number) (defScope st_is_number) .none kV_is_number dc_is_number pm_is_number an_is_number cd_is_number ct_is_number), sl_is_number⟩)
    (c_is_number : PySem.W.codeIn K cd_is_number "is_number" = true)
    (k_is_number : PySem.W.keepIn K (.ref a_is_number) = true)
    (g_is_whole_between : PySem.W.nsIn K mainGlobals "is_whole_between" = some (some (.ref a_is_whole_between)))
    (l_is_whole_between : K.lookup a_is_whole_between = some ⟨oc_is_whole_between, od_is_whole_between, .func (PySem.W.fnOf "is_whole_between" "is_whole_between" (defArgs st_is_whole_between) (defBody st_is_whole_between) (defScope st_is_whole_between) .none kV_is_whole_between dc_is_whole_between pm_is_whole_between an_is_whole_between cd_is_whole_between ct_is_whole_between), sl_is_whole_between⟩)
    (c_is_whole_between : PySem.W.codeIn K cd_is_whole_between "is_whole_between" = true)
    (k_is_whole_between : PySem.W.keepIn K (.ref a_is_whole_between) = true)
    (g_is_ascending : PySem.W.nsIn K mainGlobals "is_ascending" = some (some (.ref a_is_ascending)))
    (l_is_ascending : K.lookup a_is_ascending = some ⟨oc_is_ascending, od_is_ascending, .func (PySem.W.fnOf "is_ascending" "is_ascending" (defArgs st_is_ascending) (defBody st_is_ascending) (defScope st_is_ascending) .none kV_is_ascending dc_is_ascending pm_is_ascending an_is_ascending cd_is_ascending ct_is_ascending), sl_is_ascending⟩)
    (c_is_ascending : PySem.W.codeIn K cd_is_ascending "is_ascending" = true)
    (k_is_ascending : PySem.W.keepIn K (.ref a_is_ascending) = true)
    (m_Slope_init : PySem.W.findIn K (.ref C_Slope) "__init__" = some (some (.ref a_Slope_init)))
    (f_Slope_init : PySem.W.isFn K (.ref a_Slope_init) = true)
    (l_Slope_init : K.lookup a_Slope_init = some ⟨oc_Slope_init, od_Slope_init, .func (PySem.W.fnOf "__init__" "Slope.__init__" (defArgs st_Slope_init) (defBody st_Slope_init) (defScope st_Slope_init) .none kV_Slope_init dc_Slope_init pm_Slope_init an_Slope_init cd_Slope_init ct_Slope_init), sl_Slope_init⟩)
    (c_Slope_init : PySem.W.codeIn K cd_Slope_init "Slope.__init__" = true)
    (k_Slope_init : PySem.W.keepIn K (.ref a_Slope_init) = true)
    (pa_Slope_rises : PySem.W.findIn K (.ref C_Slope) "rises" = some (some (.ref p_Slope_rises)))
    (pg_Slope_rises : PySem.W.specialIn K (.ref p_Slope_rises) "__get__" = some (some (.builtin "property.__get__")))
    (pt_Slope_rises : PySem.W.takesIn K (.ref p_Slope_rises) = some true)
    (pq_Slope_rises : PySem.W.recIn K p_Slope_rises "property" = some (.ref a_Slope_rises :: re_Slope_rises))
    (l_Slope_rises : K.lookup a_Slope_rises = some ⟨oc_Slope_rises, od_Slope_rises, .func (PySem.W.fnOf "rises" "Slope.rises" (defArgs st_Slope_rises) (defBody st_Slope_rises) (defScope st_Slope_rises) .none kV_Slope_rises dc_Slope_rises pm_Slope_rises an_Slope_rises cd_Slope_rises ct_Slope_rises), sl_Slope_rises⟩)
    (c_Slope_rises : PySem.W.codeIn K cd_Slope_rises "Slope.rises" = true)
    (k_Slope_rises : PySem.W.keepIn K (.ref a_Slope_rises) = true)
    (pa_Slope_steps : PySem.W.findIn K (.ref C_Slope) "steps" = some (some (.ref p_Slope_steps)))
    (pg_Slope_steps : PySem.W.specialIn K (.ref p_Slope_steps) "__get__" = some (some (.builtin "property.__get__")))
    (pt_Slope_steps : PySem.W.takesIn K (.ref p_Slope_steps) = some true)
    (pq_Slope_steps : PySem.W.recIn K p_Slope_steps "property" = some (.ref a_Slope_steps :: re_Slope_steps))
    (l_Slope_steps : K.lookup a_Slope_steps = some ⟨oc_Slope_steps, od_Slope_steps, .func (PySem.W.fnOf "steps" "Slope.steps" (defArgs st_Slope_steps) (defBody st_Slope_steps) (defScope st_Slope_steps) .none kV_Slope_steps dc_Slope_steps pm_Slope_steps an_Slope_steps cd_Slope_steps ct_Slope_steps), sl_Slope_steps⟩)
    (c_Slope_steps : PySem.W.codeIn K cd_Slope_steps "Slope.steps" = true)
    (k_Slope_steps : PySem.W.keepIn K (.ref a_Slope_steps) = true)
    (pa_Slope_common : PySem.W.findIn K (.ref C_Slope) "common" = some (some (.ref p_Slope_common)))
    (pg_Slope_common : PySem.W.specialIn K (.ref p_Slope_common) "__get__" = some (some (.builtin "property.__get__")))
    (pt_Slope_common : PySem.W.takesIn K (.ref p_Slope_common) = some true)
    (pq_Slope_common : PySem.W.recIn K p_Slope_common "property" = some (.ref a_Slope_common :: re_Slope_common))
    (l_Slope_common : K.lookup a_Slope_common = some ⟨oc_Slope_common, od_Slope_common, .func (PySem.W.fnOf "common" "Slope.common" (defArgs st_Slope_common) (defBody st_Slope_common) (defScope st_Slope_common) .none kV_Slope_common dc_Slope_common pm_Slope_common an_Slope_common cd_Slope_common ct_Slope_common), sl_Slope_common⟩)
    (c_Slope_common : PySem.W.codeIn K cd_Slope_common "Slope.common" = true)
    (k_Slope_common : PySem.W.keepIn K (.ref a_Slope_common) = true)
    (pa_Slope_is_coprime : PySem.W.findIn K (.ref C_Slope) "is_coprime" = some (some (.ref p_Slope_is_coprime)))
    (pg_Slope_is_coprime : PySem.W.specialIn K (.ref p_Slope_is_coprime) "__get__" = some (some (.builtin "property.__get__")))
    (pt_Slope_is_coprime : PySem.W.takesIn K (.ref p_Slope_is_coprime) = some true)
    (pq_Slope_is_coprime : PySem.W.recIn K p_Slope_is_coprime "property" = some (.ref a_Slope_is_coprime :: re_Slope_is_coprime))
    (l_Slope_is_coprime : K.lookup a_Slope_is_coprime = some ⟨oc_Slope_is_coprime, od_Slope_is_coprime, .func (PySem.W.fnOf "is_coprime" "Slope.is_coprime" (defArgs st_Slope_is_coprime) (defBody st_Slope_is_coprime) (defScope st_Slope_is_coprime) .none kV_Slope_is_coprime dc_Slope_is_coprime pm_Slope_is_coprime an_Slope_is_coprime cd_Slope_is_coprime ct_Slope_is_coprime), sl_Slope_is_coprime⟩)
    (c_Slope_is_coprime : PySem.W.codeIn K cd_Slope_is_coprime "Slope.is_coprime" = true)
    (k_Slope_is_coprime : PySem.W.keepIn K (.ref a_Slope_is_coprime) = true)
    (pa_Slope_half : PySem.W.findIn K (.ref C_Slope) "half" = some (some (.ref p_Slope_half)))
    (pg_Slope_half : PySem.W.specialIn K (.ref p_Slope_half) "__get__" = some (some (.builtin "property.__get__")))
    (pt_Slope_half : PySem.W.takesIn K (.ref p_Slope_half) = some true)
    (pq_Slope_half : PySem.W.recIn K p_Slope_half "property" = some (.ref a_Slope_half :: re_Slope_half))
    (l_Slope_half : K.lookup a_Slope_half = some ⟨oc_Slope_half, od_Slope_half, .func (PySem.W.fnOf "half" "Slope.half" (defArgs st_Slope_half) (defBody st_Slope_half) (defScope st_Slope_half) .none kV_Slope_half dc_Slope_half pm_Slope_half an_Slope_half cd_Slope_half ct_Slope_half), sl_Slope_half⟩)
    (c_Slope_half : PySem.W.codeIn K cd_Slope_half "Slope.half" = true)
    (k_Slope_half : PySem.W.keepIn K (.ref a_Slope_half) = true)
    (m_Slope_exchanged : PySem.W.findIn K (.ref C_Slope) "exchanged" = some (some (.ref a_Slope_exchanged)))
    (f_Slope_exchanged : PySem.W.isFn K (.ref a_Slope_exchanged) = true)
    (l_Slope_exchanged : K.lookup a_Slope_exchanged = some ⟨oc_Slope_exchanged, od_Slope_exchanged, .func (PySem.W.fnOf "exchanged" "Slope.exchanged" (defArgs st_Slope_exchanged) (defBody st_Slope_exchanged) (defScope st_Slope_exchanged) .none kV_Slope_exchanged dc_Slope_exchanged pm_Slope_exchanged an_Slope_exchanged cd_Slope_exchanged ct_Slope_exchanged), sl_Slope_exchanged⟩)
    (c_Slope_exchanged : PySem.W.codeIn K cd_Slope_exchanged "Slope.exchanged" = true)
    (k_Slope_exchanged : PySem.W.keepIn K (.ref a_Slope_exchanged) = true)
    (m_Slope_eq : PySem.W.findIn K (.ref C_Slope) "__eq__" = some (some (.ref a_Slope_eq)))
    (f_Slope_eq : PySem.W.isFn K (.ref a_Slope_eq) = true)
    (l_Slope_eq : K.lookup a_Slope_eq = some ⟨oc_Slope_eq, od_Slope_eq, .func (PySem.W.fnOf "__eq__" "Slope.__eq__" (defArgs st_Slope_eq) (defBody st_Slope_eq) (defScope st_Slope_eq) .none kV_Slope_eq dc_Slope_eq pm_Slope_eq an_Slope_eq cd_Slope_eq ct_Slope_eq), sl_Slope_eq⟩)
    (c_Slope_eq : PySem.W.codeIn K cd_Slope_eq "Slope.__eq__" = true)
    (k_Slope_eq : PySem.W.keepIn K (.ref a_Slope_eq) = true)
    (m_Way_init : PySem.W.findIn K (.ref C_Way) "__init__" = some (some (.ref a_Way_init)))
    (f_Way_init : PySem.W.isFn K (.ref a_Way_init) = true)
    (l_Way_init : K.lookup a_Way_init = some ⟨oc_Way_init, od_Way_init, .func (PySem.W.fnOf "__init__" "Way.__init__" (defArgs st_Way_init) (defBody st_Way_init) (defScope st_Way_init) .none kV_Way_init dc_Way_init pm_Way_init an_Way_init cd_Way_init ct_Way_init), sl_Way_init⟩)
    (c_Way_init : PySem.W.codeIn K cd_Way_init "Way.__init__" = true)
    (k_Way_init : PySem.W.keepIn K (.ref a_Way_init) = true)
    (pa_Way_slope : PySem.W.findIn K (.ref C_Way) "slope" = some (some (.ref p_Way_slope)))
    (pg_Way_slope : PySem.W.specialIn K (.ref p_Way_slope) "__get__" = some (some (.builtin "property.__get__")))
    (pt_Way_slope : PySem.W.takesIn K (.ref p_Way_slope) = some true)
    (pq_Way_slope : PySem.W.recIn K p_Way_slope "property" = some (.ref a_Way_slope :: re_Way_slope))
    (l_Way_slope : K.lookup a_Way_slope = some ⟨oc_Way_slope, od_Way_slope, .func (PySem.W.fnOf "slope" "Way.slope" (defArgs st_Way_slope) (defBody st_Way_slope) (defScope st_Way_slope) .none kV_Way_slope dc_Way_slope pm_Way_slope an_Way_slope cd_Way_slope ct_Way_slope), sl_Way_slope⟩)
    (c_Way_slope : PySem.W.codeIn K cd_Way_slope "Way.slope" = true)
    (k_Way_slope : PySem.W.keepIn K (.ref a_Way_slope) = true)
    (pa_Way_text : PySem.W.findIn K (.ref C_Way) "text" = some (some (.ref p_Way_text)))
    (pg_Way_text : PySem.W.specialIn K (.ref p_Way_text) "__get__" = some (some (.builtin "property.__get__")))
    (pt_Way_text : PySem.W.takesIn K (.ref p_Way_text) = some true)
    (pq_Way_text : PySem.W.recIn K p_Way_text "property" = some (.ref a_Way_text :: re_Way_text))
    (l_Way_text : K.lookup a_Way_text = some ⟨oc_Way_text, od_Way_text, .func (PySem.W.fnOf "text" "Way.text" (defArgs st_Way_text) (defBody st_Way_text) (defScope st_Way_text) .none kV_Way_text dc_Way_text pm_Way_text an_Way_text cd_Way_text ct_Way_text), sl_Way_text⟩)
    (c_Way_text : PySem.W.codeIn K cd_Way_text "Way.text" = true)
    (k_Way_text : PySem.W.keepIn K (.ref a_Way_text) = true)
    (pa_Way_levels : PySem.W.findIn K (.ref C_Way) "levels" = some (some (.ref p_Way_levels)))
    (pg_Way_levels : PySem.W.specialIn K (.ref p_Way_levels) "__get__" = some (some (.builtin "property.__get__")))
    (pt_Way_levels : PySem.W.takesIn K (.ref p_Way_levels) = some true)
    (pq_Way_levels : PySem.W.recIn K p_Way_levels "property" = some (.ref a_Way_levels :: re_Way_levels))
    (l_Way_levels : K.lookup a_Way_levels = some ⟨oc_Way_levels, od_Way_levels, .func (PySem.W.fnOf "levels" "Way.levels" (defArgs st_Way_levels) (defBody st_Way_levels) (defScope st_Way_levels) .none kV_Way_levels dc_Way_levels pm_Way_levels an_Way_levels cd_Way_levels ct_Way_levels), sl_Way_levels⟩)
    (c_Way_levels : PySem.W.codeIn K cd_Way_levels "Way.levels" = true)
    (k_Way_levels : PySem.W.keepIn K (.ref a_Way_levels) = true)
    (m_Way_exchanged : PySem.W.findIn K (.ref C_Way) "exchanged" = some (some (.ref a_Way_exchanged)))
    (f_Way_exchanged : PySem.W.isFn K (.ref a_Way_exchanged) = true)
    (l_Way_exchanged : K.lookup a_Way_exchanged = some ⟨oc_Way_exchanged, od_Way_exchanged, .func (PySem.W.fnOf "exchanged" "Way.exchanged" (defArgs st_Way_exchanged) (defBody st_Way_exchanged) (defScope st_Way_exchanged) .none kV_Way_exchanged dc_Way_exchanged pm_Way_exchanged an_Way_exchanged cd_Way_exchanged ct_Way_exchanged), sl_Way_exchanged⟩)
    (c_Way_exchanged : PySem.W.codeIn K cd_Way_exchanged "Way.exchanged" = true)
    (k_Way_exchanged : PySem.W.keepIn K (.ref a_Way_exchanged) = true)
    (m_Way_eq : PySem.W.findIn K (.ref C_Way) "__eq__" = some (some (.ref a_Way_eq)))
    (f_Way_eq : PySem.W.isFn K (.ref a_Way_eq) = true)
    (l_Way_eq : K.lookup a_Way_eq = some ⟨oc_Way_eq, od_Way_eq, .func (PySem.W.fnOf "__eq__" "Way.__eq__" (defArgs st_Way_eq) (defBody st_Way_eq) (defScope st_Way_eq) .none kV_Way_eq dc_Way_eq pm_Way_eq an_Way_eq cd_Way_eq ct_Way_eq), sl_Way_eq⟩)
    (c_Way_eq : PySem.W.codeIn K cd_Way_eq "Way.__eq__" = true)
    (k_Way_eq : PySem.W.keepIn K (.ref a_Way_eq) = true)
    (g_check_slope : PySem.W.nsIn K mainGlobals "check_slope" = some (some (.ref a_check_slope)))
    (l_check_slope : K.lookup a_check_slope = some ⟨oc_check_slope, od_check_slope, .func (PySem.W.fnOf "check_slope" "check_slope" (defArgs st_check_slope) (defBody st_check_slope) (defScope st_check_slope) .none kV_check_slope dc_check_slope pm_check_slope an_check_slope cd_check_slope ct_check_slope), sl_check_slope⟩)
    (c_check_slope : PySem.W.codeIn K cd_check_slope "check_slope" = true)
    (k_check_slope : PySem.W.keepIn K (.ref a_check_slope) = true)
    (g_check_way : PySem.W.nsIn K mainGlobals "check_way" = some (some (.ref a_check_way)))
    (l_check_way : K.lookup a_check_way = some ⟨oc_check_way, od_check_way, .func (PySem.W.fnOf "check_way" "check_way" (defArgs st_check_way) (defBody st_check_way) (defScope st_check_way) .none kV_check_way dc_check_way pm_check_way an_check_way cd_check_way ct_check_way), sl_check_way⟩)
    (c_check_way : PySem.W.codeIn K cd_check_way "check_way" = true)
    (k_check_way : PySem.W.keepIn K (.ref a_check_way) = true)
    (g_check_coprime : PySem.W.nsIn K mainGlobals "check_coprime" = some (some (.ref a_check_coprime)))
    (l_check_coprime : K.lookup a_check_coprime = some ⟨oc_check_coprime, od_check_coprime, .func (PySem.W.fnOf "check_coprime" "check_coprime" (defArgs st_check_coprime) (defBody st_check_coprime) (defScope st_check_coprime) .none kV_check_coprime dc_check_coprime pm_check_coprime an_check_coprime cd_check_coprime ct_check_coprime), sl_check_coprime⟩)
    (c_check_coprime : PySem.W.codeIn K cd_check_coprime "check_coprime" = true)
    (k_check_coprime : PySem.W.keepIn K (.ref a_check_coprime) = true)
    (g_check_coprime_way : PySem.W.nsIn K mainGlobals "check_coprime_way" = some (some (.ref a_check_coprime_way)))
    (l_check_coprime_way : K.lookup a_check_coprime_way = some ⟨oc_check_coprime_way, od_check_coprime_way, .func (PySem.W.fnOf "check_coprime_way" "check_coprime_way" (defArgs st_check_coprime_way) (defBody st_check_coprime_way) (defScope st_check_coprime_way) .none kV_check_coprime_way dc_check_coprime_way pm_check_coprime_way an_check_coprime_way cd_check_coprime_way ct_check_coprime_way), sl_check_coprime_way⟩)
    (c_check_coprime_way : PySem.W.codeIn K cd_check_coprime_way "check_coprime_way" = true)
    (k_check_coprime_way : PySem.W.keepIn K (.ref a_check_coprime_way) = true)
    (g_letter_levels : PySem.W.nsIn K mainGlobals "letter_levels" = some (some (.ref a_letter_levels)))
    (l_letter_levels : K.lookup a_letter_levels = some ⟨oc_letter_levels, od_letter_levels, .func (PySem.W.fnOf "letter_levels" "letter_levels" (defArgs st_letter_levels) (defBody st_letter_levels) (defScope st_letter_levels) .none kV_letter_levels dc_letter_levels pm_letter_levels an_letter_levels cd_letter_levels ct_letter_levels), sl_letter_levels⟩)
    (c_letter_levels : PySem.W.codeIn K cd_letter_levels "letter_levels" = true)
    (k_letter_levels : PySem.W.keepIn K (.ref a_letter_levels) = true)
    (g_is_word : PySem.W.nsIn K mainGlobals "is_word" = some (some (.ref a_is_word)))
    (l_is_word : K.lookup a_is_word = some ⟨oc_is_word, od_is_word, .func (PySem.W.fnOf "is_word" "is_word" (defArgs st_is_word) (defBody st_is_word) (defScope st_is_word) .none kV_is_word dc_is_word pm_is_word an_is_word cd_is_word ct_is_word), sl_is_word⟩)
    (c_is_word : PySem.W.codeIn K cd_is_word "is_word" = true)
    (k_is_word : PySem.W.keepIn K (.ref a_is_word) = true)
    (g_is_way : PySem.W.nsIn K mainGlobals "is_way" = some (some (.ref a_is_way)))
    (l_is_way : K.lookup a_is_way = some ⟨oc_is_way, od_is_way, .func (PySem.W.fnOf "is_way" "is_way" (defArgs st_is_way) (defBody st_is_way) (defScope st_is_way) .none kV_is_way dc_is_way pm_is_way an_is_way cd_is_way ct_is_way), sl_is_way⟩)
    (c_is_way : PySem.W.codeIn K cd_is_way "is_way" = true)
    (k_is_way : PySem.W.keepIn K (.ref a_is_way) = true)
    (m_Shelf_init : PySem.W.findIn K (.ref C_Shelf) "__init__" = some (some (.ref a_Shelf_init)))
    (f_Shelf_init : PySem.W.isFn K (.ref a_Shelf_init) = true)
    (l_Shelf_init : K.lookup a_Shelf_init = some ⟨oc_Shelf_init, od_Shelf_init, .func (PySem.W.fnOf "__init__" "Shelf.__init__" (defArgs st_Shelf_init) (defBody st_Shelf_init) (defScope st_Shelf_init) (.ref ed_Shelf_init) kV_Shelf_init dc_Shelf_init pm_Shelf_init an_Shelf_init cd_Shelf_init ct_Shelf_init), sl_Shelf_init⟩)
    (ld_Shelf_init : K.lookup ed_Shelf_init = some ⟨tc_Shelf_init, td_Shelf_init, .seq #[.ref e_Shelf_init] tn_Shelf_init, ts_Shelf_init⟩)
    (le_Shelf_init : K.lookup e_Shelf_init = some ⟨.type "tuple", ud_Shelf_init, .seq #[] un_Shelf_init, us_Shelf_init⟩)
    (c_Shelf_init : PySem.W.codeIn K cd_Shelf_init "Shelf.__init__" = true)
    (k_Shelf_init : PySem.W.keepIn K (.ref a_Shelf_init) = true)
    (pa_Shelf_of_way : PySem.W.findCls K (.ref C_Shelf) (.type "type") "of_way" = some (.get (.builtin "classmethod.__get__") (.ref p_Shelf_of_way) .none (.ref C_Shelf)))
    (pq_Shelf_of_way : PySem.W.recIn K p_Shelf_of_way "classmethod" = some (.ref a_Shelf_of_way :: re_Shelf_of_way))
    (pf_Shelf_of_way : PySem.W.fnIn K a_Shelf_of_way = true)
    (l_Shelf_of_way : K.lookup a_Shelf_of_way = some ⟨oc_Shelf_of_way, od_Shelf_of_way, .func (PySem.W.fnOf "of_way" "Shelf.of_way" (defArgs st_Shelf_of_way) (defBody st_Shelf_of_way) (defScope st_Shelf_of_way) .none kV_Shelf_of_way dc_Shelf_of_way pm_Shelf_of_way an_Shelf_of_way cd_Shelf_of_way ct_Shelf_of_way), sl_Shelf_of_way⟩)
    (c_Shelf_of_way : PySem.W.codeIn K cd_Shelf_of_way "Shelf.of_way" = true)
    (k_Shelf_of_way : PySem.W.keepIn K (.ref a_Shelf_of_way) = true)
    (pa_Shelf_slope : PySem.W.findIn K (.ref C_Shelf) "slope" = some (some (.ref p_Shelf_slope)))
    (pg_Shelf_slope : PySem.W.specialIn K (.ref p_Shelf_slope) "__get__" = some (some (.builtin "property.__get__")))
    (pt_Shelf_slope : PySem.W.takesIn K (.ref p_Shelf_slope) = some true)
    (pq_Shelf_slope : PySem.W.recIn K p_Shelf_slope "property" = some (.ref a_Shelf_slope :: re_Shelf_slope))
    (l_Shelf_slope : K.lookup a_Shelf_slope = some ⟨oc_Shelf_slope, od_Shelf_slope, .func (PySem.W.fnOf "slope" "Shelf.slope" (defArgs st_Shelf_slope) (defBody st_Shelf_slope) (defScope st_Shelf_slope) .none kV_Shelf_slope dc_Shelf_slope pm_Shelf_slope an_Shelf_slope cd_Shelf_slope ct_Shelf_slope), sl_Shelf_slope⟩)
    (c_Shelf_slope : PySem.W.codeIn K cd_Shelf_slope "Shelf.slope" = true)
    (k_Shelf_slope : PySem.W.keepIn K (.ref a_Shelf_slope) = true)
    (pa_Shelf_gaps : PySem.W.findIn K (.ref C_Shelf) "gaps" = some (some (.ref p_Shelf_gaps)))
    (pg_Shelf_gaps : PySem.W.specialIn K (.ref p_Shelf_gaps) "__get__" = some (some (.builtin "property.__get__")))
    (pt_Shelf_gaps : PySem.W.takesIn K (.ref p_Shelf_gaps) = some true)
    (pq_Shelf_gaps : PySem.W.recIn K p_Shelf_gaps "property" = some (.ref a_Shelf_gaps :: re_Shelf_gaps))
    (l_Shelf_gaps : K.lookup a_Shelf_gaps = some ⟨oc_Shelf_gaps, od_Shelf_gaps, .func (PySem.W.fnOf "gaps" "Shelf.gaps" (defArgs st_Shelf_gaps) (defBody st_Shelf_gaps) (defScope st_Shelf_gaps) .none kV_Shelf_gaps dc_Shelf_gaps pm_Shelf_gaps an_Shelf_gaps cd_Shelf_gaps ct_Shelf_gaps), sl_Shelf_gaps⟩)
    (c_Shelf_gaps : PySem.W.codeIn K cd_Shelf_gaps "Shelf.gaps" = true)
    (k_Shelf_gaps : PySem.W.keepIn K (.ref a_Shelf_gaps) = true)
    (m_Shelf_way : PySem.W.findIn K (.ref C_Shelf) "way" = some (some (.ref a_Shelf_way)))
    (f_Shelf_way : PySem.W.isFn K (.ref a_Shelf_way) = true)
    (l_Shelf_way : K.lookup a_Shelf_way = some ⟨oc_Shelf_way, od_Shelf_way, .func (PySem.W.fnOf "way" "Shelf.way" (defArgs st_Shelf_way) (defBody st_Shelf_way) (defScope st_Shelf_way) .none kV_Shelf_way dc_Shelf_way pm_Shelf_way an_Shelf_way cd_Shelf_way ct_Shelf_way), sl_Shelf_way⟩)
    (c_Shelf_way : PySem.W.codeIn K cd_Shelf_way "Shelf.way" = true)
    (k_Shelf_way : PySem.W.keepIn K (.ref a_Shelf_way) = true)
    (m_Shelf_dual : PySem.W.findIn K (.ref C_Shelf) "dual" = some (some (.ref a_Shelf_dual)))
    (f_Shelf_dual : PySem.W.isFn K (.ref a_Shelf_dual) = true)
    (l_Shelf_dual : K.lookup a_Shelf_dual = some ⟨oc_Shelf_dual, od_Shelf_dual, .func (PySem.W.fnOf "dual" "Shelf.dual" (defArgs st_Shelf_dual) (defBody st_Shelf_dual) (defScope st_Shelf_dual) .none kV_Shelf_dual dc_Shelf_dual pm_Shelf_dual an_Shelf_dual cd_Shelf_dual ct_Shelf_dual), sl_Shelf_dual⟩)
    (c_Shelf_dual : PySem.W.codeIn K cd_Shelf_dual "Shelf.dual" = true)
    (k_Shelf_dual : PySem.W.keepIn K (.ref a_Shelf_dual) = true)
    (m_Shelf_exchanged : PySem.W.findIn K (.ref C_Shelf) "exchanged" = some (some (.ref a_Shelf_exchanged)))
    (f_Shelf_exchanged : PySem.W.isFn K (.ref a_Shelf_exchanged) = true)
    (l_Shelf_exchanged : K.lookup a_Shelf_exchanged = some ⟨oc_Shelf_exchanged, od_Shelf_exchanged, .func (PySem.W.fnOf "exchanged" "Shelf.exchanged" (defArgs st_Shelf_exchanged) (defBody st_Shelf_exchanged) (defScope st_Shelf_exchanged) .none kV_Shelf_exchanged dc_Shelf_exchanged pm_Shelf_exchanged an_Shelf_exchanged cd_Shelf_exchanged ct_Shelf_exchanged), sl_Shelf_exchanged⟩)
    (c_Shelf_exchanged : PySem.W.codeIn K cd_Shelf_exchanged "Shelf.exchanged" = true)
    (k_Shelf_exchanged : PySem.W.keepIn K (.ref a_Shelf_exchanged) = true)
    (m_Shelf_eq : PySem.W.findIn K (.ref C_Shelf) "__eq__" = some (some (.ref a_Shelf_eq)))
    (f_Shelf_eq : PySem.W.isFn K (.ref a_Shelf_eq) = true)
    (l_Shelf_eq : K.lookup a_Shelf_eq = some ⟨oc_Shelf_eq, od_Shelf_eq, .func (PySem.W.fnOf "__eq__" "Shelf.__eq__" (defArgs st_Shelf_eq) (defBody st_Shelf_eq) (defScope st_Shelf_eq) .none kV_Shelf_eq dc_Shelf_eq pm_Shelf_eq an_Shelf_eq cd_Shelf_eq ct_Shelf_eq), sl_Shelf_eq⟩)
    (c_Shelf_eq : PySem.W.codeIn K cd_Shelf_eq "Shelf.__eq__" = true)
    (k_Shelf_eq : PySem.W.keepIn K (.ref a_Shelf_eq) = true)
    (g_check_shelf : PySem.W.nsIn K mainGlobals "check_shelf" = some (some (.ref a_check_shelf)))
    (l_check_shelf : K.lookup a_check_shelf = some ⟨oc_check_shelf, od_check_shelf, .func (PySem.W.fnOf "check_shelf" "check_shelf" (defArgs st_check_shelf) (defBody st_check_shelf) (defScope st_check_shelf) .none kV_check_shelf dc_check_shelf pm_check_shelf an_check_shelf cd_check_shelf ct_check_shelf), sl_check_shelf⟩)
    (c_check_shelf : PySem.W.codeIn K cd_check_shelf "check_shelf" = true)
    (k_check_shelf : PySem.W.keepIn K (.ref a_check_shelf) = true)
    (g_way_with_rises : PySem.W.nsIn K mainGlobals "way_with_rises" = some (some (.ref a_way_with_rises)))
    (l_way_with_rises : K.lookup a_way_with_rises = some ⟨oc_way_with_rises, od_way_with_rises, .func (PySem.W.fnOf "way_with_rises" "way_with_rises" (defArgs st_way_with_rises) (defBody st_way_with_rises) (defScope st_way_with_rises) .none kV_way_with_rises dc_way_with_rises pm_way_with_rises an_way_with_rises cd_way_with_rises ct_way_with_rises), sl_way_with_rises⟩)
    (c_way_with_rises : PySem.W.codeIn K cd_way_with_rises "way_with_rises" = true)
    (k_way_with_rises : PySem.W.keepIn K (.ref a_way_with_rises) = true)
    (g_least_members : PySem.W.nsIn K mainGlobals "least_members" = some (some (.ref a_least_members)))
    (l_least_members : K.lookup a_least_members = some ⟨oc_least_members, od_least_members, .func (PySem.W.fnOf "least_members" "least_members" (defArgs st_least_members) (defBody st_least_members) (defScope st_least_members) .none kV_least_members dc_least_members pm_least_members an_least_members cd_least_members ct_least_members), sl_least_members⟩)
    (c_least_members : PySem.W.codeIn K cd_least_members "least_members" = true)
    (k_least_members : PySem.W.keepIn K (.ref a_least_members) = true)
    (g_with_more : PySem.W.nsIn K mainGlobals "with_more" = some (some (.ref a_with_more)))
    (l_with_more : K.lookup a_with_more = some ⟨oc_with_more, od_with_more, .func (PySem.W.fnOf "with_more" "with_more" (defArgs st_with_more) (defBody st_with_more) (defScope st_with_more) .none kV_with_more dc_with_more pm_with_more an_with_more cd_with_more ct_with_more), sl_with_more⟩)
    (c_with_more : PySem.W.codeIn K cd_with_more "with_more" = true)
    (k_with_more : PySem.W.keepIn K (.ref a_with_more) = true)
    (g_sides : PySem.W.nsIn K mainGlobals "sides" = some (some (.ref a_sides)))
    (l_sides : K.lookup a_sides = some ⟨oc_sides, od_sides, .func (PySem.W.fnOf "sides" "sides" (defArgs st_sides) (defBody st_sides) (defScope st_sides) .none kV_sides dc_sides pm_sides an_sides cd_sides ct_sides), sl_sides⟩)
    (c_sides : PySem.W.codeIn K cd_sides "sides" = true)
    (k_sides : PySem.W.keepIn K (.ref a_sides) = true)
    (g_members_below : PySem.W.nsIn K mainGlobals "members_below" = some (some (.ref a_members_below)))
    (l_members_below : K.lookup a_members_below = some ⟨oc_members_below, od_members_below, .func (PySem.W.fnOf "members_below" "members_below" (defArgs st_members_below) (defBody st_members_below) (defScope st_members_below) .none kV_members_below dc_members_below pm_members_below an_members_below cd_members_below ct_members_below), sl_members_below⟩)
    (c_members_below : PySem.W.codeIn K cd_members_below "members_below" = true)
    (k_members_below : PySem.W.keepIn K (.ref a_members_below) = true)
    (g_gaps_of : PySem.W.nsIn K mainGlobals "gaps_of" = some (some (.ref a_gaps_of)))
    (l_gaps_of : K.lookup a_gaps_of = some ⟨oc_gaps_of, od_gaps_of, .func (PySem.W.fnOf "gaps_of" "gaps_of" (defArgs st_gaps_of) (defBody st_gaps_of) (defScope st_gaps_of) .none kV_gaps_of dc_gaps_of pm_gaps_of an_gaps_of cd_gaps_of ct_gaps_of), sl_gaps_of⟩)
    (c_gaps_of : PySem.W.codeIn K cd_gaps_of "gaps_of" = true)
    (k_gaps_of : PySem.W.keepIn K (.ref a_gaps_of) = true)
    (g_is_gaps : PySem.W.nsIn K mainGlobals "is_gaps" = some (some (.ref a_is_gaps)))
    (l_is_gaps : K.lookup a_is_gaps = some ⟨oc_is_gaps, od_is_gaps, .func (PySem.W.fnOf "is_gaps" "is_gaps" (defArgs st_is_gaps) (defBody st_is_gaps) (defScope st_is_gaps) .none kV_is_gaps dc_is_gaps pm_is_gaps an_is_gaps cd_is_gaps ct_is_gaps), sl_is_gaps⟩)
    (c_is_gaps : PySem.W.codeIn K cd_is_gaps "is_gaps" = true)
    (k_is_gaps : PySem.W.keepIn K (.ref a_is_gaps) = true)
    (m_Heap_init : PySem.W.findIn K (.ref C_Heap) "__init__" = some (some (.ref a_Heap_init)))
    (f_Heap_init : PySem.W.isFn K (.ref a_Heap_init) = true)
    (l_Heap_init : K.lookup a_Heap_init = some ⟨oc_Heap_init, od_Heap_init, .func (PySem.W.fnOf "__init__" "Heap.__init__" (defArgs st_Heap_init) (defBody st_Heap_init) (defScope st_Heap_init) (.ref ed_Heap_init) kV_Heap_init dc_Heap_init pm_Heap_init an_Heap_init cd_Heap_init ct_Heap_init), sl_Heap_init⟩)
    (ld_Heap_init : K.lookup ed_Heap_init = some ⟨tc_Heap_init, td_Heap_init, .seq #[.ref e_Heap_init] tn_Heap_init, ts_Heap_init⟩)
    (le_Heap_init : K.lookup e_Heap_init = some ⟨.type "tuple", ud_Heap_init, .seq #[] un_Heap_init, us_Heap_init⟩)
    (c_Heap_init : PySem.W.codeIn K cd_Heap_init "Heap.__init__" = true)
    (k_Heap_init : PySem.W.keepIn K (.ref a_Heap_init) = true)
    (pa_Heap_of_first_hooks : PySem.W.findCls K (.ref C_Heap) (.type "type") "of_first_hooks" = some (.get (.builtin "classmethod.__get__") (.ref p_Heap_of_first_hooks) .none (.ref C_Heap)))
    (pq_Heap_of_first_hooks : PySem.W.recIn K p_Heap_of_first_hooks "classmethod" = some (.ref a_Heap_of_first_hooks :: re_Heap_of_first_hooks))
    (pf_Heap_of_first_hooks : PySem.W.fnIn K a_Heap_of_first_hooks = true)
    (l_Heap_of_first_hooks : K.lookup a_Heap_of_first_hooks = some ⟨oc_Heap_of_first_hooks, od_Heap_of_first_hooks, .func (PySem.W.fnOf "of_first_hooks" "Heap.of_first_hooks" (defArgs st_Heap_of_first_hooks) (defBody st_Heap_of_first_hooks) (defScope st_Heap_of_first_hooks) .none kV_Heap_of_first_hooks dc_Heap_of_first_hooks pm_Heap_of_first_hooks an_Heap_of_first_hooks cd_Heap_of_first_hooks ct_Heap_of_first_hooks), sl_Heap_of_first_hooks⟩)
    (c_Heap_of_first_hooks : PySem.W.codeIn K cd_Heap_of_first_hooks "Heap.of_first_hooks" = true)
    (k_Heap_of_first_hooks : PySem.W.keepIn K (.ref a_Heap_of_first_hooks) = true)
    (pa_Heap_rows : PySem.W.findIn K (.ref C_Heap) "rows" = some (some (.ref p_Heap_rows)))
    (pg_Heap_rows : PySem.W.specialIn K (.ref p_Heap_rows) "__get__" = some (some (.builtin "property.__get__")))
    (pt_Heap_rows : PySem.W.takesIn K (.ref p_Heap_rows) = some true)
    (pq_Heap_rows : PySem.W.recIn K p_Heap_rows "property" = some (.ref a_Heap_rows :: re_Heap_rows))
    (l_Heap_rows : K.lookup a_Heap_rows = some ⟨oc_Heap_rows, od_Heap_rows, .func (PySem.W.fnOf "rows" "Heap.rows" (defArgs st_Heap_rows) (defBody st_Heap_rows) (defScope st_Heap_rows) .none kV_Heap_rows dc_Heap_rows pm_Heap_rows an_Heap_rows cd_Heap_rows ct_Heap_rows), sl_Heap_rows⟩)
    (c_Heap_rows : PySem.W.codeIn K cd_Heap_rows "Heap.rows" = true)
    (k_Heap_rows : PySem.W.keepIn K (.ref a_Heap_rows) = true)
    (pa_Heap_size : PySem.W.findIn K (.ref C_Heap) "size" = some (some (.ref p_Heap_size)))
    (pg_Heap_size : PySem.W.specialIn K (.ref p_Heap_size) "__get__" = some (some (.builtin "property.__get__")))
    (pt_Heap_size : PySem.W.takesIn K (.ref p_Heap_size) = some true)
    (pq_Heap_size : PySem.W.recIn K p_Heap_size "property" = some (.ref a_Heap_size :: re_Heap_size))
    (l_Heap_size : K.lookup a_Heap_size = some ⟨oc_Heap_size, od_Heap_size, .func (PySem.W.fnOf "size" "Heap.size" (defArgs st_Heap_size) (defBody st_Heap_size) (defScope st_Heap_size) .none kV_Heap_size dc_Heap_size pm_Heap_size an_Heap_size cd_Heap_size ct_Heap_size), sl_Heap_size⟩)
    (c_Heap_size : PySem.W.codeIn K cd_Heap_size "Heap.size" = true)
    (k_Heap_size : PySem.W.keepIn K (.ref a_Heap_size) = true)
    (pa_Heap_first_hooks : PySem.W.findIn K (.ref C_Heap) "first_hooks" = some (some (.ref p_Heap_first_hooks)))
    (pg_Heap_first_hooks : PySem.W.specialIn K (.ref p_Heap_first_hooks) "__get__" = some (some (.builtin "property.__get__")))
    (pt_Heap_first_hooks : PySem.W.takesIn K (.ref p_Heap_first_hooks) = some true)
    (pq_Heap_first_hooks : PySem.W.recIn K p_Heap_first_hooks "property" = some (.ref a_Heap_first_hooks :: re_Heap_first_hooks))
    (l_Heap_first_hooks : K.lookup a_Heap_first_hooks = some ⟨oc_Heap_first_hooks, od_Heap_first_hooks, .func (PySem.W.fnOf "first_hooks" "Heap.first_hooks" (defArgs st_Heap_first_hooks) (defBody st_Heap_first_hooks) (defScope st_Heap_first_hooks) .none kV_Heap_first_hooks dc_Heap_first_hooks pm_Heap_first_hooks an_Heap_first_hooks cd_Heap_first_hooks ct_Heap_first_hooks), sl_Heap_first_hooks⟩)
    (c_Heap_first_hooks : PySem.W.codeIn K cd_Heap_first_hooks "Heap.first_hooks" = true)
    (k_Heap_first_hooks : PySem.W.keepIn K (.ref a_Heap_first_hooks) = true)
    (m_Heap_turned : PySem.W.findIn K (.ref C_Heap) "turned" = some (some (.ref a_Heap_turned)))
    (f_Heap_turned : PySem.W.isFn K (.ref a_Heap_turned) = true)
    (l_Heap_turned : K.lookup a_Heap_turned = some ⟨oc_Heap_turned, od_Heap_turned, .func (PySem.W.fnOf "turned" "Heap.turned" (defArgs st_Heap_turned) (defBody st_Heap_turned) (defScope st_Heap_turned) .none kV_Heap_turned dc_Heap_turned pm_Heap_turned an_Heap_turned cd_Heap_turned ct_Heap_turned), sl_Heap_turned⟩)
    (c_Heap_turned : PySem.W.codeIn K cd_Heap_turned "Heap.turned" = true)
    (k_Heap_turned : PySem.W.keepIn K (.ref a_Heap_turned) = true)
    (m_Heap_hooks : PySem.W.findIn K (.ref C_Heap) "hooks" = some (some (.ref a_Heap_hooks)))
    (f_Heap_hooks : PySem.W.isFn K (.ref a_Heap_hooks) = true)
    (l_Heap_hooks : K.lookup a_Heap_hooks = some ⟨oc_Heap_hooks, od_Heap_hooks, .func (PySem.W.fnOf "hooks" "Heap.hooks" (defArgs st_Heap_hooks) (defBody st_Heap_hooks) (defScope st_Heap_hooks) .none kV_Heap_hooks dc_Heap_hooks pm_Heap_hooks an_Heap_hooks cd_Heap_hooks ct_Heap_hooks), sl_Heap_hooks⟩)
    (c_Heap_hooks : PySem.W.codeIn K cd_Heap_hooks "Heap.hooks" = true)
    (k_Heap_hooks : PySem.W.keepIn K (.ref a_Heap_hooks) = true)
    (m_Heap_len : PySem.W.findIn K (.ref C_Heap) "__len__" = some (some (.ref a_Heap_len)))
    (f_Heap_len : PySem.W.isFn K (.ref a_Heap_len) = true)
    (l_Heap_len : K.lookup a_Heap_len = some ⟨oc_Heap_len, od_Heap_len, .func (PySem.W.fnOf "__len__" "Heap.__len__" (defArgs st_Heap_len) (defBody st_Heap_len) (defScope st_Heap_len) .none kV_Heap_len dc_Heap_len pm_Heap_len an_Heap_len cd_Heap_len ct_Heap_len), sl_Heap_len⟩)
    (c_Heap_len : PySem.W.codeIn K cd_Heap_len "Heap.__len__" = true)
    (k_Heap_len : PySem.W.keepIn K (.ref a_Heap_len) = true)
    (m_Heap_eq : PySem.W.findIn K (.ref C_Heap) "__eq__" = some (some (.ref a_Heap_eq)))
    (f_Heap_eq : PySem.W.isFn K (.ref a_Heap_eq) = true)
    (l_Heap_eq : K.lookup a_Heap_eq = some ⟨oc_Heap_eq, od_Heap_eq, .func (PySem.W.fnOf "__eq__" "Heap.__eq__" (defArgs st_Heap_eq) (defBody st_Heap_eq) (defScope st_Heap_eq) .none kV_Heap_eq dc_Heap_eq pm_Heap_eq an_Heap_eq cd_Heap_eq ct_Heap_eq), sl_Heap_eq⟩)
    (c_Heap_eq : PySem.W.codeIn K cd_Heap_eq "Heap.__eq__" = true)
    (k_Heap_eq : PySem.W.keepIn K (.ref a_Heap_eq) = true)
    (g_check_heap : PySem.W.nsIn K mainGlobals "check_heap" = some (some (.ref a_check_heap)))
    (l_check_heap : K.lookup a_check_heap = some ⟨oc_check_heap, od_check_heap, .func (PySem.W.fnOf "check_heap" "check_heap" (defArgs st_check_heap) (defBody st_check_heap) (defScope st_check_heap) .none kV_check_heap dc_check_heap pm_check_heap an_check_heap cd_check_heap ct_check_heap), sl_check_heap⟩)
    (c_check_heap : PySem.W.codeIn K cd_check_heap "check_heap" = true)
    (k_check_heap : PySem.W.keepIn K (.ref a_check_heap) = true)
    (g_is_heap_rows : PySem.W.nsIn K mainGlobals "is_heap_rows" = some (some (.ref a_is_heap_rows)))
    (l_is_heap_rows : K.lookup a_is_heap_rows = some ⟨oc_is_heap_rows, od_is_heap_rows, .func (PySem.W.fnOf "is_heap_rows" "is_heap_rows" (defArgs st_is_heap_rows) (defBody st_is_heap_rows) (defScope st_is_heap_rows) .none kV_is_heap_rows dc_is_heap_rows pm_is_heap_rows an_is_heap_rows cd_is_heap_rows ct_is_heap_rows), sl_is_heap_rows⟩)
    (c_is_heap_rows : PySem.W.codeIn K cd_is_heap_rows "is_heap_rows" = true)
    (k_is_heap_rows : PySem.W.keepIn K (.ref a_is_heap_rows) = true)
    (g_rows_of_hooks : PySem.W.nsIn K mainGlobals "rows_of_hooks" = some (some (.ref a_rows_of_hooks)))
    (l_rows_of_hooks : K.lookup a_rows_of_hooks = some ⟨oc_rows_of_hooks, od_rows_of_hooks, .func (PySem.W.fnOf "rows_of_hooks" "rows_of_hooks" (defArgs st_rows_of_hooks) (defBody st_rows_of_hooks) (defScope st_rows_of_hooks) .none kV_rows_of_hooks dc_rows_of_hooks pm_rows_of_hooks an_rows_of_hooks cd_rows_of_hooks ct_rows_of_hooks), sl_rows_of_hooks⟩)
    (c_rows_of_hooks : PySem.W.codeIn K cd_rows_of_hooks "rows_of_hooks" = true)
    (k_rows_of_hooks : PySem.W.keepIn K (.ref a_rows_of_hooks) = true)
    (g_heap_of : PySem.W.nsIn K mainGlobals "heap_of" = some (some (.ref a_heap_of)))
    (l_heap_of : K.lookup a_heap_of = some ⟨oc_heap_of, od_heap_of, .func (PySem.W.fnOf "heap_of" "heap_of" (defArgs st_heap_of) (defBody st_heap_of) (defScope st_heap_of) .none kV_heap_of dc_heap_of pm_heap_of an_heap_of cd_heap_of ct_heap_of), sl_heap_of⟩)
    (c_heap_of : PySem.W.codeIn K cd_heap_of "heap_of" = true)
    (k_heap_of : PySem.W.keepIn K (.ref a_heap_of) = true)
    (g_shelf_of : PySem.W.nsIn K mainGlobals "shelf_of" = some (some (.ref a_shelf_of)))
    (l_shelf_of : K.lookup a_shelf_of = some ⟨oc_shelf_of, od_shelf_of, .func (PySem.W.fnOf "shelf_of" "shelf_of" (defArgs st_shelf_of) (defBody st_shelf_of) (defScope st_shelf_of) .none kV_shelf_of dc_shelf_of pm_shelf_of an_shelf_of cd_shelf_of ct_shelf_of), sl_shelf_of⟩)
    (c_shelf_of : PySem.W.codeIn K cd_shelf_of "shelf_of" = true)
    (k_shelf_of : PySem.W.keepIn K (.ref a_shelf_of) = true)
    (g_law_dice : PySem.W.nsIn K mainGlobals "_law_dice" = some (some (.ref a_law_dice)))
    (l_law_dice : K.lookup a_law_dice = some ⟨oc_law_dice, od_law_dice, .func (PySem.W.fnOf "_law_dice" "_law_dice" (defArgs st_law_dice) (defBody st_law_dice) (defScope st_law_dice) .none kV_law_dice dc_law_dice pm_law_dice an_law_dice cd_law_dice ct_law_dice), sl_law_dice⟩)
    (c_law_dice : PySem.W.codeIn K cd_law_dice "_law_dice" = true)
    (k_law_dice : PySem.W.keepIn K (.ref a_law_dice) = true)
    (g_law_roll : PySem.W.nsIn K mainGlobals "_law_roll" = some (some (.ref a_law_roll)))
    (l_law_roll : K.lookup a_law_roll = some ⟨oc_law_roll, od_law_roll, .func (PySem.W.fnOf "_law_roll" "_law_roll" (defArgs st_law_roll) (defBody st_law_roll) (defScope st_law_roll) .none kV_law_roll dc_law_roll pm_law_roll an_law_roll cd_law_roll ct_law_roll), sl_law_roll⟩)
    (c_law_roll : PySem.W.codeIn K cd_law_roll "_law_roll" = true)
    (k_law_roll : PySem.W.keepIn K (.ref a_law_roll) = true)
    (g_law_slope : PySem.W.nsIn K mainGlobals "_law_slope" = some (some (.ref a_law_slope)))
    (l_law_slope : K.lookup a_law_slope = some ⟨oc_law_slope, od_law_slope, .func (PySem.W.fnOf "_law_slope" "_law_slope" (defArgs st_law_slope) (defBody st_law_slope) (defScope st_law_slope) .none kV_law_slope dc_law_slope pm_law_slope an_law_slope cd_law_slope ct_law_slope), sl_law_slope⟩)
    (c_law_slope : PySem.W.codeIn K cd_law_slope "_law_slope" = true)
    (k_law_slope : PySem.W.keepIn K (.ref a_law_slope) = true)
    (g_law_way : PySem.W.nsIn K mainGlobals "_law_way" = some (some (.ref a_law_way)))
    (l_law_way : K.lookup a_law_way = some ⟨oc_law_way, od_law_way, .func (PySem.W.fnOf "_law_way" "_law_way" (defArgs st_law_way) (defBody st_law_way) (defScope st_law_way) .none kV_law_way dc_law_way pm_law_way an_law_way cd_law_way ct_law_way), sl_law_way⟩)
    (c_law_way : PySem.W.codeIn K cd_law_way "_law_way" = true)
    (k_law_way : PySem.W.keepIn K (.ref a_law_way) = true)
    (g_law_levels : PySem.W.nsIn K mainGlobals "_law_levels" = some (some (.ref a_law_levels)))
    (l_law_levels : K.lookup a_law_levels = some ⟨oc_law_levels, od_law_levels, .func (PySem.W.fnOf "_law_levels" "_law_levels" (defArgs st_law_levels) (defBody st_law_levels) (defScope st_law_levels) .none kV_law_levels dc_law_levels pm_law_levels an_law_levels cd_law_levels ct_law_levels), sl_law_levels⟩)
    (c_law_levels : PySem.W.codeIn K cd_law_levels "_law_levels" = true)
    (k_law_levels : PySem.W.keepIn K (.ref a_law_levels) = true)
    (g_law_makers : PySem.W.nsIn K mainGlobals "_law_makers" = some (some (.ref a_law_makers)))
    (l_law_makers : K.lookup a_law_makers = some ⟨oc_law_makers, od_law_makers, .func (PySem.W.fnOf "_law_makers" "_law_makers" (defArgs st_law_makers) (defBody st_law_makers) (defScope st_law_makers) .none kV_law_makers dc_law_makers pm_law_makers an_law_makers cd_law_makers ct_law_makers), sl_law_makers⟩)
    (c_law_makers : PySem.W.codeIn K cd_law_makers "_law_makers" = true)
    (k_law_makers : PySem.W.keepIn K (.ref a_law_makers) = true)
    (g_law_gaps : PySem.W.nsIn K mainGlobals "_law_gaps" = some (some (.ref a_law_gaps)))
    (l_law_gaps : K.lookup a_law_gaps = some ⟨oc_law_gaps, od_law_gaps, .func (PySem.W.fnOf "_law_gaps" "_law_gaps" (defArgs st_law_gaps) (defBody st_law_gaps) (defScope st_law_gaps) .none kV_law_gaps dc_law_gaps pm_law_gaps an_law_gaps cd_law_gaps ct_law_gaps), sl_law_gaps⟩)
    (c_law_gaps : PySem.W.codeIn K cd_law_gaps "_law_gaps" = true)
    (k_law_gaps : PySem.W.keepIn K (.ref a_law_gaps) = true)
    (g_law_squares : PySem.W.nsIn K mainGlobals "_law_squares" = some (some (.ref a_law_squares)))
    (l_law_squares : K.lookup a_law_squares = some ⟨oc_law_squares, od_law_squares, .func (PySem.W.fnOf "_law_squares" "_law_squares" (defArgs st_law_squares) (defBody st_law_squares) (defScope st_law_squares) .none kV_law_squares dc_law_squares pm_law_squares an_law_squares cd_law_squares ct_law_squares), sl_law_squares⟩)
    (c_law_squares : PySem.W.codeIn K cd_law_squares "_law_squares" = true)
    (k_law_squares : PySem.W.keepIn K (.ref a_law_squares) = true)
    (g_law_rows_of : PySem.W.nsIn K mainGlobals "_law_rows_of" = some (some (.ref a_law_rows_of)))
    (l_law_rows_of : K.lookup a_law_rows_of = some ⟨oc_law_rows_of, od_law_rows_of, .func (PySem.W.fnOf "_law_rows_of" "_law_rows_of" (defArgs st_law_rows_of) (defBody st_law_rows_of) (defScope st_law_rows_of) .none kV_law_rows_of dc_law_rows_of pm_law_rows_of an_law_rows_of cd_law_rows_of ct_law_rows_of), sl_law_rows_of⟩)
    (c_law_rows_of : PySem.W.codeIn K cd_law_rows_of "_law_rows_of" = true)
    (k_law_rows_of : PySem.W.keepIn K (.ref a_law_rows_of) = true)
    (g_law_turned_rows : PySem.W.nsIn K mainGlobals "_law_turned_rows" = some (some (.ref a_law_turned_rows)))
    (l_law_turned_rows : K.lookup a_law_turned_rows = some ⟨oc_law_turned_rows, od_law_turned_rows, .func (PySem.W.fnOf "_law_turned_rows" "_law_turned_rows" (defArgs st_law_turned_rows) (defBody st_law_turned_rows) (defScope st_law_turned_rows) .none kV_law_turned_rows dc_law_turned_rows pm_law_turned_rows an_law_turned_rows cd_law_turned_rows ct_law_turned_rows), sl_law_turned_rows⟩)
    (c_law_turned_rows : PySem.W.codeIn K cd_law_turned_rows "_law_turned_rows" = true)
    (k_law_turned_rows : PySem.W.keepIn K (.ref a_law_turned_rows) = true)
    (g_law_gaps_of : PySem.W.nsIn K mainGlobals "_law_gaps_of" = some (some (.ref a_law_gaps_of)))
    (l_law_gaps_of : K.lookup a_law_gaps_of = some ⟨oc_law_gaps_of, od_law_gaps_of, .func (PySem.W.fnOf "_law_gaps_of" "_law_gaps_of" (defArgs st_law_gaps_of) (defBody st_law_gaps_of) (defScope st_law_gaps_of) .none kV_law_gaps_of dc_law_gaps_of pm_law_gaps_of an_law_gaps_of cd_law_gaps_of ct_law_gaps_of), sl_law_gaps_of⟩)
    (c_law_gaps_of : PySem.W.codeIn K cd_law_gaps_of "_law_gaps_of" = true)
    (k_law_gaps_of : PySem.W.keepIn K (.ref a_law_gaps_of) = true)
    (g_law_dual : PySem.W.nsIn K mainGlobals "_law_dual" = some (some (.ref a_law_dual)))
    (l_law_dual : K.lookup a_law_dual = some ⟨oc_law_dual, od_law_dual, .func (PySem.W.fnOf "_law_dual" "_law_dual" (defArgs st_law_dual) (defBody st_law_dual) (defScope st_law_dual) .none kV_law_dual dc_law_dual pm_law_dual an_law_dual cd_law_dual ct_law_dual), sl_law_dual⟩)
    (c_law_dual : PySem.W.codeIn K cd_law_dual "_law_dual" = true)
    (k_law_dual : PySem.W.keepIn K (.ref a_law_dual) = true)
    (g_law : PySem.W.nsIn K mainGlobals "law" = some (some (.ref a_law)))
    (l_law : K.lookup a_law = some ⟨oc_law, od_law, .func (PySem.W.fnOf "law" "law" (defArgs st_law) (defBody st_law) (defScope st_law) .none kV_law dc_law pm_law an_law cd_law ct_law), sl_law⟩)
    (c_law : PySem.W.codeIn K cd_law "law" = true)
    (k_law : PySem.W.keepIn K (.ref a_law) = true)
    (c1_Slope : PySem.W.plainGet K C_Slope Str.empty = true)
    (c2_Slope : PySem.W.hasDictIn K C_Slope = true)
    (c3_Slope : PySem.W.plainOver K C_Slope = true)
    (c4_Slope : PySem.W.findIn K (.ref C_Slope) "__setattr__" = some (some (.builtin "object.__setattr__")))
    (c5_Slope : PySem.W.makesIn K C_Slope = true)
    (c6_Slope : PySem.W.keepIn K (.ref C_Slope) = true)
    (na_Slope_rises : PySem.W.findIn K (.ref C_Slope) "_rises" = some none)
    (na_Slope_steps : PySem.W.findIn K (.ref C_Slope) "_steps" = some none)
    (na_Slope_common : PySem.W.findIn K (.ref C_Slope) "_common" = some none)
    (c1_Way : PySem.W.plainGet K C_Way Str.empty = true)
    (c2_Way : PySem.W.hasDictIn K C_Way = true)
    (c3_Way : PySem.W.plainOver K C_Way = true)
    (c4_Way : PySem.W.findIn K (.ref C_Way) "__setattr__" = some (some (.builtin "object.__setattr__")))
    (c5_Way : PySem.W.makesIn K C_Way = true)
    (c6_Way : PySem.W.keepIn K (.ref C_Way) = true)
    (na_Way_slope : PySem.W.findIn K (.ref C_Way) "_slope" = some none)
    (na_Way_text : PySem.W.findIn K (.ref C_Way) "_text" = some none)
    (na_Way_levels : PySem.W.findIn K (.ref C_Way) "_levels" = some none)
    (na_Way_runs : PySem.W.findIn K (.ref C_Way) "_runs" = some none)
    (na_Way_key : PySem.W.findIn K (.ref C_Way) "_key" = some none)
    (c1_Shelf : PySem.W.plainGet K C_Shelf Str.empty = true)
    (c2_Shelf : PySem.W.hasDictIn K C_Shelf = true)
    (c3_Shelf : PySem.W.plainOver K C_Shelf = true)
    (c4_Shelf : PySem.W.findIn K (.ref C_Shelf) "__setattr__" = some (some (.builtin "object.__setattr__")))
    (c5_Shelf : PySem.W.makesIn K C_Shelf = true)
    (c6_Shelf : PySem.W.keepIn K (.ref C_Shelf) = true)
    (rr_Shelf : PySem.W.readsIn K C_Shelf (.type "type") = true)
    (rg_Shelf : PySem.W.specialIn K (.ref C_Shelf) "__getattribute__" = some (some (.builtin "type.__getattribute__")))
    (na_Shelf_slope : PySem.W.findIn K (.ref C_Shelf) "_slope" = some none)
    (na_Shelf_gaps : PySem.W.findIn K (.ref C_Shelf) "_gaps" = some none)
    (na_Shelf_gap_table : PySem.W.findIn K (.ref C_Shelf) "_gap_table" = some none)
    (na_Shelf_rise_makers : PySem.W.findIn K (.ref C_Shelf) "_rise_makers" = some none)
    (na_Shelf_step_makers : PySem.W.findIn K (.ref C_Shelf) "_step_makers" = some none)
    (na_Shelf_makers : PySem.W.findIn K (.ref C_Shelf) "_makers" = some none)
    (c1_Heap : PySem.W.plainGet K C_Heap Str.empty = true)
    (c2_Heap : PySem.W.hasDictIn K C_Heap = true)
    (c3_Heap : PySem.W.plainOver K C_Heap = true)
    (c4_Heap : PySem.W.findIn K (.ref C_Heap) "__setattr__" = some (some (.builtin "object.__setattr__")))
    (c5_Heap : PySem.W.makesIn K C_Heap = true)
    (c6_Heap : PySem.W.keepIn K (.ref C_Heap) = true)
    (rr_Heap : PySem.W.readsIn K C_Heap (.type "type") = true)
    (rg_Heap : PySem.W.specialIn K (.ref C_Heap) "__getattribute__" = some (some (.builtin "type.__getattribute__")))
    (na_Heap_rows : PySem.W.findIn K (.ref C_Heap) "_rows" = some none)
    (na_Heap_size : PySem.W.findIn K (.ref C_Heap) "_size" = some none)
    (na_Heap_first_hooks : PySem.W.findIn K (.ref C_Heap) "_first_hooks" = some none)
    (na_Heap_key : PySem.W.findIn K (.ref C_Heap) "_key" = some none)
    (ic_Slope : PySem.W.findIn K (.ref C_Slope) "__class__" = some (some (.builtin "object.__class__")))
    (mr_Slope : PySem.W.mroIn K C_Slope (.type "object") = some true)
    (nn_Slope : PySem.W.findIn K (.ref C_Slope) "__ne__" = some (some (.builtin "object.__ne__")))
    (ic_Way : PySem.W.findIn K (.ref C_Way) "__class__" = some (some (.builtin "object.__class__")))
    (mr_Way : PySem.W.mroIn K C_Way (.type "object") = some true)
    (nn_Way : PySem.W.findIn K (.ref C_Way) "__ne__" = some (some (.builtin "object.__ne__")))
    (ic_Shelf : PySem.W.findIn K (.ref C_Shelf) "__class__" = some (some (.builtin "object.__class__")))
    (mr_Shelf : PySem.W.mroIn K C_Shelf (.type "object") = some true)
    (nn_Shelf : PySem.W.findIn K (.ref C_Shelf) "__ne__" = some (some (.builtin "object.__ne__")))
    (ic_Heap : PySem.W.findIn K (.ref C_Heap) "__class__" = some (some (.builtin "object.__class__")))
    (mr_Heap : PySem.W.mroIn K C_Heap (.type "object") = some true)
    (nn_Heap : PySem.W.findIn K (.ref C_Heap) "__ne__" = some (some (.builtin "object.__ne__")))
    (cg : PySem.W.specialIn K (.builtin "object.__class__") "__get__" = some (some (.builtin "getset_descriptor.__get__")))
    (ct : PySem.W.takesIn K (.builtin "object.__class__") = some true)
    (n_abs : PySem.W.nsIn K mainGlobals "abs" = some none)
    (n_any : PySem.W.nsIn K mainGlobals "any" = some none)
    (n_bool : PySem.W.nsIn K mainGlobals "bool" = some none)
    (n_enumerate : PySem.W.nsIn K mainGlobals "enumerate" = some none)
    (n_int : PySem.W.nsIn K mainGlobals "int" = some none)
    (n_isinstance : PySem.W.nsIn K mainGlobals "isinstance" = some none)
    (n_len : PySem.W.nsIn K mainGlobals "len" = some none)
    (n_list : PySem.W.nsIn K mainGlobals "list" = some none)
    (n_max : PySem.W.nsIn K mainGlobals "max" = some none)
    (n_min : PySem.W.nsIn K mainGlobals "min" = some none)
    (n_range : PySem.W.nsIn K mainGlobals "range" = some none)
    (n_sorted : PySem.W.nsIn K mainGlobals "sorted" = some none)
    (n_str : PySem.W.nsIn K mainGlobals "str" = some none)
    (n_sum : PySem.W.nsIn K mainGlobals "sum" = some none)
    (n_tuple : PySem.W.nsIn K mainGlobals "tuple" = some none)
    (n_zip : PySem.W.nsIn K mainGlobals "zip" = some none)
    (i_gcd : PySem.W.nsIn K mainGlobals "gcd" = some (some (.builtin "math.gcd")))
    (qc_GREATEST : PySem.W.nsIn K mainGlobals "GREATEST" = some (some (.int 999999999999999999999999999999999999999999999999999999999999 t_GREATEST)))
    (qc_MAX_SIDE : PySem.W.nsIn K mainGlobals "MAX_SIDE" = some (some (.int 60 t_MAX_SIDE)))
    (qc_MAX_ROW : PySem.W.nsIn K mainGlobals "MAX_ROW" = some (some (.int 60 t_MAX_ROW)))
    : ∃ fd : FuncData, (∀ (s : Shared) (v : Value), BindsTo s fd ⟨[v], []⟩ [("_law_script", v)]) ∧ ∀ base : Heap, K.In base → base.Ns mainGlobals mg → FnOk l.prog w K mg base CX0 11 fa fd ["_law_script"] (spLaw K) := by
  have e : fa = a_law := Value.ref.inj (Option.some.inj (hfa.symm.trans (PySem.W.mg_of X G g_law)))
  rw [e]
  let T : Tx K mg := {
    C_Slope := C_Slope,
    C_Way := C_Way,
    C_Shelf := C_Shelf,
    C_Heap := C_Heap,
    a_is_number := a_is_number,
    d_is_number := _,
    F_is_number := fun_mk (st := st_is_number) l_is_number c_is_number k_is_number,
    b_is_number := (fun_mk (st := st_is_number) l_is_number c_is_number k_is_number).binds (ps := ["value"]) fun _ _ _ _ _ _ us hl => match us, hl with | [_], _ => rfl,
    g_is_number := PySem.W.mg_of X G g_is_number,
    a_is_whole_between := a_is_whole_between,
    d_is_whole_between := _,
    F_is_whole_between := fun_mk (st := st_is_whole_between) l_is_whole_between c_is_whole_between k_is_whole_between,
    b_is_whole_between := (fun_mk (st := st_is_whole_between) l_is_whole_between c_is_whole_between k_is_whole_between).binds (ps := ["value", "least", "most"]) fun _ _ _ _ _ _ us hl => match us, hl with | [_, _, _], _ => rfl,
    g_is_whole_between := PySem.W.mg_of X G g_is_whole_between,
    a_is_ascending := a_is_ascending,
    d_is_ascending := _,
    F_is_ascending := fun_mk (st := st_is_ascending) l_is_ascending c_is_ascending k_is_ascending,
    b_is_ascending := (fun_mk (st := st_is_ascending) l_is_ascending c_is_ascending k_is_ascending).binds (ps := ["value", "least", "most"]) fun _ _ _ _ _ _ us hl => match us, hl with | [_, _, _], _ => rfl,
    g_is_ascending := PySem.W.mg_of X G g_is_ascending,
    a_Slope_init := a_Slope_init,
    d_Slope_init := _,
    F_Slope_init := fun_mk (st := st_Slope_init) l_Slope_init c_Slope_init k_Slope_init,
    b_Slope_init := (fun_mk (st := st_Slope_init) l_Slope_init c_Slope_init k_Slope_init).binds (ps := ["self", "rises", "steps"]) fun _ _ _ _ _ _ us hl => match us, hl with | [_, _, _], _ => rfl,
    a_Slope_rises := a_Slope_rises,
    d_Slope_rises := _,
    F_Slope_rises := fun_mk (st := st_Slope_rises) l_Slope_rises c_Slope_rises k_Slope_rises,
    b_Slope_rises := (fun_mk (st := st_Slope_rises) l_Slope_rises c_Slope_rises k_Slope_rises).binds (ps := ["self"]) fun _ _ _ _ _ _ us hl => match us, hl with | [_], _ => rfl,
    a_Slope_steps := a_Slope_steps,
    d_Slope_steps := _,
    F_Slope_steps := fun_mk (st := st_Slope_steps) l_Slope_steps c_Slope_steps k_Slope_steps,
    b_Slope_steps := (fun_mk (st := st_Slope_steps) l_Slope_steps c_Slope_steps k_Slope_steps).binds (ps := ["self"]) fun _ _ _ _ _ _ us hl => match us, hl with | [_], _ => rfl,
    a_Slope_common := a_Slope_common,
    d_Slope_common := _,
    F_Slope_common := fun_mk (st := st_Slope_common) l_Slope_common c_Slope_common k_Slope_common,
    b_Slope_common := (fun_mk (st := st_Slope_common) l_Slope_common c_Slope_common k_Slope_common).binds (ps := ["self"]) fun _ _ _ _ _ _ us hl => match us, hl with | [_], _ => rfl,
    a_Slope_is_coprime := a_Slope_is_coprime,
    d_Slope_is_coprime := _,
    F_Slope_is_coprime := fun_mk (st := st_Slope_is_coprime) l_Slope_is_coprime c_Slope_is_coprime k_Slope_is_coprime,
    b_Slope_is_coprime := (fun_mk (st := st_Slope_is_coprime) l_Slope_is_coprime c_Slope_is_coprime k_Slope_is_coprime).binds (ps := ["self"]) fun _ _ _ _ _ _ us hl => match us, hl with | [_], _ => rfl,
    a_Slope_half := a_Slope_half,
    d_Slope_half := _,
    F_Slope_half := fun_mk (st := st_Slope_half) l_Slope_half c_Slope_half k_Slope_half,
    b_Slope_half := (fun_mk (st := st_Slope_half) l_Slope_half c_Slope_half k_Slope_half).binds (ps := ["self"]) fun _ _ _ _ _ _ us hl => match us, hl with | [_], _ => rfl,
    a_Slope_exchanged := a_Slope_exchanged,
    d_Slope_exchanged := _,
    F_Slope_exchanged := fun_mk (st := st_Slope_exchanged) l_Slope_exchanged c_Slope_exchanged k_Slope_exchanged,
    b_Slope_exchanged := (fun_mk (st := st_Slope_exchanged) l_Slope_exchanged c_Slope_exchanged k_Slope_exchanged).binds (ps := ["self"]) fun _ _ _ _ _ _ us hl => match us, hl with | [_], _ => rfl,
    a_Slope_eq := a_Slope_eq,
    d_Slope_eq := _,
    F_Slope_eq := fun_mk (st := st_Slope_eq) l_Slope_eq c_Slope_eq k_Slope_eq,
    b_Slope_eq := (fun_mk (st := st_Slope_eq) l_Slope_eq c_Slope_eq k_Slope_eq).binds (ps := ["self", "other"]) fun _ _ _ _ _ _ us hl => match us, hl with | [_, _], _ => rfl,
    a_Way_init := a_Way_init,
    d_Way_init := _,
    F_Way_init := fun_mk (st := st_Way_init) l_Way_init c_Way_init k_Way_init,
    b_Way_init := (fun_mk (st := st_Way_init) l_Way_init c_Way_init k_Way_init).binds (ps := ["self", "slope", "text"]) fun _ _ _ _ _ _ us hl => match us, hl with | [_, _, _], _ => rfl,
    a_Way_slope := a_Way_slope,
    d_Way_slope := _,
    F_Way_slope := fun_mk (st := st_Way_slope) l_Way_slope c_Way_slope k_Way_slope,
    b_Way_slope := (fun_mk (st := st_Way_slope) l_Way_slope c_Way_slope k_Way_slope).binds (ps := ["self"]) fun _ _ _ _ _ _ us hl => match us, hl with | [_], _ => rfl,
    a_Way_text := a_Way_text,
    d_Way_text := _,
    F_Way_text := fun_mk (st := st_Way_text) l_Way_text c_Way_text k_Way_text,
    b_Way_text := (fun_mk (st := st_Way_text) l_Way_text c_Way_text k_Way_text).binds (ps := ["self"]) fun _ _ _ _ _ _ us hl => match us, hl with | [_], _ => rfl,
    a_Way_levels := a_Way_levels,
    d_Way_levels := _,
    F_Way_levels := fun_mk (st := st_Way_levels) l_Way_levels c_Way_levels k_Way_levels,
    b_Way_levels := (fun_mk (st := st_Way_levels) l_Way_levels c_Way_levels k_Way_levels).binds (ps := ["self"]) fun _ _ _ _ _ _ us hl => match us, hl with | [_], _ => rfl,
    a_Way_exchanged := a_Way_exchanged,
    d_Way_exchanged := _,
    F_Way_exchanged := fun_mk (st := st_Way_exchanged) l_Way_exchanged c_Way_exchanged k_Way_exchanged,
    b_Way_exchanged := (fun_mk (st := st_Way_exchanged) l_Way_exchanged c_Way_exchanged k_Way_exchanged).binds (ps := ["self"]) fun _ _ _ _ _ _ us hl => match us, hl with | [_], _ => rfl,
    a_Way_eq := a_Way_eq,
    d_Way_eq := _,
    F_Way_eq := fun_mk (st := st_Way_eq) l_Way_eq c_Way_eq k_Way_eq,
    b_Way_eq := (fun_mk (st := st_Way_eq) l_Way_eq c_Way_eq k_Way_eq).binds (ps := ["self", "other"]) fun _ _ _ _ _ _ us hl => match us, hl with | [_, _], _ => rfl,
    a_check_slope := a_check_slope,
    d_check_slope := _,
    F_check_slope := fun_mk (st := st_check_slope) l_check_slope c_check_slope k_check_slope,
    b_check_slope := (fun_mk (st := st_check_slope) l_check_slope c_check_slope k_check_slope).binds (ps := ["slope"]) fun _ _ _ _ _ _ us hl => match us, hl with | [_], _ => rfl,
    g_check_slope := PySem.W.mg_of X G g_check_slope,
    a_check_way := a_check_way,
    d_check_way := _,
    F_check_way := fun_mk (st := st_check_way) l_check_way c_check_way k_check_way,
    b_check_way := (fun_mk (st := st_check_way) l_check_way c_check_way k_check_way).binds (ps := ["way"]) fun _ _ _ _ _ _ us hl => match us, hl with | [_], _ => rfl,
    g_check_way := PySem.W.mg_of X G g_check_way,
    a_check_coprime := a_check_coprime,
    d_check_coprime := _,
    F_check_coprime := fun_mk (st := st_check_coprime) l_check_coprime c_check_coprime k_check_coprime,
    b_check_coprime := (fun_mk (st := st_check_coprime) l_check_coprime c_check_coprime k_check_coprime).binds (ps := ["slope"]) fun _ _ _ _ _ _ us hl => match us, hl with | [_], _ => rfl,
    g_check_coprime := PySem.W.mg_of X G g_check_coprime,
    a_check_coprime_way := a_check_coprime_way,
    d_check_coprime_way := _,
    F_check_coprime_way := fun_mk (st := st_check_coprime_way) l_check_coprime_way c_check_coprime_way k_check_coprime_way,
    b_check_coprime_way := (fun_mk (st := st_check_coprime_way) l_check_coprime_way c_check_coprime_way k_check_coprime_way).binds (ps := ["way"]) fun _ _ _ _ _ _ us hl => match us, hl with | [_], _ => rfl,
    g_check_coprime_way := PySem.W.mg_of X G g_check_coprime_way,
    a_letter_levels := a_letter_levels,
    d_letter_levels := _,
    F_letter_levels := fun_mk (st := st_letter_levels) l_letter_levels c_letter_levels k_letter_levels,
    b_letter_levels := (fun_mk (st := st_letter_levels) l_letter_levels c_letter_levels k_letter_levels).binds (ps := ["slope", "text"]) fun _ _ _ _ _ _ us hl => match us, hl with | [_, _], _ => rfl,
    g_letter_levels := PySem.W.mg_of X G g_letter_levels,
    a_is_word := a_is_word,
    d_is_word := _,
    F_is_word := fun_mk (st := st_is_word) l_is_word c_is_word k_is_word,
    b_is_word := (fun_mk (st := st_is_word) l_is_word c_is_word k_is_word).binds (ps := ["slope", "value"]) fun _ _ _ _ _ _ us hl => match us, hl with | [_, _], _ => rfl,
    g_is_word := PySem.W.mg_of X G g_is_word,
    a_is_way := a_is_way,
    d_is_way := _,
    F_is_way := fun_mk (st := st_is_way) l_is_way c_is_way k_is_way,
    b_is_way := (fun_mk (st := st_is_way) l_is_way c_is_way k_is_way).binds (ps := ["slope", "value"]) fun _ _ _ _ _ _ us hl => match us, hl with | [_, _], _ => rfl,
    g_is_way := PySem.W.mg_of X G g_is_way,
    a_Shelf_init := a_Shelf_init,
    d_Shelf_init := _,
    e_Shelf_init := e_Shelf_init,
    F_Shelf_init := Mj.fund_mk (st := st_Shelf_init) l_Shelf_init ld_Shelf_init c_Shelf_init k_Shelf_init,
    et_Shelf_init := fun _ => .inr ⟨_, _, _, le_Shelf_init, rfl, rfl, Nat.zero_le _, .nil⟩,
    b_Shelf_init := Mj.bind_a (Mj.fund_mk (st := st_Shelf_init) l_Shelf_init ld_Shelf_init c_Shelf_init k_Shelf_init) (ps := ["self", "slope", "gaps"]) 3 rfl fun _ _ _ _ _ _ _ us its hu hi => match us, its, hu, hi with | [_, _, _], [_], _, _ => ⟨_, rfl, rfl⟩,
    bd_Shelf_init := Mj.bind_d (Mj.fund_mk (st := st_Shelf_init) l_Shelf_init ld_Shelf_init c_Shelf_init k_Shelf_init) (ps := ["self", "slope", "gaps"]) 2 rfl fun _ _ _ _ _ _ _ us its hu hi => match us, its, hu, hi with | [_, _], [_], _, _ => ⟨_, rfl, rfl⟩,
    a_Shelf_of_way := a_Shelf_of_way,
    d_Shelf_of_way := _,
    F_Shelf_of_way := fun_mk (st := st_Shelf_of_way) l_Shelf_of_way c_Shelf_of_way k_Shelf_of_way,
    b_Shelf_of_way := (fun_mk (st := st_Shelf_of_way) l_Shelf_of_way c_Shelf_of_way k_Shelf_of_way).binds (ps := ["cls", "way"]) fun _ _ _ _ _ _ us hl => match us, hl with | [_, _], _ => rfl,
    a_Shelf_slope := a_Shelf_slope,
    d_Shelf_slope := _,
    F_Shelf_slope := fun_mk (st := st_Shelf_slope) l_Shelf_slope c_Shelf_slope k_Shelf_slope,
    b_Shelf_slope := (fun_mk (st := st_Shelf_slope) l_Shelf_slope c_Shelf_slope k_Shelf_slope).binds (ps := ["self"]) fun _ _ _ _ _ _ us hl => match us, hl with | [_], _ => rfl,
    a_Shelf_gaps := a_Shelf_gaps,
    d_Shelf_gaps := _,
    F_Shelf_gaps := fun_mk (st := st_Shelf_gaps) l_Shelf_gaps c_Shelf_gaps k_Shelf_gaps,
    b_Shelf_gaps := (fun_mk (st := st_Shelf_gaps) l_Shelf_gaps c_Shelf_gaps k_Shelf_gaps).binds (ps := ["self"]) fun _ _ _ _ _ _ us hl => match us, hl with | [_], _ => rfl,
    a_Shelf_way := a_Shelf_way,
    d_Shelf_way := _,
    F_Shelf_way := fun_mk (st := st_Shelf_way) l_Shelf_way c_Shelf_way k_Shelf_way,
    b_Shelf_way := (fun_mk (st := st_Shelf_way) l_Shelf_way c_Shelf_way k_Shelf_way).binds (ps := ["self"]) fun _ _ _ _ _ _ us hl => match us, hl with | [_], _ => rfl,
    a_Shelf_dual := a_Shelf_dual,
    d_Shelf_dual := _,
    F_Shelf_dual := fun_mk (st := st_Shelf_dual) l_Shelf_dual c_Shelf_dual k_Shelf_dual,
    b_Shelf_dual := (fun_mk (st := st_Shelf_dual) l_Shelf_dual c_Shelf_dual k_Shelf_dual).binds (ps := ["self"]) fun _ _ _ _ _ _ us hl => match us, hl with | [_], _ => rfl,
    a_Shelf_exchanged := a_Shelf_exchanged,
    d_Shelf_exchanged := _,
    F_Shelf_exchanged := fun_mk (st := st_Shelf_exchanged) l_Shelf_exchanged c_Shelf_exchanged k_Shelf_exchanged,
    b_Shelf_exchanged := (fun_mk (st := st_Shelf_exchanged) l_Shelf_exchanged c_Shelf_exchanged k_Shelf_exchanged).binds (ps := ["self"]) fun _ _ _ _ _ _ us hl => match us, hl with | [_], _ => rfl,
    a_Shelf_eq := a_Shelf_eq,
    d_Shelf_eq := _,
    F_Shelf_eq := fun_mk (st := st_Shelf_eq) l_Shelf_eq c_Shelf_eq k_Shelf_eq,
    b_Shelf_eq := (fun_mk (st := st_Shelf_eq) l_Shelf_eq c_Shelf_eq k_Shelf_eq).binds (ps := ["self", "other"]) fun _ _ _ _ _ _ us hl => match us, hl with | [_, _], _ => rfl,
    a_check_shelf := a_check_shelf,
    d_check_shelf := _,
    F_check_shelf := fun_mk (st := st_check_shelf) l_check_shelf c_check_shelf k_check_shelf,
    b_check_shelf := (fun_mk (st := st_check_shelf) l_check_shelf c_check_shelf k_check_shelf).binds (ps := ["shelf"]) fun _ _ _ _ _ _ us hl => match us, hl with | [_], _ => rfl,
    g_check_shelf := PySem.W.mg_of X G g_check_shelf,
    a_way_with_rises := a_way_with_rises,
    d_way_with_rises := _,
    F_way_with_rises := fun_mk (st := st_way_with_rises) l_way_with_rises c_way_with_rises k_way_with_rises,
    b_way_with_rises := (fun_mk (st := st_way_with_rises) l_way_with_rises c_way_with_rises k_way_with_rises).binds (ps := ["slope", "levels"]) fun _ _ _ _ _ _ us hl => match us, hl with | [_, _], _ => rfl,
    g_way_with_rises := PySem.W.mg_of X G g_way_with_rises,
    a_least_members := a_least_members,
    d_least_members := _,
    F_least_members := fun_mk (st := st_least_members) l_least_members c_least_members k_least_members,
    b_least_members := (fun_mk (st := st_least_members) l_least_members c_least_members k_least_members).binds (ps := ["side", "gaps"]) fun _ _ _ _ _ _ us hl => match us, hl with | [_, _], _ => rfl,
    g_least_members := PySem.W.mg_of X G g_least_members,
    a_with_more := a_with_more,
    d_with_more := _,
    F_with_more := fun_mk (st := st_with_more) l_with_more c_with_more k_with_more,
    b_with_more := (fun_mk (st := st_with_more) l_with_more c_with_more k_with_more).binds (ps := ["gaps", "more"]) fun _ _ _ _ _ _ us hl => match us, hl with | [_, _], _ => rfl,
    g_with_more := PySem.W.mg_of X G g_with_more,
    a_sides := a_sides,
    d_sides := _,
    F_sides := fun_mk (st := st_sides) l_sides c_sides k_sides,
    b_sides := (fun_mk (st := st_sides) l_sides c_sides k_sides).binds (ps := ["slope"]) fun _ _ _ _ _ _ us hl => match us, hl with | [_], _ => rfl,
    g_sides := PySem.W.mg_of X G g_sides,
    a_members_below := a_members_below,
    d_members_below := _,
    F_members_below := fun_mk (st := st_members_below) l_members_below c_members_below k_members_below,
    b_members_below := (fun_mk (st := st_members_below) l_members_below c_members_below k_members_below).binds (ps := ["slope", "gaps", "number"]) fun _ _ _ _ _ _ us hl => match us, hl with | [_, _, _], _ => rfl,
    g_members_below := PySem.W.mg_of X G g_members_below,
    a_gaps_of := a_gaps_of,
    d_gaps_of := _,
    F_gaps_of := fun_mk (st := st_gaps_of) l_gaps_of c_gaps_of k_gaps_of,
    b_gaps_of := (fun_mk (st := st_gaps_of) l_gaps_of c_gaps_of k_gaps_of).binds (ps := ["way"]) fun _ _ _ _ _ _ us hl => match us, hl with | [_], _ => rfl,
    g_gaps_of := PySem.W.mg_of X G g_gaps_of,
    a_is_gaps := a_is_gaps,
    d_is_gaps := _,
    F_is_gaps := fun_mk (st := st_is_gaps) l_is_gaps c_is_gaps k_is_gaps,
    b_is_gaps := (fun_mk (st := st_is_gaps) l_is_gaps c_is_gaps k_is_gaps).binds (ps := ["slope", "value"]) fun _ _ _ _ _ _ us hl => match us, hl with | [_, _], _ => rfl,
    g_is_gaps := PySem.W.mg_of X G g_is_gaps,
    a_Heap_init := a_Heap_init,
    d_Heap_init := _,
    e_Heap_init := e_Heap_init,
    F_Heap_init := Mj.fund_mk (st := st_Heap_init) l_Heap_init ld_Heap_init c_Heap_init k_Heap_init,
    et_Heap_init := fun _ => .inr ⟨_, _, _, le_Heap_init, rfl, rfl, Nat.zero_le _, .nil⟩,
    b_Heap_init := Mj.bind_a (Mj.fund_mk (st := st_Heap_init) l_Heap_init ld_Heap_init c_Heap_init k_Heap_init) (ps := ["self", "rows"]) 2 rfl fun _ _ _ _ _ _ _ us its hu hi => match us, its, hu, hi with | [_, _], [_], _, _ => ⟨_, rfl, rfl⟩,
    bd_Heap_init := Mj.bind_d (Mj.fund_mk (st := st_Heap_init) l_Heap_init ld_Heap_init c_Heap_init k_Heap_init) (ps := ["self", "rows"]) 1 rfl fun _ _ _ _ _ _ _ us its hu hi => match us, its, hu, hi with | [_], [_], _, _ => ⟨_, rfl, rfl⟩,
    a_Heap_of_first_hooks := a_Heap_of_first_hooks,
    d_Heap_of_first_hooks := _,
    F_Heap_of_first_hooks := fun_mk (st := st_Heap_of_first_hooks) l_Heap_of_first_hooks c_Heap_of_first_hooks k_Heap_of_first_hooks,
    b_Heap_of_first_hooks := (fun_mk (st := st_Heap_of_first_hooks) l_Heap_of_first_hooks c_Heap_of_first_hooks k_Heap_of_first_hooks).binds (ps := ["cls", "hooks"]) fun _ _ _ _ _ _ us hl => match us, hl with | [_, _], _ => rfl,
    a_Heap_rows := a_Heap_rows,
    d_Heap_rows := _,
    F_Heap_rows := fun_mk (st := st_Heap_rows) l_Heap_rows c_Heap_rows k_Heap_rows,
    b_Heap_rows := (fun_mk (st := st_Heap_rows) l_Heap_rows c_Heap_rows k_Heap_rows).binds (ps := ["self"]) fun _ _ _ _ _ _ us hl => match us, hl with | [_], _ => rfl,
    a_Heap_size := a_Heap_size,
    d_Heap_size := _,
    F_Heap_size := fun_mk (st := st_Heap_size) l_Heap_size c_Heap_size k_Heap_size,
    b_Heap_size := (fun_mk (st := st_Heap_size) l_Heap_size c_Heap_size k_Heap_size).binds (ps := ["self"]) fun _ _ _ _ _ _ us hl => match us, hl with | [_], _ => rfl,
    a_Heap_first_hooks := a_Heap_first_hooks,
    d_Heap_first_hooks := _,
    F_Heap_first_hooks := fun_mk (st := st_Heap_first_hooks) l_Heap_first_hooks c_Heap_first_hooks k_Heap_first_hooks,
    b_Heap_first_hooks := (fun_mk (st := st_Heap_first_hooks) l_Heap_first_hooks c_Heap_first_hooks k_Heap_first_hooks).binds (ps := ["self"]) fun _ _ _ _ _ _ us hl => match us, hl with | [_], _ => rfl,
    a_Heap_turned := a_Heap_turned,
    d_Heap_turned := _,
    F_Heap_turned := fun_mk (st := st_Heap_turned) l_Heap_turned c_Heap_turned k_Heap_turned,
    b_Heap_turned := (fun_mk (st := st_Heap_turned) l_Heap_turned c_Heap_turned k_Heap_turned).binds (ps := ["self"]) fun _ _ _ _ _ _ us hl => match us, hl with | [_], _ => rfl,
    a_Heap_hooks := a_Heap_hooks,
    d_Heap_hooks := _,
    F_Heap_hooks := fun_mk (st := st_Heap_hooks) l_Heap_hooks c_Heap_hooks k_Heap_hooks,
    b_Heap_hooks := (fun_mk (st := st_Heap_hooks) l_Heap_hooks c_Heap_hooks k_Heap_hooks).binds (ps := ["self"]) fun _ _ _ _ _ _ us hl => match us, hl with | [_], _ => rfl,
    a_Heap_len := a_Heap_len,
    d_Heap_len := _,
    F_Heap_len := fun_mk (st := st_Heap_len) l_Heap_len c_Heap_len k_Heap_len,
    b_Heap_len := (fun_mk (st := st_Heap_len) l_Heap_len c_Heap_len k_Heap_len).binds (ps := ["self"]) fun _ _ _ _ _ _ us hl => match us, hl with | [_], _ => rfl,
    a_Heap_eq := a_Heap_eq,
    d_Heap_eq := _,
    F_Heap_eq := fun_mk (st := st_Heap_eq) l_Heap_eq c_Heap_eq k_Heap_eq,
    b_Heap_eq := (fun_mk (st := st_Heap_eq) l_Heap_eq c_Heap_eq k_Heap_eq).binds (ps := ["self", "other"]) fun _ _ _ _ _ _ us hl => match us, hl with | [_, _], _ => rfl,
    a_check_heap := a_check_heap,
    d_check_heap := _,
    F_check_heap := fun_mk (st := st_check_heap) l_check_heap c_check_heap k_check_heap,
    b_check_heap := (fun_mk (st := st_check_heap) l_check_heap c_check_heap k_check_heap).binds (ps := ["heap"]) fun _ _ _ _ _ _ us hl => match us, hl with | [_], _ => rfl,
    g_check_heap := PySem.W.mg_of X G g_check_heap,
    a_is_heap_rows := a_is_heap_rows,
    d_is_heap_rows := _,
    F_is_heap_rows := fun_mk (st := st_is_heap_rows) l_is_heap_rows c_is_heap_rows k_is_heap_rows,
    b_is_heap_rows := (fun_mk (st := st_is_heap_rows) l_is_heap_rows c_is_heap_rows k_is_heap_rows).binds (ps := ["value"]) fun _ _ _ _ _ _ us hl => match us, hl with | [_], _ => rfl,
    g_is_heap_rows := PySem.W.mg_of X G g_is_heap_rows,
    a_rows_of_hooks := a_rows_of_hooks,
    d_rows_of_hooks := _,
    F_rows_of_hooks := fun_mk (st := st_rows_of_hooks) l_rows_of_hooks c_rows_of_hooks k_rows_of_hooks,
    b_rows_of_hooks := (fun_mk (st := st_rows_of_hooks) l_rows_of_hooks c_rows_of_hooks k_rows_of_hooks).binds (ps := ["hooks"]) fun _ _ _ _ _ _ us hl => match us, hl with | [_], _ => rfl,
    g_rows_of_hooks := PySem.W.mg_of X G g_rows_of_hooks,
    a_heap_of := a_heap_of,
    d_heap_of := _,
    F_heap_of := fun_mk (st := st_heap_of) l_heap_of c_heap_of k_heap_of,
    b_heap_of := (fun_mk (st := st_heap_of) l_heap_of c_heap_of k_heap_of).binds (ps := ["shelf"]) fun _ _ _ _ _ _ us hl => match us, hl with | [_], _ => rfl,
    g_heap_of := PySem.W.mg_of X G g_heap_of,
    a_shelf_of := a_shelf_of,
    d_shelf_of := _,
    F_shelf_of := fun_mk (st := st_shelf_of) l_shelf_of c_shelf_of k_shelf_of,
    b_shelf_of := (fun_mk (st := st_shelf_of) l_shelf_of c_shelf_of k_shelf_of).binds (ps := ["slope", "heap"]) fun _ _ _ _ _ _ us hl => match us, hl with | [_, _], _ => rfl,
    g_shelf_of := PySem.W.mg_of X G g_shelf_of,
    a_law_dice := a_law_dice,
    d_law_dice := _,
    F_law_dice := fun_mk (st := st_law_dice) l_law_dice c_law_dice k_law_dice,
    b_law_dice := (fun_mk (st := st_law_dice) l_law_dice c_law_dice k_law_dice).binds (ps := ["_law_script", "_law_spot"]) fun _ _ _ _ _ _ us hl => match us, hl with | [_, _], _ => rfl,
    g_law_dice := PySem.W.mg_of X G g_law_dice,
    a_law_roll := a_law_roll,
    d_law_roll := _,
    F_law_roll := fun_mk (st := st_law_roll) l_law_roll c_law_roll k_law_roll,
    b_law_roll := (fun_mk (st := st_law_roll) l_law_roll c_law_roll k_law_roll).binds (ps := ["_law_dice_here", "_law_total"]) fun _ _ _ _ _ _ us hl => match us, hl with | [_, _], _ => rfl,
    g_law_roll := PySem.W.mg_of X G g_law_roll,
    a_law_slope := a_law_slope,
    d_law_slope := _,
    F_law_slope := fun_mk (st := st_law_slope) l_law_slope c_law_slope k_law_slope,
    b_law_slope := (fun_mk (st := st_law_slope) l_law_slope c_law_slope k_law_slope).binds (ps := ["_law_dice_here", "_law_total"]) fun _ _ _ _ _ _ us hl => match us, hl with | [_, _], _ => rfl,
    g_law_slope := PySem.W.mg_of X G g_law_slope,
    a_law_way := a_law_way,
    d_law_way := _,
    F_law_way := fun_mk (st := st_law_way) l_law_way c_law_way k_law_way,
    b_law_way := (fun_mk (st := st_law_way) l_law_way c_law_way k_law_way).binds (ps := ["_law_dice_here", "_law_rises", "_law_steps"]) fun _ _ _ _ _ _ us hl => match us, hl with | [_, _, _], _ => rfl,
    g_law_way := PySem.W.mg_of X G g_law_way,
    a_law_levels := a_law_levels,
    d_law_levels := _,
    F_law_levels := fun_mk (st := st_law_levels) l_law_levels c_law_levels k_law_levels,
    b_law_levels := (fun_mk (st := st_law_levels) l_law_levels c_law_levels k_law_levels).binds (ps := ["_law_rises", "_law_steps", "_law_text"]) fun _ _ _ _ _ _ us hl => match us, hl with | [_, _, _], _ => rfl,
    g_law_levels := PySem.W.mg_of X G g_law_levels,
    a_law_makers := a_law_makers,
    d_law_makers := _,
    F_law_makers := fun_mk (st := st_law_makers) l_law_makers c_law_makers k_law_makers,
    b_law_makers := (fun_mk (st := st_law_makers) l_law_makers c_law_makers k_law_makers).binds (ps := ["_law_rises", "_law_steps", "_law_text"]) fun _ _ _ _ _ _ us hl => match us, hl with | [_, _, _], _ => rfl,
    g_law_makers := PySem.W.mg_of X G g_law_makers,
    a_law_gaps := a_law_gaps,
    d_law_gaps := _,
    F_law_gaps := fun_mk (st := st_law_gaps) l_law_gaps c_law_gaps k_law_gaps,
    b_law_gaps := (fun_mk (st := st_law_gaps) l_law_gaps c_law_gaps k_law_gaps).binds (ps := ["_law_rises", "_law_makers_here"]) fun _ _ _ _ _ _ us hl => match us, hl with | [_, _], _ => rfl,
    g_law_gaps := PySem.W.mg_of X G g_law_gaps,
    a_law_squares := a_law_squares,
    d_law_squares := _,
    F_law_squares := fun_mk (st := st_law_squares) l_law_squares c_law_squares k_law_squares,
    b_law_squares := (fun_mk (st := st_law_squares) l_law_squares c_law_squares k_law_squares).binds (ps := ["_law_rows"]) fun _ _ _ _ _ _ us hl => match us, hl with | [_], _ => rfl,
    g_law_squares := PySem.W.mg_of X G g_law_squares,
    a_law_rows_of := a_law_rows_of,
    d_law_rows_of := _,
    F_law_rows_of := fun_mk (st := st_law_rows_of) l_law_rows_of c_law_rows_of k_law_rows_of,
    b_law_rows_of := (fun_mk (st := st_law_rows_of) l_law_rows_of c_law_rows_of k_law_rows_of).binds (ps := ["_law_squares_here"]) fun _ _ _ _ _ _ us hl => match us, hl with | [_], _ => rfl,
    g_law_rows_of := PySem.W.mg_of X G g_law_rows_of,
    a_law_turned_rows := a_law_turned_rows,
    d_law_turned_rows := _,
    F_law_turned_rows := fun_mk (st := st_law_turned_rows) l_law_turned_rows c_law_turned_rows k_law_turned_rows,
    b_law_turned_rows := (fun_mk (st := st_law_turned_rows) l_law_turned_rows c_law_turned_rows k_law_turned_rows).binds (ps := ["_law_rows"]) fun _ _ _ _ _ _ us hl => match us, hl with | [_], _ => rfl,
    g_law_turned_rows := PySem.W.mg_of X G g_law_turned_rows,
    a_law_gaps_of := a_law_gaps_of,
    d_law_gaps_of := _,
    F_law_gaps_of := fun_mk (st := st_law_gaps_of) l_law_gaps_of c_law_gaps_of k_law_gaps_of,
    b_law_gaps_of := (fun_mk (st := st_law_gaps_of) l_law_gaps_of c_law_gaps_of k_law_gaps_of).binds (ps := ["_law_rises", "_law_steps", "_law_text"]) fun _ _ _ _ _ _ us hl => match us, hl with | [_, _, _], _ => rfl,
    g_law_gaps_of := PySem.W.mg_of X G g_law_gaps_of,
    a_law_dual := a_law_dual,
    d_law_dual := _,
    F_law_dual := fun_mk (st := st_law_dual) l_law_dual c_law_dual k_law_dual,
    b_law_dual := (fun_mk (st := st_law_dual) l_law_dual c_law_dual k_law_dual).binds (ps := ["_law_gaps_here"]) fun _ _ _ _ _ _ us hl => match us, hl with | [_], _ => rfl,
    g_law_dual := PySem.W.mg_of X G g_law_dual,
    a_law := a_law,
    d_law := _,
    F_law := fun_mk (st := st_law) l_law c_law k_law,
    b_law := (fun_mk (st := st_law) l_law c_law k_law).binds (ps := ["_law_script"]) fun _ _ _ _ _ _ us hl => match us, hl with | [_], _ => rfl,
    g_law := PySem.W.mg_of X G g_law,
    g_Slope := PySem.W.mg_of X G g_Slope,
    cl_Slope := ⟨c1_Slope, c2_Slope, c3_Slope, c4_Slope⟩,
    na_Slope_rises := na_Slope_rises,
    na_Slope_steps := na_Slope_steps,
    na_Slope_common := na_Slope_common,
    mk_Slope := ⟨c5_Slope, m_Slope_init, f_Slope_init, c6_Slope⟩,
    me_Slope_exchanged := ⟨m_Slope_exchanged, f_Slope_exchanged, k_Slope_exchanged⟩,
    me_Slope_eq := ⟨m_Slope_eq, f_Slope_eq, k_Slope_eq⟩,
    p_Slope_rises := p_Slope_rises,
    pr_Slope_rises := ⟨pa_Slope_rises, pg_Slope_rises, pt_Slope_rises, ⟨_, pq_Slope_rises⟩⟩,
    p_Slope_steps := p_Slope_steps,
    pr_Slope_steps := ⟨pa_Slope_steps, pg_Slope_steps, pt_Slope_steps, ⟨_, pq_Slope_steps⟩⟩,
    p_Slope_common := p_Slope_common,
    pr_Slope_common := ⟨pa_Slope_common, pg_Slope_common, pt_Slope_common, ⟨_, pq_Slope_common⟩⟩,
    p_Slope_is_coprime := p_Slope_is_coprime,
    pr_Slope_is_coprime := ⟨pa_Slope_is_coprime, pg_Slope_is_coprime, pt_Slope_is_coprime, ⟨_, pq_Slope_is_coprime⟩⟩,
    p_Slope_half := p_Slope_half,
    pr_Slope_half := ⟨pa_Slope_half, pg_Slope_half, pt_Slope_half, ⟨_, pq_Slope_half⟩⟩,
    ic_Slope := ic_Slope,
    mr_Slope := mr_Slope,
    ks_Slope := Sx.kit_self,
    nn_Slope := nn_Slope,
    g_Way := PySem.W.mg_of X G g_Way,
    cl_Way := ⟨c1_Way, c2_Way, c3_Way, c4_Way⟩,
    na_Way_slope := na_Way_slope,
    na_Way_text := na_Way_text,
    na_Way_levels := na_Way_levels,
    na_Way_runs := na_Way_runs,
    na_Way_key := na_Way_key,
    mk_Way := ⟨c5_Way, m_Way_init, f_Way_init, c6_Way⟩,
    me_Way_exchanged := ⟨m_Way_exchanged, f_Way_exchanged, k_Way_exchanged⟩,
    me_Way_eq := ⟨m_Way_eq, f_Way_eq, k_Way_eq⟩,
    p_Way_slope := p_Way_slope,
    pr_Way_slope := ⟨pa_Way_slope, pg_Way_slope, pt_Way_slope, ⟨_, pq_Way_slope⟩⟩,
    p_Way_text := p_Way_text,
    pr_Way_text := ⟨pa_Way_text, pg_Way_text, pt_Way_text, ⟨_, pq_Way_text⟩⟩,
    p_Way_levels := p_Way_levels,
    pr_Way_levels := ⟨pa_Way_levels, pg_Way_levels, pt_Way_levels, ⟨_, pq_Way_levels⟩⟩,
    ic_Way := ic_Way,
    mr_Way := mr_Way,
    ks_Way := Sx.kit_self,
    nn_Way := nn_Way,
    g_Shelf := PySem.W.mg_of X G g_Shelf,
    cl_Shelf := ⟨c1_Shelf, c2_Shelf, c3_Shelf, c4_Shelf⟩,
    na_Shelf_slope := na_Shelf_slope,
    na_Shelf_gaps := na_Shelf_gaps,
    na_Shelf_gap_table := na_Shelf_gap_table,
    na_Shelf_rise_makers := na_Shelf_rise_makers,
    na_Shelf_step_makers := na_Shelf_step_makers,
    na_Shelf_makers := na_Shelf_makers,
    mk_Shelf := ⟨c5_Shelf, m_Shelf_init, f_Shelf_init, c6_Shelf⟩,
    me_Shelf_way := ⟨m_Shelf_way, f_Shelf_way, k_Shelf_way⟩,
    me_Shelf_dual := ⟨m_Shelf_dual, f_Shelf_dual, k_Shelf_dual⟩,
    me_Shelf_exchanged := ⟨m_Shelf_exchanged, f_Shelf_exchanged, k_Shelf_exchanged⟩,
    me_Shelf_eq := ⟨m_Shelf_eq, f_Shelf_eq, k_Shelf_eq⟩,
    mc_Shelf := .type "type",
    cr_Shelf := ⟨rr_Shelf, rg_Shelf⟩,
    p_Shelf_of_way := p_Shelf_of_way,
    cm_Shelf_of_way := ⟨pa_Shelf_of_way, ⟨_, pq_Shelf_of_way⟩, pf_Shelf_of_way⟩,
    p_Shelf_slope := p_Shelf_slope,
    pr_Shelf_slope := ⟨pa_Shelf_slope, pg_Shelf_slope, pt_Shelf_slope, ⟨_, pq_Shelf_slope⟩⟩,
    p_Shelf_gaps := p_Shelf_gaps,
    pr_Shelf_gaps := ⟨pa_Shelf_gaps, pg_Shelf_gaps, pt_Shelf_gaps, ⟨_, pq_Shelf_gaps⟩⟩,
    ic_Shelf := ic_Shelf,
    mr_Shelf := mr_Shelf,
    ks_Shelf := Sx.kit_self,
    nn_Shelf := nn_Shelf,
    g_Heap := PySem.W.mg_of X G g_Heap,
    cl_Heap := ⟨c1_Heap, c2_Heap, c3_Heap, c4_Heap⟩,
    na_Heap_rows := na_Heap_rows,
    na_Heap_size := na_Heap_size,
    na_Heap_first_hooks := na_Heap_first_hooks,
    na_Heap_key := na_Heap_key,
    mk_Heap := ⟨c5_Heap, m_Heap_init, f_Heap_init, c6_Heap⟩,
    me_Heap_turned := ⟨m_Heap_turned, f_Heap_turned, k_Heap_turned⟩,
    me_Heap_hooks := ⟨m_Heap_hooks, f_Heap_hooks, k_Heap_hooks⟩,
    me_Heap_len := ⟨m_Heap_len, f_Heap_len, k_Heap_len⟩,
    me_Heap_eq := ⟨m_Heap_eq, f_Heap_eq, k_Heap_eq⟩,
    mc_Heap := .type "type",
    cr_Heap := ⟨rr_Heap, rg_Heap⟩,
    p_Heap_of_first_hooks := p_Heap_of_first_hooks,
    cm_Heap_of_first_hooks := ⟨pa_Heap_of_first_hooks, ⟨_, pq_Heap_of_first_hooks⟩, pf_Heap_of_first_hooks⟩,
    p_Heap_rows := p_Heap_rows,
    pr_Heap_rows := ⟨pa_Heap_rows, pg_Heap_rows, pt_Heap_rows, ⟨_, pq_Heap_rows⟩⟩,
    p_Heap_size := p_Heap_size,
    pr_Heap_size := ⟨pa_Heap_size, pg_Heap_size, pt_Heap_size, ⟨_, pq_Heap_size⟩⟩,
    p_Heap_first_hooks := p_Heap_first_hooks,
    pr_Heap_first_hooks := ⟨pa_Heap_first_hooks, pg_Heap_first_hooks, pt_Heap_first_hooks, ⟨_, pq_Heap_first_hooks⟩⟩,
    ic_Heap := ic_Heap,
    mr_Heap := mr_Heap,
    ks_Heap := Sx.kit_self,
    nn_Heap := nn_Heap,
    cg := cg,
    ct := ct,
    n_abs := PySem.W.mg_none_of X G n_abs,
    n_any := PySem.W.mg_none_of X G n_any,
    n_bool := PySem.W.mg_none_of X G n_bool,
    n_enumerate := PySem.W.mg_none_of X G n_enumerate,
    n_int := PySem.W.mg_none_of X G n_int,
    n_isinstance := PySem.W.mg_none_of X G n_isinstance,
    n_len := PySem.W.mg_none_of X G n_len,
    n_list := PySem.W.mg_none_of X G n_list,
    n_max := PySem.W.mg_none_of X G n_max,
    n_min := PySem.W.mg_none_of X G n_min,
    n_range := PySem.W.mg_none_of X G n_range,
    n_sorted := PySem.W.mg_none_of X G n_sorted,
    n_str := PySem.W.mg_none_of X G n_str,
    n_sum := PySem.W.mg_none_of X G n_sum,
    n_tuple := PySem.W.mg_none_of X G n_tuple,
    n_zip := PySem.W.mg_none_of X G n_zip,
    i_gcd := PySem.W.mg_of X G i_gcd,
    c_GREATEST := ⟨_, PySem.W.mg_of X G qc_GREATEST, ⟨_, rfl⟩⟩,
    c_MAX_SIDE := ⟨_, PySem.W.mg_of X G qc_MAX_SIDE, ⟨_, rfl⟩⟩,
    c_MAX_ROW := ⟨_, PySem.W.mg_of X G qc_MAX_ROW, ⟨_, rfl⟩⟩
  }
  exact ⟨_, fun s v => .of_eq rfl, fun base _ _ => ok_law T⟩
theorem walk {l : PySem.W.OpenLaw} {q : Program} {loose : List Str} {XP : (Str → Option Value) → Heap → Prop} {YP : World → Heap → Prop} {d : DefRec} {K : Params → PySem.W.Frag} (hn : l.most = some 63) (hdf : d.params.defaults = [])
    (hY : ∀ (w : World) (h : Heap), YP w h → (K w.params).In h)
    (F : ∀ (w : World) (mg : Str → Option Value) (fa : Addr) (h : Heap), (K w.params).In h → h.Ns mainGlobals mg → mg d.name = some (.ref fa) →
      ∃ fd : FuncData, (∀ (s : Shared) (u : Value), BindsTo s fd ⟨[u], []⟩ [("_law_script", u)]) ∧ ∀ base : Heap, (K w.params).In base → base.Ns mainGlobals mg → FnOk l.prog w (K w.params) mg base CX0 11 fa fd ["_law_script"] (spLaw (K w.params))) :
    PySem.W.WalkO q loose XP YP l.row.toRowW d [] (fun f vs => PySem.call f vs) :=
  L2.walk_of (n := 63) (k := 11) (x := "_law_script") (CX := fun _ => CX0) (sp := fun w => spLaw (K w.params)) hn (by decide) hdf ⟨rfl, by decide, by decide⟩ hY F (fun _ _ a ns hl _ hS => ⟨a, ns, rfl, hS, hl, fun _ => rfl⟩) fun _ _ _ _ _ z => z
end Lw
namespace Lw
open PySem PySem.Spec PyProof.Rows L2 Hd
namespace Fk
theorem g_Slope {K : PySem.W.Frag} (c : Hx.Says looks funs funv K) : PySem.W.nsIn K mainGlobals "Slope" = some (some (.ref (Lk.C_Slope K))) := (c.is 0 (by kernel_rfl))
theorem g_Way {K : PySem.W.Frag} (c : Hx.Says looks funs funv K) : PySem.W.nsIn K mainGlobals "Way" = some (some (.ref (Lk.C_Way K))) := (c.is 1 (by kernel_rfl))
theorem g_Shelf {K : PySem.W.Frag} (c : Hx.Says looks funs funv K) : PySem.W.nsIn K mainGlobals "Shelf" = some (some (.ref (Lk.C_Shelf K))) := (c.is 2 (by kernel_rfl))
theorem g_Heap {K : PySem.W.Frag} (c : Hx.Says looks funs funv K) : PySem.W.nsIn K mainGlobals "Heap" = some (some (.ref (Lk.C_Heap K))) := (c.is 3 (by kernel_rfl))
theorem g_is_number {K : PySem.W.Frag} (c : Hx.Says looks funs funv K) : PySem.W.nsIn K mainGlobals "is_number" = some (some (.ref (Lk.a_is_number K))) := (c.is 4 (by kernel_rfl))
theorem l_is_number {K : PySem.W.Frag} (c : Hx.Says looks funs funv K) : K.lookup (Lk.a_is_number K) = some ⟨(Hx.oV K (Lk.a_is_number K)).cls, (Hx.oV K (Lk.a_is_number K)).dict, .func (PySem.W.fnOf "is_number" "is_number" (L2.defArgs st_is_number) (L2.defBody st_is_number) (L2.defScope st_is_number) .none (Hx.fdV K (Lk.a_is_number K)).kwdefaults (Hx.fdV K (Lk.a_is_number K)).doc (Hx.fdV K (Lk.a_is_number K)).pyModule (Hx.fdV K (Lk.a_is_number K)).annotations (Hx.fdV K (Lk.a_is_number K)).code (Hx.fdV K (Lk.a_is_number K)).closureTuple), (Hx.oV K (Lk.a_is_number K)).slots⟩ := Hx.fn_l (c.at 5 (by kernel_rfl)) (c.fn 0 (by kernel_rfl) (by kernel_rfl)) (c.at 6 (by kernel_rfl))
theorem c_is_number {K : PySem.W.Frag} (c : Hx.Says looks funs funv K) : PySem.W.codeIn K (Hx.fdV K (Lk.a_is_number K)).code "is_number" = true := (c.at 7 (by kernel_rfl))
theorem k_is_number {K : PySem.W.Frag} (c : Hx.Says looks funs funv K) : PySem.W.keepIn K (.ref (Lk.a_is_number K)) = true := (c.at 8 (by kernel_rfl))
theorem g_is_whole_between {K : PySem.W.Frag} (c : Hx.Says looks funs funv K) : PySem.W.nsIn K mainGlobals "is_whole_between" = some (some (.ref (Lk.a_is_whole_between K))) := (c.is 9 (by kernel_rfl))
theorem l_is_whole_between {K : PySem.W.Frag} (c : Hx.Says looks funs funv K) : K.lookup (Lk.a_is_whole_between K) = some ⟨(Hx.oV K (Lk.a_is_whole_between K)).cls, (Hx.oV K (Lk.a_is_whole_between K)).dict, .func (PySem.W.fnOf "is_whole_between" "is_whole_between" (L2.defArgs st_is_whole_between) (L2.defBody st_is_whole_between) (L2.defScope st_is_whole_between) .none (Hx.fdV K (Lk.a_is_whole_between K)).kwdefaults (Hx.fdV K (Lk.a_is_whole_between K)).doc (Hx.fdV K (Lk.a_is_whole_between K)).pyModule (Hx.fdV K (Lk.a_is_whole_between K)).annotations (Hx.fdV K (Lk.a_is_whole_between K)).code (Hx.fdV K (Lk.a_is_whole_between K)).closureTuple), (Hx.oV K (Lk.a_is_whole_between K)).slots⟩ := Hx.fn_l (c.at 10 (by kernel_rfl)) (c.fn 1 (by kernel_rfl) (by kernel_rfl)) (c.at 11 (by kernel_rfl))
theorem c_is_whole_between {K : PySem.W.Frag} (c : Hx.Says looks funs funv K) : PySem.W.codeIn K (Hx.fdV K (Lk.a_is_whole_between K)).code "is_whole_between" = true := (c.at 12 (by kernel_rfl))
theorem k_is_whole_between {K : PySem.W.Frag} (c : Hx.Says looks funs funv K) : PySem.W.keepIn K (.ref (Lk.a_is_whole_between K)) = true := (c.at 13 (by kernel_rfl))
theorem g_is_ascending {K : PySem.W.Frag} (c : Hx.Says looks funs funv K) : PySem.W.nsIn K mainGlobals "is_ascending" = some (some (.ref (Lk.a_is_ascending K))) := (c.is 14 (by kernel_rfl))
theorem l_is_ascending {K : PySem.W.Frag} (c : Hx.Says looks funs funv K) : K.lookup (Lk.a_is_ascending K) = some ⟨(Hx.oV K (Lk.a_is_ascending K)).cls, (Hx.oV K (Lk.a_is_ascending K)).dict, .func (PySem.W.fnOf "is_ascending" "is_ascending" (L2.defArgs st_is_ascending) (L2.defBody st_is_ascending) (L2.defScope st_is_ascending) .none (Hx.fdV K (Lk.a_is_ascending K)).kwdefaults (Hx.fdV K (Lk.a_is_ascending K)).doc (Hx.fdV K (Lk.a_is_ascending K)).pyModule (Hx.fdV K (Lk.a_is_ascending K)).annotations (Hx.fdV K (Lk.a_is_ascending K)).code (Hx.fdV K (Lk.a_is_ascending K)).closureTuple), (Hx.oV K (Lk.a_is_ascending K)).slots⟩ := Hx.fn_l (c.at 15 (by kernel_rfl)) (c.fn 2 (by kernel_rfl) (by kernel_rfl)) (c.at 16 (by kernel_rfl))
theorem c_is_ascending {K : PySem.W.Frag} (c : Hx.Says looks funs funv K) : PySem.W.codeIn K (Hx.fdV K (Lk.a_is_ascending K)).code "is_ascending" = true := (c.at 17 (by kernel_rfl))
theorem k_is_ascending {K : PySem.W.Frag} (c : Hx.Says looks funs funv K) : PySem.W.keepIn K (.ref (Lk.a_is_ascending K)) = true := (c.at 18 (by kernel_rfl))
theorem m_Slope_init {K : PySem.W.Frag} (c : Hx.Says looks funs funv K) : PySem.W.findIn K (.ref (Lk.C_Slope K)) "__init__" = some (some (.ref (Lk.a_Slope_init K))) := (c.is 19 (by kernel_rfl))
theorem f_Slope_init {K : PySem.W.Frag} (c : Hx.Says looks funs funv K) : PySem.W.isFn K (.ref (Lk.a_Slope_init K)) = true := (c.at 20 (by kernel_rfl))
theorem l_Slope_init {K : PySem.W.Frag} (c : Hx.Says looks funs funv K) : K.lookup (Lk.a_Slope_init K) = some ⟨(Hx.oV K (Lk.a_Slope_init K)).cls, (Hx.oV K (Lk.a_Slope_init K)).dict, .func (PySem.W.fnOf "__init__" "Slope.__init__" (L2.defArgs st_Slope_init) (L2.defBody st_Slope_init) (L2.defScope st_Slope_init) .none (Hx.fdV K (Lk.a_Slope_init K)).kwdefaults (Hx.fdV K (Lk.a_Slope_init K)).doc (Hx.fdV K (Lk.a_Slope_init K)).pyModule (Hx.fdV K (Lk.a_Slope_init K)).annotations (Hx.fdV K (Lk.a_Slope_init K)).code (Hx.fdV K (Lk.a_Slope_init K)).closureTuple), (Hx.oV K (Lk.a_Slope_init K)).slots⟩ := Hx.fn_l (c.at 21 (by kernel_rfl)) (c.fn 3 (by kernel_rfl) (by kernel_rfl)) (c.at 22 (by kernel_rfl))
theorem c_Slope_init {K : PySem.W.Frag} (c : Hx.Says looks funs funv K) : PySem.W.codeIn K (Hx.fdV K (Lk.a_Slope_init K)).code "Slope.__init__" = true := (c.at 23 (by kernel_rfl))
theorem k_Slope_init {K : PySem.W.Frag} (c : Hx.Says looks funs funv K) : PySem.W.keepIn K (.ref (Lk.a_Slope_init K)) = true := (c.at 24 (by kernel_rfl))
theorem pa_Slope_rises {K : PySem.W.Frag} (c : Hx.Says looks funs funv K) : PySem.W.findIn K (.ref (Lk.C_Slope K)) "rises" = some (some (.ref (Lk.p_Slope_rises K))) := (c.is 25 (by kernel_rfl))
theorem pg_Slope_rises {K : PySem.W.Frag} (c : Hx.Says looks funs funv K) : PySem.W.specialIn K (.ref (Lk.p_Slope_rises K)) "__get__" = some (some (.builtin "property.__get__")) := (c.is 26 (by kernel_rfl))
theorem pt_Slope_rises {K : PySem.W.Frag} (c : Hx.Says looks funs funv K) : PySem.W.takesIn K (.ref (Lk.p_Slope_rises K)) = some true := (c.is 27 (by kernel_rfl))
theorem pq_Slope_rises {K : PySem.W.Frag} (c : Hx.Says looks funs funv K) : PySem.W.recIn K (Lk.p_Slope_rises K) "property" = some (.ref (Lk.a_Slope_rises K) :: Hx.reV K (Lk.p_Slope_rises K) "property") := Hx.rec_of (c.at 28 (by kernel_rfl))
theorem l_Slope_rises {K : PySem.W.Frag} (c : Hx.Says looks funs funv K) : K.lookup (Lk.a_Slope_rises K) = some ⟨(Hx.oV K (Lk.a_Slope_rises K)).cls, (Hx.oV K (Lk.a_Slope_rises K)).dict, .func (PySem.W.fnOf "rises" "Slope.rises" (L2.defArgs st_Slope_rises) (L2.defBody st_Slope_rises) (L2.defScope st_Slope_rises) .none (Hx.fdV K (Lk.a_Slope_rises K)).kwdefaults (Hx.fdV K (Lk.a_Slope_rises K)).doc (Hx.fdV K (Lk.a_Slope_rises K)).pyModule (Hx.fdV K (Lk.a_Slope_rises K)).annotations (Hx.fdV K (Lk.a_Slope_rises K)).code (Hx.fdV K (Lk.a_Slope_rises K)).closureTuple), (Hx.oV K (Lk.a_Slope_rises K)).slots⟩ := Hx.fn_l (c.at 29 (by kernel_rfl)) (c.fn 4 (by kernel_rfl) (by kernel_rfl)) (c.at 30 (by kernel_rfl))
theorem c_Slope_rises {K : PySem.W.Frag} (c : Hx.Says looks funs funv K) : PySem.W.codeIn K (Hx.fdV K (Lk.a_Slope_rises K)).code "Slope.rises" = true := (c.at 31 (by kernel_rfl))
theorem k_Slope_rises {K : PySem.W.Frag} (c : Hx.Says looks funs funv K) : PySem.W.keepIn K (.ref (Lk.a_Slope_rises K)) = true := (c.at 32 (by kernel_rfl))
theorem pa_Slope_steps {K : PySem.W.Frag} (c : Hx.Says looks funs funv K) : PySem.W.findIn K (.ref (Lk.C_Slope K)) "steps" = some (some (.ref (Lk.p_Slope_steps K))) := (c.is 33 (by kernel_rfl))
theorem pg_Slope_steps {K : PySem.W.Frag} (c : Hx.Says looks funs funv K) : PySem.W.specialIn K (.ref (Lk.p_Slope_steps K)) "__get__" = some (some (.builtin "property.__get__")) := (c.is 34 (by kernel_rfl))
theorem pt_Slope_steps {K : PySem.W.Frag} (c : Hx.Says looks funs funv K) : PySem.W.takesIn K (.ref (Lk.p_Slope_steps K)) = some true := (c.is 35 (by kernel_rfl))
theorem pq_Slope_steps {K : PySem.W.Frag} (c : Hx.Says looks funs funv K) : PySem.W.recIn K (Lk.p_Slope_steps K) "property" = some (.ref (Lk.a_Slope_steps K) :: Hx.reV K (Lk.p_Slope_steps K) "property") := Hx.rec_of (c.at 36 (by kernel_rfl))
theorem l_Slope_steps {K : PySem.W.Frag} (c : Hx.Says looks funs funv K) : K.lookup (Lk.a_Slope_steps K) = some ⟨(Hx.oV K (Lk.a_Slope_steps K)).cls, (Hx.oV K (Lk.a_Slope_steps K)).dict, .func (PySem.W.fnOf "steps" "Slope.steps" (L2.defArgs st_Slope_steps) (L2.defBody st_Slope_steps) (L2.defScope st_Slope_steps) .none (Hx.fdV K (Lk.a_Slope_steps K)).kwdefaults (Hx.fdV K (Lk.a_Slope_steps K)).doc (Hx.fdV K (Lk.a_Slope_steps K)).pyModule (Hx.fdV K (Lk.a_Slope_steps K)).annotations (Hx.fdV K (Lk.a_Slope_steps K)).code (Hx.fdV K (Lk.a_Slope_steps K)).closureTuple), (Hx.oV K (Lk.a_Slope_steps K)).slots⟩ := Hx.fn_l (c.at 37 (by kernel_rfl)) (c.fn 5 (by kernel_rfl) (by kernel_rfl)) (c.at 38 (by kernel_rfl))
theorem c_Slope_steps {K : PySem.W.Frag} (c : Hx.Says looks funs funv K) : PySem.W.codeIn K (Hx.fdV K (Lk.a_Slope_steps K)).code "Slope.steps" = true := (c.at 39 (by kernel_rfl))
theorem k_Slope_steps {K : PySem.W.Frag} (c : Hx.Says looks funs funv K) : PySem.W.keepIn K (.ref (Lk.a_Slope_steps K)) = true := (c.at 40 (by kernel_rfl))
theorem pa_Slope_common {K : PySem.W.Frag} (c : Hx.Says looks funs funv K) : PySem.W.findIn K (.ref (Lk.C_Slope K)) "common" = some (some (.ref (Lk.p_Slope_common K))) := (c.is 41 (by kernel_rfl))
theorem pg_Slope_common {K : PySem.W.Frag} (c : Hx.Says looks funs funv K) : PySem.W.specialIn K (.ref (Lk.p_Slope_common K)) "__get__" = some (some (.builtin "property.__get__")) := (c.is 42 (by kernel_rfl))
theorem pt_Slope_common {K : PySem.W.Frag} (c : Hx.Says looks funs funv K) : PySem.W.takesIn K (.ref (Lk.p_Slope_common K)) = some true := (c.is 43 (by kernel_rfl))
theorem pq_Slope_common {K : PySem.W.Frag} (c : Hx.Says looks funs funv K) : PySem.W.recIn K (Lk.p_Slope_common K) "property" = some (.ref (Lk.a_Slope_common K) :: Hx.reV K (Lk.p_Slope_common K) "property") := Hx.rec_of (c.at 44 (by kernel_rfl))
theorem l_Slope_common {K : PySem.W.Frag} (c : Hx.Says looks funs funv K) : K.lookup (Lk.a_Slope_common K) = some ⟨(Hx.oV K (Lk.a_Slope_common K)).cls, (Hx.oV K (Lk.a_Slope_common K)).dict, .func (PySem.W.fnOf "common" "Slope.common" (L2.defArgs st_Slope_common) (L2.defBody st_Slope_common) (L2.defScope st_Slope_common) .none (Hx.fdV K (Lk.a_Slope_common K)).kwdefaults (Hx.fdV K (Lk.a_Slope_common K)).doc (Hx.fdV K (Lk.a_Slope_common K)).pyModule (Hx.fdV K (Lk.a_Slope_common K)).annotations (Hx.fdV K (Lk.a_Slope_common K)).code (Hx.fdV K (Lk.a_Slope_common K)).closureTuple), (Hx.oV K (Lk.a_Slope_common K)).slots⟩ := Hx.fn_l (c.at 45 (by kernel_rfl)) (c.fn 6 (by kernel_rfl) (by kernel_rfl)) (c.at 46 (by kernel_rfl))
theorem c_Slope_common {K : PySem.W.Frag} (c : Hx.Says looks funs funv K) : PySem.W.codeIn K (Hx.fdV K (Lk.a_Slope_common K)).code "Slope.common" = true := (c.at 47 (by kernel_rfl))
theorem k_Slope_common {K : PySem.W.Frag} (c : Hx.Says looks funs funv K) : PySem.W.keepIn K (.ref (Lk.a_Slope_common K)) = true := (c.at 48 (by kernel_rfl))
theorem pa_Slope_is_coprime {K : PySem.W.Frag} (c : Hx.Says looks funs funv K) : PySem.W.findIn K (.ref (Lk.C_Slope K)) "is_coprime" = some (some (.ref (Lk.p_Slope_is_coprime K))) := (c.is 49 (by kernel_rfl))
theorem pg_Slope_is_coprime {K : PySem.W.Frag} (c : Hx.Says looks funs funv K) : PySem.W.specialIn K (.ref (Lk.p_Slope_is_coprime K)) "__get__" = some (some (.builtin "property.__get__")) := (c.is 50 (by kernel_rfl))
theorem pt_Slope_is_coprime {K : PySem.W.Frag} (c : Hx.Says looks funs funv K) : PySem.W.takesIn K (.ref (Lk.p_Slope_is_coprime K)) = some true := (c.is 51 (by kernel_rfl))
theorem pq_Slope_is_coprime {K : PySem.W.Frag} (c : Hx.Says looks funs funv K) : PySem.W.recIn K (Lk.p_Slope_is_coprime K) "property" = some (.ref (Lk.a_Slope_is_coprime K) :: Hx.reV K (Lk.p_Slope_is_coprime K) "property") := Hx.rec_of (c.at 52 (by kernel_rfl))
theorem l_Slope_is_coprime {K : PySem.W.Frag} (c : Hx.Says looks funs funv K) : K.lookup (Lk.a_Slope_is_coprime K) = some ⟨(Hx.oV K (Lk.a_Slope_is_coprime K)).cls, (Hx.oV K (Lk.a_Slope_is_coprime K)).dict, .func (PySem.W.fnOf "is_coprime" "Slope.is_coprime" (L2.defArgs st_Slope_is_coprime) (L2.defBody st_Slope_is_coprime) (L2.defScope st_Slope_is_coprime) .none (Hx.fdV K (Lk.a_Slope_is_coprime K)).kwdefaults (Hx.fdV K (Lk.a_Slope_is_coprime K)).doc (Hx.fdV K (Lk.a_Slope_is_coprime K)).pyModule (Hx.fdV K (Lk.a_Slope_is_coprime K)).annotations (Hx.fdV K (Lk.a_Slope_is_coprime K)).code (Hx.fdV K (Lk.a_Slope_is_coprime K)).closureTuple), (Hx.oV K (Lk.a_Slope_is_coprime K)).slots⟩ := Hx.fn_l (c.at 53 (by kernel_rfl)) (c.fn 7 (by kernel_rfl) (by kernel_rfl)) (c.at 54 (by kernel_rfl))
theorem c_Slope_is_coprime {K : PySem.W.Frag} (c : Hx.Says looks funs funv K) : PySem.W.codeIn K (Hx.fdV K (Lk.a_Slope_is_coprime K)).code "Slope.is_coprime" = true := (c.at 55 (by kernel_rfl))
theorem k_Slope_is_coprime {K : PySem.W.Frag} (c : Hx.Says looks funs funv K) : PySem.W.keepIn K (.ref (Lk.a_Slope_is_coprime K)) = true := (c.at 56 (by kernel_rfl))
theorem pa_Slope_half {K : PySem.W.Frag} (c : Hx.Says looks funs funv K) : PySem.W.findIn K (.ref (Lk.C_Slope K)) "half" = some (some (.ref (Lk.p_Slope_half K))) := (c.is 57 (by kernel_rfl))
theorem pg_Slope_half {K : PySem.W.Frag} (c : Hx.Says looks funs funv K) : PySem.W.specialIn K (.ref (Lk.p_Slope_half K)) "__get__" = some (some (.builtin "property.__get__")) := (c.is 58 (by kernel_rfl))
theorem pt_Slope_half {K : PySem.W.Frag} (c : Hx.Says looks funs funv K) : PySem.W.takesIn K (.ref (Lk.p_Slope_half K)) = some true := (c.is 59 (by kernel_rfl))
theorem pq_Slope_half {K : PySem.W.Frag} (c : Hx.Says looks funs funv K) : PySem.W.recIn K (Lk.p_Slope_half K) "property" = some (.ref (Lk.a_Slope_half K) :: Hx.reV K (Lk.p_Slope_half K) "property") := Hx.rec_of (c.at 60 (by kernel_rfl))
theorem l_Slope_half {K : PySem.W.Frag} (c : Hx.Says looks funs funv K) : K.lookup (Lk.a_Slope_half K) = some ⟨(Hx.oV K (Lk.a_Slope_half K)).cls, (Hx.oV K (Lk.a_Slope_half K)).dict, .func (PySem.W.fnOf "half" "Slope.half" (L2.defArgs st_Slope_half) (L2.defBody st_Slope_half) (L2.defScope st_Slope_half) .none (Hx.fdV K (Lk.a_Slope_half K)).kwdefaults (Hx.fdV K (Lk.a_Slope_half K)).doc (Hx.fdV K (Lk.a_Slope_half K)).pyModule (Hx.fdV K (Lk.a_Slope_half K)).annotations (Hx.fdV K (Lk.a_Slope_half K)).code (Hx.fdV K (Lk.a_Slope_half K)).closureTuple), (Hx.oV K (Lk.a_Slope_half K)).slots⟩ := Hx.fn_l (c.at 61 (by kernel_rfl)) (c.fn 8 (by kernel_rfl) (by kernel_rfl)) (c.at 62 (by kernel_rfl))
theorem c_Slope_half {K : PySem.W.Frag} (c : Hx.Says looks funs funv K) : PySem.W.codeIn K (Hx.fdV K (Lk.a_Slope_half K)).code "Slope.half" = true := (c.at 63 (by kernel_rfl))
theorem k_Slope_half {K : PySem.W.Frag} (c : Hx.Says looks funs funv K) : PySem.W.keepIn K (.ref (Lk.a_Slope_half K)) = true := (c.at 64 (by kernel_rfl))
theorem m_Slope_exchanged {K : PySem.W.Frag} (c : Hx.Says looks funs funv K) : PySem.W.findIn K (.ref (Lk.C_Slope K)) "exchanged" = some (some (.ref (Lk.a_Slope_exchanged K))) := (c.is 65 (by kernel_rfl))
theorem f_Slope_exchanged {K : PySem.W.Frag} (c : Hx.Says looks funs funv K) : PySem.W.isFn K (.ref (Lk.a_Slope_exchanged K)) = true := (c.at 66 (by kernel_rfl))
theorem l_Slope_exchanged {K : PySem.W.Frag} (c : Hx.Says looks funs funv K) : K.lookup (Lk.a_Slope_exchanged K) = some ⟨(Hx.oV K (Lk.a_Slope_exchanged K)).cls, (Hx.oV K (Lk.a_Slope_exchanged K)).dict, .func (PySem.W.fnOf "exchanged" "Slope.exchanged" (L2.defArgs st_Slope_exchanged) (L2.defBody st_Slope_exchanged) (L2.defScope st_Slope_exchanged) .none (Hx.fdV K (Lk.a_Slope_exchanged K)).kwdefaults (Hx.fdV K (Lk.a_Slope_exchanged K)).doc (Hx.fdV K (Lk.a_Slope_exchanged K)).pyModule (Hx.fdV K (Lk.a_Slope_exchanged K)).annotations (Hx.fdV K (Lk.a_Slope_exchanged K)).code (Hx.fdV K (Lk.a_Slope_exchanged K)).closureTuple), (Hx.oV K (Lk.a_Slope_exchanged K)).slots⟩ := Hx.fn_l (c.at 67 (by kernel_rfl)) (c.fn 9 (by kernel_rfl) (by kernel_rfl)) (c.at 68 (by kernel_rfl))
theorem c_Slope_exchanged {K : PySem.W.Frag} (c : Hx.Says looks funs funv K) : PySem.W.codeIn K (Hx.fdV K (Lk.a_Slope_exchanged K)).code "Slope.exchanged" = true := (c.at 69 (by kernel_rfl))
theorem k_Slope_exchanged {K : PySem.W.Frag} (c : Hx.Says looks funs funv K) : PySem.W.keepIn K (.ref (Lk.a_Slope_exchanged K)) = true := (c.at 70 (by kernel_rfl))
theorem m_Slope_eq {K : PySem.W.Frag} (c : Hx.Says looks funs funv K) : PySem.W.findIn K (.ref (Lk.C_Slope K)) "__eq__" = some (some (.ref (Lk.a_Slope_eq K))) := (c.is 71 (by kernel_rfl))
theorem f_Slope_eq {K : PySem.W.Frag} (c : Hx.Says looks funs funv K) : PySem.W.isFn K (.ref (Lk.a_Slope_eq K)) = true := (c.at 72 (by kernel_rfl))
theorem l_Slope_eq {K : PySem.W.Frag} (c : Hx.Says looks funs funv K) : K.lookup (Lk.a_Slope_eq K) = some ⟨(Hx.oV K (Lk.a_Slope_eq K)).cls, (Hx.oV K (Lk.a_Slope_eq K)).dict, .func (PySem.W.fnOf "__eq__" "Slope.__eq__" (L2.defArgs st_Slope_eq) (L2.defBody st_Slope_eq) (L2.defScope st_Slope_eq) .none (Hx.fdV K (Lk.a_Slope_eq K)).kwdefaults (Hx.fdV K (Lk.a_Slope_eq K)).doc (Hx.fdV K (Lk.a_Slope_eq K)).pyModule (Hx.fdV K (Lk.a_Slope_eq K)).annotations (Hx.fdV K (Lk.a_Slope_eq K)).code (Hx.fdV K (Lk.a_Slope_eq K)).closureTuple), (Hx.oV K (Lk.a_Slope_eq K)).slots⟩ := Hx.fn_l (c.at 73 (by kernel_rfl)) (c.fn 10 (by kernel_rfl) (by kernel_rfl)) (c.at 74 (by kernel_rfl))
theorem c_Slope_eq {K : PySem.W.Frag} (c : Hx.Says looks funs funv K) : PySem.W.codeIn K (Hx.fdV K (Lk.a_Slope_eq K)).code "Slope.__eq__" = true := (c.at 75 (by kernel_rfl))
theorem k_Slope_eq {K : PySem.W.Frag} (c : Hx.Says looks funs funv K) : PySem.W.keepIn K (.ref (Lk.a_Slope_eq K)) = true := (c.at 76 (by kernel_rfl))
theorem m_Way_init {K : PySem.W.Frag} (c : Hx.Says looks funs funv K) : PySem.W.findIn K (.ref (Lk.C_Way K)) "__init__" = some (some (.ref (Lk.a_Way_init K))) := (c.is 77 (by kernel_rfl))
theorem f_Way_init {K : PySem.W.Frag} (c : Hx.Says looks funs funv K) : PySem.W.isFn K (.ref (Lk.a_Way_init K)) = true := (c.at 78 (by kernel_rfl))
theorem l_Way_init {K : PySem.W.Frag} (c : Hx.Says looks funs funv K) : K.lookup (Lk.a_Way_init K) = some ⟨(Hx.oV K (Lk.a_Way_init K)).cls, (Hx.oV K (Lk.a_Way_init K)).dict, .func (PySem.W.fnOf "__init__" "Way.__init__" (L2.defArgs st_Way_init) (L2.defBody st_Way_init) (L2.defScope st_Way_init) .none (Hx.fdV K (Lk.a_Way_init K)).kwdefaults (Hx.fdV K (Lk.a_Way_init K)).doc (Hx.fdV K (Lk.a_Way_init K)).pyModule (Hx.fdV K (Lk.a_Way_init K)).annotations (Hx.fdV K (Lk.a_Way_init K)).code (Hx.fdV K (Lk.a_Way_init K)).closureTuple), (Hx.oV K (Lk.a_Way_init K)).slots⟩ := Hx.fn_l (c.at 79 (by kernel_rfl)) (c.fn 11 (by kernel_rfl) (by kernel_rfl)) (c.at 80 (by kernel_rfl))
theorem c_Way_init {K : PySem.W.Frag} (c : Hx.Says looks funs funv K) : PySem.W.codeIn K (Hx.fdV K (Lk.a_Way_init K)).code "Way.__init__" = true := (c.at 81 (by kernel_rfl))
theorem k_Way_init {K : PySem.W.Frag} (c : Hx.Says looks funs funv K) : PySem.W.keepIn K (.ref (Lk.a_Way_init K)) = true := (c.at 82 (by kernel_rfl))
theorem pa_Way_slope {K : PySem.W.Frag} (c : Hx.Says looks funs funv K) : PySem.W.findIn K (.ref (Lk.C_Way K)) "slope" = some (some (.ref (Lk.p_Way_slope K))) := (c.is 83 (by kernel_rfl))
theorem pg_Way_slope {K : PySem.W.Frag} (c : Hx.Says looks funs funv K) : PySem.W.specialIn K (.ref (Lk.p_Way_slope K)) "__get__" = some (some (.builtin "property.__get__")) := (c.is 84 (by kernel_rfl))
theorem pt_Way_slope {K : PySem.W.Frag} (c : Hx.Says looks funs funv K) : PySem.W.takesIn K (.ref (Lk.p_Way_slope K)) = some true := (c.is 85 (by kernel_rfl))
theorem pq_Way_slope {K : PySem.W.Frag} (c : Hx.Says looks funs funv K) : PySem.W.recIn K (Lk.p_Way_slope K) "property" = some (.ref (Lk.a_Way_slope K) :: Hx.reV K (Lk.p_Way_slope K) "property") := Hx.rec_of (c.at 86 (by kernel_rfl))
theorem l_Way_slope {K : PySem.W.Frag} (c : Hx.Says looks funs funv K) : K.lookup (Lk.a_Way_slope K) = some ⟨(Hx.oV K (Lk.a_Way_slope K)).cls, (Hx.oV K (Lk.a_Way_slope K)).dict, .func (PySem.W.fnOf "slope" "Way.slope" (L2.defArgs st_Way_slope) (L2.defBody st_Way_slope) (L2.defScope st_Way_slope) .none (Hx.fdV K (Lk.a_Way_slope K)).kwdefaults (Hx.fdV K (Lk.a_Way_slope K)).doc (Hx.fdV K (Lk.a_Way_slope K)).pyModule (Hx.fdV K (Lk.a_Way_slope K)).annotations (Hx.fdV K (Lk.a_Way_slope K)).code (Hx.fdV K (Lk.a_Way_slope K)).closureTuple), (Hx.oV K (Lk.a_Way_slope K)).slots⟩ := Hx.fn_l (c.at 87 (by kernel_rfl)) (c.fn 12 (by kernel_rfl) (by kernel_rfl)) (c.at 88 (by kernel_rfl))
theorem c_Way_slope {K : PySem.W.Frag} (c : Hx.Says looks funs funv K) : PySem.W.codeIn K (Hx.fdV K (Lk.a_Way_slope K)).code "Way.slope" = true := (c.at 89 (by kernel_rfl))
theorem k_Way_slope {K : PySem.W.Frag} (c : Hx.Says looks funs funv K) : PySem.W.keepIn K (.ref (Lk.a_Way_slope K)) = true := (c.at 90 (by kernel_rfl))
theorem pa_Way_text {K : PySem.W.Frag} (c : Hx.Says looks funs funv K) : PySem.W.findIn K (.ref (Lk.C_Way K)) "text" = some (some (.ref (Lk.p_Way_text K))) := (c.is 91 (by kernel_rfl))
theorem pg_Way_text {K : PySem.W.Frag} (c : Hx.Says looks funs funv K) : PySem.W.specialIn K (.ref (Lk.p_Way_text K)) "__get__" = some (some (.builtin "property.__get__")) := (c.is 92 (by kernel_rfl))
theorem pt_Way_text {K : PySem.W.Frag} (c : Hx.Says looks funs funv K) : PySem.W.takesIn K (.ref (Lk.p_Way_text K)) = some true := (c.is 93 (by kernel_rfl))
theorem pq_Way_text {K : PySem.W.Frag} (c : Hx.Says looks funs funv K) : PySem.W.recIn K (Lk.p_Way_text K) "property" = some (.ref (Lk.a_Way_text K) :: Hx.reV K (Lk.p_Way_text K) "property") := Hx.rec_of (c.at 94 (by kernel_rfl))
theorem l_Way_text {K : PySem.W.Frag} (c : Hx.Says looks funs funv K) : K.lookup (Lk.a_Way_text K) = some ⟨(Hx.oV K (Lk.a_Way_text K)).cls, (Hx.oV K (Lk.a_Way_text K)).dict, .func (PySem.W.fnOf "text" "Way.text" (L2.defArgs st_Way_text) (L2.defBody st_Way_text) (L2.defScope st_Way_text) .none (Hx.fdV K (Lk.a_Way_text K)).kwdefaults (Hx.fdV K (Lk.a_Way_text K)).doc (Hx.fdV K (Lk.a_Way_text K)).pyModule (Hx.fdV K (Lk.a_Way_text K)).annotations (Hx.fdV K (Lk.a_Way_text K)).code (Hx.fdV K (Lk.a_Way_text K)).closureTuple), (Hx.oV K (Lk.a_Way_text K)).slots⟩ := Hx.fn_l (c.at 95 (by kernel_rfl)) (c.fn 13 (by kernel_rfl) (by kernel_rfl)) (c.at 96 (by kernel_rfl))
theorem c_Way_text {K : PySem.W.Frag} (c : Hx.Says looks funs funv K) : PySem.W.codeIn K (Hx.fdV K (Lk.a_Way_text K)).code "Way.text" = true := (c.at 97 (by kernel_rfl))
theorem k_Way_text {K : PySem.W.Frag} (c : Hx.Says looks funs funv K) : PySem.W.keepIn K (.ref (Lk.a_Way_text K)) = true := (c.at 98 (by kernel_rfl))
theorem pa_Way_levels {K : PySem.W.Frag} (c : Hx.Says looks funs funv K) : PySem.W.findIn K (.ref (Lk.C_Way K)) "levels" = some (some (.ref (Lk.p_Way_levels K))) := (c.is 99 (by kernel_rfl))
theorem pg_Way_levels {K : PySem.W.Frag} (c : Hx.Says looks funs funv K) : PySem.W.specialIn K (.ref (Lk.p_Way_levels K)) "__get__" = some (some (.builtin "property.__get__")) := (c.is 100 (by kernel_rfl))
theorem pt_Way_levels {K : PySem.W.Frag} (c : Hx.Says looks funs funv K) : PySem.W.takesIn K (.ref (Lk.p_Way_levels K)) = some true := (c.is 101 (by kernel_rfl))
theorem pq_Way_levels {K : PySem.W.Frag} (c : Hx.Says looks funs funv K) : PySem.W.recIn K (Lk.p_Way_levels K) "property" = some (.ref (Lk.a_Way_levels K) :: Hx.reV K (Lk.p_Way_levels K) "property") := Hx.rec_of (c.at 102 (by kernel_rfl))
theorem l_Way_levels {K : PySem.W.Frag} (c : Hx.Says looks funs funv K) : K.lookup (Lk.a_Way_levels K) = some ⟨(Hx.oV K (Lk.a_Way_levels K)).cls, (Hx.oV K (Lk.a_Way_levels K)).dict, .func (PySem.W.fnOf "levels" "Way.levels" (L2.defArgs st_Way_levels) (L2.defBody st_Way_levels) (L2.defScope st_Way_levels) .none (Hx.fdV K (Lk.a_Way_levels K)).kwdefaults (Hx.fdV K (Lk.a_Way_levels K)).doc (Hx.fdV K (Lk.a_Way_levels K)).pyModule (Hx.fdV K (Lk.a_Way_levels K)).annotations (Hx.fdV K (Lk.a_Way_levels K)).code (Hx.fdV K (Lk.a_Way_levels K)).closureTuple), (Hx.oV K (Lk.a_Way_levels K)).slots⟩ := Hx.fn_l (c.at 103 (by kernel_rfl)) (c.fn 14 (by kernel_rfl) (by kernel_rfl)) (c.at 104 (by kernel_rfl))
theorem c_Way_levels {K : PySem.W.Frag} (c : Hx.Says looks funs funv K) : PySem.W.codeIn K (Hx.fdV K (Lk.a_Way_levels K)).code "Way.levels" = true := (c.at 105 (by kernel_rfl))
theorem k_Way_levels {K : PySem.W.Frag} (c : Hx.Says looks funs funv K) : PySem.W.keepIn K (.ref (Lk.a_Way_levels K)) = true := (c.at 106 (by kernel_rfl))
theorem m_Way_exchanged {K : PySem.W.Frag} (c : Hx.Says looks funs funv K) : PySem.W.findIn K (.ref (Lk.C_Way K)) "exchanged" = some (some (.ref (Lk.a_Way_exchanged K))) := (c.is 107 (by kernel_rfl))
theorem f_Way_exchanged {K : PySem.W.Frag} (c : Hx.Says looks funs funv K) : PySem.W.isFn K (.ref (Lk.a_Way_exchanged K)) = true := (c.at 108 (by kernel_rfl))
theorem l_Way_exchanged {K : PySem.W.Frag} (c : Hx.Says looks funs funv K) : K.lookup (Lk.a_Way_exchanged K) = some ⟨(Hx.oV K (Lk.a_Way_exchanged K)).cls, (Hx.oV K (Lk.a_Way_exchanged K)).dict, .func (PySem.W.fnOf "exchanged" "Way.exchanged" (L2.defArgs st_Way_exchanged) (L2.defBody st_Way_exchanged) (L2.defScope st_Way_exchanged) .none (Hx.fdV K (Lk.a_Way_exchanged K)).kwdefaults (Hx.fdV K (Lk.a_Way_exchanged K)).doc (Hx.fdV K (Lk.a_Way_exchanged K)).pyModule (Hx.fdV K (Lk.a_Way_exchanged K)).annotations (Hx.fdV K (Lk.a_Way_exchanged K)).code (Hx.fdV K (Lk.a_Way_exchanged K)).closureTuple), (Hx.oV K (Lk.a_Way_exchanged K)).slots⟩ := Hx.fn_l (c.at 109 (by kernel_rfl)) (c.fn 15 (by kernel_rfl) (by kernel_rfl)) (c.at 110 (by kernel_rfl))
theorem c_Way_exchanged {K : PySem.W.Frag} (c : Hx.Says looks funs funv K) : PySem.W.codeIn K (Hx.fdV K (Lk.a_Way_exchanged K)).code "Way.exchanged" = true := (c.at 111 (by kernel_rfl))
theorem k_Way_exchanged {K : PySem.W.Frag} (c : Hx.Says looks funs funv K) : PySem.W.keepIn K (.ref (Lk.a_Way_exchanged K)) = true := (c.at 112 (by kernel_rfl))
theorem m_Way_eq {K : PySem.W.Frag} (c : Hx.Says looks funs funv K) : PySem.W.findIn K (.ref (Lk.C_Way K)) "__eq__" = some (some (.ref (Lk.a_Way_eq K))) := (c.is 113 (by kernel_rfl))
theorem f_Way_eq {K : PySem.W.Frag} (c : Hx.Says looks funs funv K) : PySem.W.isFn K (.ref (Lk.a_Way_eq K)) = true := (c.at 114 (by kernel_rfl))
theorem l_Way_eq {K : PySem.W.Frag} (c : Hx.Says looks funs funv K) : K.lookup (Lk.a_Way_eq K) = some ⟨(Hx.oV K (Lk.a_Way_eq K)).cls, (Hx.oV K (Lk.a_Way_eq K)).dict, .func (PySem.W.fnOf "__eq__" "Way.__eq__" (L2.defArgs st_Way_eq) (L2.defBody st_Way_eq) (L2.defScope st_Way_eq) .none (Hx.fdV K (Lk.a_Way_eq K)).kwdefaults (Hx.fdV K (Lk.a_Way_eq K)).doc (Hx.fdV K (Lk.a_Way_eq K)).pyModule (Hx.fdV K (Lk.a_Way_eq K)).annotations (Hx.fdV K (Lk.a_Way_eq K)).code (Hx.fdV K (Lk.a_Way_eq K)).closureTuple), (Hx.oV K (Lk.a_Way_eq K)).slots⟩ := Hx.fn_l (c.at 115 (by kernel_rfl)) (c.fn 16 (by kernel_rfl) (by kernel_rfl)) (c.at 116 (by kernel_rfl))
theorem c_Way_eq {K : PySem.W.Frag} (c : Hx.Says looks funs funv K) : PySem.W.codeIn K (Hx.fdV K (Lk.a_Way_eq K)).code "Way.__eq__" = true := (c.at 117 (by kernel_rfl))
theorem k_Way_eq {K : PySem.W.Frag} (c : Hx.Says looks funs funv K) : PySem.W.keepIn K (.ref (Lk.a_Way_eq K)) = true := (c.at 118 (by kernel_rfl))
theorem g_check_slope {K : PySem.W.Frag} (c : Hx.Says looks funs funv K) : PySem.W.nsIn K mainGlobals "check_slope" = some (some (.ref (Lk.a_check_slope K))) := (c.is 119 (by kernel_rfl))
theorem l_check_slope {K : PySem.W.Frag} (c : Hx.Says looks funs funv K) : K.lookup (Lk.a_check_slope K) = some ⟨(Hx.oV K (Lk.a_check_slope K)).cls, (Hx.oV K (Lk.a_check_slope K)).dict, .func (PySem.W.fnOf "check_slope" "check_slope" (L2.defArgs st_check_slope) (L2.defBody st_check_slope) (L2.defScope st_check_slope) .none (Hx.fdV K (Lk.a_check_slope K)).kwdefaults (Hx.fdV K (Lk.a_check_slope K)).doc (Hx.fdV K (Lk.a_check_slope K)).pyModule (Hx.fdV K (Lk.a_check_slope K)).annotations (Hx.fdV K (Lk.a_check_slope K)).code (Hx.fdV K (Lk.a_check_slope K)).closureTuple), (Hx.oV K (Lk.a_check_slope K)).slots⟩ := Hx.fn_l (c.at 120 (by kernel_rfl)) (c.fn 17 (by kernel_rfl) (by kernel_rfl)) (c.at 121 (by kernel_rfl))
theorem c_check_slope {K : PySem.W.Frag} (c : Hx.Says looks funs funv K) : PySem.W.codeIn K (Hx.fdV K (Lk.a_check_slope K)).code "check_slope" = true := (c.at 122 (by kernel_rfl))
theorem k_check_slope {K : PySem.W.Frag} (c : Hx.Says looks funs funv K) : PySem.W.keepIn K (.ref (Lk.a_check_slope K)) = true := (c.at 123 (by kernel_rfl))
theorem g_check_way {K : PySem.W.Frag} (c : Hx.Says looks funs funv K) : PySem.W.nsIn K mainGlobals "check_way" = some (some (.ref (Lk.a_check_way K))) := (c.is 124 (by kernel_rfl))
theorem l_check_way {K : PySem.W.Frag} (c : Hx.Says looks funs funv K) : K.lookup (Lk.a_check_way K) = some ⟨(Hx.oV K (Lk.a_check_way K)).cls, (Hx.oV K (Lk.a_check_way K)).dict, .func (PySem.W.fnOf "check_way" "check_way" (L2.defArgs st_check_way) (L2.defBody st_check_way) (L2.defScope st_check_way) .none (Hx.fdV K (Lk.a_check_way K)).kwdefaults (Hx.fdV K (Lk.a_check_way K)).doc (Hx.fdV K (Lk.a_check_way K)).pyModule (Hx.fdV K (Lk.a_check_way K)).annotations (Hx.fdV K (Lk.a_check_way K)).code (Hx.fdV K (Lk.a_check_way K)).closureTuple), (Hx.oV K (Lk.a_check_way K)).slots⟩ := Hx.fn_l (c.at 125 (by kernel_rfl)) (c.fn 18 (by kernel_rfl) (by kernel_rfl)) (c.at 126 (by kernel_rfl))
theorem c_check_way {K : PySem.W.Frag} (c : Hx.Says looks funs funv K) : PySem.W.codeIn K (Hx.fdV K (Lk.a_check_way K)).code "check_way" = true := (c.at 127 (by kernel_rfl))
theorem k_check_way {K : PySem.W.Frag} (c : Hx.Says looks funs funv K) : PySem.W.keepIn K (.ref (Lk.a_check_way K)) = true := (c.at 128 (by kernel_rfl))
theorem g_check_coprime {K : PySem.W.Frag} (c : Hx.Says looks funs funv K) : PySem.W.nsIn K mainGlobals "check_coprime" = some (some (.ref (Lk.a_check_coprime K))) := (c.is 129 (by kernel_rfl))
theorem l_check_coprime {K : PySem.W.Frag} (c : Hx.Says looks funs funv K) : K.lookup (Lk.a_check_coprime K) = some ⟨(Hx.oV K (Lk.a_check_coprime K)).cls, (Hx.oV K (Lk.a_check_coprime K)).dict, .func (PySem.W.fnOf "check_coprime" "check_coprime" (L2.defArgs st_check_coprime) (L2.defBody st_check_coprime) (L2.defScope st_check_coprime) .none (Hx.fdV K (Lk.a_check_coprime K)).kwdefaults (Hx.fdV K (Lk.a_check_coprime K)).doc (Hx.fdV K (Lk.a_check_coprime K)).pyModule (Hx.fdV K (Lk.a_check_coprime K)).annotations (Hx.fdV K (Lk.a_check_coprime K)).code (Hx.fdV K (Lk.a_check_coprime K)).closureTuple), (Hx.oV K (Lk.a_check_coprime K)).slots⟩ := Hx.fn_l (c.at 130 (by kernel_rfl)) (c.fn 19 (by kernel_rfl) (by kernel_rfl)) (c.at 131 (by kernel_rfl))
theorem c_check_coprime {K : PySem.W.Frag} (c : Hx.Says looks funs funv K) : PySem.W.codeIn K (Hx.fdV K (Lk.a_check_coprime K)).code "check_coprime" = true := (c.at 132 (by kernel_rfl))
theorem k_check_coprime {K : PySem.W.Frag} (c : Hx.Says looks funs funv K) : PySem.W.keepIn K (.ref (Lk.a_check_coprime K)) = true := (c.at 133 (by kernel_rfl))
theorem g_check_coprime_way {K : PySem.W.Frag} (c : Hx.Says looks funs funv K) : PySem.W.nsIn K mainGlobals "check_coprime_way" = some (some (.ref (Lk.a_check_coprime_way K))) := (c.is 134 (by kernel_rfl))
theorem l_check_coprime_way {K : PySem.W.Frag} (c : Hx.Says looks funs funv K) : K.lookup (Lk.a_check_coprime_way K) = some ⟨(Hx.oV K (Lk.a_check_coprime_way K)).cls, (Hx.oV K (Lk.a_check_coprime_way K)).dict, .func (PySem.W.fnOf "check_coprime_way" "check_coprime_way" (L2.defArgs st_check_coprime_way) (L2.defBody st_check_coprime_way) (L2.defScope st_check_coprime_way) .none (Hx.fdV K (Lk.a_check_coprime_way K)).kwdefaults (Hx.fdV K (Lk.a_check_coprime_way K)).doc (Hx.fdV K (Lk.a_check_coprime_way K)).pyModule (Hx.fdV K (Lk.a_check_coprime_way K)).annotations (Hx.fdV K (Lk.a_check_coprime_way K)).code (Hx.fdV K (Lk.a_check_coprime_way K)).closureTuple), (Hx.oV K (Lk.a_check_coprime_way K)).slots⟩ := Hx.fn_l (c.at 135 (by kernel_rfl)) (c.fn 20 (by kernel_rfl) (by kernel_rfl)) (c.at 136 (by kernel_rfl))
theorem c_check_coprime_way {K : PySem.W.Frag} (c : Hx.Says looks funs funv K) : PySem.W.codeIn K (Hx.fdV K (Lk.a_check_coprime_way K)).code "check_coprime_way" = true := (c.at 137 (by kernel_rfl))
theorem k_check_coprime_way {K : PySem.W.Frag} (c : Hx.Says looks funs funv K) : PySem.W.keepIn K (.ref (Lk.a_check_coprime_way K)) = true := (c.at 138 (by kernel_rfl))
theorem g_letter_levels {K : PySem.W.Frag} (c : Hx.Says looks funs funv K) : PySem.W.nsIn K mainGlobals "letter_levels" = some (some (.ref (Lk.a_letter_levels K))) := (c.is 139 (by kernel_rfl))
theorem l_letter_levels {K : PySem.W.Frag} (c : Hx.Says looks funs funv K) : K.lookup (Lk.a_letter_levels K) = some ⟨(Hx.oV K (Lk.a_letter_levels K)).cls, (Hx.oV K (Lk.a_letter_levels K)).dict, .func (PySem.W.fnOf "letter_levels" "letter_levels" (L2.defArgs st_letter_levels) (L2.defBody st_letter_levels) (L2.defScope st_letter_levels) .none (Hx.fdV K (Lk.a_letter_levels K)).kwdefaults (Hx.fdV K (Lk.a_letter_levels K)).doc (Hx.fdV K (Lk.a_letter_levels K)).pyModule (Hx.fdV K (Lk.a_letter_levels K)).annotations (Hx.fdV K (Lk.a_letter_levels K)).code (Hx.fdV K (Lk.a_letter_levels K)).closureTuple), (Hx.oV K (Lk.a_letter_levels K)).slots⟩ := Hx.fn_l (c.at 140 (by kernel_rfl)) (c.fn 21 (by kernel_rfl) (by kernel_rfl)) (c.at 141 (by kernel_rfl))
theorem c_letter_levels {K : PySem.W.Frag} (c : Hx.Says looks funs funv K) : PySem.W.codeIn K (Hx.fdV K (Lk.a_letter_levels K)).code "letter_levels" = true := (c.at 142 (by kernel_rfl))
theorem k_letter_levels {K : PySem.W.Frag} (c : Hx.Says looks funs funv K) : PySem.W.keepIn K (.ref (Lk.a_letter_levels K)) = true := (c.at 143 (by kernel_rfl))
theorem g_is_word {K : PySem.W.Frag} (c : Hx.Says looks funs funv K) : PySem.W.nsIn K mainGlobals "is_word" = some (some (.ref (Lk.a_is_word K))) := (c.is 144 (by kernel_rfl))
theorem l_is_word {K : PySem.W.Frag} (c : Hx.Says looks funs funv K) : K.lookup (Lk.a_is_word K) = some ⟨(Hx.oV K (Lk.a_is_word K)).cls, (Hx.oV K (Lk.a_is_word K)).dict, .func (PySem.W.fnOf "is_word" "is_word" (L2.defArgs st_is_word) (L2.defBody st_is_word) (L2.defScope st_is_word) .none (Hx.fdV K (Lk.a_is_word K)).kwdefaults (Hx.fdV K (Lk.a_is_word K)).doc (Hx.fdV K (Lk.a_is_word K)).pyModule (Hx.fdV K (Lk.a_is_word K)).annotations (Hx.fdV K (Lk.a_is_word K)).code (Hx.fdV K (Lk.a_is_word K)).closureTuple), (Hx.oV K (Lk.a_is_word K)).slots⟩ := Hx.fn_l (c.at 145 (by kernel_rfl)) (c.fn 22 (by kernel_rfl) (by kernel_rfl)) (c.at 146 (by kernel_rfl))
theorem c_is_word {K : PySem.W.Frag} (c : Hx.Says looks funs funv K) : PySem.W.codeIn K (Hx.fdV K (Lk.a_is_word K)).code "is_word" = true := (c.at 147 (by kernel_rfl))
theorem k_is_word {K : PySem.W.Frag} (c : Hx.Says looks funs funv K) : PySem.W.keepIn K (.ref (Lk.a_is_word K)) = true := (c.at 148 (by kernel_rfl))
theorem g_is_way {K : PySem.W.Frag} (c : Hx.Says looks funs funv K) : PySem.W.nsIn K mainGlobals "is_way" = some (some (.ref (Lk.a_is_way K))) := (c.is 149 (by kernel_rfl))
theorem l_is_way {K : PySem.W.Frag} (c : Hx.Says looks funs funv K) : K.lookup (Lk.a_is_way K) = some ⟨(Hx.oV K (Lk.a_is_way K)).cls, (Hx.oV K (Lk.a_is_way K)).dict, .func (PySem.W.fnOf "is_way" "is_way" (L2.defArgs st_is_way) (L2.defBody st_is_way) (L2.defScope st_is_way) .none (Hx.fdV K (Lk.a_is_way K)).kwdefaults (Hx.fdV K (Lk.a_is_way K)).doc (Hx.fdV K (Lk.a_is_way K)).pyModule (Hx.fdV K (Lk.a_is_way K)).annotations (Hx.fdV K (Lk.a_is_way K)).code (Hx.fdV K (Lk.a_is_way K)).closureTuple), (Hx.oV K (Lk.a_is_way K)).slots⟩ := Hx.fn_l (c.at 150 (by kernel_rfl)) (c.fn 23 (by kernel_rfl) (by kernel_rfl)) (c.at 151 (by kernel_rfl))
theorem c_is_way {K : PySem.W.Frag} (c : Hx.Says looks funs funv K) : PySem.W.codeIn K (Hx.fdV K (Lk.a_is_way K)).code "is_way" = true := (c.at 152 (by kernel_rfl))
theorem k_is_way {K : PySem.W.Frag} (c : Hx.Says looks funs funv K) : PySem.W.keepIn K (.ref (Lk.a_is_way K)) = true := (c.at 153 (by kernel_rfl))
theorem m_Shelf_init {K : PySem.W.Frag} (c : Hx.Says looks funs funv K) : PySem.W.findIn K (.ref (Lk.C_Shelf K)) "__init__" = some (some (.ref (Lk.a_Shelf_init K))) := (c.is 154 (by kernel_rfl))
theorem f_Shelf_init {K : PySem.W.Frag} (c : Hx.Says looks funs funv K) : PySem.W.isFn K (.ref (Lk.a_Shelf_init K)) = true := (c.at 155 (by kernel_rfl))
theorem l_Shelf_init {K : PySem.W.Frag} (c : Hx.Says looks funs funv K) : K.lookup (Lk.a_Shelf_init K) = some ⟨(Hx.oV K (Lk.a_Shelf_init K)).cls, (Hx.oV K (Lk.a_Shelf_init K)).dict, .func (PySem.W.fnOf "__init__" "Shelf.__init__" (L2.defArgs st_Shelf_init) (L2.defBody st_Shelf_init) (L2.defScope st_Shelf_init) (.ref (Hx.edV K (Lk.a_Shelf_init K))) (Hx.fdV K (Lk.a_Shelf_init K)).kwdefaults (Hx.fdV K (Lk.a_Shelf_init K)).doc (Hx.fdV K (Lk.a_Shelf_init K)).pyModule (Hx.fdV K (Lk.a_Shelf_init K)).annotations (Hx.fdV K (Lk.a_Shelf_init K)).code (Hx.fdV K (Lk.a_Shelf_init K)).closureTuple), (Hx.oV K (Lk.a_Shelf_init K)).slots⟩ := Hx.fn_l1 (c.at 156 (by kernel_rfl)) (c.fn 24 (by kernel_rfl) (by kernel_rfl)) (c.at 157 (by kernel_rfl))
theorem ld_Shelf_init {K : PySem.W.Frag} (c : Hx.Says looks funs funv K) : K.lookup (Hx.edV K (Lk.a_Shelf_init K)) = some ⟨(Hx.oV K (Hx.edV K (Lk.a_Shelf_init K))).cls, (Hx.oV K (Hx.edV K (Lk.a_Shelf_init K))).dict, .seq #[.ref (Hx.e1V K (Lk.a_Shelf_init K))] (Hx.nV K (Hx.edV K (Lk.a_Shelf_init K))), (Hx.oV K (Hx.edV K (Lk.a_Shelf_init K))).slots⟩ := Hx.ld_of (c.at 158 (by kernel_rfl))
theorem le_Shelf_init {K : PySem.W.Frag} (c : Hx.Says looks funs funv K) : K.lookup (Hx.e1V K (Lk.a_Shelf_init K)) = some ⟨.type "tuple", (Hx.oV K (Hx.e1V K (Lk.a_Shelf_init K))).dict, .seq #[] (Hx.nV K (Hx.e1V K (Lk.a_Shelf_init K))), (Hx.oV K (Hx.e1V K (Lk.a_Shelf_init K))).slots⟩ := Hx.le_of (c.at 159 (by kernel_rfl))
theorem c_Shelf_init {K : PySem.W.Frag} (c : Hx.Says looks funs funv K) : PySem.W.codeIn K (Hx.fdV K (Lk.a_Shelf_init K)).code "Shelf.__init__" = true := (c.at 160 (by kernel_rfl))
theorem k_Shelf_init {K : PySem.W.Frag} (c : Hx.Says looks funs funv K) : PySem.W.keepIn K (.ref (Lk.a_Shelf_init K)) = true := (c.at 161 (by kernel_rfl))
theorem pa_Shelf_of_way {K : PySem.W.Frag} (c : Hx.Says looks funs funv K) : PySem.W.findCls K (.ref (Lk.C_Shelf K)) (.type "type") "of_way" = some (.get (.builtin "classmethod.__get__") (.ref (Lk.p_Shelf_of_way K)) .none (.ref (Lk.C_Shelf K))) := Hx.cls_of (c.at 162 (by kernel_rfl))
theorem pq_Shelf_of_way {K : PySem.W.Frag} (c : Hx.Says looks funs funv K) : PySem.W.recIn K (Lk.p_Shelf_of_way K) "classmethod" = some (.ref (Lk.a_Shelf_of_way K) :: Hx.reV K (Lk.p_Shelf_of_way K) "classmethod") := Hx.rec_of (c.at 163 (by kernel_rfl))
theorem pf_Shelf_of_way {K : PySem.W.Frag} (c : Hx.Says looks funs funv K) : PySem.W.fnIn K (Lk.a_Shelf_of_way K) = true := (c.at 164 (by kernel_rfl))
theorem l_Shelf_of_way {K : PySem.W.Frag} (c : Hx.Says looks funs funv K) : K.lookup (Lk.a_Shelf_of_way K) = some ⟨(Hx.oV K (Lk.a_Shelf_of_way K)).cls, (Hx.oV K (Lk.a_Shelf_of_way K)).dict, .func (PySem.W.fnOf "of_way" "Shelf.of_way" (L2.defArgs st_Shelf_of_way) (L2.defBody st_Shelf_of_way) (L2.defScope st_Shelf_of_way) .none (Hx.fdV K (Lk.a_Shelf_of_way K)).kwdefaults (Hx.fdV K (Lk.a_Shelf_of_way K)).doc (Hx.fdV K (Lk.a_Shelf_of_way K)).pyModule (Hx.fdV K (Lk.a_Shelf_of_way K)).annotations (Hx.fdV K (Lk.a_Shelf_of_way K)).code (Hx.fdV K (Lk.a_Shelf_of_way K)).closureTuple), (Hx.oV K (Lk.a_Shelf_of_way K)).slots⟩ := Hx.fn_l (c.at 165 (by kernel_rfl)) (c.fn 25 (by kernel_rfl) (by kernel_rfl)) (c.at 166 (by kernel_rfl))
theorem c_Shelf_of_way {K : PySem.W.Frag} (c : Hx.Says looks funs funv K) : PySem.W.codeIn K (Hx.fdV K (Lk.a_Shelf_of_way K)).code "Shelf.of_way" = true := (c.at 167 (by kernel_rfl))
theorem k_Shelf_of_way {K : PySem.W.Frag} (c : Hx.Says looks funs funv K) : PySem.W.keepIn K (.ref (Lk.a_Shelf_of_way K)) = true := (c.at 168 (by kernel_rfl))
theorem pa_Shelf_slope {K : PySem.W.Frag} (c : Hx.Says looks funs funv K) : PySem.W.findIn K (.ref (Lk.C_Shelf K)) "slope" = some (some (.ref (Lk.p_Shelf_slope K))) := (c.is 169 (by kernel_rfl))
theorem pg_Shelf_slope {K : PySem.W.Frag} (c : Hx.Says looks funs funv K) : PySem.W.specialIn K (.ref (Lk.p_Shelf_slope K)) "__get__" = some (some (.builtin "property.__get__")) := (c.is 170 (by kernel_rfl))
theorem pt_Shelf_slope {K : PySem.W.Frag} (c : Hx.Says looks funs funv K) : PySem.W.takesIn K (.ref (Lk.p_Shelf_slope K)) = some true := (c.is 171 (by kernel_rfl))
theorem pq_Shelf_slope {K : PySem.W.Frag} (c : Hx.Says looks funs funv K) : PySem.W.recIn K (Lk.p_Shelf_slope K) "property" = some (.ref (Lk.a_Shelf_slope K) :: Hx.reV K (Lk.p_Shelf_slope K) "property") := Hx.rec_of (c.at 172 (by kernel_rfl))
theorem l_Shelf_slope {K : PySem.W.Frag} (c : Hx.Says looks funs funv K) : K.lookup (Lk.a_Shelf_slope K) = some ⟨(Hx.oV K (Lk.a_Shelf_slope K)).cls, (Hx.oV K (Lk.a_Shelf_slope K)).dict, .func (PySem.W.fnOf "slope" "Shelf.slope" (L2.defArgs st_Shelf_slope) (L2.defBody st_Shelf_slope) (L2.defScope st_Shelf_slope) .none (Hx.fdV K (Lk.a_Shelf_slope K)).kwdefaults (Hx.fdV K (Lk.a_Shelf_slope K)).doc (Hx.fdV K (Lk.a_Shelf_slope K)).pyModule (Hx.fdV K (Lk.a_Shelf_slope K)).annotations (Hx.fdV K (Lk.a_Shelf_slope K)).code (Hx.fdV K (Lk.a_Shelf_slope K)).closureTuple), (Hx.oV K (Lk.a_Shelf_slope K)).slots⟩ := Hx.fn_l (c.at 173 (by kernel_rfl)) (c.fn 26 (by kernel_rfl) (by kernel_rfl)) (c.at 174 (by kernel_rfl))
theorem c_Shelf_slope {K : PySem.W.Frag} (c : Hx.Says looks funs funv K) : PySem.W.codeIn K (Hx.fdV K (Lk.a_Shelf_slope K)).code "Shelf.slope" = true := (c.at 175 (by kernel_rfl))
theorem k_Shelf_slope {K : PySem.W.Frag} (c : Hx.Says looks funs funv K) : PySem.W.keepIn K (.ref (Lk.a_Shelf_slope K)) = true := (c.at 176 (by kernel_rfl))
theorem pa_Shelf_gaps {K : PySem.W.Frag} (c : Hx.Says looks funs funv K) : PySem.W.findIn K (.ref (Lk.C_Shelf K)) "gaps" = some (some (.ref (Lk.p_Shelf_gaps K))) := (c.is 177 (by kernel_rfl))
theorem pg_Shelf_gaps {K : PySem.W.Frag} (c : Hx.Says looks funs funv K) : PySem.W.specialIn K (.ref (Lk.p_Shelf_gaps K)) "__get__" = some (some (.builtin "property.__get__")) := (c.is 178 (by kernel_rfl))
theorem pt_Shelf_gaps {K : PySem.W.Frag} (c : Hx.Says looks funs funv K) : PySem.W.takesIn K (.ref (Lk.p_Shelf_gaps K)) = some true := (c.is 179 (by kernel_rfl))
theorem pq_Shelf_gaps {K : PySem.W.Frag} (c : Hx.Says looks funs funv K) : PySem.W.recIn K (Lk.p_Shelf_gaps K) "property" = some (.ref (Lk.a_Shelf_gaps K) :: Hx.reV K (Lk.p_Shelf_gaps K) "property") := Hx.rec_of (c.at 180 (by kernel_rfl))
theorem l_Shelf_gaps {K : PySem.W.Frag} (c : Hx.Says looks funs funv K) : K.lookup (Lk.a_Shelf_gaps K) = some ⟨(Hx.oV K (Lk.a_Shelf_gaps K)).cls, (Hx.oV K (Lk.a_Shelf_gaps K)).dict, .func (PySem.W.fnOf "gaps" "Shelf.gaps" (L2.defArgs st_Shelf_gaps) (L2.defBody st_Shelf_gaps) (L2.defScope st_Shelf_gaps) .none (Hx.fdV K (Lk.a_Shelf_gaps K)).kwdefaults (Hx.fdV K (Lk.a_Shelf_gaps K)).doc (Hx.fdV K (Lk.a_Shelf_gaps K)).pyModule (Hx.fdV K (Lk.a_Shelf_gaps K)).annotations (Hx.fdV K (Lk.a_Shelf_gaps K)).code (Hx.fdV K (Lk.a_Shelf_gaps K)).closureTuple), (Hx.oV K (Lk.a_Shelf_gaps K)).slots⟩ := Hx.fn_l (c.at 181 (by kernel_rfl)) (c.fn 27 (by kernel_rfl) (by kernel_rfl)) (c.at 182 (by kernel_rfl))
theorem c_Shelf_gaps {K : PySem.W.Frag} (c : Hx.Says looks funs funv K) : PySem.W.codeIn K (Hx.fdV K (Lk.a_Shelf_gaps K)).code "Shelf.gaps" = true := (c.at 183 (by kernel_rfl))
theorem k_Shelf_gaps {K : PySem.W.Frag} (c : Hx.Says looks funs funv K) : PySem.W.keepIn K (.ref (Lk.a_Shelf_gaps K)) = true := (c.at 184 (by kernel_rfl))
theorem m_Shelf_way {K : PySem.W.Frag} (c : Hx.Says looks funs funv K) : PySem.W.findIn K (.ref (Lk.C_Shelf K)) "way" = some (some (.ref (Lk.a_Shelf_way K))) := (c.is 185 (by kernel_rfl))
theorem f_Shelf_way {K : PySem.W.Frag} (c : Hx.Says looks funs funv K) : PySem.W.isFn K (.ref (Lk.a_Shelf_way K)) = true := (c.at 186 (by kernel_rfl))
theorem l_Shelf_way {K : PySem.W.Frag} (c : Hx.Says looks funs funv K) : K.lookup (Lk.a_Shelf_way K) = some ⟨(Hx.oV K (Lk.a_Shelf_way K)).cls, (Hx.oV K (Lk.a_Shelf_way K)).dict, .func (PySem.W.fnOf "way" "Shelf.way" (L2.defArgs st_Shelf_way) (L2.defBody st_Shelf_way) (L2.defScope st_Shelf_way) .none (Hx.fdV K (Lk.a_Shelf_way K)).kwdefaults (Hx.fdV K (Lk.a_Shelf_way K)).doc (Hx.fdV K (Lk.a_Shelf_way K)).pyModule (Hx.fdV K (Lk.a_Shelf_way K)).annotations (Hx.fdV K (Lk.a_Shelf_way K)).code (Hx.fdV K (Lk.a_Shelf_way K)).closureTuple), (Hx.oV K (Lk.a_Shelf_way K)).slots⟩ := Hx.fn_l (c.at 187 (by kernel_rfl)) (c.fn 28 (by kernel_rfl) (by kernel_rfl)) (c.at 188 (by kernel_rfl))
theorem c_Shelf_way {K : PySem.W.Frag} (c : Hx.Says looks funs funv K) : PySem.W.codeIn K (Hx.fdV K (Lk.a_Shelf_way K)).code "Shelf.way" = true := (c.at 189 (by kernel_rfl))
theorem k_Shelf_way {K : PySem.W.Frag} (c : Hx.Says looks funs funv K) : PySem.W.keepIn K (.ref (Lk.a_Shelf_way K)) = true := (c.at 190 (by kernel_rfl))
theorem m_Shelf_dual {K : PySem.W.Frag} (c : Hx.Says looks funs funv K) : PySem.W.findIn K (.ref (Lk.C_Shelf K)) "dual" = some (some (.ref (Lk.a_Shelf_dual K))) := (c.is 191 (by kernel_rfl))
theorem f_Shelf_dual {K : PySem.W.Frag} (c : Hx.Says looks funs funv K) : PySem.W.isFn K (.ref (Lk.a_Shelf_dual K)) = true := (c.at 192 (by kernel_rfl))
theorem l_Shelf_dual {K : PySem.W.Frag} (c : Hx.Says looks funs funv K) : K.lookup (Lk.a_Shelf_dual K) = some ⟨(Hx.oV K (Lk.a_Shelf_dual K)).cls, (Hx.oV K (Lk.a_Shelf_dual K)).dict, .func (PySem.W.fnOf "dual" "Shelf.dual" (L2.defArgs st_Shelf_dual) (L2.defBody st_Shelf_dual) (L2.defScope st_Shelf_dual) .none (Hx.fdV K (Lk.a_Shelf_dual K)).kwdefaults (Hx.fdV K (Lk.a_Shelf_dual K)).doc (Hx.fdV K (Lk.a_Shelf_dual K)).pyModule (Hx.fdV K (Lk.a_Shelf_dual K)).annotations (Hx.fdV K (Lk.a_Shelf_dual K)).code (Hx.fdV K (Lk.a_Shelf_dual K)).closureTuple), (Hx.oV K (Lk.a_Shelf_dual K)).slots⟩ := Hx.fn_l (c.at 193 (by kernel_rfl)) (c.fn 29 (by kernel_rfl) (by kernel_rfl)) (c.at 194 (by kernel_rfl))
theorem c_Shelf_dual {K : PySem.W.Frag} (c : Hx.Says looks funs funv K) : PySem.W.codeIn K (Hx.fdV K (Lk.a_Shelf_dual K)).code "Shelf.dual" = true := (c.at 195 (by kernel_rfl))
theorem k_Shelf_dual {K : PySem.W.Frag} (c : Hx.Says looks funs funv K) : PySem.W.keepIn K (.ref (Lk.a_Shelf_dual K)) = true := (c.at 196 (by kernel_rfl))
theorem m_Shelf_exchanged {K : PySem.W.Frag} (c : Hx.Says looks funs funv K) : PySem.W.findIn K (.ref (Lk.C_Shelf K)) "exchanged" = some (some (.ref (Lk.a_Shelf_exchanged K))) := (c.is 197 (by kernel_rfl))
theorem f_Shelf_exchanged {K : PySem.W.Frag} (c : Hx.Says looks funs funv K) : PySem.W.isFn K (.ref (Lk.a_Shelf_exchanged K)) = true := (c.at 198 (by kernel_rfl))
theorem l_Shelf_exchanged {K : PySem.W.Frag} (c : Hx.Says looks funs funv K) : K.lookup (Lk.a_Shelf_exchanged K) = some ⟨(Hx.oV K (Lk.a_Shelf_exchanged K)).cls, (Hx.oV K (Lk.a_Shelf_exchanged K)).dict, .func (PySem.W.fnOf "exchanged" "Shelf.exchanged" (L2.defArgs st_Shelf_exchanged) (L2.defBody st_Shelf_exchanged) (L2.defScope st_Shelf_exchanged) .none (Hx.fdV K (Lk.a_Shelf_exchanged K)).kwdefaults (Hx.fdV K (Lk.a_Shelf_exchanged K)).doc (Hx.fdV K (Lk.a_Shelf_exchanged K)).pyModule (Hx.fdV K (Lk.a_Shelf_exchanged K)).annotations (Hx.fdV K (Lk.a_Shelf_exchanged K)).code (Hx.fdV K (Lk.a_Shelf_exchanged K)).closureTuple), (Hx.oV K (Lk.a_Shelf_exchanged K)).slots⟩ := Hx.fn_l (c.at 199 (by kernel_rfl)) (c.fn 30 (by kernel_rfl) (by kernel_rfl)) (c.at 200 (by kernel_rfl))
theorem c_Shelf_exchanged {K : PySem.W.Frag} (c : Hx.Says looks funs funv K) : PySem.W.codeIn K (Hx.fdV K (Lk.a_Shelf_exchanged K)).code "Shelf.exchanged" = true := (c.at 201 (by kernel_rfl))
theorem k_Shelf_exchanged {K : PySem.W.Frag} (c : Hx.Says looks funs funv K) : PySem.W.keepIn K (.ref (Lk.a_Shelf_exchanged K)) = true := (c.at 202 (by kernel_rfl))
theorem m_Shelf_eq {K : PySem.W.Frag} (c : Hx.Says looks funs funv K) : PySem.W.findIn K (.ref (Lk.C_Shelf K)) "__eq__" = some (some (.ref (Lk.a_Shelf_eq K))) := (c.is 203 (by kernel_rfl))
theorem f_Shelf_eq {K : PySem.W.Frag} (c : Hx.Says looks funs funv K) : PySem.W.isFn K (.ref (Lk.a_Shelf_eq K)) = true := (c.at 204 (by kernel_rfl))
theorem l_Shelf_eq {K : PySem.W.Frag} (c : Hx.Says looks funs funv K) : K.lookup (Lk.a_Shelf_eq K) = some ⟨(Hx.oV K (Lk.a_Shelf_eq K)).cls, (Hx.oV K (Lk.a_Shelf_eq K)).dict, .func (PySem.W.fnOf "__eq__" "Shelf.__eq__" (L2.defArgs st_Shelf_eq) (L2.defBody st_Shelf_eq) (L2.defScope st_Shelf_eq) .none (Hx.fdV K (Lk.a_Shelf_eq K)).kwdefaults (Hx.fdV K (Lk.a_Shelf_eq K)).doc (Hx.fdV K (Lk.a_Shelf_eq K)).pyModule (Hx.fdV K (Lk.a_Shelf_eq K)).annotations (Hx.fdV K (Lk.a_Shelf_eq K)).code (Hx.fdV K (Lk.a_Shelf_eq K)).closureTuple), (Hx.oV K (Lk.a_Shelf_eq K)).slots⟩ := Hx.fn_l (c.at 205 (by kernel_rfl)) (c.fn 31 (by kernel_rfl) (by kernel_rfl)) (c.at 206 (by kernel_rfl))
theorem c_Shelf_eq {K : PySem.W.Frag} (c : Hx.Says looks funs funv K) : PySem.W.codeIn K (Hx.fdV K (Lk.a_Shelf_eq K)).code "Shelf.__eq__" = true := (c.at 207 (by kernel_rfl))
theorem k_Shelf_eq {K : PySem.W.Frag} (c : Hx.Says looks funs funv K) : PySem.W.keepIn K (.ref (Lk.a_Shelf_eq K)) = true := (c.at 208 (by kernel_rfl))
theorem g_check_shelf {K : PySem.W.Frag} (c : Hx.Says looks funs funv K) : PySem.W.nsIn K mainGlobals "check_shelf" = some (some (.ref (Lk.a_check_shelf K))) := (c.is 209 (by kernel_rfl))
theorem l_check_shelf {K : PySem.W.Frag} (c : Hx.Says looks funs funv K) : K.lookup (Lk.a_check_shelf K) = some ⟨(Hx.oV K (Lk.a_check_shelf K)).cls, (Hx.oV K (Lk.a_check_shelf K)).dict, .func (PySem.W.fnOf "check_shelf" "check_shelf" (L2.defArgs st_check_shelf) (L2.defBody st_check_shelf) (L2.defScope st_check_shelf) .none (Hx.fdV K (Lk.a_check_shelf K)).kwdefaults (Hx.fdV K (Lk.a_check_shelf K)).doc (Hx.fdV K (Lk.a_check_shelf K)).pyModule (Hx.fdV K (Lk.a_check_shelf K)).annotations (Hx.fdV K (Lk.a_check_shelf K)).code (Hx.fdV K (Lk.a_check_shelf K)).closureTuple), (Hx.oV K (Lk.a_check_shelf K)).slots⟩ := Hx.fn_l (c.at 210 (by kernel_rfl)) (c.fn 32 (by kernel_rfl) (by kernel_rfl)) (c.at 211 (by kernel_rfl))
theorem c_check_shelf {K : PySem.W.Frag} (c : Hx.Says looks funs funv K) : PySem.W.codeIn K (Hx.fdV K (Lk.a_check_shelf K)).code "check_shelf" = true := (c.at 212 (by kernel_rfl))
theorem k_check_shelf {K : PySem.W.Frag} (c : Hx.Says looks funs funv K) : PySem.W.keepIn K (.ref (Lk.a_check_shelf K)) = true := (c.at 213 (by kernel_rfl))
theorem g_way_with_rises {K : PySem.W.Frag} (c : Hx.Says looks funs funv K) : PySem.W.nsIn K mainGlobals "way_with_rises" = some (some (.ref (Lk.a_way_with_rises K))) := (c.is 214 (by kernel_rfl))
theorem l_way_with_rises {K : PySem.W.Frag} (c : Hx.Says looks funs funv K) : K.lookup (Lk.a_way_with_rises K) = some ⟨(Hx.oV K (Lk.a_way_with_rises K)).cls, (Hx.oV K (Lk.a_way_with_rises K)).dict, .func (PySem.W.fnOf "way_with_rises" "way_with_rises" (L2.defArgs st_way_with_rises) (L2.defBody st_way_with_rises) (L2.defScope st_way_with_rises) .none (Hx.fdV K (Lk.a_way_with_rises K)).kwdefaults (Hx.fdV K (Lk.a_way_with_rises K)).doc (Hx.fdV K (Lk.a_way_with_rises K)).pyModule (Hx.fdV K (Lk.a_way_with_rises K)).annotations (Hx.fdV K (Lk.a_way_with_rises K)).code (Hx.fdV K (Lk.a_way_with_rises K)).closureTuple), (Hx.oV K (Lk.a_way_with_rises K)).slots⟩ := Hx.fn_l (c.at 215 (by kernel_rfl)) (c.fn 33 (by kernel_rfl) (by kernel_rfl)) (c.at 216 (by kernel_rfl))
theorem c_way_with_rises {K : PySem.W.Frag} (c : Hx.Says looks funs funv K) : PySem.W.codeIn K (Hx.fdV K (Lk.a_way_with_rises K)).code "way_with_rises" = true := (c.at 217 (by kernel_rfl))
theorem k_way_with_rises {K : PySem.W.Frag} (c : Hx.Says looks funs funv K) : PySem.W.keepIn K (.ref (Lk.a_way_with_rises K)) = true := (c.at 218 (by kernel_rfl))
theorem g_least_members {K : PySem.W.Frag} (c : Hx.Says looks funs funv K) : PySem.W.nsIn K mainGlobals "least_members" = some (some (.ref (Lk.a_least_members K))) := (c.is 219 (by kernel_rfl))
theorem l_least_members {K : PySem.W.Frag} (c : Hx.Says looks funs funv K) : K.lookup (Lk.a_least_members K) = some ⟨(Hx.oV K (Lk.a_least_members K)).cls, (Hx.oV K (Lk.a_least_members K)).dict, .func (PySem.W.fnOf "least_members" "least_members" (L2.defArgs st_least_members) (L2.defBody st_least_members) (L2.defScope st_least_members) .none (Hx.fdV K (Lk.a_least_members K)).kwdefaults (Hx.fdV K (Lk.a_least_members K)).doc (Hx.fdV K (Lk.a_least_members K)).pyModule (Hx.fdV K (Lk.a_least_members K)).annotations (Hx.fdV K (Lk.a_least_members K)).code (Hx.fdV K (Lk.a_least_members K)).closureTuple), (Hx.oV K (Lk.a_least_members K)).slots⟩ := Hx.fn_l (c.at 220 (by kernel_rfl)) (c.fn 34 (by kernel_rfl) (by kernel_rfl)) (c.at 221 (by kernel_rfl))
theorem c_least_members {K : PySem.W.Frag} (c : Hx.Says looks funs funv K) : PySem.W.codeIn K (Hx.fdV K (Lk.a_least_members K)).code "least_members" = true := (c.at 222 (by kernel_rfl))
theorem k_least_members {K : PySem.W.Frag} (c : Hx.Says looks funs funv K) : PySem.W.keepIn K (.ref (Lk.a_least_members K)) = true := (c.at 223 (by kernel_rfl))
theorem g_with_more {K : PySem.W.Frag} (c : Hx.Says looks funs funv K) : PySem.W.nsIn K mainGlobals "with_more" = some (some (.ref (Lk.a_with_more K))) := (c.is 224 (by kernel_rfl))
theorem l_with_more {K : PySem.W.Frag} (c : Hx.Says looks funs funv K) : K.lookup (Lk.a_with_more K) = some ⟨(Hx.oV K (Lk.a_with_more K)).cls, (Hx.oV K (Lk.a_with_more K)).dict, .func (PySem.W.fnOf "with_more" "with_more" (L2.defArgs st_with_more) (L2.defBody st_with_more) (L2.defScope st_with_more) .none (Hx.fdV K (Lk.a_with_more K)).kwdefaults (Hx.fdV K (Lk.a_with_more K)).doc (Hx.fdV K (Lk.a_with_more K)).pyModule (Hx.fdV K (Lk.a_with_more K)).annotations (Hx.fdV K (Lk.a_with_more K)).code (Hx.fdV K (Lk.a_with_more K)).closureTuple), (Hx.oV K (Lk.a_with_more K)).slots⟩ := Hx.fn_l (c.at 225 (by kernel_rfl)) (c.fn 35 (by kernel_rfl) (by kernel_rfl)) (c.at 226 (by kernel_rfl))
theorem c_with_more {K : PySem.W.Frag} (c : Hx.Says looks funs funv K) : PySem.W.codeIn K (Hx.fdV K (Lk.a_with_more K)).code "with_more" = true := (c.at 227 (by kernel_rfl))
theorem k_with_more {K : PySem.W.Frag} (c : Hx.Says looks funs funv K) : PySem.W.keepIn K (.ref (Lk.a_with_more K)) = true := (c.at 228 (by kernel_rfl))
theorem g_sides {K : PySem.W.Frag} (c : Hx.Says looks funs funv K) : PySem.W.nsIn K mainGlobals "sides" = some (some (.ref (Lk.a_sides K))) := (c.is 229 (by kernel_rfl))
theorem l_sides {K : PySem.W.Frag} (c : Hx.Says looks funs funv K) : K.lookup (Lk.a_sides K) = some ⟨(Hx.oV K (Lk.a_sides K)).cls, (Hx.oV K (Lk.a_sides K)).dict, .func (PySem.W.fnOf "sides" "sides" (L2.defArgs st_sides) (L2.defBody st_sides) (L2.defScope st_sides) .none (Hx.fdV K (Lk.a_sides K)).kwdefaults (Hx.fdV K (Lk.a_sides K)).doc (Hx.fdV K (Lk.a_sides K)).pyModule (Hx.fdV K (Lk.a_sides K)).annotations (Hx.fdV K (Lk.a_sides K)).code (Hx.fdV K (Lk.a_sides K)).closureTuple), (Hx.oV K (Lk.a_sides K)).slots⟩ := Hx.fn_l (c.at 230 (by kernel_rfl)) (c.fn 36 (by kernel_rfl) (by kernel_rfl)) (c.at 231 (by kernel_rfl))
theorem c_sides {K : PySem.W.Frag} (c : Hx.Says looks funs funv K) : PySem.W.codeIn K (Hx.fdV K (Lk.a_sides K)).code "sides" = true := (c.at 232 (by kernel_rfl))
theorem k_sides {K : PySem.W.Frag} (c : Hx.Says looks funs funv K) : PySem.W.keepIn K (.ref (Lk.a_sides K)) = true := (c.at 233 (by kernel_rfl))
theorem g_members_below {K : PySem.W.Frag} (c : Hx.Says looks funs funv K) : PySem.W.nsIn K mainGlobals "members_below" = some (some (.ref (Lk.a_members_below K))) := (c.is 234 (by kernel_rfl))
theorem l_members_below {K : PySem.W.Frag} (c : Hx.Says looks funs funv K) : K.lookup (Lk.a_members_below K) = some ⟨(Hx.oV K (Lk.a_members_below K)).cls, (Hx.oV K (Lk.a_members_below K)).dict, .func (PySem.W.fnOf "members_below" "members_below" (L2.defArgs st_members_below) (L2.defBody st_members_below) (L2.defScope st_members_below) .none (Hx.fdV K (Lk.a_members_below K)).kwdefaults (Hx.fdV K (Lk.a_members_below K)).doc (Hx.fdV K (Lk.a_members_below K)).pyModule (Hx.fdV K (Lk.a_members_below K)).annotations (Hx.fdV K (Lk.a_members_below K)).code (Hx.fdV K (Lk.a_members_below K)).closureTuple), (Hx.oV K (Lk.a_members_below K)).slots⟩ := Hx.fn_l (c.at 235 (by kernel_rfl)) (c.fn 37 (by kernel_rfl) (by kernel_rfl)) (c.at 236 (by kernel_rfl))
theorem c_members_below {K : PySem.W.Frag} (c : Hx.Says looks funs funv K) : PySem.W.codeIn K (Hx.fdV K (Lk.a_members_below K)).code "members_below" = true := (c.at 237 (by kernel_rfl))
theorem k_members_below {K : PySem.W.Frag} (c : Hx.Says looks funs funv K) : PySem.W.keepIn K (.ref (Lk.a_members_below K)) = true := (c.at 238 (by kernel_rfl))
theorem g_gaps_of {K : PySem.W.Frag} (c : Hx.Says looks funs funv K) : PySem.W.nsIn K mainGlobals "gaps_of" = some (some (.ref (Lk.a_gaps_of K))) := (c.is 239 (by kernel_rfl))
theorem l_gaps_of {K : PySem.W.Frag} (c : Hx.Says looks funs funv K) : K.lookup (Lk.a_gaps_of K) = some ⟨(Hx.oV K (Lk.a_gaps_of K)).cls, (Hx.oV K (Lk.a_gaps_of K)).dict, .func (PySem.W.fnOf "gaps_of" "gaps_of" (L2.defArgs st_gaps_of) (L2.defBody st_gaps_of) (L2.defScope st_gaps_of) .none (Hx.fdV K (Lk.a_gaps_of K)).kwdefaults (Hx.fdV K (Lk.a_gaps_of K)).doc (Hx.fdV K (Lk.a_gaps_of K)).pyModule (Hx.fdV K (Lk.a_gaps_of K)).annotations (Hx.fdV K (Lk.a_gaps_of K)).code (Hx.fdV K (Lk.a_gaps_of K)).closureTuple), (Hx.oV K (Lk.a_gaps_of K)).slots⟩ := Hx.fn_l (c.at 240 (by kernel_rfl)) (c.fn 38 (by kernel_rfl) (by kernel_rfl)) (c.at 241 (by kernel_rfl))
theorem c_gaps_of {K : PySem.W.Frag} (c : Hx.Says looks funs funv K) : PySem.W.codeIn K (Hx.fdV K (Lk.a_gaps_of K)).code "gaps_of" = true := (c.at 242 (by kernel_rfl))
theorem k_gaps_of {K : PySem.W.Frag} (c : Hx.Says looks funs funv K) : PySem.W.keepIn K (.ref (Lk.a_gaps_of K)) = true := (c.at 243 (by kernel_rfl))
theorem g_is_gaps {K : PySem.W.Frag} (c : Hx.Says looks funs funv K) : PySem.W.nsIn K mainGlobals "is_gaps" = some (some (.ref (Lk.a_is_gaps K))) := (c.is 244 (by kernel_rfl))
theorem l_is_gaps {K : PySem.W.Frag} (c : Hx.Says looks funs funv K) : K.lookup (Lk.a_is_gaps K) = some ⟨(Hx.oV K (Lk.a_is_gaps K)).cls, (Hx.oV K (Lk.a_is_gaps K)).dict, .func (PySem.W.fnOf "is_gaps" "is_gaps" (L2.defArgs st_is_gaps) (L2.defBody st_is_gaps) (L2.defScope st_is_gaps) .none (Hx.fdV K (Lk.a_is_gaps K)).kwdefaults (Hx.fdV K (Lk.a_is_gaps K)).doc (Hx.fdV K (Lk.a_is_gaps K)).pyModule (Hx.fdV K (Lk.a_is_gaps K)).annotations (Hx.fdV K (Lk.a_is_gaps K)).code (Hx.fdV K (Lk.a_is_gaps K)).closureTuple), (Hx.oV K (Lk.a_is_gaps K)).slots⟩ := Hx.fn_l (c.at 245 (by kernel_rfl)) (c.fn 39 (by kernel_rfl) (by kernel_rfl)) (c.at 246 (by kernel_rfl))
theorem c_is_gaps {K : PySem.W.Frag} (c : Hx.Says looks funs funv K) : PySem.W.codeIn K (Hx.fdV K (Lk.a_is_gaps K)).code "is_gaps" = true := (c.at 247 (by kernel_rfl))
theorem k_is_gaps {K : PySem.W.Frag} (c : Hx.Says looks funs funv K) : PySem.W.keepIn K (.ref (Lk.a_is_gaps K)) = true := (c.at 248 (by kernel_rfl))
theorem m_Heap_init {K : PySem.W.Frag} (c : Hx.Says looks funs funv K) : PySem.W.findIn K (.ref (Lk.C_Heap K)) "__init__" = some (some (.ref (Lk.a_Heap_init K))) := (c.is 249 (by kernel_rfl))
theorem f_Heap_init {K : PySem.W.Frag} (c : Hx.Says looks funs funv K) : PySem.W.isFn K (.ref (Lk.a_Heap_init K)) = true := (c.at 250 (by kernel_rfl))
theorem l_Heap_init {K : PySem.W.Frag} (c : Hx.Says looks funs funv K) : K.lookup (Lk.a_Heap_init K) = some ⟨(Hx.oV K (Lk.a_Heap_init K)).cls, (Hx.oV K (Lk.a_Heap_init K)).dict, .func (PySem.W.fnOf "__init__" "Heap.__init__" (L2.defArgs st_Heap_init) (L2.defBody st_Heap_init) (L2.defScope st_Heap_init) (.ref (Hx.edV K (Lk.a_Heap_init K))) (Hx.fdV K (Lk.a_Heap_init K)).kwdefaults (Hx.fdV K (Lk.a_Heap_init K)).doc (Hx.fdV K (Lk.a_Heap_init K)).pyModule (Hx.fdV K (Lk.a_Heap_init K)).annotations (Hx.fdV K (Lk.a_Heap_init K)).code (Hx.fdV K (Lk.a_Heap_init K)).closureTuple), (Hx.oV K (Lk.a_Heap_init K)).slots⟩ := Hx.fn_l1 (c.at 251 (by kernel_rfl)) (c.fn 40 (by kernel_rfl) (by kernel_rfl)) (c.at 252 (by kernel_rfl))
theorem ld_Heap_init {K : PySem.W.Frag} (c : Hx.Says looks funs funv K) : K.lookup (Hx.edV K (Lk.a_Heap_init K)) = some ⟨(Hx.oV K (Hx.edV K (Lk.a_Heap_init K))).cls, (Hx.oV K (Hx.edV K (Lk.a_Heap_init K))).dict, .seq #[.ref (Hx.e1V K (Lk.a_Heap_init K))] (Hx.nV K (Hx.edV K (Lk.a_Heap_init K))), (Hx.oV K (Hx.edV K (Lk.a_Heap_init K))).slots⟩ := Hx.ld_of (c.at 253 (by kernel_rfl))
theorem le_Heap_init {K : PySem.W.Frag} (c : Hx.Says looks funs funv K) : K.lookup (Hx.e1V K (Lk.a_Heap_init K)) = some ⟨.type "tuple", (Hx.oV K (Hx.e1V K (Lk.a_Heap_init K))).dict, .seq #[] (Hx.nV K (Hx.e1V K (Lk.a_Heap_init K))), (Hx.oV K (Hx.e1V K (Lk.a_Heap_init K))).slots⟩ := Hx.le_of (c.at 254 (by kernel_rfl))
theorem c_Heap_init {K : PySem.W.Frag} (c : Hx.Says looks funs funv K) : PySem.W.codeIn K (Hx.fdV K (Lk.a_Heap_init K)).code "Heap.__init__" = true := (c.at 255 (by kernel_rfl))
theorem k_Heap_init {K : PySem.W.Frag} (c : Hx.Says looks funs funv K) : PySem.W.keepIn K (.ref (Lk.a_Heap_init K)) = true := (c.at 256 (by kernel_rfl))
theorem pa_Heap_of_first_hooks {K : PySem.W.Frag} (c : Hx.Says looks funs funv K) : PySem.W.findCls K (.ref (Lk.C_Heap K)) (.type "type") "of_first_hooks" = some (.get (.builtin "classmethod.__get__") (.ref (Lk.p_Heap_of_first_hooks K)) .none (.ref (Lk.C_Heap K))) := Hx.cls_of (c.at 257 (by kernel_rfl))
theorem pq_Heap_of_first_hooks {K : PySem.W.Frag} (c : Hx.Says looks funs funv K) : PySem.W.recIn K (Lk.p_Heap_of_first_hooks K) "classmethod" = some (.ref (Lk.a_Heap_of_first_hooks K) :: Hx.reV K (Lk.p_Heap_of_first_hooks K) "classmethod") := Hx.rec_of (c.at 258 (by kernel_rfl))
theorem pf_Heap_of_first_hooks {K : PySem.W.Frag} (c : Hx.Says looks funs funv K) : PySem.W.fnIn K (Lk.a_Heap_of_first_hooks K) = true := (c.at 259 (by kernel_rfl))
theorem l_Heap_of_first_hooks {K : PySem.W.Frag} (c : Hx.Says looks funs funv K) : K.lookup (Lk.a_Heap_of_first_hooks K) = some ⟨(Hx.oV K (Lk.a_Heap_of_first_hooks K)).cls, (Hx.oV K (Lk.a_Heap_of_first_hooks K)).dict, .func (PySem.W.fnOf "of_first_hooks" "Heap.of_first_hooks" (L2.defArgs st_Heap_of_first_hooks) (L2.defBody st_Heap_of_first_hooks) (L2.defScope st_Heap_of_first_hooks) .none (Hx.fdV K (Lk.a_Heap_of_first_hooks K)).kwdefaults (Hx.fdV K (Lk.a_Heap_of_first_hooks K)).doc (Hx.fdV K (Lk.a_Heap_of_first_hooks K)).pyModule (Hx.fdV K (Lk.a_Heap_of_first_hooks K)).annotations (Hx.fdV K (Lk.a_Heap_of_first_hooks K)).code (Hx.fdV K (Lk.a_Heap_of_first_hooks K)).closureTuple), (Hx.oV K (Lk.a_Heap_of_first_hooks K)).slots⟩ := Hx.fn_l (c.at 260 (by kernel_rfl)) (c.fn 41 (by kernel_rfl) (by kernel_rfl)) (c.at 261 (by kernel_rfl))
theorem c_Heap_of_first_hooks {K : PySem.W.Frag} (c : Hx.Says looks funs funv K) : PySem.W.codeIn K (Hx.fdV K (Lk.a_Heap_of_first_hooks K)).code "Heap.of_first_hooks" = true := (c.at 262 (by kernel_rfl))
theorem k_Heap_of_first_hooks {K : PySem.W.Frag} (c : Hx.Says looks funs funv K) : PySem.W.keepIn K (.ref (Lk.a_Heap_of_first_hooks K)) = true := (c.at 263 (by kernel_rfl))
theorem pa_Heap_rows {K : PySem.W.Frag} (c : Hx.Says looks funs funv K) : PySem.W.findIn K (.ref (Lk.C_Heap K)) "rows" = some (some (.ref (Lk.p_Heap_rows K))) := (c.is 264 (by kernel_rfl))
theorem pg_Heap_rows {K : PySem.W.Frag} (c : Hx.Says looks funs funv K) : PySem.W.specialIn K (.ref (Lk.p_Heap_rows K)) "__get__" = some (some (.builtin "property.__get__")) := (c.is 265 (by kernel_rfl))
theorem pt_Heap_rows {K : PySem.W.Frag} (c : Hx.Says looks funs funv K) : PySem.W.takesIn K (.ref (Lk.p_Heap_rows K)) = some true := (c.is 266 (by kernel_rfl))
theorem pq_Heap_rows {K : PySem.W.Frag} (c : Hx.Says looks funs funv K) : PySem.W.recIn K (Lk.p_Heap_rows K) "property" = some (.ref (Lk.a_Heap_rows K) :: Hx.reV K (Lk.p_Heap_rows K) "property") := Hx.rec_of (c.at 267 (by kernel_rfl))
theorem l_Heap_rows {K : PySem.W.Frag} (c : Hx.Says looks funs funv K) : K.lookup (Lk.a_Heap_rows K) = some ⟨(Hx.oV K (Lk.a_Heap_rows K)).cls, (Hx.oV K (Lk.a_Heap_rows K)).dict, .func (PySem.W.fnOf "rows" "Heap.rows" (L2.defArgs st_Heap_rows) (L2.defBody st_Heap_rows) (L2.defScope st_Heap_rows) .none (Hx.fdV K (Lk.a_Heap_rows K)).kwdefaults (Hx.fdV K (Lk.a_Heap_rows K)).doc (Hx.fdV K (Lk.a_Heap_rows K)).pyModule (Hx.fdV K (Lk.a_Heap_rows K)).annotations (Hx.fdV K (Lk.a_Heap_rows K)).code (Hx.fdV K (Lk.a_Heap_rows K)).closureTuple), (Hx.oV K (Lk.a_Heap_rows K)).slots⟩ := Hx.fn_l (c.at 268 (by kernel_rfl)) (c.fn 42 (by kernel_rfl) (by kernel_rfl)) (c.at 269 (by kernel_rfl))
theorem c_Heap_rows {K : PySem.W.Frag} (c : Hx.Says looks funs funv K) : PySem.W.codeIn K (Hx.fdV K (Lk.a_Heap_rows K)).code "Heap.rows" = true := (c.at 270 (by kernel_rfl))
theorem k_Heap_rows {K : PySem.W.Frag} (c : Hx.Says looks funs funv K) : PySem.W.keepIn K (.ref (Lk.a_Heap_rows K)) = true := (c.at 271 (by kernel_rfl))
theorem pa_Heap_size {K : PySem.W.Frag} (c : Hx.Says looks funs funv K) : PySem.W.findIn K (.ref (Lk.C_Heap K)) "size" = some (some (.ref (Lk.p_Heap_size K))) := (c.is 272 (by kernel_rfl))
theorem pg_Heap_size {K : PySem.W.Frag} (c : Hx.Says looks funs funv K) : PySem.W.specialIn K (.ref (Lk.p_Heap_size K)) "__get__" = some (some (.builtin "property.__get__")) := (c.is 273 (by kernel_rfl))
theorem pt_Heap_size {K : PySem.W.Frag} (c : Hx.Says looks funs funv K) : PySem.W.takesIn K (.ref (Lk.p_Heap_size K)) = some true := (c.is 274 (by kernel_rfl))
theorem pq_Heap_size {K : PySem.W.Frag} (c : Hx.Says looks funs funv K) : PySem.W.recIn K (Lk.p_Heap_size K) "property" = some (.ref (Lk.a_Heap_size K) :: Hx.reV K (Lk.p_Heap_size K) "property") := Hx.rec_of (c.at 275 (by kernel_rfl))
theorem l_Heap_size {K : PySem.W.Frag} (c : Hx.Says looks funs funv K) : K.lookup (Lk.a_Heap_size K) = some ⟨(Hx.oV K (Lk.a_Heap_size K)).cls, (Hx.oV K (Lk.a_Heap_size K)).dict, .func (PySem.W.fnOf "size" "Heap.size" (L2.defArgs st_Heap_size) (L2.defBody st_Heap_size) (L2.defScope st_Heap_size) .none (Hx.fdV K (Lk.a_Heap_size K)).kwdefaults (Hx.fdV K (Lk.a_Heap_size K)).doc (Hx.fdV K (Lk.a_Heap_size K)).pyModule (Hx.fdV K (Lk.a_Heap_size K)).annotations (Hx.fdV K (Lk.a_Heap_size K)).code (Hx.fdV K (Lk.a_Heap_size K)).closureTuple), (Hx.oV K (Lk.a_Heap_size K)).slots⟩ := Hx.fn_l (c.at 276 (by kernel_rfl)) (c.fn 43 (by kernel_rfl) (by kernel_rfl)) (c.at 277 (by kernel_rfl))
theorem c_Heap_size {K : PySem.W.Frag} (c : Hx.Says looks funs funv K) : PySem.W.codeIn K (Hx.fdV K (Lk.a_Heap_size K)).code "Heap.size" = true := (c.at 278 (by kernel_rfl))
theorem k_Heap_size {K : PySem.W.Frag} (c : Hx.Says looks funs funv K) : PySem.W.keepIn K (.ref (Lk.a_Heap_size K)) = true := (c.at 279 (by kernel_rfl))
theorem pa_Heap_first_hooks {K : PySem.W.Frag} (c : Hx.Says looks funs funv K) : PySem.W.findIn K (.ref (Lk.C_Heap K)) "first_hooks" = some (some (.ref (Lk.p_Heap_first_hooks K))) := (c.is 280 (by kernel_rfl))
theorem pg_Heap_first_hooks {K : PySem.W.Frag} (c : Hx.Says looks funs funv K) : PySem.W.specialIn K (.ref (Lk.p_Heap_first_hooks K)) "__get__" = some (some (.builtin "property.__get__")) := (c.is 281 (by kernel_rfl))
theorem pt_Heap_first_hooks {K : PySem.W.Frag} (c : Hx.Says looks funs funv K) : PySem.W.takesIn K (.ref (Lk.p_Heap_first_hooks K)) = some true := (c.is 282 (by kernel_rfl))
theorem pq_Heap_first_hooks {K : PySem.W.Frag} (c : Hx.Says looks funs funv K) : PySem.W.recIn K (Lk.p_Heap_first_hooks K) "property" = some (.ref (Lk.a_Heap_first_hooks K) :: Hx.reV K (Lk.p_Heap_first_hooks K) "property") := Hx.rec_of (c.at 283 (by kernel_rfl))
theorem l_Heap_first_hooks {K : PySem.W.Frag} (c : Hx.Says looks funs funv K) : K.lookup (Lk.a_Heap_first_hooks K) = some ⟨(Hx.oV K (Lk.a_Heap_first_hooks K)).cls, (Hx.oV K (Lk.a_Heap_first_hooks K)).dict, .func (PySem.W.fnOf "first_hooks" "Heap.first_hooks" (L2.defArgs st_Heap_first_hooks) (L2.defBody st_Heap_first_hooks) (L2.defScope st_Heap_first_hooks) .none (Hx.fdV K (Lk.a_Heap_first_hooks K)).kwdefaults (Hx.fdV K (Lk.a_Heap_first_hooks K)).doc (Hx.fdV K (Lk.a_Heap_first_hooks K)).pyModule (Hx.fdV K (Lk.a_Heap_first_hooks K)).annotations (Hx.fdV K (Lk.a_Heap_first_hooks K)).code (Hx.fdV K (Lk.a_Heap_first_hooks K)).closureTuple), (Hx.oV K (Lk.a_Heap_first_hooks K)).slots⟩ := Hx.fn_l (c.at 284 (by kernel_rfl)) (c.fn 44 (by kernel_rfl) (by kernel_rfl)) (c.at 285 (by kernel_rfl))
theorem c_Heap_first_hooks {K : PySem.W.Frag} (c : Hx.Says looks funs funv K) : PySem.W.codeIn K (Hx.fdV K (Lk.a_Heap_first_hooks K)).code "Heap.first_hooks" = true := (c.at 286 (by kernel_rfl))
theorem k_Heap_first_hooks {K : PySem.W.Frag} (c : Hx.Says looks funs funv K) : PySem.W.keepIn K (.ref (Lk.a_Heap_first_hooks K)) = true := (c.at 287 (by kernel_rfl))
theorem m_Heap_turned {K : PySem.W.Frag} (c : Hx.Says looks funs funv K) : PySem.W.findIn K (.ref (Lk.C_Heap K)) "turned" = some (some (.ref (Lk.a_Heap_turned K))) := (c.is 288 (by kernel_rfl))
theorem f_Heap_turned {K : PySem.W.Frag} (c : Hx.Says looks funs funv K) : PySem.W.isFn K (.ref (Lk.a_Heap_turned K)) = true := (c.at 289 (by kernel_rfl))
theorem l_Heap_turned {K : PySem.W.Frag} (c : Hx.Says looks funs funv K) : K.lookup (Lk.a_Heap_turned K) = some ⟨(Hx.oV K (Lk.a_Heap_turned K)).cls, (Hx.oV K (Lk.a_Heap_turned K)).dict, .func (PySem.W.fnOf "turned" "Heap.turned" (L2.defArgs st_Heap_turned) (L2.defBody st_Heap_turned) (L2.defScope st_Heap_turned) .none (Hx.fdV K (Lk.a_Heap_turned K)).kwdefaults (Hx.fdV K (Lk.a_Heap_turned K)).doc (Hx.fdV K (Lk.a_Heap_turned K)).pyModule (Hx.fdV K (Lk.a_Heap_turned K)).annotations (Hx.fdV K (Lk.a_Heap_turned K)).code (Hx.fdV K (Lk.a_Heap_turned K)).closureTuple), (Hx.oV K (Lk.a_Heap_turned K)).slots⟩ := Hx.fn_l (c.at 290 (by kernel_rfl)) (c.fn 45 (by kernel_rfl) (by kernel_rfl)) (c.at 291 (by kernel_rfl))
theorem c_Heap_turned {K : PySem.W.Frag} (c : Hx.Says looks funs funv K) : PySem.W.codeIn K (Hx.fdV K (Lk.a_Heap_turned K)).code "Heap.turned" = true := (c.at 292 (by kernel_rfl))
theorem k_Heap_turned {K : PySem.W.Frag} (c : Hx.Says looks funs funv K) : PySem.W.keepIn K (.ref (Lk.a_Heap_turned K)) = true := (c.at 293 (by kernel_rfl))
theorem m_Heap_hooks {K : PySem.W.Frag} (c : Hx.Says looks funs funv K) : PySem.W.findIn K (.ref (Lk.C_Heap K)) "hooks" = some (some (.ref (Lk.a_Heap_hooks K))) := (c.is 294 (by kernel_rfl))
theorem f_Heap_hooks {K : PySem.W.Frag} (c : Hx.Says looks funs funv K) : PySem.W.isFn K (.ref (Lk.a_Heap_hooks K)) = true := (c.at 295 (by kernel_rfl))
theorem l_Heap_hooks {K : PySem.W.Frag} (c : Hx.Says looks funs funv K) : K.lookup (Lk.a_Heap_hooks K) = some ⟨(Hx.oV K (Lk.a_Heap_hooks K)).cls, (Hx.oV K (Lk.a_Heap_hooks K)).dict, .func (PySem.W.fnOf "hooks" "Heap.hooks" (L2.defArgs st_Heap_hooks) (L2.defBody st_Heap_hooks) (L2.defScope st_Heap_hooks) .none (Hx.fdV K (Lk.a_Heap_hooks K)).kwdefaults (Hx.fdV K (Lk.a_Heap_hooks K)).doc (Hx.fdV K (Lk.a_Heap_hooks K)).pyModule (Hx.fdV K (Lk.a_Heap_hooks K)).annotations (Hx.fdV K (Lk.a_Heap_hooks K)).code (Hx.fdV K (Lk.a_Heap_hooks K)).closureTuple), (Hx.oV K (Lk.a_Heap_hooks K)).slots⟩ := Hx.fn_l (c.at 296 (by kernel_rfl)) (c.fn 46 (by kernel_rfl) (by kernel_rfl)) (c.at 297 (by kernel_rfl))
theorem c_Heap_hooks {K : PySem.W.Frag} (c : Hx.Says looks funs funv K) : PySem.W.codeIn K (Hx.fdV K (Lk.a_Heap_hooks K)).code "Heap.hooks" = true := (c.at 298 (by kernel_rfl))
theorem k_Heap_hooks {K : PySem.W.Frag} (c : Hx.Says looks funs funv K) : PySem.W.keepIn K (.ref (Lk.a_Heap_hooks K)) = true := (c.at 299 (by kernel_rfl))
theorem m_Heap_len {K : PySem.W.Frag} (c : Hx.Says looks funs funv K) : PySem.W.findIn K (.ref (Lk.C_Heap K)) "__len__" = some (some (.ref (Lk.a_Heap_len K))) := (c.is 300 (by kernel_rfl))
theorem f_Heap_len {K : PySem.W.Frag} (c : Hx.Says looks funs funv K) : PySem.W.isFn K (.ref (Lk.a_Heap_len K)) = true := (c.at 301 (by kernel_rfl))
theorem l_Heap_len {K : PySem.W.Frag} (c : Hx.Says looks funs funv K) : K.lookup (Lk.a_Heap_len K) = some ⟨(Hx.oV K (Lk.a_Heap_len K)).cls, (Hx.oV K (Lk.a_Heap_len K)).dict, .func (PySem.W.fnOf "__len__" "Heap.__len__" (L2.defArgs st_Heap_len) (L2.defBody st_Heap_len) (L2.defScope st_Heap_len) .none (Hx.fdV K (Lk.a_Heap_len K)).kwdefaults (Hx.fdV K (Lk.a_Heap_len K)).doc (Hx.fdV K (Lk.a_Heap_len K)).pyModule (Hx.fdV K (Lk.a_Heap_len K)).annotations (Hx.fdV K (Lk.a_Heap_len K)).code (Hx.fdV K (Lk.a_Heap_len K)).closureTuple), (Hx.oV K (Lk.a_Heap_len K)).slots⟩ := Hx.fn_l (c.at 302 (by kernel_rfl)) (c.fn 47 (by kernel_rfl) (by kernel_rfl)) (c.at 303 (by kernel_rfl))
theorem c_Heap_len {K : PySem.W.Frag} (c : Hx.Says looks funs funv K) : PySem.W.codeIn K (Hx.fdV K (Lk.a_Heap_len K)).code "Heap.__len__" = true := (c.at 304 (by kernel_rfl))
theorem k_Heap_len {K : PySem.W.Frag} (c : Hx.Says looks funs funv K) : PySem.W.keepIn K (.ref (Lk.a_Heap_len K)) = true := (c.at 305 (by kernel_rfl))
theorem m_Heap_eq {K : PySem.W.Frag} (c : Hx.Says looks funs funv K) : PySem.W.findIn K (.ref (Lk.C_Heap K)) "__eq__" = some (some (.ref (Lk.a_Heap_eq K))) := (c.is 306 (by kernel_rfl))
theorem f_Heap_eq {K : PySem.W.Frag} (c : Hx.Says looks funs funv K) : PySem.W.isFn K (.ref (Lk.a_Heap_eq K)) = true := (c.at 307 (by kernel_rfl))
theorem l_Heap_eq {K : PySem.W.Frag} (c : Hx.Says looks funs funv K) : K.lookup (Lk.a_Heap_eq K) = some ⟨(Hx.oV K (Lk.a_Heap_eq K)).cls, (Hx.oV K (Lk.a_Heap_eq K)).dict, .func (PySem.W.fnOf "__eq__" "Heap.__eq__" (L2.defArgs st_Heap_eq) (L2.defBody st_Heap_eq) (L2.defScope st_Heap_eq) .none (Hx.fdV K (Lk.a_Heap_eq K)).kwdefaults (Hx.fdV K (Lk.a_Heap_eq K)).doc (Hx.fdV K (Lk.a_Heap_eq K)).pyModule (Hx.fdV K (Lk.a_Heap_eq K)).annotations (Hx.fdV K (Lk.a_Heap_eq K)).code (Hx.fdV K (Lk.a_Heap_eq K)).closureTuple), (Hx.oV K (Lk.a_Heap_eq K)).slots⟩ := Hx.fn_l (c.at 308 (by kernel_rfl)) (c.fn 48 (by kernel_rfl) (by kernel_rfl)) (c.at 309 (by kernel_rfl))
theorem c_Heap_eq {K : PySem.W.Frag} (c : Hx.Says looks funs funv K) : PySem.W.codeIn K (Hx.fdV K (Lk.a_Heap_eq K)).code "Heap.__eq__" = true := (c.at 310 (by kernel_rfl))
theorem k_Heap_eq {K : PySem.W.Frag} (c : Hx.Says looks funs funv K) : PySem.W.keepIn K (.ref (Lk.a_Heap_eq K)) = true := (c.at 311 (by kernel_rfl))
theorem g_check_heap {K : PySem.W.Frag} (c : Hx.Says looks funs funv K) : PySem.W.nsIn K mainGlobals "check_heap" = some (some (.ref (Lk.a_check_heap K))) := (c.is 312 (by kernel_rfl))
theorem l_check_heap {K : PySem.W.Frag} (c : Hx.Says looks funs funv K) : K.lookup (Lk.a_check_heap K) = some ⟨(Hx.oV K (Lk.a_check_heap K)).cls, (Hx.oV K (Lk.a_check_heap K)).dict, .func (PySem.W.fnOf "check_heap" "check_heap" (L2.defArgs st_check_heap) (L2.defBody st_check_heap) (L2.defScope st_check_heap) .none (Hx.fdV K (Lk.a_check_heap K)).kwdefaults (Hx.fdV K (Lk.a_check_heap K)).doc (Hx.fdV K (Lk.a_check_heap K)).pyModule (Hx.fdV K (Lk.a_check_heap K)).annotations (Hx.fdV K (Lk.a_check_heap K)).code (Hx.fdV K (Lk.a_check_heap K)).closureTuple), (Hx.oV K (Lk.a_check_heap K)).slots⟩ := Hx.fn_l (c.at 313 (by kernel_rfl)) (c.fn 49 (by kernel_rfl) (by kernel_rfl)) (c.at 314 (by kernel_rfl))
theorem c_check_heap {K : PySem.W.Frag} (c : Hx.Says looks funs funv K) : PySem.W.codeIn K (Hx.fdV K (Lk.a_check_heap K)).code "check_heap" = true := (c.at 315 (by kernel_rfl))
theorem k_check_heap {K : PySem.W.Frag} (c : Hx.Says looks funs funv K) : PySem.W.keepIn K (.ref (Lk.a_check_heap K)) = true := (c.at 316 (by kernel_rfl))
theorem g_is_heap_rows {K : PySem.W.Frag} (c : Hx.Says looks funs funv K) : PySem.W.nsIn K mainGlobals "is_heap_rows" = some (some (.ref (Lk.a_is_heap_rows K))) := (c.is 317 (by kernel_rfl))
theorem l_is_heap_rows {K : PySem.W.Frag} (c : Hx.Says looks funs funv K) : K.lookup (Lk.a_is_heap_rows K) = some ⟨(Hx.oV K (Lk.a_is_heap_rows K)).cls, (Hx.oV K (Lk.a_is_heap_rows K)).dict, .func (PySem.W.fnOf "is_heap_rows" "is_heap_rows" (L2.defArgs st_is_heap_rows) (L2.defBody st_is_heap_rows) (L2.defScope st_is_heap_rows) .none (Hx.fdV K (Lk.a_is_heap_rows K)).kwdefaults (Hx.fdV K (Lk.a_is_heap_rows K)).doc (Hx.fdV K (Lk.a_is_heap_rows K)).pyModule (Hx.fdV K (Lk.a_is_heap_rows K)).annotations (Hx.fdV K (Lk.a_is_heap_rows K)).code (Hx.fdV K (Lk.a_is_heap_rows K)).closureTuple), (Hx.oV K (Lk.a_is_heap_rows K)).slots⟩ := Hx.fn_l (c.at 318 (by kernel_rfl)) (c.fn 50 (by kernel_rfl) (by kernel_rfl)) (c.at 319 (by kernel_rfl))
theorem c_is_heap_rows {K : PySem.W.Frag} (c : Hx.Says looks funs funv K) : PySem.W.codeIn K (Hx.fdV K (Lk.a_is_heap_rows K)).code "is_heap_rows" = true := (c.at 320 (by kernel_rfl))
theorem k_is_heap_rows {K : PySem.W.Frag} (c : Hx.Says looks funs funv K) : PySem.W.keepIn K (.ref (Lk.a_is_heap_rows K)) = true := (c.at 321 (by kernel_rfl))
theorem g_rows_of_hooks {K : PySem.W.Frag} (c : Hx.Says looks funs funv K) : PySem.W.nsIn K mainGlobals "rows_of_hooks" = some (some (.ref (Lk.a_rows_of_hooks K))) := (c.is 322 (by kernel_rfl))
theorem l_rows_of_hooks {K : PySem.W.Frag} (c : Hx.Says looks funs funv K) : K.lookup (Lk.a_rows_of_hooks K) = some ⟨(Hx.oV K (Lk.a_rows_of_hooks K)).cls, (Hx.oV K (Lk.a_rows_of_hooks K)).dict, .func (PySem.W.fnOf "rows_of_hooks" "rows_of_hooks" (L2.defArgs st_rows_of_hooks) (L2.defBody st_rows_of_hooks) (L2.defScope st_rows_of_hooks) .none (Hx.fdV K (Lk.a_rows_of_hooks K)).kwdefaults (Hx.fdV K (Lk.a_rows_of_hooks K)).doc (Hx.fdV K (Lk.a_rows_of_hooks K)).pyModule (Hx.fdV K (Lk.a_rows_of_hooks K)).annotations (Hx.fdV K (Lk.a_rows_of_hooks K)).code (Hx.fdV K (Lk.a_rows_of_hooks K)).closureTuple), (Hx.oV K (Lk.a_rows_of_hooks K)).slots⟩ := Hx.fn_l (c.at 323 (by kernel_rfl)) (c.fn 51 (by kernel_rfl) (by kernel_rfl)) (c.at 324 (by kernel_rfl))
theorem c_rows_of_hooks {K : PySem.W.Frag} (c : Hx.Says looks funs funv K) : PySem.W.codeIn K (Hx.fdV K (Lk.a_rows_of_hooks K)).code "rows_of_hooks" = true := (c.at 325 (by kernel_rfl))
theorem k_rows_of_hooks {K : PySem.W.Frag} (c : Hx.Says looks funs funv K) : PySem.W.keepIn K (.ref (Lk.a_rows_of_hooks K)) = true := (c.at 326 (by kernel_rfl))
theorem g_heap_of {K : PySem.W.Frag} (c : Hx.Says looks funs funv K) : PySem.W.nsIn K mainGlobals "heap_of" = some (some (.ref (Lk.a_heap_of K))) := (c.is 327 (by kernel_rfl))
theorem l_heap_of {K : PySem.W.Frag} (c : Hx.Says looks funs funv K) : K.lookup (Lk.a_heap_of K) = some ⟨(Hx.oV K (Lk.a_heap_of K)).cls, (Hx.oV K (Lk.a_heap_of K)).dict, .func (PySem.W.fnOf "heap_of" "heap_of" (L2.defArgs st_heap_of) (L2.defBody st_heap_of) (L2.defScope st_heap_of) .none (Hx.fdV K (Lk.a_heap_of K)).kwdefaults (Hx.fdV K (Lk.a_heap_of K)).doc (Hx.fdV K (Lk.a_heap_of K)).pyModule (Hx.fdV K (Lk.a_heap_of K)).annotations (Hx.fdV K (Lk.a_heap_of K)).code (Hx.fdV K (Lk.a_heap_of K)).closureTuple), (Hx.oV K (Lk.a_heap_of K)).slots⟩ := Hx.fn_l (c.at 328 (by kernel_rfl)) (c.fn 52 (by kernel_rfl) (by kernel_rfl)) (c.at 329 (by kernel_rfl))
theorem c_heap_of {K : PySem.W.Frag} (c : Hx.Says looks funs funv K) : PySem.W.codeIn K (Hx.fdV K (Lk.a_heap_of K)).code "heap_of" = true := (c.at 330 (by kernel_rfl))
theorem k_heap_of {K : PySem.W.Frag} (c : Hx.Says looks funs funv K) : PySem.W.keepIn K (.ref (Lk.a_heap_of K)) = true := (c.at 331 (by kernel_rfl))
theorem g_shelf_of {K : PySem.W.Frag} (c : Hx.Says looks funs funv K) : PySem.W.nsIn K mainGlobals "shelf_of" = some (some (.ref (Lk.a_shelf_of K))) := (c.is 332 (by kernel_rfl))
theorem l_shelf_of {K : PySem.W.Frag} (c : Hx.Says looks funs funv K) : K.lookup (Lk.a_shelf_of K) = some ⟨(Hx.oV K (Lk.a_shelf_of K)).cls, (Hx.oV K (Lk.a_shelf_of K)).dict, .func (PySem.W.fnOf "shelf_of" "shelf_of" (L2.defArgs st_shelf_of) (L2.defBody st_shelf_of) (L2.defScope st_shelf_of) .none (Hx.fdV K (Lk.a_shelf_of K)).kwdefaults (Hx.fdV K (Lk.a_shelf_of K)).doc (Hx.fdV K (Lk.a_shelf_of K)).pyModule (Hx.fdV K (Lk.a_shelf_of K)).annotations (Hx.fdV K (Lk.a_shelf_of K)).code (Hx.fdV K (Lk.a_shelf_of K)).closureTuple), (Hx.oV K (Lk.a_shelf_of K)).slots⟩ := Hx.fn_l (c.at 333 (by kernel_rfl)) (c.fn 53 (by kernel_rfl) (by kernel_rfl)) (c.at 334 (by kernel_rfl))
theorem c_shelf_of {K : PySem.W.Frag} (c : Hx.Says looks funs funv K) : PySem.W.codeIn K (Hx.fdV K (Lk.a_shelf_of K)).code "shelf_of" = true := (c.at 335 (by kernel_rfl))
theorem k_shelf_of {K : PySem.W.Frag} (c : Hx.Says looks funs funv K) : PySem.W.keepIn K (.ref (Lk.a_shelf_of K)) = true := (c.at 336 (by kernel_rfl))
theorem g_law_dice {K : PySem.W.Frag} (c : Hx.Says looks funs funv K) : PySem.W.nsIn K mainGlobals "_law_dice" = some (some (.ref (Lk.a_law_dice K))) := (c.is 337 (by kernel_rfl))
theorem l_law_dice {K : PySem.W.Frag} (c : Hx.Says looks funs funv K) : K.lookup (Lk.a_law_dice K) = some ⟨(Hx.oV K (Lk.a_law_dice K)).cls, (Hx.oV K (Lk.a_law_dice K)).dict, .func (PySem.W.fnOf "_law_dice" "_law_dice" (L2.defArgs st_law_dice) (L2.defBody st_law_dice) (L2.defScope st_law_dice) .none (Hx.fdV K (Lk.a_law_dice K)).kwdefaults (Hx.fdV K (Lk.a_law_dice K)).doc (Hx.fdV K (Lk.a_law_dice K)).pyModule (Hx.fdV K (Lk.a_law_dice K)).annotations (Hx.fdV K (Lk.a_law_dice K)).code (Hx.fdV K (Lk.a_law_dice K)).closureTuple), (Hx.oV K (Lk.a_law_dice K)).slots⟩ := Hx.fn_l (c.at 338 (by kernel_rfl)) (c.fn 54 (by kernel_rfl) (by kernel_rfl)) (c.at 339 (by kernel_rfl))
theorem c_law_dice {K : PySem.W.Frag} (c : Hx.Says looks funs funv K) : PySem.W.codeIn K (Hx.fdV K (Lk.a_law_dice K)).code "_law_dice" = true := (c.at 340 (by kernel_rfl))
theorem k_law_dice {K : PySem.W.Frag} (c : Hx.Says looks funs funv K) : PySem.W.keepIn K (.ref (Lk.a_law_dice K)) = true := (c.at 341 (by kernel_rfl))
theorem g_law_roll {K : PySem.W.Frag} (c : Hx.Says looks funs funv K) : PySem.W.nsIn K mainGlobals "_law_roll" = some (some (.ref (Lk.a_law_roll K))) := (c.is 342 (by kernel_rfl))
theorem l_law_roll {K : PySem.W.Frag} (c : Hx.Says looks funs funv K) : K.lookup (Lk.a_law_roll K) = some ⟨(Hx.oV K (Lk.a_law_roll K)).cls, (Hx.oV K (Lk.a_law_roll K)).dict, .func (PySem.W.fnOf "_law_roll" "_law_roll" (L2.defArgs st_law_roll) (L2.defBody st_law_roll) (L2.defScope st_law_roll) .none (Hx.fdV K (Lk.a_law_roll K)).kwdefaults (Hx.fdV K (Lk.a_law_roll K)).doc (Hx.fdV K (Lk.a_law_roll K)).pyModule (Hx.fdV K (Lk.a_law_roll K)).annotations (Hx.fdV K (Lk.a_law_roll K)).code (Hx.fdV K (Lk.a_law_roll K)).closureTuple), (Hx.oV K (Lk.a_law_roll K)).slots⟩ := Hx.fn_l (c.at 343 (by kernel_rfl)) (c.fn 55 (by kernel_rfl) (by kernel_rfl)) (c.at 344 (by kernel_rfl))
theorem c_law_roll {K : PySem.W.Frag} (c : Hx.Says looks funs funv K) : PySem.W.codeIn K (Hx.fdV K (Lk.a_law_roll K)).code "_law_roll" = true := (c.at 345 (by kernel_rfl))
theorem k_law_roll {K : PySem.W.Frag} (c : Hx.Says looks funs funv K) : PySem.W.keepIn K (.ref (Lk.a_law_roll K)) = true := (c.at 346 (by kernel_rfl))
theorem g_law_slope {K : PySem.W.Frag} (c : Hx.Says looks funs funv K) : PySem.W.nsIn K mainGlobals "_law_slope" = some (some (.ref (Lk.a_law_slope K))) := (c.is 347 (by kernel_rfl))
theorem l_law_slope {K : PySem.W.Frag} (c : Hx.Says looks funs funv K) : K.lookup (Lk.a_law_slope K) = some ⟨(Hx.oV K (Lk.a_law_slope K)).cls, (Hx.oV K (Lk.a_law_slope K)).dict, .func (PySem.W.fnOf "_law_slope" "_law_slope" (L2.defArgs st_law_slope) (L2.defBody st_law_slope) (L2.defScope st_law_slope) .none (Hx.fdV K (Lk.a_law_slope K)).kwdefaults (Hx.fdV K (Lk.a_law_slope K)).doc (Hx.fdV K (Lk.a_law_slope K)).pyModule (Hx.fdV K (Lk.a_law_slope K)).annotations (Hx.fdV K (Lk.a_law_slope K)).code (Hx.fdV K (Lk.a_law_slope K)).closureTuple), (Hx.oV K (Lk.a_law_slope K)).slots⟩ := Hx.fn_l (c.at 348 (by kernel_rfl)) (c.fn 56 (by kernel_rfl) (by kernel_rfl)) (c.at 349 (by kernel_rfl))
theorem c_law_slope {K : PySem.W.Frag} (c : Hx.Says looks funs funv K) : PySem.W.codeIn K (Hx.fdV K (Lk.a_law_slope K)).code "_law_slope" = true := (c.at 350 (by kernel_rfl))
theorem k_law_slope {K : PySem.W.Frag} (c : Hx.Says looks funs funv K) : PySem.W.keepIn K (.ref (Lk.a_law_slope K)) = true := (c.at 351 (by kernel_rfl))
theorem g_law_way {K : PySem.W.Frag} (c : Hx.Says looks funs funv K) : PySem.W.nsIn K mainGlobals "_law_way" = some (some (.ref (Lk.a_law_way K))) := (c.is 352 (by kernel_rfl))
theorem l_law_way {K : PySem.W.Frag} (c : Hx.Says looks funs funv K) : K.lookup (Lk.a_law_way K) = some ⟨(Hx.oV K (Lk.a_law_way K)).cls, (Hx.oV K (Lk.a_law_way K)).dict, .func (PySem.W.fnOf "_law_way" "_law_way" (L2.defArgs st_law_way) (L2.defBody st_law_way) (L2.defScope st_law_way) .none (Hx.fdV K (Lk.a_law_way K)).kwdefaults (Hx.fdV K (Lk.a_law_way K)).doc (Hx.fdV K (Lk.a_law_way K)).pyModule (Hx.fdV K (Lk.a_law_way K)).annotations (Hx.fdV K (Lk.a_law_way K)).code (Hx.fdV K (Lk.a_law_way K)).closureTuple), (Hx.oV K (Lk.a_law_way K)).slots⟩ := Hx.fn_l (c.at 353 (by kernel_rfl)) (c.fn 57 (by kernel_rfl) (by kernel_rfl)) (c.at 354 (by kernel_rfl))
theorem c_law_way {K : PySem.W.Frag} (c : Hx.Says looks funs funv K) : PySem.W.codeIn K (Hx.fdV K (Lk.a_law_way K)).code "_law_way" = true := (c.at 355 (by kernel_rfl))
theorem k_law_way {K : PySem.W.Frag} (c : Hx.Says looks funs funv K) : PySem.W.keepIn K (.ref (Lk.a_law_way K)) = true := (c.at 356 (by kernel_rfl))
theorem g_law_levels {K : PySem.W.Frag} (c : Hx.Says looks funs funv K) : PySem.W.nsIn K mainGlobals "_law_levels" = some (some (.ref (Lk.a_law_levels K))) := (c.is 357 (by kernel_rfl))
theorem l_law_levels {K : PySem.W.Frag} (c : Hx.Says looks funs funv K) : K.lookup (Lk.a_law_levels K) = some ⟨(Hx.oV K (Lk.a_law_levels K)).cls, (Hx.oV K (Lk.a_law_levels K)).dict, .func (PySem.W.fnOf "_law_levels" "_law_levels" (L2.defArgs st_law_levels) (L2.defBody st_law_levels) (L2.defScope st_law_levels) .none (Hx.fdV K (Lk.a_law_levels K)).kwdefaults (Hx.fdV K (Lk.a_law_levels K)).doc (Hx.fdV K (Lk.a_law_levels K)).pyModule (Hx.fdV K (Lk.a_law_levels K)).annotations (Hx.fdV K (Lk.a_law_levels K)).code (Hx.fdV K (Lk.a_law_levels K)).closureTuple), (Hx.oV K (Lk.a_law_levels K)).slots⟩ := Hx.fn_l (c.at 358 (by kernel_rfl)) (c.fn 58 (by kernel_rfl) (by kernel_rfl)) (c.at 359 (by kernel_rfl))
theorem c_law_levels {K : PySem.W.Frag} (c : Hx.Says looks funs funv K) : PySem.W.codeIn K (Hx.fdV K (Lk.a_law_levels K)).code "_law_levels" = true := (c.at 360 (by kernel_rfl))
theorem k_law_levels {K : PySem.W.Frag} (c : Hx.Says looks funs funv K) : PySem.W.keepIn K (.ref (Lk.a_law_levels K)) = true := (c.at 361 (by kernel_rfl))
theorem g_law_makers {K : PySem.W.Frag} (c : Hx.Says looks funs funv K) : PySem.W.nsIn K mainGlobals "_law_makers" = some (some (.ref (Lk.a_law_makers K))) := (c.is 362 (by kernel_rfl))
theorem l_law_makers {K : PySem.W.Frag} (c : Hx.Says looks funs funv K) : K.lookup (Lk.a_law_makers K) = some ⟨(Hx.oV K (Lk.a_law_makers K)).cls, (Hx.oV K (Lk.a_law_makers K)).dict, .func (PySem.W.fnOf "_law_makers" "_law_makers" (L2.defArgs st_law_makers) (L2.defBody st_law_makers) (L2.defScope st_law_makers) .none (Hx.fdV K (Lk.a_law_makers K)).kwdefaults (Hx.fdV K (Lk.a_law_makers K)).doc (Hx.fdV K (Lk.a_law_makers K)).pyModule (Hx.fdV K (Lk.a_law_makers K)).annotations (Hx.fdV K (Lk.a_law_makers K)).code (Hx.fdV K (Lk.a_law_makers K)).closureTuple), (Hx.oV K (Lk.a_law_makers K)).slots⟩ := Hx.fn_l (c.at 363 (by kernel_rfl)) (c.fn 59 (by kernel_rfl) (by kernel_rfl)) (c.at 364 (by kernel_rfl))
theorem c_law_makers {K : PySem.W.Frag} (c : Hx.Says looks funs funv K) : PySem.W.codeIn K (Hx.fdV K (Lk.a_law_makers K)).code "_law_makers" = true := (c.at 365 (by kernel_rfl))
theorem k_law_makers {K : PySem.W.Frag} (c : Hx.Says looks funs funv K) : PySem.W.keepIn K (.ref (Lk.a_law_makers K)) = true := (c.at 366 (by kernel_rfl))
theorem g_law_gaps {K : PySem.W.Frag} (c : Hx.Says looks funs funv K) : PySem.W.nsIn K mainGlobals "_law_gaps" = some (some (.ref (Lk.a_law_gaps K))) := (c.is 367 (by kernel_rfl))
theorem l_law_gaps {K : PySem.W.Frag} (c : Hx.Says looks funs funv K) : K.lookup (Lk.a_law_gaps K) = some ⟨(Hx.oV K (Lk.a_law_gaps K)).cls, (Hx.oV K (Lk.a_law_gaps K)).dict, .func (PySem.W.fnOf "_law_gaps" "_law_gaps" (L2.defArgs st_law_gaps) (L2.defBody st_law_gaps) (L2.defScope st_law_gaps) .none (Hx.fdV K (Lk.a_law_gaps K)).kwdefaults (Hx.fdV K (Lk.a_law_gaps K)).doc (Hx.fdV K (Lk.a_law_gaps K)).pyModule (Hx.fdV K (Lk.a_law_gaps K)).annotations (Hx.fdV K (Lk.a_law_gaps K)).code (Hx.fdV K (Lk.a_law_gaps K)).closureTuple), (Hx.oV K (Lk.a_law_gaps K)).slots⟩ := Hx.fn_l (c.at 368 (by kernel_rfl)) (c.fn 60 (by kernel_rfl) (by kernel_rfl)) (c.at 369 (by kernel_rfl))
theorem c_law_gaps {K : PySem.W.Frag} (c : Hx.Says looks funs funv K) : PySem.W.codeIn K (Hx.fdV K (Lk.a_law_gaps K)).code "_law_gaps" = true := (c.at 370 (by kernel_rfl))
theorem k_law_gaps {K : PySem.W.Frag} (c : Hx.Says looks funs funv K) : PySem.W.keepIn K (.ref (Lk.a_law_gaps K)) = true := (c.at 371 (by kernel_rfl))
theorem g_law_squares {K : PySem.W.Frag} (c : Hx.Says looks funs funv K) : PySem.W.nsIn K mainGlobals "_law_squares" = some (some (.ref (Lk.a_law_squares K))) := (c.is 372 (by kernel_rfl))
theorem l_law_squares {K : PySem.W.Frag} (c : Hx.Says looks funs funv K) : K.lookup (Lk.a_law_squares K) = some ⟨(Hx.oV K (Lk.a_law_squares K)).cls, (Hx.oV K (Lk.a_law_squares K)).dict, .func (PySem.W.fnOf "_law_squares" "_law_squares" (L2.defArgs st_law_squares) (L2.defBody st_law_squares) (L2.defScope st_law_squares) .none (Hx.fdV K (Lk.a_law_squares K)).kwdefaults (Hx.fdV K (Lk.a_law_squares K)).doc (Hx.fdV K (Lk.a_law_squares K)).pyModule (Hx.fdV K (Lk.a_law_squares K)).annotations (Hx.fdV K (Lk.a_law_squares K)).code (Hx.fdV K (Lk.a_law_squares K)).closureTuple), (Hx.oV K (Lk.a_law_squares K)).slots⟩ := Hx.fn_l (c.at 373 (by kernel_rfl)) (c.fn 61 (by kernel_rfl) (by kernel_rfl)) (c.at 374 (by kernel_rfl))
theorem c_law_squares {K : PySem.W.Frag} (c : Hx.Says looks funs funv K) : PySem.W.codeIn K (Hx.fdV K (Lk.a_law_squares K)).code "_law_squares" = true := (c.at 375 (by kernel_rfl))
theorem k_law_squares {K : PySem.W.Frag} (c : Hx.Says looks funs funv K) : PySem.W.keepIn K (.ref (Lk.a_law_squares K)) = true := (c.at 376 (by kernel_rfl))
theorem g_law_rows_of {K : PySem.W.Frag} (c : Hx.Says looks funs funv K) : PySem.W.nsIn K mainGlobals "_law_rows_of" = some (some (.ref (Lk.a_law_rows_of K))) := (c.is 377 (by kernel_rfl))
theorem l_law_rows_of {K : PySem.W.Frag} (c : Hx.Says looks funs funv K) : K.lookup (Lk.a_law_rows_of K) = some ⟨(Hx.oV K (Lk.a_law_rows_of K)).cls, (Hx.oV K (Lk.a_law_rows_of K)).dict, .func (PySem.W.fnOf "_law_rows_of" "_law_rows_of" (L2.defArgs st_law_rows_of) (L2.defBody st_law_rows_of) (L2.defScope st_law_rows_of) .none (Hx.fdV K (Lk.a_law_rows_of K)).kwdefaults (Hx.fdV K (Lk.a_law_rows_of K)).doc (Hx.fdV K (Lk.a_law_rows_of K)).pyModule (Hx.fdV K (Lk.a_law_rows_of K)).annotations (Hx.fdV K (Lk.a_law_rows_of K)).code (Hx.fdV K (Lk.a_law_rows_of K)).closureTuple), (Hx.oV K (Lk.a_law_rows_of K)).slots⟩ := Hx.fn_l (c.at 378 (by kernel_rfl)) (c.fn 62 (by kernel_rfl) (by kernel_rfl)) (c.at 379 (by kernel_rfl))
theorem c_law_rows_of {K : PySem.W.Frag} (c : Hx.Says looks funs funv K) : PySem.W.codeIn K (Hx.fdV K (Lk.a_law_rows_of K)).code "_law_rows_of" = true := (c.at 380 (by kernel_rfl))
theorem k_law_rows_of {K : PySem.W.Frag} (c : Hx.Says looks funs funv K) : PySem.W.keepIn K (.ref (Lk.a_law_rows_of K)) = true := (c.at 381 (by kernel_rfl))
theorem g_law_turned_rows {K : PySem.W.Frag} (c : Hx.Says looks funs funv K) : PySem.W.nsIn K mainGlobals "_law_turned_rows" = some (some (.ref (Lk.a_law_turned_rows K))) := (c.is 382 (by kernel_rfl))
theorem l_law_turned_rows {K : PySem.W.Frag} (c : Hx.Says looks funs funv K) : K.lookup (Lk.a_law_turned_rows K) = some ⟨(Hx.oV K (Lk.a_law_turned_rows K)).cls, (Hx.oV K (Lk.a_law_turned_rows K)).dict, .func (PySem.W.fnOf "_law_turned_rows" "_law_turned_rows" (L2.defArgs st_law_turned_rows) (L2.defBody st_law_turned_rows) (L2.defScope st_law_turned_rows) .none (Hx.fdV K (Lk.a_law_turned_rows K)).kwdefaults (Hx.fdV K (Lk.a_law_turned_rows K)).doc (Hx.fdV K (Lk.a_law_turned_rows K)).pyModule (Hx.fdV K (Lk.a_law_turned_rows K)).annotations (Hx.fdV K (Lk.a_law_turned_rows K)).code (Hx.fdV K (Lk.a_law_turned_rows K)).closureTuple), (Hx.oV K (Lk.a_law_turned_rows K)).slots⟩ := Hx.fn_l (c.at 383 (by kernel_rfl)) (c.fn 63 (by kernel_rfl) (by kernel_rfl)) (c.at 384 (by kernel_rfl))
theorem c_law_turned_rows {K : PySem.W.Frag} (c : Hx.Says looks funs funv K) : PySem.W.codeIn K (Hx.fdV K (Lk.a_law_turned_rows K)).code "_law_turned_rows" = true := (c.at 385 (by kernel_rfl))
theorem k_law_turned_rows {K : PySem.W.Frag} (c : Hx.Says looks funs funv K) : PySem.W.keepIn K (.ref (Lk.a_law_turned_rows K)) = true := (c.at 386 (by kernel_rfl))
theorem g_law_gaps_of {K : PySem.W.Frag} (c : Hx.Says looks funs funv K) : PySem.W.nsIn K mainGlobals "_law_gaps_of" = some (some (.ref (Lk.a_law_gaps_of K))) := (c.is 387 (by kernel_rfl))
theorem l_law_gaps_of {K : PySem.W.Frag} (c : Hx.Says looks funs funv K) : K.lookup (Lk.a_law_gaps_of K) = some ⟨(Hx.oV K (Lk.a_law_gaps_of K)).cls, (Hx.oV K (Lk.a_law_gaps_of K)).dict, .func (PySem.W.fnOf "_law_gaps_of" "_law_gaps_of" (L2.defArgs st_law_gaps_of) (L2.defBody st_law_gaps_of) (L2.defScope st_law_gaps_of) .none (Hx.fdV K (Lk.a_law_gaps_of K)).kwdefaults (Hx.fdV K (Lk.a_law_gaps_of K)).doc (Hx.fdV K (Lk.a_law_gaps_of K)).pyModule (Hx.fdV K (Lk.a_law_gaps_of K)).annotations (Hx.fdV K (Lk.a_law_gaps_of K)).code (Hx.fdV K (Lk.a_law_gaps_of K)).closureTuple), (Hx.oV K (Lk.a_law_gaps_of K)).slots⟩ := Hx.fn_l (c.at 388 (by kernel_rfl)) (c.fn 64 (by kernel_rfl) (by kernel_rfl)) (c.at 389 (by kernel_rfl))
theorem c_law_gaps_of {K : PySem.W.Frag} (c : Hx.Says looks funs funv K) : PySem.W.codeIn K (Hx.fdV K (Lk.a_law_gaps_of K)).code "_law_gaps_of" = true := (c.at 390 (by kernel_rfl))
theorem k_law_gaps_of {K : PySem.W.Frag} (c : Hx.Says looks funs funv K) : PySem.W.keepIn K (.ref (Lk.a_law_gaps_of K)) = true := (c.at 391 (by kernel_rfl))
theorem g_law_dual {K : PySem.W.Frag} (c : Hx.Says looks funs funv K) : PySem.W.nsIn K mainGlobals "_law_dual" = some (some (.ref (Lk.a_law_dual K))) := (c.is 392 (by kernel_rfl))
theorem l_law_dual {K : PySem.W.Frag} (c : Hx.Says looks funs funv K) : K.lookup (Lk.a_law_dual K) = some ⟨(Hx.oV K (Lk.a_law_dual K)).cls, (Hx.oV K (Lk.a_law_dual K)).dict, .func (PySem.W.fnOf "_law_dual" "_law_dual" (L2.defArgs st_law_dual) (L2.defBody st_law_dual) (L2.defScope st_law_dual) .none (Hx.fdV K (Lk.a_law_dual K)).kwdefaults (Hx.fdV K (Lk.a_law_dual K)).doc (Hx.fdV K (Lk.a_law_dual K)).pyModule (Hx.fdV K (Lk.a_law_dual K)).annotations (Hx.fdV K (Lk.a_law_dual K)).code (Hx.fdV K (Lk.a_law_dual K)).closureTuple), (Hx.oV K (Lk.a_law_dual K)).slots⟩ := Hx.fn_l (c.at 393 (by kernel_rfl)) (c.fn 65 (by kernel_rfl) (by kernel_rfl)) (c.at 394 (by kernel_rfl))
theorem c_law_dual {K : PySem.W.Frag} (c : Hx.Says looks funs funv K) : PySem.W.codeIn K (Hx.fdV K (Lk.a_law_dual K)).code "_law_dual" = true := (c.at 395 (by kernel_rfl))
theorem k_law_dual {K : PySem.W.Frag} (c : Hx.Says looks funs funv K) : PySem.W.keepIn K (.ref (Lk.a_law_dual K)) = true := (c.at 396 (by kernel_rfl))
theorem g_law {K : PySem.W.Frag} (c : Hx.Says looks funs funv K) : PySem.W.nsIn K mainGlobals "law" = some (some (.ref (Lk.a_law K))) := (c.is 397 (by kernel_rfl))
theorem l_law {K : PySem.W.Frag} (c : Hx.Says looks funs funv K) : K.lookup (Lk.a_law K) = some ⟨(Hx.oV K (Lk.a_law K)).cls, (Hx.oV K (Lk.a_law K)).dict, .func (PySem.W.fnOf "law" "law" (L2.defArgs st_law) (L2.defBody st_law) (L2.defScope st_law) .none (Hx.fdV K (Lk.a_law K)).kwdefaults (Hx.fdV K (Lk.a_law K)).doc (Hx.fdV K (Lk.a_law K)).pyModule (Hx.fdV K (Lk.a_law K)).annotations (Hx.fdV K (Lk.a_law K)).code (Hx.fdV K (Lk.a_law K)).closureTuple), (Hx.oV K (Lk.a_law K)).slots⟩ := Hx.fn_l (c.at 398 (by kernel_rfl)) (c.fn 66 (by kernel_rfl) (by kernel_rfl)) (c.at 399 (by kernel_rfl))
theorem c_law {K : PySem.W.Frag} (c : Hx.Says looks funs funv K) : PySem.W.codeIn K (Hx.fdV K (Lk.a_law K)).code "law" = true := (c.at 400 (by kernel_rfl))
theorem k_law {K : PySem.W.Frag} (c : Hx.Says looks funs funv K) : PySem.W.keepIn K (.ref (Lk.a_law K)) = true := (c.at 401 (by kernel_rfl))
theorem c1_Slope {K : PySem.W.Frag} (c : Hx.Says looks funs funv K) : PySem.W.plainGet K (Lk.C_Slope K) Str.empty = true := (c.at 402 (by kernel_rfl))
theorem c2_Slope {K : PySem.W.Frag} (c : Hx.Says looks funs funv K) : PySem.W.hasDictIn K (Lk.C_Slope K) = true := (c.at 403 (by kernel_rfl))
theorem c3_Slope {K : PySem.W.Frag} (c : Hx.Says looks funs funv K) : PySem.W.plainOver K (Lk.C_Slope K) = true := (c.at 404 (by kernel_rfl))
theorem c4_Slope {K : PySem.W.Frag} (c : Hx.Says looks funs funv K) : PySem.W.findIn K (.ref (Lk.C_Slope K)) "__setattr__" = some (some (.builtin "object.__setattr__")) := (c.is 405 (by kernel_rfl))
theorem c5_Slope {K : PySem.W.Frag} (c : Hx.Says looks funs funv K) : PySem.W.makesIn K (Lk.C_Slope K) = true := (c.at 406 (by kernel_rfl))
theorem c6_Slope {K : PySem.W.Frag} (c : Hx.Says looks funs funv K) : PySem.W.keepIn K (.ref (Lk.C_Slope K)) = true := (c.at 407 (by kernel_rfl))
theorem na_Slope_rises {K : PySem.W.Frag} (c : Hx.Says looks funs funv K) : PySem.W.findIn K (.ref (Lk.C_Slope K)) "_rises" = some none := (c.is 408 (by kernel_rfl))
theorem na_Slope_steps {K : PySem.W.Frag} (c : Hx.Says looks funs funv K) : PySem.W.findIn K (.ref (Lk.C_Slope K)) "_steps" = some none := (c.is 409 (by kernel_rfl))
theorem na_Slope_common {K : PySem.W.Frag} (c : Hx.Says looks funs funv K) : PySem.W.findIn K (.ref (Lk.C_Slope K)) "_common" = some none := (c.is 410 (by kernel_rfl))
theorem c1_Way {K : PySem.W.Frag} (c : Hx.Says looks funs funv K) : PySem.W.plainGet K (Lk.C_Way K) Str.empty = true := (c.at 411 (by kernel_rfl))
theorem c2_Way {K : PySem.W.Frag} (c : Hx.Says looks funs funv K) : PySem.W.hasDictIn K (Lk.C_Way K) = true := (c.at 412 (by kernel_rfl))
theorem c3_Way {K : PySem.W.Frag} (c : Hx.Says looks funs funv K) : PySem.W.plainOver K (Lk.C_Way K) = true := (c.at 413 (by kernel_rfl))
theorem c4_Way {K : PySem.W.Frag} (c : Hx.Says looks funs funv K) : PySem.W.findIn K (.ref (Lk.C_Way K)) "__setattr__" = some (some (.builtin "object.__setattr__")) := (c.is 414 (by kernel_rfl))
theorem c5_Way {K : PySem.W.Frag} (c : Hx.Says looks funs funv K) : PySem.W.makesIn K (Lk.C_Way K) = true := (c.at 415 (by kernel_rfl))
theorem c6_Way {K : PySem.W.Frag} (c : Hx.Says looks funs funv K) : PySem.W.keepIn K (.ref (Lk.C_Way K)) = true := (c.at 416 (by kernel_rfl))
theorem na_Way_slope {K : PySem.W.Frag} (c : Hx.Says looks funs funv K) : PySem.W.findIn K (.ref (Lk.C_Way K)) "_slope" = some none := (c.is 417 (by kernel_rfl))
theorem na_Way_text {K : PySem.W.Frag} (c : Hx.Says looks funs funv K) : PySem.W.findIn K (.ref (Lk.C_Way K)) "_text" = some none := (c.is 418 (by kernel_rfl))
theorem na_Way_levels {K : PySem.W.Frag} (c : Hx.Says looks funs funv K) : PySem.W.findIn K (.ref (Lk.C_Way K)) "_levels" = some none := (c.is 419 (by kernel_rfl))
theorem na_Way_runs {K : PySem.W.Frag} (c : Hx.Says looks funs funv K) : PySem.W.findIn K (.ref (Lk.C_Way K)) "_runs" = some none := (c.is 420 (by kernel_rfl))
theorem na_Way_key {K : PySem.W.Frag} (c : Hx.Says looks funs funv K) : PySem.W.findIn K (.ref (Lk.C_Way K)) "_key" = some none := (c.is 421 (by kernel_rfl))
theorem c1_Shelf {K : PySem.W.Frag} (c : Hx.Says looks funs funv K) : PySem.W.plainGet K (Lk.C_Shelf K) Str.empty = true := (c.at 422 (by kernel_rfl))
theorem c2_Shelf {K : PySem.W.Frag} (c : Hx.Says looks funs funv K) : PySem.W.hasDictIn K (Lk.C_Shelf K) = true := (c.at 423 (by kernel_rfl))
theorem c3_Shelf {K : PySem.W.Frag} (c : Hx.Says looks funs funv K) : PySem.W.plainOver K (Lk.C_Shelf K) = true := (c.at 424 (by kernel_rfl))
theorem c4_Shelf {K : PySem.W.Frag} (c : Hx.Says looks funs funv K) : PySem.W.findIn K (.ref (Lk.C_Shelf K)) "__setattr__" = some (some (.builtin "object.__setattr__")) := (c.is 425 (by kernel_rfl))
theorem c5_Shelf {K : PySem.W.Frag} (c : Hx.Says looks funs funv K) : PySem.W.makesIn K (Lk.C_Shelf K) = true := (c.at 426 (by kernel_rfl))
theorem c6_Shelf {K : PySem.W.Frag} (c : Hx.Says looks funs funv K) : PySem.W.keepIn K (.ref (Lk.C_Shelf K)) = true := (c.at 427 (by kernel_rfl))
theorem rr_Shelf {K : PySem.W.Frag} (c : Hx.Says looks funs funv K) : PySem.W.readsIn K (Lk.C_Shelf K) (.type "type") = true := (c.at 428 (by kernel_rfl))
theorem rg_Shelf {K : PySem.W.Frag} (c : Hx.Says looks funs funv K) : PySem.W.specialIn K (.ref (Lk.C_Shelf K)) "__getattribute__" = some (some (.builtin "type.__getattribute__")) := (c.is 429 (by kernel_rfl))
theorem na_Shelf_slope {K : PySem.W.Frag} (c : Hx.Says looks funs funv K) : PySem.W.findIn K (.ref (Lk.C_Shelf K)) "_slope" = some none := (c.is 430 (by kernel_rfl))
theorem na_Shelf_gaps {K : PySem.W.Frag} (c : Hx.Says looks funs funv K) : PySem.W.findIn K (.ref (Lk.C_Shelf K)) "_gaps" = some none := (c.is 431 (by kernel_rfl))
theorem na_Shelf_gap_table {K : PySem.W.Frag} (c : Hx.Says looks funs funv K) : PySem.W.findIn K (.ref (Lk.C_Shelf K)) "_gap_table" = some none := (c.is 432 (by kernel_rfl))
theorem na_Shelf_rise_makers {K : PySem.W.Frag} (c : Hx.Says looks funs funv K) : PySem.W.findIn K (.ref (Lk.C_Shelf K)) "_rise_makers" = some none := (c.is 433 (by kernel_rfl))
theorem na_Shelf_step_makers {K : PySem.W.Frag} (c : Hx.Says looks funs funv K) : PySem.W.findIn K (.ref (Lk.C_Shelf K)) "_step_makers" = some none := (c.is 434 (by kernel_rfl))
theorem na_Shelf_makers {K : PySem.W.Frag} (c : Hx.Says looks funs funv K) : PySem.W.findIn K (.ref (Lk.C_Shelf K)) "_makers" = some none := (c.is 435 (by kernel_rfl))
theorem c1_Heap {K : PySem.W.Frag} (c : Hx.Says looks funs funv K) : PySem.W.plainGet K (Lk.C_Heap K) Str.empty = true := (c.at 436 (by kernel_rfl))
theorem c2_Heap {K : PySem.W.Frag} (c : Hx.Says looks funs funv K) : PySem.W.hasDictIn K (Lk.C_Heap K) = true := (c.at 437 (by kernel_rfl))
theorem c3_Heap {K : PySem.W.Frag} (c : Hx.Says looks funs funv K) : PySem.W.plainOver K (Lk.C_Heap K) = true := (c.at 438 (by kernel_rfl))
theorem c4_Heap {K : PySem.W.Frag} (c : Hx.Says looks funs funv K) : PySem.W.findIn K (.ref (Lk.C_Heap K)) "__setattr__" = some (some (.builtin "object.__setattr__")) := (c.is 439 (by kernel_rfl))
theorem c5_Heap {K : PySem.W.Frag} (c : Hx.Says looks funs funv K) : PySem.W.makesIn K (Lk.C_Heap K) = true := (c.at 440 (by kernel_rfl))
theorem c6_Heap {K : PySem.W.Frag} (c : Hx.Says looks funs funv K) : PySem.W.keepIn K (.ref (Lk.C_Heap K)) = true := (c.at 441 (by kernel_rfl))
theorem rr_Heap {K : PySem.W.Frag} (c : Hx.Says looks funs funv K) : PySem.W.readsIn K (Lk.C_Heap K) (.type "type") = true := (c.at 442 (by kernel_rfl))
theorem rg_Heap {K : PySem.W.Frag} (c : Hx.Says looks funs funv K) : PySem.W.specialIn K (.ref (Lk.C_Heap K)) "__getattribute__" = some (some (.builtin "type.__getattribute__")) := (c.is 443 (by kernel_rfl))
theorem na_Heap_rows {K : PySem.W.Frag} (c : Hx.Says looks funs funv K) : PySem.W.findIn K (.ref (Lk.C_Heap K)) "_rows" = some none := (c.is 444 (by kernel_rfl))
theorem na_Heap_size {K : PySem.W.Frag} (c : Hx.Says looks funs funv K) : PySem.W.findIn K (.ref (Lk.C_Heap K)) "_size" = some none := (c.is 445 (by kernel_rfl))
theorem na_Heap_first_hooks {K : PySem.W.Frag} (c : Hx.Says looks funs funv K) : PySem.W.findIn K (.ref (Lk.C_Heap K)) "_first_hooks" = some none := (c.is 446 (by kernel_rfl))
theorem na_Heap_key {K : PySem.W.Frag} (c : Hx.Says looks funs funv K) : PySem.W.findIn K (.ref (Lk.C_Heap K)) "_key" = some none := (c.is 447 (by kernel_rfl))
theorem ic_Slope {K : PySem.W.Frag} (c : Hx.Says looks funs funv K) : PySem.W.findIn K (.ref (Lk.C_Slope K)) "__class__" = some (some (.builtin "object.__class__")) := (c.is 448 (by kernel_rfl))
theorem mr_Slope {K : PySem.W.Frag} (c : Hx.Says looks funs funv K) : PySem.W.mroIn K (Lk.C_Slope K) (.type "object") = some true := (c.is 449 (by kernel_rfl))
theorem nn_Slope {K : PySem.W.Frag} (c : Hx.Says looks funs funv K) : PySem.W.findIn K (.ref (Lk.C_Slope K)) "__ne__" = some (some (.builtin "object.__ne__")) := (c.is 450 (by kernel_rfl))
theorem ic_Way {K : PySem.W.Frag} (c : Hx.Says looks funs funv K) : PySem.W.findIn K (.ref (Lk.C_Way K)) "__class__" = some (some (.builtin "object.__class__")) := (c.is 451 (by kernel_rfl))
theorem mr_Way {K : PySem.W.Frag} (c : Hx.Says looks funs funv K) : PySem.W.mroIn K (Lk.C_Way K) (.type "object") = some true := (c.is 452 (by kernel_rfl))
theorem nn_Way {K : PySem.W.Frag} (c : Hx.Says looks funs funv K) : PySem.W.findIn K (.ref (Lk.C_Way K)) "__ne__" = some (some (.builtin "object.__ne__")) := (c.is 453 (by kernel_rfl))
theorem ic_Shelf {K : PySem.W.Frag} (c : Hx.Says looks funs funv K) : PySem.W.findIn K (.ref (Lk.C_Shelf K)) "__class__" = some (some (.builtin "object.__class__")) := (c.is 454 (by kernel_rfl))
theorem mr_Shelf {K : PySem.W.Frag} (c : Hx.Says looks funs funv K) : PySem.W.mroIn K (Lk.C_Shelf K) (.type "object") = some true := (c.is 455 (by kernel_rfl))
theorem nn_Shelf {K : PySem.W.Frag} (c : Hx.Says looks funs funv K) : PySem.W.findIn K (.ref (Lk.C_Shelf K)) "__ne__" = some (some (.builtin "object.__ne__")) := (c.is 456 (by kernel_rfl))
theorem ic_Heap {K : PySem.W.Frag} (c : Hx.Says looks funs funv K) : PySem.W.findIn K (.ref (Lk.C_Heap K)) "__class__" = some (some (.builtin "object.__class__")) := (c.is 457 (by kernel_rfl))
theorem mr_Heap {K : PySem.W.Frag} (c : Hx.Says looks funs funv K) : PySem.W.mroIn K (Lk.C_Heap K) (.type "object") = some true := (c.is 458 (by kernel_rfl))
theorem nn_Heap {K : PySem.W.Frag} (c : Hx.Says looks funs funv K) : PySem.W.findIn K (.ref (Lk.C_Heap K)) "__ne__" = some (some (.builtin "object.__ne__")) := (c.is 459 (by kernel_rfl))
theorem cg {K : PySem.W.Frag} (c : Hx.Says looks funs funv K) : PySem.W.specialIn K (.builtin "object.__class__") "__get__" = some (some (.builtin "getset_descriptor.__get__")) := (c.is 460 (by kernel_rfl))
theorem ct {K : PySem.W.Frag} (c : Hx.Says looks funs funv K) : PySem.W.takesIn K (.builtin "object.__class__") = some true := (c.is 461 (by kernel_rfl))
theorem n_abs {K : PySem.W.Frag} (c : Hx.Says looks funs funv K) : PySem.W.nsIn K mainGlobals "abs" = some none := (c.is 462 (by kernel_rfl))
theorem n_any {K : PySem.W.Frag} (c : Hx.Says looks funs funv K) : PySem.W.nsIn K mainGlobals "any" = some none := (c.is 463 (by kernel_rfl))
theorem n_bool {K : PySem.W.Frag} (c : Hx.Says looks funs funv K) : PySem.W.nsIn K mainGlobals "bool" = some none := (c.is 464 (by kernel_rfl))
theorem n_enumerate {K : PySem.W.Frag} (c : Hx.Says looks funs funv K) : PySem.W.nsIn K mainGlobals "enumerate" = some none := (c.is 465 (by kernel_rfl))
theorem n_int {K : PySem.W.Frag} (c : Hx.Says looks funs funv K) : PySem.W.nsIn K mainGlobals "int" = some none := (c.is 466 (by kernel_rfl))
theorem n_isinstance {K : PySem.W.Frag} (c : Hx.Says looks funs funv K) : PySem.W.nsIn K mainGlobals "isinstance" = some none := (c.is 467 (by kernel_rfl))
theorem n_len {K : PySem.W.Frag} (c : Hx.Says looks funs funv K) : PySem.W.nsIn K mainGlobals "len" = some none := (c.is 468 (by kernel_rfl))
theorem n_list {K : PySem.W.Frag} (c : Hx.Says looks funs funv K) : PySem.W.nsIn K mainGlobals "list" = some none := (c.is 469 (by kernel_rfl))
theorem n_max {K : PySem.W.Frag} (c : Hx.Says looks funs funv K) : PySem.W.nsIn K mainGlobals "max" = some none := (c.is 470 (by kernel_rfl))
theorem n_min {K : PySem.W.Frag} (c : Hx.Says looks funs funv K) : PySem.W.nsIn K mainGlobals "min" = some none := (c.is 471 (by kernel_rfl))
theorem n_range {K : PySem.W.Frag} (c : Hx.Says looks funs funv K) : PySem.W.nsIn K mainGlobals "range" = some none := (c.is 472 (by kernel_rfl))
theorem n_sorted {K : PySem.W.Frag} (c : Hx.Says looks funs funv K) : PySem.W.nsIn K mainGlobals "sorted" = some none := (c.is 473 (by kernel_rfl))
theorem n_str {K : PySem.W.Frag} (c : Hx.Says looks funs funv K) : PySem.W.nsIn K mainGlobals "str" = some none := (c.is 474 (by kernel_rfl))
theorem n_sum {K : PySem.W.Frag} (c : Hx.Says looks funs funv K) : PySem.W.nsIn K mainGlobals "sum" = some none := (c.is 475 (by kernel_rfl))
theorem n_tuple {K : PySem.W.Frag} (c : Hx.Says looks funs funv K) : PySem.W.nsIn K mainGlobals "tuple" = some none := (c.is 476 (by kernel_rfl))
theorem n_zip {K : PySem.W.Frag} (c : Hx.Says looks funs funv K) : PySem.W.nsIn K mainGlobals "zip" = some none := (c.is 477 (by kernel_rfl))
theorem i_gcd {K : PySem.W.Frag} (c : Hx.Says looks funs funv K) : PySem.W.nsIn K mainGlobals "gcd" = some (some (.builtin "math.gcd")) := (c.is 478 (by kernel_rfl))
theorem qc_GREATEST {K : PySem.W.Frag} (c : Hx.Says looks funs funv K) : PySem.W.nsIn K mainGlobals "GREATEST" = some (some (.int 999999999999999999999999999999999999999999999999999999999999 (Hx.itV K "GREATEST"))) := Hx.int_of (c.at 479 (by kernel_rfl))
theorem qc_MAX_SIDE {K : PySem.W.Frag} (c : Hx.Says looks funs funv K) : PySem.W.nsIn K mainGlobals "MAX_SIDE" = some (some (.int 60 (Hx.itV K "MAX_SIDE"))) := Hx.int_of (c.at 480 (by kernel_rfl))
theorem qc_MAX_ROW {K : PySem.W.Frag} (c : Hx.Says looks funs funv K) : PySem.W.nsIn K mainGlobals "MAX_ROW" = some (some (.int 60 (Hx.itV K "MAX_ROW"))) := Hx.int_of (c.at 481 (by kernel_rfl))
end Fk
end Lw
open PySem PySem.W PyProof.Rows
set_option maxRecDepth 100000 in
set_option maxHeartbeats 0 in
theorem PySem.Challenge.cw_slantways_k25_whole_turned_heaps_holds : PySem.Challenge.rw_slantways_k25_whole_turned_heaps.Holds := by
  w_on; o_law
  refine HandSHeadRun.head_imp (r := PySem.W.OpenLaw.row PySem.Challenge.rw_slantways_k25_whole_turned_heaps) (q := Hd.qv) (H := Hd.hk) (ob := Hd.ob) (M := 60000) (loose := Hd.loose) (d := HandSHeadRun.topDef (PySem.W.OpenLaw.row PySem.Challenge.rw_slantways_k25_whole_turned_heaps).prog 61) (kwd := []) Hd.ob_eq Hd.run
    (by kernel_rfl) (by kernel_rfl) (by kernel_rfl) (by rfl) (by first | assumption | decide +kernel) (by decide +kernel) ⟨rfl, rfl, rfl, rfl, rfl, by decide +kernel⟩ ?hw ?hc
  case hw => w_witness2
  case hc =>
    refine L2.walk_ofE (l := PySem.Challenge.rw_slantways_k25_whole_turned_heaps) (n := 63) (k := 11) (x := "_law_script") (CX := L2.CX0) rfl (by decide) (by kernel_rfl) ⟨rfl, by decide, by decide⟩ ?F (fun _ _ _ _ z => z)
    intro w mg fa h Y G hmg0
    obtain ⟨K, KX, c, ht⟩ := Y
    have hmg : mg ("law" : PySem.Str) = some (.ref fa) := by
      have e : (HandSHeadRun.topDef (PySem.W.OpenLaw.row PySem.Challenge.rw_slantways_k25_whole_turned_heaps).prog 61).name = ("law" : PySem.Str) := by kernel_rfl
      rw [← e]
      exact hmg0
    obtain ⟨fd, hb, hF⟩ := Lw.all_mk (l := PySem.Challenge.rw_slantways_k25_whole_turned_heaps) (w := w) (C_Slope := Hd.Lk.C_Slope K) (C_Way := Hd.Lk.C_Way K) (C_Shelf := Hd.Lk.C_Shelf K) (C_Heap := Hd.Lk.C_Heap K) (a_is_number := Hd.Lk.a_is_number K) (a_is_whole_between := Hd.Lk.a_is_whole_between K) (a_is_ascending := Hd.Lk.a_is_ascending K) (a_Slope_init := Hd.Lk.a_Slope_init K) (a_Slope_rises := Hd.Lk.a_Slope_rises K) (p_Slope_rises := Hd.Lk.p_Slope_rises K) (a_Slope_steps := Hd.Lk.a_Slope_steps K) (p_Slope_steps := Hd.Lk.p_Slope_steps K) (a_Slope_common := Hd.Lk.a_Slope_common K) (p_Slope_common := Hd.Lk.p_Slope_common K) (a_Slope_is_coprime := Hd.Lk.a_Slope_is_coprime K) (p_Slope_is_coprime := Hd.Lk.p_Slope_is_coprime K) (a_Slope_half := Hd.Lk.a_Slope_half K) (p_Slope_half := Hd.Lk.p_Slope_half K) (a_Slope_exchanged := Hd.Lk.a_Slope_exchanged K) (a_Slope_eq := Hd.Lk.a_Slope_eq K) (a_Way_init := Hd.Lk.a_Way_init K) (a_Way_slope := Hd.Lk.a_Way_slope K) (p_Way_slope := Hd.Lk.p_Way_slope K) (a_Way_text := Hd.Lk.a_Way_text K) (p_Way_text := Hd.Lk.p_Way_text K) (a_Way_levels := Hd.Lk.a_Way_levels K) (p_Way_levels := Hd.Lk.p_Way_levels K) (a_Way_exchanged := Hd.Lk.a_Way_exchanged K) (a_Way_eq := Hd.Lk.a_Way_eq K) (a_check_slope := Hd.Lk.a_check_slope K) (a_check_way := Hd.Lk.a_check_way K) (a_check_coprime := Hd.Lk.a_check_coprime K) (a_check_coprime_way := Hd.Lk.a_check_coprime_way K) (a_letter_levels := Hd.Lk.a_letter_levels K) (a_is_word := Hd.Lk.a_is_word K) (a_is_way := Hd.Lk.a_is_way K) (a_Shelf_init := Hd.Lk.a_Shelf_init K) (ed_Shelf_init := Hd.Lk.ed_Shelf_init K) (e_Shelf_init := Hd.Lk.e_Shelf_init K) (a_Shelf_of_way := Hd.Lk.a_Shelf_of_way K) (p_Shelf_of_way := Hd.Lk.p_Shelf_of_way K) (a_Shelf_slope := Hd.Lk.a_Shelf_slope K) (p_Shelf_slope := Hd.Lk.p_Shelf_slope K) (a_Shelf_gaps := Hd.Lk.a_Shelf_gaps K) (p_Shelf_gaps := Hd.Lk.p_Shelf_gaps K) (a_Shelf_way := Hd.Lk.a_Shelf_way K) (a_Shelf_dual := Hd.Lk.a_Shelf_dual K) (a_Shelf_exchanged := Hd.Lk.a_Shelf_exchanged K) (a_Shelf_eq := Hd.Lk.a_Shelf_eq K) (a_check_shelf := Hd.Lk.a_check_shelf K) (a_way_with_rises := Hd.Lk.a_way_with_rises K) (a_least_members := Hd.Lk.a_least_members K) (a_with_more := Hd.Lk.a_with_more K) (a_sides := Hd.Lk.a_sides K) (a_members_below := Hd.Lk.a_members_below K) (a_gaps_of := Hd.Lk.a_gaps_of K) (a_is_gaps := Hd.Lk.a_is_gaps K) (a_Heap_init := Hd.Lk.a_Heap_init K) (ed_Heap_init := Hd.Lk.ed_Heap_init K) (e_Heap_init := Hd.Lk.e_Heap_init K) (a_Heap_of_first_hooks := Hd.Lk.a_Heap_of_first_hooks K) (p_Heap_of_first_hooks := Hd.Lk.p_Heap_of_first_hooks K) (a_Heap_rows := Hd.Lk.a_Heap_rows K) (p_Heap_rows := Hd.Lk.p_Heap_rows K) (a_Heap_size := Hd.Lk.a_Heap_size K) (p_Heap_size := Hd.Lk.p_Heap_size K) (a_Heap_first_hooks := Hd.Lk.a_Heap_first_hooks K) (p_Heap_first_hooks := Hd.Lk.p_Heap_first_hooks K) (a_Heap_turned := Hd.Lk.a_Heap_turned K) (a_Heap_hooks := Hd.Lk.a_Heap_hooks K) (a_Heap_len := Hd.Lk.a_Heap_len K) (a_Heap_eq := Hd.Lk.a_Heap_eq K) (a_check_heap := Hd.Lk.a_check_heap K) (a_is_heap_rows := Hd.Lk.a_is_heap_rows K) (a_rows_of_hooks := Hd.Lk.a_rows_of_hooks K) (a_heap_of := Hd.Lk.a_heap_of K) (a_shelf_of := Hd.Lk.a_shelf_of K) (a_law_dice := Hd.Lk.a_law_dice K) (a_law_roll := Hd.Lk.a_law_roll K) (a_law_slope := Hd.Lk.a_law_slope K) (a_law_way := Hd.Lk.a_law_way K) (a_law_levels := Hd.Lk.a_law_levels K) (a_law_makers := Hd.Lk.a_law_makers K) (a_law_gaps := Hd.Lk.a_law_gaps K) (a_law_squares := Hd.Lk.a_law_squares K) (a_law_rows_of := Hd.Lk.a_law_rows_of K) (a_law_turned_rows := Hd.Lk.a_law_turned_rows K) (a_law_gaps_of := Hd.Lk.a_law_gaps_of K) (a_law_dual := Hd.Lk.a_law_dual K) (a_law := Hd.Lk.a_law K) KX G hmg
        (Lw.Fk.g_Slope c)
        (Lw.Fk.g_Way c)
        (Lw.Fk.g_Shelf c)
        (Lw.Fk.g_Heap c)
        (Lw.Fk.g_is_number c)
        (Lw.Fk.l_is_number c)
        (Lw.Fk.c_is_number c)
        (Lw.Fk.k_is_number c)
        (Lw.Fk.g_is_whole_between c)
        (Lw.Fk.l_is_whole_between c)
        (Lw.Fk.c_is_whole_between c)
        (Lw.Fk.k_is_whole_between c)
        (Lw.Fk.g_is_ascending c)
        (Lw.Fk.l_is_ascending c)
        (Lw.Fk.c_is_ascending c)
        (Lw.Fk.k_is_ascending c)
        (Lw.Fk.m_Slope_init c)
        (Lw.Fk.f_Slope_init c)
        (Lw.Fk.l_Slope_init c)
        (Lw.Fk.c_Slope_init c)
        (Lw.Fk.k_Slope_init c)
        (Lw.Fk.pa_Slope_rises c)
        (Lw.Fk.pg_Slope_rises c)
        (Lw.Fk.pt_Slope_rises c)
        (Lw.Fk.pq_Slope_rises c)
        (Lw.Fk.l_Slope_rises c)
        (Lw.Fk.c_Slope_rises c)
        (Lw.Fk.k_Slope_rises c)
        (Lw.Fk.pa_Slope_steps c)
        (Lw.Fk.pg_Slope_steps c)
        (Lw.Fk.pt_Slope_steps c)
        (Lw.Fk.pq_Slope_steps c)
        (Lw.Fk.l_Slope_steps c)
        (Lw.Fk.c_Slope_steps c)
        (Lw.Fk.k_Slope_steps c)
        (Lw.Fk.pa_Slope_common c)
        (Lw.Fk.pg_Slope_common c)
        (Lw.Fk.pt_Slope_common c)
        (Lw.Fk.pq_Slope_common c)
        (Lw.Fk.l_Slope_common c)
        (Lw.Fk.c_Slope_common c)
        (Lw.Fk.k_Slope_common c)
        (Lw.Fk.pa_Slope_is_coprime c)
        (Lw.Fk.pg_Slope_is_coprime c)
        (Lw.Fk.pt_Slope_is_coprime c)
        (Lw.Fk.pq_Slope_is_coprime c)
        (Lw.Fk.l_Slope_is_coprime c)
        (Lw.Fk.c_Slope_is_coprime c)
        (Lw.Fk.k_Slope_is_coprime c)
        (Lw.Fk.pa_Slope_half c)
        (Lw.Fk.pg_Slope_half c)
        (Lw.Fk.pt_Slope_half c)
        (Lw.Fk.pq_Slope_half c)
        (Lw.Fk.l_Slope_half c)
        (Lw.Fk.c_Slope_half c)
        (Lw.Fk.k_Slope_half c)
        (Lw.Fk.m_Slope_exchanged c)
        (Lw.Fk.f_Slope_exchanged c)
        (Lw.Fk.l_Slope_exchanged c)
        (Lw.Fk.c_Slope_exchanged c)
        (Lw.Fk.k_Slope_exchanged c)
        (Lw.Fk.m_Slope_eq c)
        (Lw.Fk.f_Slope_eq c)
        (Lw.Fk.l_Slope_eq c)
        (Lw.Fk.c_Slope_eq c)
        (Lw.Fk.k_Slope_eq c)
        (Lw.Fk.m_Way_init c)
        (Lw.Fk.f_Way_init c)
        (Lw.Fk.l_Way_init c)
        (Lw.Fk.c_Way_init c)
        (Lw.Fk.k_Way_init c)
        (Lw.Fk.pa_Way_slope c)
        (Lw.Fk.pg_Way_slope c)
        (Lw.Fk.pt_Way_slope c)
        (Lw.Fk.pq_Way_slope c)
        (Lw.Fk.l_Way_slope c)
        (Lw.Fk.c_Way_slope c)
        (Lw.Fk.k_Way_slope c)
        (Lw.Fk.pa_Way_text c)
        (Lw.Fk.pg_Way_text c)
        (Lw.Fk.pt_Way_text c)
        (Lw.Fk.pq_Way_text c)
        (Lw.Fk.l_Way_text c)
        (Lw.Fk.c_Way_text c)
        (Lw.Fk.k_Way_text c)
        (Lw.Fk.pa_Way_levels c)
        (Lw.Fk.pg_Way_levels c)
        (Lw.Fk.pt_Way_levels c)
        (Lw.Fk.pq_Way_levels c)
        (Lw.Fk.l_Way_levels c)
        (Lw.Fk.c_Way_levels c)
        (Lw.Fk.k_Way_levels c)
        (Lw.Fk.m_Way_exchanged c)
        (Lw.Fk.f_Way_exchanged c)
        (Lw.Fk.l_Way_exchanged c)
        (Lw.Fk.c_Way_exchanged c)
        (Lw.Fk.k_Way_exchanged c)
        (Lw.Fk.m_Way_eq c)
        (Lw.Fk.f_Way_eq c)
        (Lw.Fk.l_Way_eq c)
        (Lw.Fk.c_Way_eq c)
        (Lw.Fk.k_Way_eq c)
        (Lw.Fk.g_check_slope c)
        (Lw.Fk.l_check_slope c)
        (Lw.Fk.c_check_slope c)
        (Lw.Fk.k_check_slope c)
        (Lw.Fk.g_check_way c)
        (Lw.Fk.l_check_way c)
        (Lw.Fk.c_check_way c)
        (Lw.Fk.k_check_way c)
        (Lw.Fk.g_check_coprime c)
        (Lw.Fk.l_check_coprime c)
        (Lw.Fk.c_check_coprime c)
        (Lw.Fk.k_check_coprime c)
        (Lw.Fk.g_check_coprime_way c)
        (Lw.Fk.l_check_coprime_way c)
        (Lw.Fk.c_check_coprime_way c)
        (Lw.Fk.k_check_coprime_way c)
        (Lw.Fk.g_letter_levels c)
        (Lw.Fk.l_letter_levels c)
        (Lw.Fk.c_letter_levels c)
        (Lw.Fk.k_letter_levels c)
        (Lw.Fk.g_is_word c)
        (Lw.Fk.l_is_word c)
        (Lw.Fk.c_is_word c)
        (Lw.Fk.k_is_word c)
        (Lw.Fk.g_is_way c)
        (Lw.Fk.l_is_way c)
        (Lw.Fk.c_is_way c)
        (Lw.Fk.k_is_way c)
        (Lw.Fk.m_Shelf_init c)
        (Lw.Fk.f_Shelf_init c)
        (Lw.Fk.l_Shelf_init c)
        (Lw.Fk.ld_Shelf_init c)
        (Lw.Fk.le_Shelf_init c)
        (Lw.Fk.c_Shelf_init c)
        (Lw.Fk.k_Shelf_init c)
        (Lw.Fk.pa_Shelf_of_way c)
        (Lw.Fk.pq_Shelf_of_way c)
        (Lw.Fk.pf_Shelf_of_way c)
        (Lw.Fk.l_Shelf_of_way c)
        (Lw.Fk.c_Shelf_of_way c)
        (Lw.Fk.k_Shelf_of_way c)
        (Lw.Fk.pa_Shelf_slope c)
        (Lw.Fk.pg_Shelf_slope c)
        (Lw.Fk.pt_Shelf_slope c)
        (Lw.Fk.pq_Shelf_slope c)
        (Lw.Fk.l_Shelf_slope c)
        (Lw.Fk.c_Shelf_slope c)
        (Lw.Fk.k_Shelf_slope c)
        (Lw.Fk.pa_Shelf_gaps c)
        (Lw.Fk.pg_Shelf_gaps c)
        (Lw.Fk.pt_Shelf_gaps c)
        (Lw.Fk.pq_Shelf_gaps c)
        (Lw.Fk.l_Shelf_gaps c)
        (Lw.Fk.c_Shelf_gaps c)
        (Lw.Fk.k_Shelf_gaps c)
        (Lw.Fk.m_Shelf_way c)
        (Lw.Fk.f_Shelf_way c)
        (Lw.Fk.l_Shelf_way c)
        (Lw.Fk.c_Shelf_way c)
        (Lw.Fk.k_Shelf_way c)
        (Lw.Fk.m_Shelf_dual c)
        (Lw.Fk.f_Shelf_dual c)
        (Lw.Fk.l_Shelf_dual c)
        (Lw.Fk.c_Shelf_dual c)
        (Lw.Fk.k_Shelf_dual c)
        (Lw.Fk.m_Shelf_exchanged c)
        (Lw.Fk.f_Shelf_exchanged c)
        (Lw.Fk.l_Shelf_exchanged c)
        (Lw.Fk.c_Shelf_exchanged c)
        (Lw.Fk.k_Shelf_exchanged c)
        (Lw.Fk.m_Shelf_eq c)
        (Lw.Fk.f_Shelf_eq c)
        (Lw.Fk.l_Shelf_eq c)
        (Lw.Fk.c_Shelf_eq c)
        (Lw.Fk.k_Shelf_eq c)
        (Lw.Fk.g_check_shelf c)
        (Lw.Fk.l_check_shelf c)
        (Lw.Fk.c_check_shelf c)
        (Lw.Fk.k_check_shelf c)
        (Lw.Fk.g_way_with_rises c)
        (Lw.Fk.l_way_with_rises c)
        (Lw.Fk.c_way_with_rises c)
        (Lw.Fk.k_way_with_rises c)
        (Lw.Fk.g_least_members c)
        (Lw.Fk.l_least_members c)
        (Lw.Fk.c_least_members c)
        (Lw.Fk.k_least_members c)
        (Lw.Fk.g_with_more c)
        (Lw.Fk.l_with_more c)
        (Lw.Fk.c_with_more c)
        (Lw.Fk.k_with_more c)
        (Lw.Fk.g_sides c)
        (Lw.Fk.l_sides c)
        (Lw.Fk.c_sides c)
        (Lw.Fk.k_sides c)
        (Lw.Fk.g_members_below c)
        (Lw.Fk.l_members_below c)
        (Lw.Fk.c_members_below c)
        (Lw.Fk.k_members_below c)
        (Lw.Fk.g_gaps_of c)
        (Lw.Fk.l_gaps_of c)
        (Lw.Fk.c_gaps_of c)
        (Lw.Fk.k_gaps_of c)
        (Lw.Fk.g_is_gaps c)
        (Lw.Fk.l_is_gaps c)
        (Lw.Fk.c_is_gaps c)
        (Lw.Fk.k_is_gaps c)
        (Lw.Fk.m_Heap_init c)
        (Lw.Fk.f_Heap_init c)
        (Lw.Fk.l_Heap_init c)
        (Lw.Fk.ld_Heap_init c)
        (Lw.Fk.le_Heap_init c)
        (Lw.Fk.c_Heap_init c)
        (Lw.Fk.k_Heap_init c)
        (Lw.Fk.pa_Heap_of_first_hooks c)
        (Lw.Fk.pq_Heap_of_first_hooks c)
        (Lw.Fk.pf_Heap_of_first_hooks c)
        (Lw.Fk.l_Heap_of_first_hooks c)
        (Lw.Fk.c_Heap_of_first_hooks c)
        (Lw.Fk.k_Heap_of_first_hooks c)
        (Lw.Fk.pa_Heap_rows c)
        (Lw.Fk.pg_Heap_rows c)
        (Lw.Fk.pt_Heap_rows c)
        (Lw.Fk.pq_Heap_rows c)
        (Lw.Fk.l_Heap_rows c)
        (Lw.Fk.c_Heap_rows c)
        (Lw.Fk.k_Heap_rows c)
        (Lw.Fk.pa_Heap_size c)
        (Lw.Fk.pg_Heap_size c)
        (Lw.Fk.pt_Heap_size c)
        (Lw.Fk.pq_Heap_size c)
        (Lw.Fk.l_Heap_size c)
        (Lw.Fk.c_Heap_size c)
        (Lw.Fk.k_Heap_size c)
        (Lw.Fk.pa_Heap_first_hooks c)
        (Lw.Fk.pg_Heap_first_hooks c)
        (Lw.Fk.pt_Heap_first_hooks c)
        (Lw.Fk.pq_Heap_first_hooks c)
        (Lw.Fk.l_Heap_first_hooks c)
        (Lw.Fk.c_Heap_first_hooks c)
        (Lw.Fk.k_Heap_first_hooks c)
        (Lw.Fk.m_Heap_turned c)
        (Lw.Fk.f_Heap_turned c)
        (Lw.Fk.l_Heap_turned c)
        (Lw.Fk.c_Heap_turned c)
        (Lw.Fk.k_Heap_turned c)
        (Lw.Fk.m_Heap_hooks c)
        (Lw.Fk.f_Heap_hooks c)
        (Lw.Fk.l_Heap_hooks c)
        (Lw.Fk.c_Heap_hooks c)
        (Lw.Fk.k_Heap_hooks c)
        (Lw.Fk.m_Heap_len c)
        (Lw.Fk.f_Heap_len c)
        (Lw.Fk.l_Heap_len c)
        (Lw.Fk.c_Heap_len c)
        (Lw.Fk.k_Heap_len c)
        (Lw.Fk.m_Heap_eq c)
        (Lw.Fk.f_Heap_eq c)
        (Lw.Fk.l_Heap_eq c)
        (Lw.Fk.c_Heap_eq c)
        (Lw.Fk.k_Heap_eq c)
        (Lw.Fk.g_check_heap c)
        (Lw.Fk.l_check_heap c)
        (Lw.Fk.c_check_heap c)
        (Lw.Fk.k_check_heap c)
        (Lw.Fk.g_is_heap_rows c)
        (Lw.Fk.l_is_heap_rows c)
        (Lw.Fk.c_is_heap_rows c)
        (Lw.Fk.k_is_heap_rows c)
        (Lw.Fk.g_rows_of_hooks c)
        (Lw.Fk.l_rows_of_hooks c)
        (Lw.Fk.c_rows_of_hooks c)
        (Lw.Fk.k_rows_of_hooks c)
        (Lw.Fk.g_heap_of c)
        (Lw.Fk.l_heap_of c)
        (Lw.Fk.c_heap_of c)
        (Lw.Fk.k_heap_of c)
        (Lw.Fk.g_shelf_of c)
        (Lw.Fk.l_shelf_of c)
        (Lw.Fk.c_shelf_of c)
        (Lw.Fk.k_shelf_of c)
        (Lw.Fk.g_law_dice c)
        (Lw.Fk.l_law_dice c)
        (Lw.Fk.c_law_dice c)
        (Lw.Fk.k_law_dice c)
        (Lw.Fk.g_law_roll c)
        (Lw.Fk.l_law_roll c)
        (Lw.Fk.c_law_roll c)
        (Lw.Fk.k_law_roll c)
        (Lw.Fk.g_law_slope c)
        (Lw.Fk.l_law_slope c)
        (Lw.Fk.c_law_slope c)
        (Lw.Fk.k_law_slope c)
        (Lw.Fk.g_law_way c)
        (Lw.Fk.l_law_way c)
        (Lw.Fk.c_law_way c)
        (Lw.Fk.k_law_way c)
        (Lw.Fk.g_law_levels c)
        (Lw.Fk.l_law_levels c)
        (Lw.Fk.c_law_levels c)
        (Lw.Fk.k_law_levels c)
        (Lw.Fk.g_law_makers c)
        (Lw.Fk.l_law_makers c)
        (Lw.Fk.c_law_makers c)
        (Lw.Fk.k_law_makers c)
        (Lw.Fk.g_law_gaps c)
        (Lw.Fk.l_law_gaps c)
        (Lw.Fk.c_law_gaps c)
        (Lw.Fk.k_law_gaps c)
        (Lw.Fk.g_law_squares c)
        (Lw.Fk.l_law_squares c)
        (Lw.Fk.c_law_squares c)
        (Lw.Fk.k_law_squares c)
        (Lw.Fk.g_law_rows_of c)
        (Lw.Fk.l_law_rows_of c)
        (Lw.Fk.c_law_rows_of c)
        (Lw.Fk.k_law_rows_of c)
        (Lw.Fk.g_law_turned_rows c)
        (Lw.Fk.l_law_turned_rows c)
        (Lw.Fk.c_law_turned_rows c)
        (Lw.Fk.k_law_turned_rows c)
        (Lw.Fk.g_law_gaps_of c)
        (Lw.Fk.l_law_gaps_of c)
        (Lw.Fk.c_law_gaps_of c)
        (Lw.Fk.k_law_gaps_of c)
        (Lw.Fk.g_law_dual c)
        (Lw.Fk.l_law_dual c)
        (Lw.Fk.c_law_dual c)
        (Lw.Fk.k_law_dual c)
        (Lw.Fk.g_law c)
        (Lw.Fk.l_law c)
        (Lw.Fk.c_law c)
        (Lw.Fk.k_law c)
        (Lw.Fk.c1_Slope c)
        (Lw.Fk.c2_Slope c)
        (Lw.Fk.c3_Slope c)
        (Lw.Fk.c4_Slope c)
        (Lw.Fk.c5_Slope c)
        (Lw.Fk.c6_Slope c)
        (Lw.Fk.na_Slope_rises c)
        (Lw.Fk.na_Slope_steps c)
        (Lw.Fk.na_Slope_common c)
        (Lw.Fk.c1_Way c)
        (Lw.Fk.c2_Way c)
        (Lw.Fk.c3_Way c)
        (Lw.Fk.c4_Way c)
        (Lw.Fk.c5_Way c)
        (Lw.Fk.c6_Way c)
        (Lw.Fk.na_Way_slope c)
        (Lw.Fk.na_Way_text c)
        (Lw.Fk.na_Way_levels c)
        (Lw.Fk.na_Way_runs c)
        (Lw.Fk.na_Way_key c)
        (Lw.Fk.c1_Shelf c)
        (Lw.Fk.c2_Shelf c)
        (Lw.Fk.c3_Shelf c)
        (Lw.Fk.c4_Shelf c)
        (Lw.Fk.c5_Shelf c)
        (Lw.Fk.c6_Shelf c)
        (Lw.Fk.rr_Shelf c)
        (Lw.Fk.rg_Shelf c)
        (Lw.Fk.na_Shelf_slope c)
        (Lw.Fk.na_Shelf_gaps c)
        (Lw.Fk.na_Shelf_gap_table c)
        (Lw.Fk.na_Shelf_rise_makers c)
        (Lw.Fk.na_Shelf_step_makers c)
        (Lw.Fk.na_Shelf_makers c)
        (Lw.Fk.c1_Heap c)
        (Lw.Fk.c2_Heap c)
        (Lw.Fk.c3_Heap c)
        (Lw.Fk.c4_Heap c)
        (Lw.Fk.c5_Heap c)
        (Lw.Fk.c6_Heap c)
        (Lw.Fk.rr_Heap c)
        (Lw.Fk.rg_Heap c)
        (Lw.Fk.na_Heap_rows c)
        (Lw.Fk.na_Heap_size c)
        (Lw.Fk.na_Heap_first_hooks c)
        (Lw.Fk.na_Heap_key c)
        (Lw.Fk.ic_Slope c)
        (Lw.Fk.mr_Slope c)
        (Lw.Fk.nn_Slope c)
        (Lw.Fk.ic_Way c)
        (Lw.Fk.mr_Way c)
        (Lw.Fk.nn_Way c)
        (Lw.Fk.ic_Shelf c)
        (Lw.Fk.mr_Shelf c)
        (Lw.Fk.nn_Shelf c)
        (Lw.Fk.ic_Heap c)
        (Lw.Fk.mr_Heap c)
        (Lw.Fk.nn_Heap c)
        (Lw.Fk.cg c)
        (Lw.Fk.ct c)
        (Lw.Fk.n_abs c)
        (Lw.Fk.n_any c)
        (Lw.Fk.n_bool c)
        (Lw.Fk.n_enumerate c)
        (Lw.Fk.n_int c)
        (Lw.Fk.n_isinstance c)
        (Lw.Fk.n_len c)
        (Lw.Fk.n_list c)
        (Lw.Fk.n_max c)
        (Lw.Fk.n_min c)
        (Lw.Fk.n_range c)
        (Lw.Fk.n_sorted c)
        (Lw.Fk.n_str c)
        (Lw.Fk.n_sum c)
        (Lw.Fk.n_tuple c)
        (Lw.Fk.n_zip c)
        (Lw.Fk.i_gcd c)
        (Lw.Fk.qc_GREATEST c)
        (Lw.Fk.qc_MAX_SIDE c)
        (Lw.Fk.qc_MAX_ROW c)
    exact ⟨K, fd, Lw.spLaw K, KX, hb, fun H a ns hl _ hS => ⟨a, ns, rfl, hS, hl, fun _ => rfl⟩, hF⟩
