import PyProof.Rows.All
import Wide.All
import OpenK.AllK
import Wide.FinOn
import PyProof.EqAt
import PyProof.EqKinds
import PyProof.TupleCall
import KE.KExcSuper
import HandS.Base
import HandS.Call
import HandS.Exc
import HandS.List
import HandS.Words
import HandS.ExcIs
import HandS.ExcField
import HandS.ExcValue
import HandS.ExcOwn
import HandS.Ends
import HandS.EndBits
import HandS.WordsExc
import KE.KExcIs
import HandS.ForMost
import HandS.Wide
import HandS.Defaults
import KE.KDictPairs
import HandS.Dict
import HandS.TupAny
import HandS.Flow
import HandS.DictComp
import HandS.More
import HandS.Style
import PySem.Challenge.RW_tugline_k20_whole_forms_and_settings
set_option Elab.async false
set_option linter.all false
set_option maxRecDepth 100000
set_option maxHeartbeats 4000000
namespace PySem
namespace TugX
open PySem.W PySem.Calls PyProof.Rows PySem.HandSPX
def iA (f : Str) (p1 p2 : Pos) : Arguments := { posonlyargs := [], args := [{ arg := "self", annotation := none, pos := p1 }, { arg := f, annotation := none, pos := p2 }], vararg := none, kwonlyargs := [], kw_defaults := [], kwarg := none, defaults := [] }
def iB (f m : Str) (j : Nat) (q0 q1 q2 q3 q4 q5 q6 q7 q8 q9 : Pos) : List Stmt :=
  [.Expr (.Call (.Attribute (.Call (.Name "super" q0) [] [] q1) "__init__" q2) [.Constant (.str m) j q3] [] q4) q5,
   .Assign [.Attribute (.Name "self" q6) f q7] (.Name f q8) q9]
def iS (f : Str) : Scope := { kind := .function, names := [(PySem.Str.ofString "self", .local), (f, .local), (PySem.Str.ofString "__class__", .free), (PySem.Str.ofString "super", .globalImplicit)], isGenerator := false, isCoroutine := false, more := [] }
/-- what is known of an own exception class: x its name, f its field, m its text, T the base that is caught -/
structure XTxt (P : Program) (K : Frag) (mg : Str → Option Value) (x f m qual : Str) (C fI cc cda : Addr) : Prop where
  gC : mg x = some (.ref C)
  cls : ∃ nm q N bs bm sn sub ab col dd k0 k1 k2 k3 k5, K.lookup C = some (excClassObj nm q C N bs bm true sn sub ab col dd k0 k1 k2 k3 k5 "ValueError.__new__") ∧ refsVE bm = true
  sa : findIn K (.ref C) "__setattr__" = some (some (.builtin "object.__setattr__"))
  ga : findIn K (.ref C) "__getattribute__" = some (some (.builtin "BaseException.__getattribute__"))
  gg : findIn K (.ref C) "__getattr__" = some none
  noN : findIn K (.ref C) f = some none
  iC : findIn K (.ref C) "__init__" = some (some (.ref fI))
  tC : typeIn K (.ref fI) = some (.type "function")
  kC : keepIn K (.ref C) = true
  exC : subIn K (.ref C) (.type "BaseException") = some true
  veC : subIn K (.ref C) (.type "ValueError") = some true
  tyC : typeIn K (.ref C) = some (.type "type")
  hdC : hasDictIn K C = true
  fn : ∃ (oc : Value) (od : Option Addr) (doc pm ct : Value) (an : Option Addr) (osl : Array (Option Value)) (j : Nat) (p1 p2 q0 q1 q2 q3 q4 q5 q6 q7 q8 q9 : Pos),
    K.lookup fI = some ⟨oc, od, .func (ksFn "__init__" qual (iA f p1 p2) (iB f m j q0 q1 q2 q3 q4 q5 q6 q7 q8 q9) (iS f) .none .none doc pm an (.ref cda) ct cc), osl⟩ ∧ codeIn K (.ref cda) qual = true ∧ (q2.endLine == q4.line) = true
  code : ∃ (c : Value) (dd : Option Addr) (vs : Array Value) (sl : Array (Option Value)) (file : Str) (tf : Tok), K.lookup cda = some ⟨c, dd, .fields vs, sl⟩ ∧ vs[2]? = some (.str file tf) ∧ ((P.main.file : Str) == file) = true
  cell : ∃ (c : Value) (dd : Option Addr) (sl : Array (Option Value)), K.lookup cc = some ⟨c, dd, .cell (some (.ref C)), sl⟩
  gS : mg "super" = none
  opq : nsIn K cStatics "thirdparty.any" = some none
  sup : ks_superIn K C C "__init__" = some (some (.builtin "ValueError.__init__"))
  top : (P.main.scope.names.lookup ("super" : Str)).isSome = false
  lkf : (iS f).names.lookup f = some .local
  lks : (iS f).names.lookup ("super" : Str) = some .globalImplicit
  lkc : (iS f).names.lookup ("__class__" : Str) = some .free
  nself : (f == ("self" : Str)) = false
  ndbg : (f == ("__debug__" : Str)) = false
  bnd : ∀ (doc pm ct cdv : Value) (an : Option Addr) (p1 p2 : Pos) (body : List Stmt) (sc : Scope) (u v : Value), bindArgs (ksFn "__init__" qual (iA f p1 p2) body sc .none .none doc pm an cdv ct cc) ⟨[u, v], []⟩ = pure ([("self", u), (f, v)] : List (Str × Value))
  bndk : ∀ (doc pm ct cdv : Value) (an : Option Addr) (p1 p2 : Pos) (body : List Stmt) (sc : Scope) (u v : Value), bindArgs (ksFn "__init__" qual (iA f p1 p2) body sc .none .none doc pm an cdv ct cc) ⟨[u], [(f, v)]⟩ = pure ([("self", u), (f, v)] : List (Str × Value))
/-- what __init__ leaves of a fresh exception at x -/
structure InitEnd (f : Str) (h h' : Heap) (x C dx t1 : Addr) (v : Value) : Prop where
  keep : ∀ b o, b ≠ x → h.get? b = some o → h'.get? b = some o
  obj : h'.get? x = some { cls := .ref C, dict := some dx, data := .fields #[.ref t1, .none, .none, .none, .bool false, .none] }
  dbig : h.objs.size ≤ dx
  dne : dx ≠ x
  ns : h'.Ns1 dx (fun y => if y = f then some v else none)
section
variable {prog : Program} {w : World} {A : Around} {E : Value → Shared → Prop} {R : Result → Shared → Prop} {s : Shared} {K : Frag} {mg mb : Str → Option Value} {C fI cc cda : Addr} {n f m qual : Str}
theorem x_init (T : XTxt prog K mg n f m qual C fI cc cda) {x t0 : Addr} {v : Value} {args : Args} (X : K.In s.heap) (hg : s.heap.Ns mainGlobals mg) (hb : s.heap.Ns builtinsNs mb) (hbv : ∀ x : Str, x ≠ "__name__" → mb x = bootBuiltins x) (hlim : s.heap.NoLimit)
    (hx : s.heap.get? x = some (excO C t0)) (hnx : K.lookup x = none) (hroom : A.depth < recursionLimit)
    (hbind : ∀ (doc pm ct : Value) (an : Option Addr) (p1 p2 : Pos) (body : List Stmt) (sc : Scope), BindsTo s (ksFn "__init__" qual (iA f p1 p2) body sc .none .none doc pm an (.ref cda) ct cc) args [("self", .ref x), (f, v)])
    (hq : ∀ h' tk dx t1, InitEnd f s.heap h' x C dx t1 v → R (.ok (.ret .none)) { s with heap := h', toks := tk }) :
    codeAny (model prog w) A (.call (.ref fI) args) R s := by
  obtain ⟨oc, od, doc, pm, ct, an, osl, j, p1, p2, q0, q1, q2, q3, q4, q5, q6, q7, q8, q9, ho, hcd, hln⟩ := T.fn
  obtain ⟨nm, q, N, bs, bm, sn, sub, ab, col, dd, k0, k1, k2, k3, k5, hC, hbm⟩ := T.cls
  obtain ⟨c1, dd1, vs, sl1, file, tf, hcode, hvs, hfile⟩ := T.code
  obtain ⟨c2, dd2, sl2, hcell⟩ := T.cell
  have hcl : clsIn K C = some { name := nm, bases := bs, mro := .ref C :: bm, ns := N, qualname := q, hasDict := true, slotNames := sn, subclasses := sub, abstract := ab, collection := col, hasDel := false } := by unfold clsIn; rw [hC] <;> rfl
  refine ks_codeAny_call_defAt (fd := ksFn "__init__" qual (iA f p1 p2) (iB f m j q0 q1 q2 q3 q4 q5 q6 q7 q8 q9) (iS f) .none .none doc pm an (.ref cda) ct cc) (body := iB f m j q0 q1 q2 q3 q4 q5 q6 q7 q8 q9) (binds := [("self", .ref x), (f, v)]) hroom (X _ _ ho) rfl hlim (codeRec_of X hcd) rfl (hbind _ _ _ _ _ _ _ _) ?_ ?_ (fun h₁ hns hk₁ => ?_) rfl rfl rfl
  · intro y hy
    have hy' : y ∈ [(PySem.Str.ofString "self", NameKind.local), (f, .local), (PySem.Str.ofString "__class__", .free), (PySem.Str.ofString "super", .globalImplicit)] := hy
    rcases List.mem_cons.mp hy' with rfl | hy'
    · exact (fun z => nomatch z)
    rcases List.mem_cons.mp hy' with rfl | hy'
    · exact (fun z => nomatch z)
    rcases List.mem_cons.mp hy' with rfl | hy'
    · exact (fun z => nomatch z)
    rcases List.mem_cons.mp hy' with rfl | hy'
    · exact (fun z => nomatch z)
    · cases hy'
  · intro y hy
    rcases List.mem_cons.mp hy with rfl | hy
    · rfl
    rcases List.mem_cons.mp hy with rfl | hy
    · exact T.lkf
    · cases hy
  have X₁ : K.In h₁ := X.keeps hk₁
  have hg₁ := hg.keeps hk₁
  have hb₁ := hb.keeps hk₁
  have hx₁ := hk₁ _ _ hx
  have hC₁ := X₁ _ _ hC
  have nxC : x ≠ C := fun z => by
    rw [z, hC₁] at hx₁
    cases hx₁
  have I₁ : InstAt h₁ x (excO C t0) C none := ⟨hx₁, rfl, rfl, trivial⟩
  show _root_.PySem.wpAt (model prog w) (A.deeper (ksEnv qual (iS f) s.heap.objs.size fI (.ref cda) cc)) (.func (iB f m j q0 q1 q2 q3 q4 q5 q6 q7 q8 q9) (ksEnv qual (iS f) s.heap.objs.size fI (.ref cda) cc)) (execs (iB f m j q0 q1 q2 q3 q4 q5 q6 q7 q8 q9) (ksEnv qual (iS f) s.heap.objs.size fI (.ref cda) cc)) _ _ _
  obtain ⟨env, henv⟩ : ∃ env, env = ksEnv qual (iS f) s.heap.objs.size fI (.ref cda) cc := ⟨_, rfl⟩
  have he : eval (.Call (.Attribute (.Call (.Name "super" q0) [] [] q1) "__init__" q2) [.Constant (.str m) j q3] [] q4) env = (do
      let ov ← attributeBase (.Call (.Name "super" q0) [] [] q1) "__init__" env (eval (.Call (.Name "super" q0) [] [] q1) env)
      standAt q2.atName
      let (f, first) ← holding [ov] (getMethod ov "__init__" (do return (← importBound (.Call (.Name "super" q0) [] [] q1) env).getD true))
      callWith q4 f first (backTo q4 (starEach [.Constant (.str m) j q3] env)) []) := by
    rw [arm_eval_Call]
    have hform : methodCallForm (([.Constant (.str m) j q3] : List Expr).length + ([] : List Keyword).length) (backTo q4 (starEach [.Constant (.str m) j q3] env)) (backToKw q4 (keywordEach [] env)) = true := by rfl
    have hpos : methodCallPos true (.Call (.Name "super" q0) [] [] q1) env q2 q4 = pure q4 := by unfold methodCallPos; simp [hln]
    unfold methodCall
    rw [hform, hpos]
    simp only [pure_bind]
    rfl
  rw [← henv]
  refine ks_wpAt_execs_cons (ks_wpAt_Expr_any (ks_wpAt_MethodCall ?_ he) (by rw [henv]; rfl) (by rw [henv]; rfl))
  rw [henv]
  refine ks_wpAt_super_base (env := ksEnv qual (iS f) s.heap.objs.size fI (.ref cda) cc) T.lks T.lkc (by decide) rfl (X₁ _ _ ho) rfl (ar := { arg := "self", annotation := none, pos := p1 }) rfl rfl (X₁ _ _ hcode) rfl hvs hfile T.top ?_
  have hself : (iS f).names.lookup ("self" : Str) = some .local := rfl
  refine ks_loadName_global (env := ksEnv qual (iS f) s.heap.objs.size fI (.ref cda) cc) rfl T.lks (loadGlobal_builtin (env := ksEnv qual (iS f) s.heap.objs.size fI (.ref cda) cc) hg₁ T.gS hb₁ ((hbv "super" (by decide)).trans (by first | rfl | kernel_rfl)) ⟨rfl, ?_⟩)
  refine wpAny_loadName_free (env := ksEnv qual (iS f) s.heap.objs.size fI (.ref cda) cc) rfl T.lkc rfl ⟨_, X₁ _ _ hcell, rfl⟩ ?_
  have vself : ([(("self" : Str), Value.ref x), (f, v)] : List (Str × Value)).reverse.lookup ("self" : Str) = some (.ref x) := by
    show List.lookup ("self" : Str) [(f, v), (("self" : Str), Value.ref x)] = _
    have e : (("self" : Str) == f) = false := by
      rw [Bool.beq_comm]; exact T.nself
    simp [List.lookup, e]
  have vf : ([(("self" : Str), Value.ref x), (f, v)] : List (Str × Value)).reverse.lookup f = some v := by
    show List.lookup f [(f, v), (("self" : Str), Value.ref x)] = _
    simp [List.lookup]
  refine wpAny_loadName_local (env := ksEnv qual (iS f) s.heap.objs.size fI (.ref cda) cc) rfl hself hns vself ?_
  refine ks_wpAny_isType_cls hC₁ rfl ⟨rfl, ?_⟩
  have hsubC : mroIn K C (.ref C) = some true := by
    unfold mroIn
    rw [hcl, Option.bind_some, if_neg (by simp)]
    simp
  refine ks_wpAny_call_super hC₁ rfl hx₁ rfl (fun c e => nomatch e) (looks_mroIn X₁ hsubC) (fun h₂ hso k₂ => ?_)
  have X₂ : K.In h₂ := X₁.keeps k₂
  have hx₂ := k₂ _ _ hx₁
  have hC₂ := X₂ _ _ hC
  have I₂ : InstAt h₂ x (excO C t0) C none := ⟨hx₂, rfl, rfl, trivial⟩
  have hsup : alongIn K "__init__" (((Value.ref C :: bm).dropWhile (· != .ref C)).drop 1) = some (some (.builtin "ValueError.__init__")) := by
    have z := T.sup
    unfold ks_superIn at z
    rw [hcl] at z
    exact z
  refine kxs_getMethod kxs_ValueError hso (looks_opaque X₂ T.opq) (l₀ := .ref C :: bm) ?_ rfl X₂ hsup (I₂.type.andThen (looks_subIn X₂ T.veC)) nxC (by decide) ?_
  · exact (looks_clsIn X₂ hcl).andThen .now
  have hu : (h₂.push (kxs_mw "ValueError.__init__" x)).get? h₂.objs.size = some (kxs_mw "ValueError.__init__" x) := Heap.get?_push_at rfl rfl
  have k₃ : ∀ b o, h₂.get? b = some o → (h₂.push (kxs_mw "ValueError.__init__" x)).get? b = some o := fun b o e => Heap.get?_push_of_some _ e
  have hx₃ := k₃ _ _ hx₂
  have hC₃ := k₃ _ _ hC₂
  have hes : starEach [.Constant (.str m) j q3] (ksEnv qual (iS f) s.heap.objs.size fI (.ref cda) cc) = (false, eval (.Constant (.str m) j q3) (ksEnv qual (iS f) s.heap.objs.size fI (.ref cda) cc)) :: starEach [] (ksEnv qual (iS f) s.heap.objs.size fI (.ref cda) cc) := by rfl
  rw [hes]
  show wpAny (model prog w) _ (callWith q4 (.ref h₂.objs.size) [] (backTo q4 ((false, eval (.Constant (.str m) j q3) (ksEnv qual (iS f) s.heap.objs.size fI (.ref cda) cc)) :: starEach [] (ksEnv qual (iS f) s.heap.objs.size fI (.ref cda) cc))) []) _ _ _
  refine kxs_callWith (i := "ValueError.__init__") (x := x) (by rfl) ?_
  refine evalArgs_plain ?_
  show wpAny (model prog w) _ (spliced ((false, eval (.Constant (.str m) j q3) (ksEnv qual (iS f) s.heap.objs.size fI (.ref cda) cc)) :: backTo q4 (starEach [] (ksEnv qual (iS f) s.heap.objs.size fI (.ref cda) cc)))) _ _ _
  refine Calls.spliced_cons (Calls.Constant_str ?_)
  refine Calls.spliced_nil ⟨hu, ?_⟩
  show wpAny (model prog w) _ (call (.ref h₂.objs.size) [.str m _]) _ _ _
  refine wpAny_call (codeAny_of_tree ?_)
  show wpAny _ _ (callAny (.ref h₂.objs.size) ⟨[.str m _], []⟩) _ _ _
  simp only [callAny]
  refine wpAny_bind (wpAny_load hu ?_)
  simp only [kxs_mw, show (Value.type "method-wrapper" == Value.type "method" || Value.type "method-wrapper" == Value.type "builtin_function_or_method" || Value.type "method-wrapper" == Value.type "method-wrapper") = true by decide, if_true]
  refine KFB.if_so (by decide) ?_
  refine wpAny_bind (check_bound_init F.excBase_ValueError.toExcCallFacts hC₃ hx₃ rfl ?_)
  refine wpAny_bind (wpAny_pure (wpAny_pure ?_))
  refine ⟨plainId_quiet F.excBase_ValueError.init.plain _, codeAny_builtin F.excBase_ValueError.initEntry ?_⟩
  refine exc_init_tree (cls := .ref C) (t0 := t0) (dv := none) (c2 := .none) (c3 := .none) (b4 := .bool false) hx₃ (by show 1 ≤ sizeLine; rw [sizeLine_eq]; omega) (fun h₄ k₄ hx₄ _ => ?_)
  -- self.f = f
  have kk : ∀ b o, b ≠ x → h₁.get? b = some o → h₄.get? b = some o := fun b o hb e => k₄ b o hb (k₃ _ _ (k₂ _ _ e))
  have gone : ∀ b o, s.heap.get? b = some o → h₁.get? b = some o := hk₁
  have hns₄ : h₄.Ns s.heap.objs.size (fun y => ([(("self" : Str), Value.ref x), (f, v)] : List (Str × Value)).reverse.lookup y) := by
    obtain ⟨oL, es, ep, hL, r⟩ := hns
    refine ⟨oL, es, ep, kk _ _ ?_ hL, r⟩
    exact Nat.ne_of_gt (Heap.lt_size hx)
  have hx4 : h₄.get? x = some (excO C (h₂.push (kxs_mw "ValueError.__init__" x)).objs.size) := hx₄
  have X₄ : K.In h₄ := fun a o e => kk a o (fun z => by
    rw [z, hnx] at e
    cases e) (X₁ a o e)
  refine wpAt_of_wpAny (wpAny_execs_cons (plainObj_wpAny_Assign_Attribute ?_))
  have hf' : (ksEnv qual (iS f) s.heap.objs.size fI (.ref cda) cc).kindOf f = some .local := T.lkf
  refine wpAny_Name (wpAny_loadName_local (env := ksEnv qual (iS f) s.heap.objs.size fI (.ref cda) cc) rfl hf' hns₄ vf ?_) T.ndbg
  refine wpAny_Name (wpAny_loadName_local (env := ksEnv qual (iS f) s.heap.objs.size fI (.ref cda) cc) rfl hself hns₄ vself ?_) (by decide)
  refine set_plain X₄ (ox := excO C (h₂.push (kxs_mw "ValueError.__init__" x)).objs.size) (od := none) ⟨hx4, rfl, rfl, trivial⟩ T.sa ?_
  refine exc_osa X₄ hx4 hcl (show refsVE (.ref C :: bm) = true from hbm) rfl T.noN (fun h₅ tk₅ dx k₅ dn dne hx₅ hn₅ => ?_)
  show wpAny _ _ (execs _ _) _ _ _
  have z4 : s.heap.objs.size ≤ h₄.objs.size := by
    have q := Heap.lt_size hx4
    obtain ⟨oL, es, ep, hL, r⟩ := hns₄
    exact Nat.le_of_lt (Heap.lt_size hL)
  exact wpAny_execs_nil (hq h₅ tk₅ dx _ ⟨fun b o hb e => k₅ b o hb (kk b o hb (hk₁ b o e)), hx₅, Nat.le_trans z4 dn, dne, hn₅⟩)
/-- a made one: its object at e, its own dict at d -/
structure Made (f : Str) (h h' : Heap) (e C d : Addr) (v : Value) : Prop where
  keep : ∀ b o, h.get? b = some o → h'.get? b = some o
  new : h.objs.size ≤ e
  obj : ∃ oe vs, h'.get? e = some oe ∧ oe.cls = .ref C ∧ oe.dict = some d ∧ oe.data = .fields vs ∧ vs[1]? = some .none
  dbig : h.objs.size ≤ d
  dne : d ≠ e
  ns : h'.Ns1 d (fun y => if y = f then some v else none)
theorem one_size (v : Value) : [v].length ≤ sizeLine := by
  rw [sizeLine_eq]
  exact (by decide : 1 ≤ 16777216)
theorem fresh_K {h : Heap} (X : K.In h) {a : Addr} (ha : h.objs.size ≤ a) : K.lookup a = none := by
  cases e : K.lookup a with
  | none => rfl
  | some o => exact absurd (Nat.lt_of_lt_of_le (Heap.lt_size (X _ _ e)) ha) (Nat.lt_irrefl _)
section
variable {h : Heap} {g : Array GenState} {d : Drawn} {t : Nat} {os : OsState} {M : Model}
variable {nm q : Str} {N : Addr} {bs bm bmB : List Value} {hdct : Bool} {sn : List Str} {sub : List Value} {ab : Bool} {col : Option Bool} {dd : Option Addr} {k0 k1 k2 k3 k5 : Option Value} {B newId initId : String}
theorem check_new_kw (F : ExcBaseFacts B newId initId bmB) (hT : ∀ X : String, bm.contains (.type X) = bmB.contains (.type X)) {rest : List Value} {kw : List (Str × Value)} {Q : Unit → Shared → Prop}
    (hC : h.get? C = some (excClassObj nm q C N bs bm hdct sn sub ab col dd k0 k1 k2 k3 k5 newId)) (hq : Q () ⟨h, g, d, t, os⟩) : wpAny M A (checkBuiltinCall newId ⟨.ref C :: rest, kw⟩) Q E ⟨h, g, d, t, os⟩ := by
  have hcont : (Value.ref C :: bm).contains (.type B) = true := by rw [List.contains_cons, hT, F.hasB, Bool.or_true]
  have hstar := F.noStar
  simp only [checkBuiltinCall, F.newKind, F.newSplit, F.newRow]
  repeat (first | refine wpAny_loadPart_at hC ?_ | (refine wpAny_isSubtype_exc hC ?_; rw [hcont]) | refine wpAny_staticBase_exc hC ?_ | refine wpAny_madeBy_exc hC ?_ | simp only [bne_self_eq_false, Bool.false_eq_true, if_false] | wp_step)
  exact hq
theorem new_kw (F : ExcBaseFacts B newId initId bmB) (hT : ∀ X : String, bm.contains (.type X) = bmB.contains (.type X)) {rest : List Value} {kw : List (Str × Value)}
    (hC : h.get? C = some (excClassObj nm q C N bs bm hdct sn sub ab col dd k0 k1 k2 k3 k5 newId))
    (hq : R (.ok (.ret (.ref (h.objs.size + 1)))) ⟨(h.push { cls := .type "tuple", data := .seq rest.toArray }).push
      { cls := .ref C, data := .fields #[.ref h.objs.size, .none, .none, .none, .bool false, .none] }, g, d, t, os⟩) (hrest : rest.length ≤ sizeLine) :
    codeAny (model prog w) A (.builtin newId ⟨.ref C :: rest, kw⟩) R ⟨h, g, d, t, os⟩ := by
  have hends := F.ends
  have hcB : (Value.ref C :: bm).contains (.type B) = true := by rw [List.contains_cons, hT, F.hasB, Bool.or_true]
  have hcA : (Value.ref C :: bm).contains (.type "AttributeError") = false := by rw [List.contains_cons, hT, F.noAttr]; rfl
  have hcN : (Value.ref C :: bm).contains (.type "NameError") = false := by rw [List.contains_cons, hT, F.noName]; rfl
  refine codeAny_builtinAt F.entry ?_
  unfold Builtin.«BaseException.__new__»
  refine wpAt_bind ?_
  show wpAt _ _ _ (stack >>= _) _ _ _
  refine wpAt_bind (wpAt_stack fun p below => wpAt_of_wpAny ?_)
  wp_walk
  refine wpAt_of_wpAny ?_
  rw [F.owner]
  repeat (first | with_reducible refine wpAny_madeHere_exc F.canon hC ?_ | with_reducible refine wpAny_loadPart_at hC ?_ | (with_reducible refine wpAny_isSubtype_exc hC ?_; first | rw [hcB] | rw [hcA] | rw [hcN]) | wp_step)
  show R _ _
  rw [Heap.size_push]
  exact hq
theorem type_call_kw (F : ExcBaseFacts B newId initId bmB) (hT : ∀ X : String, bm.contains (.type X) = bmB.contains (.type X)) {rest : List Value} {kw : List (Str × Value)} {Q : PySem.Fin → Shared → Prop}
    (hC : h.get? C = some (excClassObj nm q C N bs bm hdct sn sub ab col dd k0 k1 k2 k3 k5 newId))
    (hi : W.Looks (model prog w) h (typeLookup (.ref C) "__init__") (some (.ref fI))) (hb : ∀ self, W.Looks (model prog w) h (bindSpecial (.ref fI) self) (.ref fI, [self])) (hrest : rest.length ≤ sizeLine)
    (hq : codeAny (model prog w) A (.call (.ref fI) ⟨.ref (h.objs.size + 1) :: rest, kw⟩)
      (fun r s' => match r with | .ok (.ret v) => v = .none ∧ Q (.done (.ret (.ref (h.objs.size + 1)))) s' | .ok _ => False | .error e => E e s')
      ⟨(h.push (W.kdv_tup rest)).push (excO C h.objs.size), g, d, t, os⟩) :
    wpAny (model prog w) A (Builtin.«type.__call__» ⟨.ref C :: rest, kw⟩) Q E ⟨h, g, d, t, os⟩ := by
  repeat (first | with_reducible refine wpAny_loadPart_at hC ?_ | with_reducible refine wpAny_madeBy_exc hC ?_ | wp_step)
  refine codeAny_call_builtin_code (Code.quiet_builtin _ F.quiet) (check_new_kw F hT hC ?_)
  refine new_kw F hT hC ?_ hrest
  show wpAny _ _ _ _ _ _
  have k : ∀ b o, h.get? b = some o → ((h.push (W.kdv_tup rest)).push (excO C h.objs.size)).get? b = some o := fun b o e => Heap.get?_push_of_some _ (Heap.get?_push_of_some _ e)
  have hC₁ := k _ _ hC
  have hget : ((h.push (W.kdv_tup rest)).push (excO C h.objs.size)).get? (h.objs.size + 1) = some (excO C h.objs.size) := by heap_get
  have hcC : (Value.ref C :: bm).contains (.ref C) = true := by simp
  have i1 := hi.keeps k
  have b1 := (hb (.ref (h.objs.size + 1))).keeps k
  unfold isInstance
  repeat (first | with_reducible refine wpAny_loadPart_at hget ?_ | (with_reducible refine wpAny_isSubtype_exc hC₁ ?_; rw [hcC]) | wp_step)
  show wpAny _ _ (typeLookup (.ref C) _) _ _ _
  refine i1.at ?_
  refine wpAny_holding (wpAny_bind (b1.at ?_))
  refine wpAny_bind (wpAny_call (codeAny_mono hq fun r s' z => ?_))
  rcases r with e | (v | _ | _ | _) <;> first | exact z | exact z.elim | skip
  obtain ⟨rfl, z⟩ := z
  first
    | exact wpAny_pure (wpAny_pure z)
    | (wp_walk; exact z)
theorem check_tc_kw {rest : List Value} {kw : List (Str × Value)} {Q : Unit → Shared → Prop} (hC : h.get? C = some (excClassObj nm q C N bs bm hdct sn sub ab col dd k0 k1 k2 k3 k5 newId))
    (hq : Q () ⟨h, g, d, t, os⟩) : wpAny M A (checkBuiltinCall "type.__call__" ⟨.ref C :: rest, kw⟩) Q E ⟨h, g, d, t, os⟩ := by
  have f3 := tc_sub
  have hT : (⟨h, g, d, t, os⟩ : Shared).TypeIs (.ref C) "type" := ⟨_, hC, rfl⟩
  simp only [checkBuiltinCall, tc_kind, tc_split]
  repeat (any_goals (first | assumption | with_reducible refine wpAny_loadPart_at hC ?_ | with_reducible refine wpAny_onRaise ?_ | with_reducible refine wpAny_map ?_ | wp_step))
theorem call_kw (F : ExcBaseFacts B newId initId bmB) (hT : ∀ X : String, bm.contains (.type X) = bmB.contains (.type X)) {rest : List Value} {kw : List (Str × Value)}
    (hC : h.get? C = some (excClassObj nm q C N bs bm hdct sn sub ab col dd k0 k1 k2 k3 k5 newId))
    (hi : W.Looks (model prog w) h (typeLookup (.ref C) "__init__") (some (.ref fI))) (hb : ∀ self, W.Looks (model prog w) h (bindSpecial (.ref fI) self) (.ref fI, [self])) (hrest : rest.length ≤ sizeLine)
    (hq : codeAny (model prog w) (A.under (.builtin "type.__call__" ⟨.ref C :: rest, kw⟩)) (.call (.ref fI) ⟨.ref (h.objs.size + 1) :: rest, kw⟩) (W.InitBack (h.objs.size + 1) R)
      ⟨(h.push (W.kdv_tup rest)).push (excO C h.objs.size), g, d, t, os⟩) :
    codeAny (model prog w) A (.call (.ref C) ⟨rest, kw⟩) R ⟨h, g, d, t, os⟩ := by
  have f1 := tc_lookup
  have f2 := tc_bind (.ref C)
  have hTy : (⟨h, g, d, t, os⟩ : Shared).TypeIs (.ref C) "type" := ⟨_, hC, rfl⟩
  refine codeAny_of_tree ?_
  show wpAny _ _ (callAny (.ref C) _) _ _ _
  repeat (any_goals (first | assumption | with_reducible refine wpAny_loadPart_at hC ?_ | wp_step))
  refine ⟨rfl, ?_⟩
  refine codeAny_call_builtin_at (Code.quiet_builtin _ (by decide +kernel)) entry_typeCall (check_tc_kw hC (type_call_kw F hT hC hi hb hrest ?_))
  refine codeAny_mono hq fun r s' z => ?_
  rcases r with e | (v | _ | _ | _) <;> exact z
end
theorem x_made_kw (T : XTxt prog K mg n f m qual C fI cc cda) {v : Value} (X : K.In s.heap) (hg : s.heap.Ns mainGlobals mg) (hb : s.heap.Ns builtinsNs mb) (hbv : ∀ x : Str, x ≠ "__name__" → mb x = bootBuiltins x) (hlim : s.heap.NoLimit) (hroom : A.depth + 1 < recursionLimit)
    (hq : ∀ h' tk e d, Made f s.heap h' e C d v → R (.ok (.ret (.ref e))) { s with heap := h', toks := tk }) :
    codeAny (model prog w) A (.call (.ref C) ⟨[], [(f, v)]⟩) R s := by
  obtain ⟨nm, q, N, bs, bm, sn, sub, ab, col, dd, k0, k1, k2, k3, k5, hC, hbm⟩ := T.cls
  obtain ⟨hp, g, dr, tk, os⟩ := s
  have k : ∀ b o, hp.get? b = some o → ((hp.push (kdv_tup [])).push (excO C hp.objs.size)).get? b = some o := fun b o e => Heap.get?_push_of_some _ (Heap.get?_push_of_some _ e)
  have hget : ((hp.push (kdv_tup [])).push (excO C hp.objs.size)).get? (hp.objs.size + 1) = some (excO C hp.objs.size) := by heap_get
  refine call_kw F.excBase_ValueError (fun X => refsVE_contains X bm hbm) (X _ _ hC) (looks_findIn X T.iC) (fun self => bind_fn X self T.tC) (Nat.zero_le _) ?_
  refine x_init (v := v) (s := ⟨(hp.push (kdv_tup [])).push (excO C hp.objs.size), g, dr, tk, os⟩) T (X.keeps k) (hg.keeps k) (hb.keeps k) hbv (hlim.keeps k) hget (fresh_K X (Nat.le_succ _)) ?_ (fun _ _ _ _ _ _ _ _ => BindsTo.of_eq (T.bndk _ _ _ _ _ _ _ _ _ _ _)) fun h' tk' dx t1 ⟨k', hx, dn, dne, hns⟩ => ?_
  · show A.depth + 1 < recursionLimit
    exact hroom
  · have old : ∀ b o, hp.get? b = some o → h'.get? b = some o := fun b o e => k' b o (Nat.ne_of_lt (Nat.lt_succ_of_lt (Heap.lt_size e))) (k b o e)
    have z : hp.objs.size + 1 + 1 ≤ dx := by
      first
        | (simpa only [Heap.size_push] using dn)
        | exact dn
        | (have q := dn; rw [Heap.size_push, Heap.size_push] at q; exact q)
    exact ⟨rfl, hq h' tk' (hp.objs.size + 1) dx ⟨old, Nat.le_succ _, ⟨_, _, hx, rfl, rfl, rfl, rfl⟩, Nat.le_trans (Nat.le_trans (Nat.le_succ _) (Nat.le_succ _)) z, dne, hns⟩⟩
theorem x_made (T : XTxt prog K mg n f m qual C fI cc cda) {v : Value} (X : K.In s.heap) (hg : s.heap.Ns mainGlobals mg) (hb : s.heap.Ns builtinsNs mb) (hbv : ∀ x : Str, x ≠ "__name__" → mb x = bootBuiltins x) (hlim : s.heap.NoLimit) (hroom : A.depth + 1 < recursionLimit)
    (hq : ∀ h' tk e d, Made f s.heap h' e C d v → R (.ok (.ret (.ref e))) { s with heap := h', toks := tk }) :
    codeAny (model prog w) A (.call (.ref C) ⟨[v], []⟩) R s := by
  obtain ⟨nm, q, N, bs, bm, sn, sub, ab, col, dd, k0, k1, k2, k3, k5, hC, hbm⟩ := T.cls
  obtain ⟨hp, g, dr, tk, os⟩ := s
  have k : ∀ b o, hp.get? b = some o → ((hp.push (kdv_tup [v])).push (excO C hp.objs.size)).get? b = some o := fun b o e => Heap.get?_push_of_some _ (Heap.get?_push_of_some _ e)
  have hget : ((hp.push (kdv_tup [v])).push (excO C hp.objs.size)).get? (hp.objs.size + 1) = some (excO C hp.objs.size) := by heap_get
  refine call_own F.excBase_ValueError (fun X => refsVE_contains X bm hbm) (X _ _ hC) (looks_findIn X T.iC) (fun self => bind_fn X self T.tC) (one_size v) ?_
  refine x_init (v := v) (s := ⟨(hp.push (kdv_tup [v])).push (excO C hp.objs.size), g, dr, tk, os⟩) T (X.keeps k) (hg.keeps k) (hb.keeps k) hbv (hlim.keeps k) hget (fresh_K X (Nat.le_succ _)) ?_ (fun _ _ _ _ _ _ _ _ => BindsTo.of_eq (T.bnd _ _ _ _ _ _ _ _ _ _ _)) fun h' tk' dx t1 ⟨k', hx, dn, dne, hns⟩ => ?_
  · show A.depth + 1 < recursionLimit
    exact hroom
  · have old : ∀ b o, hp.get? b = some o → h'.get? b = some o := fun b o e => k' b o (Nat.ne_of_lt (Nat.lt_succ_of_lt (Heap.lt_size e))) (k b o e)
    have z : hp.objs.size + 1 + 1 ≤ dx := by
      first
        | (simpa only [Heap.size_push] using dn)
        | exact dn
        | (have q := dn; rw [Heap.size_push, Heap.size_push] at q; exact q)
    exact ⟨rfl, hq h' tk' (hp.objs.size + 1) dx ⟨old, Nat.le_succ _, ⟨_, _, hx, rfl, rfl, rfl, rfl⟩, Nat.le_trans (Nat.le_trans (Nat.le_succ _) (Nat.le_succ _)) z, dne, hns⟩⟩
end
end TugX
end PySem
namespace L2
open PySem PySem.Spec PyProof.Rows
theorem relO_one {v : V} {v' : Value} {f : Str} (r : RelV v v') (g : Str) : RelO (List.lookup g [(f, v)]) (if g = f then some v' else none) := by
  by_cases hw : g = f
  · subst hw
    rw [if_pos rfl]
    have q : List.lookup g [(g, v)] = some v := by simp [List.lookup]
    rw [q]
    exact r
  · rw [if_neg hw]
    have qw : (g == f) = false := by simpa using hw
    have q2 : List.lookup g [(f, v)] = none := by simp [List.lookup, qw]
    rw [q2]
    trivial
/-- C(e) or C(f = e) -/
def tMkX (C : Addr) (f : Str) (ta : TA) : St → Hp → XK → Prop := fun σ H Q => ta σ H fun vs H1 => ∃ v, vs = [v] ∧ ∀ d, H1 d = none → Q (.ref C) (some d) (upd H1 d (.xd [(f, v)]))
section
variable {X : Cx} {n f m qual : Str} {C fI cc cda : Addr}
theorem mk_made {pins : List (Addr × Obj)} {σ : St} {H1 : Hp} {s1 : Shared} {h' : Heap} {tk' : Nat} {e d : Addr} {v : V} {v' : Value} {Q : XK} (T : PySem.TugX.XTxt X.prog X.K X.mg n f m qual C fI cc cda) (I1 : Inv X pins σ H1 s1) (rv : RelV v v')
    (M : PySem.TugX.Made f s1.heap h' e C d v') (q1 : ∀ d, H1 d = none → Q (.ref C) (some d) (upd H1 d (.xd [(f, v)]))) : MkP X pins σ Q (.ref e) { s1 with heap := h', toks := tk' } := by
  obtain ⟨hp, g, dr, tk, os⟩ := s1
  obtain ⟨oe, fv, hoe, hc, hd, hdat, h1⟩ := M.obj
  have hns := M.ns
  obtain ⟨G', g1, g2⟩ := restrict h' fun b => decide (b ≠ e)
  have gk : ∀ b, b ≠ e → G'.get? b = h'.get? b := fun b hb => g1 b (decide_eq_true hb)
  have ge : G'.get? e = none := g2 e (by simp)
  have old : ∀ b o, hp.get? b = some o → G'.get? b = some o := fun b o q => (gk b (Nat.ne_of_lt (Nat.lt_of_lt_of_le (Heap.lt_size q) M.new))).trans (M.keep b o q)
  have ob : ObjOk X.prog X.w (upd H1 d (.xd [(f, v)])) G' d (.xd [(f, v)]) :=
    ⟨_, hns.at (fun o q => (gk d M.dne).trans q), fun g => relO_one rv g⟩
  have J : Inv X pins σ (upd H1 d (.xd [(f, v)])) ⟨G', g, dr, tk', os⟩ := I1.laid (t' := tk') old M.dbig ob
  refine ⟨e, oe, fv, ⟨G', g, dr, tk', os⟩, _, .ref C, some d, rfl, J, fun b o q => ?_, ge, hoe, ⟨hc, hd⟩, hdat, h1, ?_, rfl, I1.bare, raises_own T.exC T.tyC, q1 d (I1.hok.fresh M.dbig)⟩
  · by_cases hb : b = e
    · have q' : G'.get? b = some o := q
      rw [hb, ge] at q'; cases q'
    · exact (gk b hb).symm.trans q
  · rw [upd_ne (Ne.symm M.dne)]
    exact I1.hok.fresh M.new
theorem pmk_x {a : Expr} {ta : TA} {p pos : Pos} {k : Nat} (T : PySem.TugX.XTxt X.prog X.K X.mg n f m qual C fI cc cda) (hr : Room k X.A) (ha : PA X [a] ta) (hg : Gl X n)
    (he : starEach (a :: []) X.env = (false, eval a X.env) :: starEach [] X.env := by rfl) (hpl : (backTo pos (starEach [] X.env)).any (·.1) = false := by rfl) (hdb : (n == ("__debug__" : Str)) = false := by decide) :
    PMk X (.Call (.Name n p) [a] [] pos) (tMkX C f ta) := by
  intro pins s σ H Q I h
  refine wpAny_Call_Name_kw (ld_glob I hg T.gC ?_ hdb)
  refine PySem.W.callWith_K (h₀ := X.base) I.ok.mod.kin T.kC (thn (ha.run pos pins s σ H _ I h) fun us s1 hh => ?_) he hpl
  obtain ⟨vs, H1, I1, r1, v, ev, q1⟩ := hh
  subst ev
  refine ⟨I1.kIn, ?_⟩
  cases r1 with
  | cons rv rn =>
    rename_i v' us'
    cases rn
    show wpAny _ _ (call (.ref C) [v']) _ _ _
    obtain ⟨mb, hb1, hb2⟩ := I1.mod.blt
    exact wpAny_call (PySem.TugX.x_made T I1.kIn (I1.mod.glob.keeps I1.bk) (hb1.keeps I1.bk) hb2 I1.nolimit (by have := hr.dp; omega) fun h' tk' e d M => mk_made T I1 rv M q1)
theorem pmk_xk {a : Expr} {te : TE} {p pos kpos : Pos} {k : Nat} (T : PySem.TugX.XTxt X.prog X.K X.mg n f m qual C fI cc cda) (hr : Room k X.A) (ha : PE X a te) (hg : Gl X n)
    (hall : (backToKw pos (keywordEach [⟨some f, a, kpos⟩] X.env)).all (·.1.isSome) = true := by rfl) (hks : (backToKw pos (keywordEach [⟨some f, a, kpos⟩] X.env)).filterMap (·.1) = [f] := by rfl) (hdb : (n == ("__debug__" : Str)) = false := by decide)
    (hpl : ((backTo pos (starEach [] X.env)).any (·.1) || (backToKw pos (keywordEach [⟨some f, a, kpos⟩] X.env)).any (·.1.isNone)) = false := by rfl) :
    PMk X (.Call (.Name n p) [] [⟨some f, a, kpos⟩] pos) (tMkX C f (tCons te tNil)) := by
  intro pins s σ H Q I h
  refine wpAny_Call_Name_kw (ld_glob I hg T.gC ?_ hdb)
  refine PySem.W.callWith_KW0 (h₀ := X.base) I.ok.mod.kin T.kC hall ?_ hpl
  refine thn ((pk_cons ha pk_nil).run pos pins s σ H _ I h) fun ws s1 ⟨zs, H1, I1, rz, v, ev, q1⟩ => ⟨I1.kIn, ?_⟩
  subst ev
  rw [hks]
  cases rz with
  | cons rv rn =>
    cases rn
    rename_i v' hAP
    show wpAny _ _ (call (.ref C) [] [(f, v')]) _ _ _
    obtain ⟨mb, hb1, hb2⟩ := I1.mod.blt
    exact wpAny_call (PySem.TugX.x_made_kw T I1.kIn (I1.mod.glob.keeps I1.bk) (hb1.keeps I1.bk) hb2 I1.nolimit (by have := hr.dp; omega) fun h' tk' e d M => mk_made T I1 rv M q1)
end

/-! ### a caught exception that is kept -/
/-- at a: an exception of the class cls, its own dict d, caught and kept -/
def ExV (cls : Value) (d : Option Addr) (a : Addr) : HO := .ext fun h => ∃ (oe : Obj) (vs : Array Value), h.get? a = some oe ∧ Zc cls d oe ∧ oe.data = .fields vs
theorem exV_ok {P : Program} {w : World} {H : Hp} {h : Heap} {a : Addr} {cls : Value} {d : Option Addr} {oe : Obj} {vs : Array Value} (e : h.get? a = some oe) (z : Zc cls d oe) (hd : oe.data = .fields vs) : ObjOk P w H h a (ExV cls d a) :=
  ⟨⟨oe, vs, e, z, hd⟩, ⟨oe, e⟩, fun _ _ ⟨o, v, q, r⟩ k => ⟨o, v, k o q, r⟩⟩
theorem exV_at {P : Program} {w : World} {H : Hp} {h : Heap} {a : Addr} {cls : Value} {d : Option Addr} (hok : HOk P w H h) (he : H a = some (ExV cls d a)) : ∃ (oe : Obj) (vs : Array Value), h.get? a = some oe ∧ Zc cls d oe ∧ oe.data = .fields vs := by
  have x : ObjOk P w H h a (.ext fun h => ∃ (oe : Obj) (vs : Array Value), h.get? a = some oe ∧ Zc cls d oe ∧ oe.data = .fields vs) := hok a _ he
  exact x.1
section
variable {X : Cx} {pins : List (Addr × Obj)} {σ : St} {H : Hp} {s : Shared} {a : Addr} {cls : Value} {d : Option Addr} {oe : Obj} {vs : Array Value}
theorem Inv.trackX (I : Inv X pins σ H s) (he : s.heap.get? a = some oe) (hd : oe.data = .fields vs) (z : Zc cls d oe) (na : H a = none) (n0 : X.s_0.heap.get? a = none) (nL : a ≠ X.env.locals) (npin : ∀ p ∈ X.pn ++ pins, p.1 ≠ a) :
    Inv X pins σ (upd H a (ExV cls d a)) s := by
  have ne0 : ∀ b o, X.s_0.heap.get? b = some o → b ≠ a := fun b o e z => by
    rw [z, n0] at e
    cases e
  refine ⟨I.ok, I.os, I.bare, ⟨I.base.keep, I.base.slot, fun b o e n hb => ?_, I.base.there, fun b xs e => ?_, fun b o u e => ?_, fun b ps e => ?_⟩, I.loc, I.cell, ?_, fun x c e => ?_, fun p hp => ?_, fun b u e => ?_, I.len⟩
  · rw [upd_ne (ne0 b o e)]
    exact I.base.free b o e n hb
  · have q := I.base.tups b xs e
    rw [upd_ne (ne_of_none q na)]
    exact q
  · have q := I.base.frzs b o u e
    rw [upd_ne (ne_of_none q na)]
    exact q
  · obtain ⟨m, q⟩ := I.base.tbls b ps e
    exact ⟨m, by rw [upd_ne (ne_of_none q na)]; exact q⟩
  · rw [upd_ne (Ne.symm nL)]
    exact I.free
  · have nc : c ≠ a := fun q => by
      obtain ⟨v, o, ho, hdc⟩ := I.cell x c e
      rw [q, he] at ho
      cases ho
      rw [hd] at hdc
      cases hdc
    rw [upd_ne nc]
    exact I.freeC x c e
  · obtain ⟨e, n, ne, nf, dd⟩ := I.pin p hp
    exact ⟨e, by rw [upd_ne (npin p hp)]; exact n, ne, nf, dd⟩
  · by_cases hb : b = a
    · subst hb
      rw [upd_same] at e
      cases e
      exact exV_ok he z hd
    · rw [upd_ne hb] at e
      exact (I.hok b u e).stay (fun c v _ q => q) (fun c q => by rw [upd_ne (ne_of_none q na)]; exact q) fun c xs q => by rw [upd_ne (ne_of_none q na)]; exact q
end
/-- what is sought behind a suite that kept its exception -/
abbrev Ends.keep (D : Ends) (i : Nat) (cls : Value) (d : Option Addr) (a : Addr) : Ends :=
  { nx := fun σ' H' => D.nx (σ'.set i none) (upd H' a (ExV cls d a)), rt := fun v H' => D.rt v (upd H' a (ExV cls d a)), bk := fun σ' H' => D.bk (σ'.set i none) (upd H' a (ExV cls d a)), ct := fun σ' H' => D.ct (σ'.set i none) (upd H' a (ExV cls d a)) }
section
variable {X : Cx} {pins : List (Addr × Obj)} {D : Ends} {f : Flow} {s sI : Shared} {σ : St} {H : Hp} {a : Addr} {cls : Value} {d : Option Addr} {i : Nat} {n : Str}
theorem SP.ofTry {xe : Value → Shared → Prop} (ok : X.Ok) (h : SP (X.tr (X.pn ++ pins) xe) [] D f s) : SP X pins D f s := by
  cases f with
  | ret u => obtain ⟨v, σ', H', J, r, q⟩ := h; exact ⟨v, σ', H', J.ofTry ok, r, q⟩
  | next => obtain ⟨σ', H', J, q⟩ := h; exact ⟨σ', H', J.ofTry ok, q⟩
  | brk => obtain ⟨σ', H', J, q⟩ := h; exact ⟨σ', H', J.ofTry ok, q⟩
  | cont => obtain ⟨σ', H', J, q⟩ := h; exact ⟨σ', H', J.ofTry ok, q⟩
/-- the suite's end: the exception is tracked from here on, its name goes -/
theorem SP.kept {M : Model} {A : Around} {E : Value → Shared → Prop} {oe : Obj} {vs : Array Value} {pos : Pos} (ok : X.Ok) (hN : X.N.Nodup) (hi : X.N[i]? = some n) (hln : X.env.kindOf n = some .local) (hd : oe.data = .fields vs) (hz : Zc cls d oe)
    (n0 : X.s_0.heap.get? a = none) (nL : a ≠ X.env.locals) (np : ∀ p ∈ X.pn ++ pins, p.1 ≠ a) (h : SP (X.suite a ((a, oe) :: (X.pn ++ pins))) [] (D.keep i cls d a) f s) :
    wpAny M A (do bindName X.env n .none; unbindBehindTheSuite X.env n pos) (fun _ s' => SP X pins D f s') E s := by
  have go : ∀ {σ' : St} {H' : Hp} {Q : Unit → Shared → Prop}, Inv (X.suite a ((a, oe) :: (X.pn ++ pins))) [] σ' H' s → (∀ s', Inv X pins (σ'.set i none) (upd H' a (ExV cls d a)) s' → Q () s') →
      wpAny M A (do bindName X.env n .none; unbindBehindTheSuite X.env n pos) Q E s := fun {σ' H' Q} J k => by
    have P := J.pin (a, oe) (List.mem_append_left _ List.mem_cons_self)
    exact gone_ok ((J.unsuite ok).trackX P.1 hd hz P.2.1 n0 nL np) hN hi hln k
  cases f with
  | ret u => obtain ⟨v, σ', H', J, r, q⟩ := h; exact go J fun s' J' => ⟨v, _, _, J', r, q⟩
  | next => obtain ⟨σ', H', J, q⟩ := h; exact go J fun s' J' => ⟨_, _, J', q⟩
  | brk => obtain ⟨σ', H', J, q⟩ := h; exact go J fun s' J' => ⟨_, _, J', q⟩
  | cont => obtain ⟨σ', H', J, q⟩ := h; exact go J fun s' J' => ⟨_, _, J', q⟩
/-- an exception in the air of a def is newer than the def's entry, and no pin's -/
theorem sky_new {B h : Heap} {o : Obj} {vs : Array Value} {Z : Obj → Prop} {L : Addr} (I : Inv X pins σ H sI) (hex : X.ex = []) (nb : ∀ b o, sI.heap.get? b = some o → b ∉ frs X.stack → B.get? b = some o) (sky : Sky B X.stack a Z L s.heap)
    (ff : h.FunFrames B X.stack) (he : h.get? a = some o) (hd : o.data = .fields vs) : a ∉ frs X.stack ∧ X.s_0.heap.get? a = none ∧ ∀ p ∈ X.pn ++ pins, p.1 ≠ a := by
  have nB : B.get? a = none := by
    rcases sky with ⟨_, q, _⟩ | ⟨_, q, _⟩ | ⟨_, q, _⟩ <;> exact q
  have nf : a ∉ frs X.stack := fun hm => by
    obtain ⟨_, o', e', hn⟩ := ff.mem hm
    rw [he] at e'
    cases e'
    exact hn _ hd
  have nI : sI.heap.get? a = none := Option.eq_none_iff_forall_ne_some.mpr fun u q => by
    have z := nb a u q nf
    rw [nB] at z
    cases z
  refine ⟨nf, Option.eq_none_iff_forall_ne_some.mpr fun u q => ?_, fun p hp z => ?_⟩
  · obtain ⟨u', q'⟩ := I.base.there a u q (by rw [hex]; exact fun z => nomatch z)
    rw [nI] at q'
    cases q'
  · have q := (I.pin p hp).1
    rw [z, nI] at q
    cases q
end
/-- what the clause 'except x as n' wishes, the exception kept behind it -/
def wKeep (K : PySem.W.Frag) (c : Value) (i : Nat) (ts : Addr → Value → Option Addr → TS) (Wout : WX) (D : Ends) : WX := fun cls d σ H =>
  ∃ b, PySem.W.exmOne K cls c = some b ∧ (b = true → ∀ a, H a = none → ts a cls d (D.keep i cls d a) (σ.set i (some (.ref a))) H) ∧ (b = false → Wout cls d σ H)
section
variable {X : Cx} {x n : Str} {c : Value} {i : Nat} {body suite : List Stmt} {b₀ : Stmt} {np pos pos' : Pos} {tb : WX → TS} {ts : Addr → Value → Option Addr → TS} {Wout : WX}
theorem ps_try_keep (hs : X.stack = X.env :: X.outer) (hf : X.env.frame = some X.env.locals) (hex : X.ex = []) (hN : X.N.Nodup) (hi : X.N[i]? = some n) (hln : X.env.kindOf n = some .local) (hc : Names X x c) (tk : Takes X Wout)
    (hb : ∀ (W : WX) (pn : List (Addr × Obj)) (xe : Value → Shared → Prop), Takes (X.tr pn xe) W → PassesOwn (model X.prog X.w) X.A X.env xe → PSs (X.tr pn xe) body (tb W))
    (hsu : ∀ (a : Addr) (oe : Obj) (cls : Value) (d : Option Addr) (pn : List (Addr × Obj)), Zc cls d oe → (∃ vs, oe.data = .fields vs) → PSs (X.suite a ((a, oe) :: pn)) (b₀ :: suite) (ts a cls d)) :
    PS X (.Try body [.ExceptHandler (some (.Name x np)) (some n) (b₀ :: suite) pos'] [] [] pos) (fun D σ H => tb (wKeep X.K c i ts Wout D) D σ H) := by
  refine ⟨fun pins s σ H D I h => wpAny_Try_except ?_⟩
  have ok := I.ok
  have hfr : X.A.frames = some (X.env :: X.outer) := by rw [ok.frames, hs]
  have caught : Takes (X.tr (X.pn ++ pins) fun e s₁ => wpAny (model X.prog X.w) X.A (noteFrame e X.env) (fun _ s₂ => wpAny (model X.prog X.w) X.A (setFlight e none) (fun _ s₃ =>
      wpAny (model X.prog X.w) X.A (handleBy e X.env [.ExceptHandler (some (.Name x np)) (some n) (b₀ :: suite) pos']) (SP X pins D) X.xe s₃) X.xe s₂) X.xe s₁) (wKeep X.K c i ts Wout D) := by
    rintro u s' ⟨a, B, sI, pins', σ', H', cls, d, rfl, J', nb, up, sky, na, os, ag, b, hb1, hyes, hno⟩
    have J : Inv X pins σ' H' sI := J'.ofTry ok
    refine Sky.land (outer := X.outer) (L := X.env.locals) Zc.steady hfr hf (by rw [← hs]; exact sky) fun h3 fl3 up3 => ?_
    obtain ⟨oe3, vs3, he3, hz3, hd3⟩ := fl3.there
    obtain ⟨nfr, n0, npin⟩ := sky_new J hex nb sky (by rw [hs]; exact fl3.2.2.1) he3 hd3
    rw [hs] at nfr
    have nL : a ≠ X.env.locals := fun z => nfr (List.mem_filterMap.mpr ⟨X.env, List.mem_cons_self, hf.trans (congrArg some z.symm)⟩)
    have nF : a ∉ X.fs := fun hm => nfr ((List.mem_filterMap.mp hm).elim fun e he => List.mem_filterMap.mpr ⟨e, List.mem_cons_of_mem _ he.1, he.2⟩)
    -- the state of the suite, whatever heap the flight has left
    have J3 : Inv X pins σ' H' { s' with heap := h3 } := J.landed nb fl3.1 (up.trans up3) os ag
    have S3 := J3.suite he3 hd3 na nL nF
    have LT : PySem.W.Looks (model X.prog X.w) h3 (typeOf (.ref a)) cls := fun A Q E s k q => wpAny_typeOf_ref (k _ _ he3) (by rw [hz3.1]; exact q)
    have named : ∀ {Q : Value → Shared → Prop} {E : Value → Shared → Prop}, Q c { s' with heap := h3 } → wpAny (model X.prog X.w) (X.A.mark (some (.ref a))) (eval (.Name x np) X.env) Q E { s' with heap := h3 } := fun q =>
      hc.2.2.elim (fun hm => ld_glob (X := X.suite a ((a, oe3) :: (X.pn ++ pins))) S3 hc.1 hm q hc.2.1) fun hm => ld_blt (X := X.suite a ((a, oe3) :: (X.pn ++ pins))) S3 hc.1 hm.1 hm.2.1 q hm.2.2 hc.2.1
    refine wpAny_handleBy_cons (codeAny_handlers_test (named ((PySem.W.exm_one J3.kIn LT hb1).here ?_))) (fun q => nomatch q)
    cases b with
    | true =>
      refine codeAny_handlers_suite_as (HandSPX.lands_againZ fl3 fun h4 fl4 up4 => ?_)
      obtain ⟨oe4, vs4, he4, hz4, hd4⟩ := fl4.there
      have S4 := (J.landed (s' := { s' with heap := h4 }) nb fl4.1 ((up.trans up3).trans up4) os ag).suite he4 hd4 na nL nF
      refine store_ok (X := X.suite a ((a, oe4) :: (X.pn ++ pins))) (v := .ref a) S4 hN hi (.inl hln) rfl (fun s5 S5 => ?_) (.inr hln)
      exact wpAny_mono ((hsu a oe4 cls d (X.pn ++ pins) hz4 ⟨_, hd4⟩).run [] s5 _ H' _ S5 (hyes rfl a na)) (fun f s6 e => SP.kept ok hN hi hln hd4 hz4 n0 nL npin e) fun _ _ z => z.elim
    | false =>
      refine wpAny_handleBy_nil ?_
      obtain ⟨_, _, _, oe, vs, T, _, _, he, _, hd, h1, _⟩ := id fl3
      have fly : wpAny (model X.prog X.w) X.A (setFlight (.ref a) X.env.frame) (fun _ s4 => wpAny (model X.prog X.w) X.A (throw (.ref a) : Sem Flow) (SP X pins D) X.xe s4) X.xe { s' with heap := h3 } := by
        rw [hf]
        exact HandSPX.setFlight_upZ fl3 fun h4 hh4 up4 => wpAny_throw (tk _ _ ⟨a, B, sI, pins, σ', H', cls, d, rfl, J, nb, (up.trans up3).trans up4, .inr (.inr (by rw [hs]; exact hh4)), na, os, ag, hno rfl⟩)
      unfold PySem.passOn
      refine wpAny_bind (wpAny_field he hd h1 ?_)
      rw [if_neg (show ¬ ((Value.ref T == Value.none) = true) from by simp)]
      first
        | exact wpAny_bind (wpAny_pure (wpAny_bind fly))
        | exact wpAny_bind fly
  refine wpAny_mono ((hb _ (X.pn ++ pins) _ caught PassesOwn.looking).run [] s σ H D (I.toTry _) h) (fun f s1 e => ?_) fun _ _ e => e
  have e' := SP.ofTry ok e
  cases f with
  | next => exact wpAny_execs_nil e'
  | ret _ => exact e'
  | brk => exact e'
  | cont => exact e'
end
/-! ### its field, read -/
def tXv (K : PySem.W.Frag) (f : Str) (te : TE) : TE := fun σ H Q => te σ H fun x H1 => ∃ (a C dd : Addr) (fs : List (Str × V)) (v : V), x = .ref a ∧ H1 a = some (ExV (.ref C) (some dd) a) ∧ XfC K C ∧ PySem.W.findIn K (.ref C) f = some none ∧ H1 dd = some (.xd fs) ∧ fs.lookup f = some v ∧ Q v H1
theorem pe_xv {X : Cx} {e : Expr} {te : TE} {pos : Pos} {n : Str} (he : PE X e te) (hb : attributeBase e n X.env (eval e X.env) = eval e X.env := by rfl) : PE X (.Attribute e n pos) (tXv X.K n te) := by
  refine ⟨fun pins s σ H Q I h => ?_⟩
  refine attr_of hb (thn (he.run pins s σ H _ I h) fun u s1 hh => ?_)
  obtain ⟨x, H1, I1, rx, a, C, dd, fs, v, ex, e1, T, hno, ea, l, q⟩ := hh
  subst ex
  obtain rfl : u = Value.ref a := rx
  obtain ⟨oe, vs, ha, hz, hd⟩ := exV_at I1.hok e1
  have hx : ObjOk X.prog X.w H1 s1.heap dd (.xd fs) := I1.hok dd _ ea
  obtain ⟨mA, hns, hr⟩ := hx
  obtain ⟨od, ho, hl⟩ := lookIn_ns hns
  obtain ⟨u, hu, ru⟩ := RelO.some_of (v := v) (o := mA n) (by rw [← l]; exact hr n)
  have J : PySem.W.InstAt s1.heap a oe C (some od) := ⟨ha, hz.1, by unfold PySem.W.notCls; rw [hd] <;> rfl, by rw [hz.2]; exact ho⟩
  exact HandSPX.exc_get I1.kIn J T.ga T.gg T.exC (PySem.W.findObj_own T.hdC hno rfl (by rw [hl, hu])) (handed_of ru) ⟨v, H1, I1.tok _, ru, q⟩
end L2
namespace L2
open PySem PySem.Spec PyProof.Rows
/-! ### isinstance of a kept exception -/
theorem call_isX {X : Cx} : CallR X (.builtin "isinstance") (fun xs H Q => ∃ (a D dd : Addr) (fs : List (Str × V)) (c : V) (cv : Value) (b : Bool), xs = [.ref a, c] ∧ H a = some (ExV (.ref D) (some dd) a) ∧ H dd = some (.xd fs) ∧ ExcC X.K D ∧ (∀ u, RelV c u → u = cv) ∧ PySem.W.kitOne X.K (.ref D) cv = some b ∧ Q (.bl b) H) := by
  intro pins s σ H xs us Q I r h
  obtain ⟨a, D, dd, fs, c, cv, b, rfl, hx, hdd, C, hcv, e, q⟩ := h
  cases r with
  | cons rx rr =>
    cases rr with
    | cons rt rr =>
      cases rr
      cases rx
      have ec := hcv _ rt
      subst ec
      obtain ⟨oe, vs, ha, hz, hd⟩ := exV_at I.hok hx
      have hxd : ObjOk X.prog X.w H s.heap dd (.xd fs) := I.hok dd _ hdd
      obtain ⟨mA, hns, _⟩ := hxd
      obtain ⟨od, ho, _⟩ := lookIn_ns hns
      have J : PySem.W.InstAt s.heap a oe D (some od) := ⟨ha, hz.1, by unfold PySem.W.notCls; rw [hd] <;> rfl, by rw [hz.2]; exact ho⟩
      have hcl : (PySem.W.clsIn X.K D).isSome = true := by
        obtain ⟨cd, hc, _⟩ := PySem.W.any_some C.hd
        rw [hc]; rfl
      exact PySem.W.kia_one (PySem.W.kitx_exc hcl C.hg C.hk C.hs C.ha C.hn C.ht C.hm) I.kIn J e (fun z => nomatch z) fun tk => ⟨.bl b, H, I.kept (t' := tk) fun _ _ z => z, rfl, q⟩
/-! ### repr of data, where no guard is on the stack -/
theorem call_reprD {X : Cx} (hg : X.A.guards = some []) (hu : X.A.units + 64 < cLine) : CallR X (.builtin "repr") (fun xs H Q => ∃ (v : V) (d : PyData), xs = [v] ∧ Dp X.K H v d ∧ d.showable = true ∧ d.hasDict = false ∧ d.depth < 60 ∧ d.shown.length ≤ sizeLine ∧ Q (.str d.shown) H) := by
  intro pins s σ H xs us Q I r h
  obtain ⟨v, d, rfl, hD, hs, hnd, hdp, hsz, q⟩ := h
  cases r with
  | cons rv rr =>
    cases rr
    rename_i u
    have dn : Q (.str d.shown) H → EP X pins σ Q (.str d.shown s.toks) { s with toks := s.toks + 1 } := fun q => ⟨.str d.shown, H, I.tok _, ⟨_, rfl⟩, q⟩
    have rd : ∀ a : Addr, u = Value.ref a → wpAny (model X.prog X.w) X.A (call (.builtin "repr") [u]) (EP X pins σ Q) X.xe s := fun a e => by
      subst e
      obtain ⟨as, hr⟩ := Dp.reads I d v (.ref a) hD rv
      exact repr_of_reads' (h₀ := s.heap) hr hs (PyData.noDict_hsm hnd) hg (by omega) (fun _ _ e => e) (fun h' u tk hk => ⟨.str d.shown, H, I.kept (h' := h') (t' := tk) hk, ⟨_, rfl⟩, q⟩) hsz
    cases hD with
    | non => cases rv; exact PySem.P.repr_of_none (dn q)
    | bl b =>
      cases rv
      have e : (PyData.bool b).shown = (if b then ("True" : Str) else "False") := by cases b <;> rfl
      refine PySem.P.repr_of_bool ?_
      have z := dn q
      rw [e] at z
      cases b <;> exact z
    | int i =>
      obtain ⟨t, rfl⟩ := rv
      exact PySem.P.repr_of_int (of_decide_eq_true hs) (dn q)
    | str x =>
      obtain ⟨t, rfl⟩ := rv
      exact PySem.P.repr_of_str (dn q) hsz
    | lst h1 h2 => exact rd _ rv
    | tup h1 h2 => exact rd _ rv

/-! ### defs that are run where no guard is on the stack: a def's promise at such a call -/
structure FnG (P : Program) (w : World) (K : PySem.W.Frag) (mg : Str → Option Value) (base : Heap) (CX : CXT) (k : Nat) (f : Addr) (fd : FuncData) (ps : List Str) (sp : Sp) : Prop where
  len : ∀ vs H Q E, sp vs H Q E → vs.length = ps.length
  go : ∀ (A : Around) (outer : List Env) (s : Shared) (H : Hp) (args : Args) (us : List Value) (vs : List V) (Q : VK) (E : XK), A.guards = some [] → Room k A → Env0 P w K mg base A outer s H → BindsTo s fd args (ps.zip us) → Vals vs us → sp vs H Q E →
    codeAny (model P w) A (.call (.ref f) args) (CR CX outer P w H s Q E) s
section
variable {CX : CXT} {P : Program} {w : World} {K : PySem.W.Frag} {mg : Str → Option Value} {base : Heap} {N ps : List Str} {qual : Str} {scope : Scope} {f : Addr} {cd : Value} {A : Around} {outer : List Env} {s s' : Shared} {H : Hp} {E : XK} {Q : VK}
/-- what a body hands back -/
def flV : Flow → Value
  | .ret v => v
  | _ => .none
/-- how a body's end is a call's end -/
theorem back_of {fl : Flow} (h : SP (cxOf CX P w K mg base N qual scope f cd A outer s H E) [] { nx := fun _ H' => Q .non H', rt := Q } fl s') : CR CX outer P w H s Q E (.ok (.ret (flV fl))) s' := by
  cases fl with
  | ret u => obtain ⟨v, _, H', J, rv, q⟩ := h; exact ⟨v, H', J.os, J.bare, J.base, J.hok, rv, q⟩
  | next => obtain ⟨_, H', J, q⟩ := h; exact ⟨V.non, H', J.os, J.bare, J.base, J.hok, rfl, q⟩
  | brk => obtain ⟨_, _, _, q⟩ := h; exact False.elim q
  | cont => obtain ⟨_, _, _, q⟩ := h; exact False.elim q
theorem guards_in {env : Env} (h : A.guards = some []) : (A.deeper env).guards = some [] := by
  first
    | exact h
    | (unfold Around.deeper; exact h)
    | simp [Around.deeper, h]
/-- a def of the text, by its body, at such a call -/
theorem Fun.okG {x : Str} {st : Stmt} {fd : FuncData} {k : Nat} {sp : Sp} (F : Fun K x qual st f fd) (S : FnScope N ps (defScope st)) (len : ∀ vs H Q E, sp vs H Q E → vs.length = ps.length)
    (body : ∀ (cdv : Value) (A : Around) (outer : List Env) (s : Shared) (H : Hp) (vs : List V) (Q : VK) (E : XK), (A.deeper (envOfC qual (defScope st) s.heap.objs.size f cdv)).guards = some [] → Room k (A.deeper (envOfC qual (defScope st) s.heap.objs.size f cdv)) → sp vs H Q E →
      ∃ t, PSs (cxOf CX0 P w K mg base N qual (defScope st) f cdv A outer s H E).nox (defBody st) t ∧ t { nx := fun _ H' => Q .non H', rt := Q } (start N vs) H) : FnG P w K mg base CX0 (k + 1) f fd ps sp := by
  obtain ⟨oc, od, kV, doc, pm, an, cdv, ct, osl, rfl, lk, hcd⟩ := F.ex
  refine ⟨len, fun A outer s H args us vs Q E hgd hr e0 hb r hsp => ?_⟩
  have old : ∀ b o, base.get? b = some o → s.heap.get? b = some o := fun b o e => (e0.bs b o e).1
  have KX : K.In s.heap := e0.mod.kin.keeps old
  refine codeAny_call_function hr.depth (KX _ _ lk) rfl S.co S.gen rfl (PySem.W.codeRec_of KX hcd) (hb _ _ _ _ (wpAny_newFunctionEnv_cells S.kind (fun y hy => ?_) fun env he s1 x => ?_))
  · cases y with
    | mk n v =>
      have hn := S.par n (List.of_mem_zip hy).1
      exact hn.imp id fun q => ⟨q, PySem.W.cellsFrom_some _ _ _ (.inl q)⟩
  · subst he
    obtain ⟨t, ht, hq⟩ := body cdv A outer s H vs Q E (guards_in hgd) (hr.deeper _) hsp
    have I := inv_start (CX := CX0) (N := N) (qual := qual) (f := f) (cd := cdv) (E := E) S hr.hd e0 (len _ _ _ _ hsp) r x
    exact ⟨(e0.mod.nolimit.keeps old).keeps x.toInCall.keep, codeAny_func (wpAny_mono (ht.nox.run [] s1 (start N vs) H _ I hq) (fun fl s' hs => by have z := back_of hs; cases fl <;> exact z) fun _ _ z => z)⟩
end
/-! ### the end of a law's row, no guard on the stack, the script's bits told -/
section
variable {K : PySem.W.Frag} {P : Program} {w : World}
/-- the script alone is tracked: locked, where it is no object of the written part -/
theorem script_hp {h : Heap} {a : Addr} {vs : List Value} {ns : List Int} (X : K.In h) (ha : h.get? a = some { cls := .type "list", data := .seq vs.toArray }) (hi : IntsAre vs ns) (hl : ns.length ≤ sizeLine) :
    ∃ H : Hp, (∀ b u, H b = some u → b = a ∧ u = .frz { cls := .type "list", data := .seq vs.toArray } (.lst (ns.map V.int))) ∧ (∀ b o, K.lookup b = some o → H b = none) ∧ SqL K H a (ns.map V.int) ∧ HOk P w H h := by
  have rv := vals_ints hi
  by_cases hk : K.lookup a = none
  · refine ⟨upd (fun _ => none) a (.frz { cls := .type "list", data := .seq vs.toArray } (.lst (ns.map V.int))), fun b u e => ?_, fun b o e => ?_, .inl (.inr ⟨_, upd_same⟩), fun b u e => ?_⟩
    · by_cases hb : b = a
      · subst hb; rw [upd_same] at e; exact ⟨rfl, (Option.some.inj e).symm⟩
      · rw [upd_ne hb] at e; cases e
    · exact upd_ne fun hb => by rw [hb, hk] at e; cases e
    · by_cases hb : b = a
      · subst hb; rw [upd_same] at e; cases e
        exact ⟨ha, by rw [List.length_map]; exact hl, vs, _, rv, ha⟩
      · rw [upd_ne hb] at e; cases e
  · obtain ⟨o, ho⟩ := Option.ne_none_iff_exists'.mp hk
    have e := X a o ho
    rw [ha] at e
    cases e
    refine ⟨fun _ => none, fun b u e => (nomatch e), fun _ _ _ => rfl, .inr ⟨_, vs.toArray, _, ho, rfl, rfl, rfl, ?_, by simpa using rv⟩, fun b u e => (nomatch e)⟩
    have := hi.length
    rw [List.size_toArray]; omega
theorem walk_G {l : PySem.W.OpenLaw} {n k : Nat} {q : Program} {loose : List Str} {XP : (Str → Option Value) → Heap → Prop} {YP : World → Heap → Prop} {d : DefRec} {K : Params → PySem.W.Frag} {sp : World → Sp} {x : Str}
    (hn : l.most = some n) (hn2 : n ≤ sizeLine) (hdf : d.params.defaults = []) (hr : Room k callerA) (hY : ∀ (w : World) (h : Heap), YP w h → (K w.params).In h)
    (F : ∀ (w : World) (mg : Str → Option Value) (fa : Addr) (h : Heap), (K w.params).In h → h.Ns mainGlobals mg → mg d.name = some (.ref fa) →
      ∃ fd : FuncData, (∀ (s : Shared) (u : Value), BindsTo s fd ⟨[u], []⟩ [(x, u)]) ∧ ∀ base : Heap, (K w.params).In base → base.Ns mainGlobals mg → FnG l.prog w (K w.params) mg base CX0 k fa fd [x] (sp w))
    (hsp : ∀ (w : World) (H : Hp) (a : Addr) (ns : List Int), ns.length ≤ n → (∀ z ∈ ns, Builtin.Int.intBits z ≤ 1048576) → SqL (K w.params) H a (ns.map V.int) → sp w [.ref a] H (fun v _ => v = .bl true) fun _ _ _ => False) :
    PySem.W.WalkO q loose XP YP l.row.toRowW d [] (fun f vs => PySem.call f vs) := by
  refine Att.attach_callB hn hdf fun w s₀ s₁ mg mb fa o pm cd doc a vs ns G Y ho hd hcd hmg hobj hints hlen hbits hg => ?_
  have KX := hY w _ Y
  obtain ⟨fd, hb, hF⟩ := F w mg fa _ KX G.T.g hmg
  obtain ⟨H, hO, hK, hS, hok⟩ := script_hp (P := l.prog) (w := w) KX hobj hints (Nat.le_trans hlen hn2)
  have free : ∀ {b : Addr} {u : Obj}, s₁.heap.get? b = some u → (∀ its m, u.data ≠ .seq its m) → H b = none := fun {b u} e nd => by
    cases z : H b with
    | none => rfl
    | some v =>
      obtain ⟨eb, _⟩ := hO b v z
      rw [eb, hobj] at e
      cases e
      exact absurd rfl (nd _ _)
  have ns' : ∀ {b : Addr} {m : Str → Option Value}, s₁.heap.Ns b m → (hidT s₁.heap H).Ns b m := fun {b m} ⟨u, es, ep, e, dd, r⟩ => ⟨u, es, ep, hidT_get e (free e fun its m z => by rw [dd] at z; cases z), dd, r⟩
  have KB : (K w.params).In (hidT s₁.heap H) := fun b u e => hidT_get (KX b u e) (hK b u e)
  have M : Mod (K w.params) mg (hidT s₁.heap H) := ⟨KB, ns' G.T.g, ⟨mb, ns' G.T.b, G.T.builtins⟩, G.T.nolimit.imp fun _ z => ⟨ns' z.1, z.2⟩⟩
  have e0 : Env0 l.prog w (K w.params) mg (hidT s₁.heap H) callerA [] s₁ H := ⟨rfl, M, fun b u e => of_hidT e, Nat.le_of_eq (hidT_size _ _), trivial, fun b hb => (nomatch hb), hok, .of_eq hg⟩
  refine codeAny_mono ((hF _ KB (ns' G.T.g)).go callerA [] s₁ H ⟨[.ref a], []⟩ [.ref a] [.ref a] _ _ rfl hr e0 (hb s₁ (.ref a)) (.cons rfl .nil) (hsp w H a ns hlen hbits hS)) fun r s' h => ?_
  rcases r with e | (u | _ | _ | _)
  · exact False.elim h
  · exact False.elim h
  · exact False.elim h
  · exact False.elim h
  · obtain ⟨v, H', os, bare, un, hok', r', q⟩ := h
    have q' : v = .bl true := q
    subst q'
    cases r'
    refine ⟨rfl, OldK.of_keep fun b u e => ?_, os, bare⟩
    cases z : H b with
    | none => exact un.keep b u e z (fun z => nomatch z) (fun z => nomatch z)
    | some t =>
      obtain ⟨eb, et⟩ := hO b t z
      subst et
      obtain ⟨e1, _⟩ := hok b _ z
      obtain ⟨e2, _⟩ := hok' b _ (un.frzs b _ _ z)
      exact e2.trans (e1.symm.trans e)
end
end L2
namespace Tug
open PySem L2
/-! ### the steps of a reading -/
section
variable {K : PySem.W.Frag} {σ : St} {H H1 : Hp} {Q : VK} {i : Nat} {v x y : V} {ta tb te : TE} {r : R2} {D : Ends} {t u : TS} {p q : Addr} {xs ys : List V} {c : TT} {tt : TA} {E : XK} {sp : Sp}
theorem rd_var (h : σ[i]? = some (some v)) (k : Q v H) : tVar i σ H Q := ⟨v, h, k⟩
theorem rd_c (k : Q v H) : tC v σ H Q := k
theorem rd_op (k : ta σ H fun x H1 => tb σ H1 fun y H2 => r x y H2 Q) : tOp r ta tb σ H Q := k
theorem rd_un {r : V → Hp → VK → Prop} (k : ta σ H fun x H1 => r x H1 Q) : tUn r ta σ H Q := k
theorem rd_neg {a : Int} (k : Q (.int (-a)) H) : rU (fun i => .int (-i)) (.int a) H Q := ⟨a, rfl, k⟩
theorem rd_I0 {g : Int → Int → V} {a b : Int} (k : Q (g a b) H) : rI0 g (.int a) (.int b) H Q := ⟨a, b, rfl, rfl, k⟩
theorem rd_I {C : Int → Int → Prop} {g : Int → Int → V} {a b : Int} (h : C a b) (k : Q (g a b) H) : rI C g (.int a) (.int b) H Q := ⟨a, b, rfl, rfl, h, k⟩
theorem rd_eq (h : scal x y = true) (k : Q (.bl (decide (x = y))) H) : rEq x y H Q := ⟨h, k⟩
theorem rd_ne (h : scal x y = true) (k : Q (.bl (!decide (x = y))) H) : rNe x y H Q := ⟨h, k⟩
theorem rd_nil {Q : List V → Hp → Prop} (k : Q [] H) : tNil σ H Q := k
theorem rd_cons {Q : List V → Hp → Prop} (k : ta σ H fun x H1 => tt σ H1 fun xs H2 => Q (x :: xs) H2) : tCons ta tt σ H Q := k
theorem rd_ixL {a : Int} (h : SqL K H p xs) (e : atI xs a = some v) (k : Q v H) : rIxL K (.ref p) (.int a) H Q := ⟨p, xs, a, v, rfl, rfl, h, e, k⟩
theorem rd_ixT {a : Int} (h : SqT K H p xs) (e : atI xs a = some v) (k : Q v H) : rIxT K (.ref p) (.int a) H Q := ⟨p, xs, a, v, rfl, rfl, h, e, k⟩
theorem rd_tup (k : tt σ H fun xs H1 => xs.length ≤ sizeLine ∧ ∀ p, H1 p = none → Q (.ref p) (upd H1 p (.tup xs))) : tTup tt σ H Q := k
theorem rd_lst (k : tt σ H fun xs H1 => xs.length ≤ sizeLine ∧ ∀ p, H1 p = none → Q (.ref p) (upd H1 p (.lst xs))) : tLst tt σ H Q := k
theorem rd_asg {g : TG} (k : te σ H fun x H1 => g x σ H1 D.nx) : tAsg te g D σ H := k
theorem rd_gname {R : St → Hp → Prop} (k : R (σ.set i (some v)) H) : gName i v σ H R := k
theorem rd_gsub {ti to : TE} {s : TSet} {R : St → Hp → Prop} (k : to σ H fun o H1 => ti σ H1 fun i H2 => s o i v H2 fun H3 => R σ H3) : gSub to ti s v σ H R := k
theorem rd_setL {a : Int} {j : Nat} {R : Hp → Prop} (h : H p = some (.lst xs)) (e : ixN xs.length a = some j) (k : R (upd H p (.lst (xs.set j v)))) : rSetL (.ref p) (.int a) v H R := ⟨p, xs, a, j, rfl, rfl, h, e, k⟩
theorem rd_seq (k : t { D with nx := u D } σ H) : tSeq t u D σ H := k
theorem rd_ret (k : te σ H D.rt) : tRet te D σ H := k
theorem rd_drop (k : te σ H fun _ H1 => D.nx σ H1) : tDrop te D σ H := k
theorem rd_next (k : D.nx σ H) : tNext D σ H := k
theorem rd_if (k : c σ H fun b H1 => if b = true then t D σ H1 else u D σ H1) : tIfS c t u D σ H := k
theorem rd_test {R : Bool → Hp → Prop} (k : te σ H fun x H' => ∃ k, x = .bl k ∧ R k H') : tTest te σ H R := k
theorem rd_B {R : Bool → Hp → Prop} (k : te σ H fun x H' => ∃ k, x = .bl k ∧ R k H') : tB te σ H R := k
theorem rd_bl {b : Bool} {R : Bool → Hp → Prop} (k : R b H) : ∃ c, V.bl b = .bl c ∧ R c H := ⟨b, rfl, k⟩
theorem rd_and {c d : TT} {R : Bool → Hp → Prop} (k : c σ H fun b H1 => if b = true then d σ H1 R else R false H1) : tAnd c d σ H R := k
theorem rd_or {c d : TT} {R : Bool → Hp → Prop} (k : c σ H fun b H1 => if b = true then R true H1 else d σ H1 R) : tOr c d σ H R := k
theorem rd_not {R : Bool → Hp → Prop} (k : c σ H fun b H1 => R (!b) H1) : tNot c σ H R := k
theorem rd_ifE (k : c σ H fun b H1 => if b = true then ta σ H1 Q else tb σ H1 Q) : tIf c ta tb σ H Q := k
theorem rd_call {dvs : List V} (k : tt σ H fun vs H1 => sp (vs ++ dvs) H1 Q E) : tCall sp dvs E tt σ H Q := k
theorem rd_cb {r : List V → Hp → VK → Prop} (k : tt σ H fun vs H1 => r vs H1 Q) : tCB r tt σ H Q := k
theorem rd_forL {g : TG} {tb : TS} (hv : σ[i]? = some (some (.ref p))) (hS : SqL K H p xs) (Pv : Nat → St → Hp → Prop) (h0 : Pv 0 σ H) (hl : ∀ i σ H, i ≤ xs.length → Pv i σ H → SqL K H p xs)
    (hs : ∀ i x σ H, xs[i]? = some x → Pv i σ H → g x σ H fun σ2 H2 => tb { D with nx := Pv (i + 1), ct := Pv (i + 1), bk := D.nx } σ2 H2) (hd : ∀ σ H, Pv xs.length σ H → D.nx σ H) : tFor (iList K (tVar i)) g tb D σ H :=
  ⟨_, hv, p, rfl, ⟨_, hS⟩, for_list Pv h0 hl hs hd⟩
theorem rd_nx {X b c : St → Hp → Prop} {r : VK} (k : X σ H) : (Ends.mk X r b c).nx σ H := k
theorem rd_decY {c A B : Prop} [Decidable c] (h : c) (k : A) : if decide c = true then A else B := by
  rw [decide_eq_true h, if_pos rfl]; exact k
theorem rd_decF {c A B : Prop} [Decidable c] (h : ¬ c) (k : B) : if decide c = true then A else B := by
  rw [decide_eq_false h, if_neg Bool.false_ne_true]; exact k
theorem rd_yes {R : Bool → Hp → Prop} (k : R true H) : tYes σ H R := k
theorem rd_dec {c A B : Prop} [Decidable c] (h1 : c → A) (h2 : ¬ c → B) : if decide c = true then A else B := by
  by_cases h : c
  · rw [decide_eq_true h, if_pos rfl]; exact h1 h
  · rw [decide_eq_false h, if_neg Bool.false_ne_true]; exact h2 h
theorem rd_decN {c A B : Prop} [Decidable c] (h1 : ¬ c → A) (h2 : c → B) : if (!decide c) = true then A else B := by
  by_cases h : c
  · rw [decide_eq_true h]; exact iteF (h2 h)
  · rw [decide_eq_false h]; exact iteT (h1 h)
theorem rd_sz {A : Prop} {n : Nat} (h : n ≤ 1000) (k : A) : n ≤ sizeLine ∧ A := ⟨Nat.le_trans h (by decide), k⟩
end
/-! ### calls of built-ins, their readings by name -/
def rLen (K : PySem.W.Frag) : List V → Hp → VK → Prop := fun xs H Q => ∃ p ys, xs = [.ref p] ∧ (SqL K H p ys ∨ SqT K H p ys) ∧ Q (.int ys.length) H
theorem call_len {X : Cx} : CallR X (.builtin "len") (rLen X.K) := call_len_seq
def rTupOf (K : PySem.W.Frag) : List V → Hp → VK → Prop := fun xs H Q => ∃ p ys, xs = [.ref p] ∧ ((SqL K H p ys ∧ ∀ l, H l = none → Q (.ref l) (upd H l (.tup ys))) ∨ (SqT K H p ys ∧ Q (.ref p) H))
theorem call_tupOf {X : Cx} : CallR X (.type "tuple") (rTupOf X.K) := call_tuple_of
def rMax2 : List V → Hp → VK → Prop := fun xs H Q => ∃ i j, xs = [.int i, .int j] ∧ Q (.int (if j > i then j else i)) H
theorem call_max {X : Cx} (hc : X.calm = true) : CallR X (.builtin "max") rMax2 := call_max2 hc
def rMin2 : List V → Hp → VK → Prop := fun xs H Q => ∃ i j, xs = [.int i, .int j] ∧ Q (.int (if j < i then j else i)) H
theorem call_min {X : Cx} (hc : X.calm = true) : CallR X (.builtin "min") rMin2 := call_min2 hc
def rRepr (K : PySem.W.Frag) : List V → Hp → VK → Prop := fun xs H Q => ∃ (v : V) (d : PyData), xs = [v] ∧ Dp K H v d ∧ d.showable = true ∧ d.hasDict = false ∧ d.depth < 60 ∧ d.shown.length ≤ sizeLine ∧ Q (.str d.shown) H
theorem call_repr {X : Cx} (hg : X.A.guards = some []) (hu : X.A.units + 64 < cLine) : CallR X (.builtin "repr") (rRepr X.K) := call_reprD hg hu
def rIsX (K : PySem.W.Frag) : List V → Hp → VK → Prop := fun xs H Q => ∃ (a D dd : Addr) (fs : List (Str × V)) (c : V) (cv : Value) (b : Bool), xs = [.ref a, c] ∧ H a = some (ExV (.ref D) (some dd) a) ∧ H dd = some (.xd fs) ∧ ExcC K D ∧ (∀ u, RelV c u → u = cv) ∧ PySem.W.kitOne K (.ref D) cv = some b ∧ Q (.bl b) H
theorem call_isx {X : Cx} : CallR X (.builtin "isinstance") (rIsX X.K) := call_isX
section
variable {K : PySem.W.Frag} {H : Hp} {Q : VK} {p : Addr} {xs : List V} {v : V} {d : PyData}
theorem rd_lenL (h : SqL K H p xs) (k : Q (.int xs.length) H) : rLen K [.ref p] H Q := ⟨p, xs, rfl, .inl h, k⟩
theorem rd_lenT (h : SqT K H p xs) (k : Q (.int xs.length) H) : rLen K [.ref p] H Q := ⟨p, xs, rfl, .inr h, k⟩
theorem rd_tupOf (h : SqL K H p xs) (k : ∀ l, H l = none → Q (.ref l) (upd H l (.tup xs))) : rTupOf K [.ref p] H Q := ⟨p, xs, rfl, .inl ⟨h, k⟩⟩
theorem rd_max {a b : Int} (k : Q (.int (if b > a then b else a)) H) : rMax2 [.int a, .int b] H Q := ⟨a, b, rfl, k⟩
theorem rd_min {a b : Int} (k : Q (.int (if b < a then b else a)) H) : rMin2 [.int a, .int b] H Q := ⟨a, b, rfl, k⟩
theorem rd_repr (h : Dp K H v d) (h1 : d.showable = true) (h2 : d.hasDict = false) (h3 : d.depth < 60) (h4 : d.shown.length ≤ sizeLine) (k : Q (.str d.shown) H) : rRepr K [v] H Q := ⟨v, d, rfl, h, h1, h2, h3, h4, k⟩
end
/-! ### great powers -/
/-- ** by a small exponent, of at most forty million bits -/
def CPowW (i j : Int) : Prop := 0 ≤ j ∧ j ≤ 5 ∧ i.natAbs.log2 < 20000000
theorem CPowW.ok {i j : Int} (h : CPowW i j) : (Builtin.Int.intBits i : Int) * j ≤ 2 ^ 27 := by
  have b : Builtin.Int.intBits i ≤ i.natAbs.log2 + 1 := by
    unfold Builtin.Int.intBits
    split <;> omega
  obtain ⟨h0, h1, h2⟩ := h
  have h3 : (Builtin.Int.intBits i : Int) ≤ 20000000 := by omega
  have h4 : (Builtin.Int.intBits i : Int) * j ≤ 20000000 * 5 := Int.mul_le_mul h3 h1 h0 (by decide)
  have e : (2 : Int) ^ 27 = 134217728 := by decide
  omega
theorem op_powW {X : Cx} : OpR X (binaryOp .Pow) (rI CPowW fun i j => .int (i ^ j.toNat)) := opI fun _ _ _ _ _ _ _ hc q => PyProof.Rows.pow_int hc.1 hc.ok q
theorem CPowW.of {i j : Int} (h0 : 0 ≤ j) (h1 : j ≤ 5) (h2 : -(2 ^ 64) < i) (h3 : i < 2 ^ 64) : CPowW i j := by
  refine ⟨h0, h1, ?_⟩
  have e : i.natAbs < 2 ^ 64 := by omega
  have := PySem.Flt.log2_lt_of (k := 64) (by decide) e
  omega
theorem bits_lt {z : Int} : z.natAbs < 2 ^ (Builtin.Int.intBits z) := by
  unfold Builtin.Int.intBits
  split
  · rename_i h
    have e : z = 0 := by first | exact h | (simpa using h)
    subst e
    decide
  · exact Nat.lt_log2_self
theorem CPowW.add {x z j : Int} (h0 : 0 ≤ j) (h1 : j ≤ 5) (h2 : -(2 ^ 64) < x) (h3 : x < 2 ^ 64) (hz : Builtin.Int.intBits z ≤ 1048576) : CPowW (x + z) j := by
  refine ⟨h0, h1, ?_⟩
  have a1 : z.natAbs < 2 ^ 1048577 := Nat.lt_of_lt_of_le bits_lt (Nat.pow_le_pow_right (by decide) (by omega))
  have a2 : x.natAbs < 2 ^ 64 := by omega
  have a3 : (2 : Nat) ^ 64 ≤ 2 ^ 1048577 := Nat.pow_le_pow_right (by decide) (by decide)
  have a4 : (x + z).natAbs < 2 ^ 1048578 := by
    rw [Nat.pow_succ]
    generalize (2 : Nat) ^ 1048577 = B at *
    omega
  have := PySem.Flt.log2_lt_of (k := 1048578) (by decide) a4
  omega
/-! ### the well: a list of two numbers -/
def Well (H : Hp) (p : Addr) : Prop := ∃ a b : Int, H p = some (.lst [.int a, .int b]) ∧ 0 ≤ a ∧ 0 ≤ b ∧ b < 2147483648
/-- H' is H but at p -/
def But (p : Addr) (H H' : Hp) : Prop := ∀ c, c ≠ p → H' c = H c
theorem But.refl (p : Addr) (H : Hp) : But p H H := fun _ _ => rfl
theorem But.trans {p : Addr} {H H1 H2 : Hp} (a : But p H H1) (b : But p H1 H2) : But p H H2 := fun c h => (b c h).trans (a c h)
theorem But.upd {p : Addr} {H : Hp} {o : HO} : But p H (upd H p o) := fun _ h => upd_ne h
/-- a list or a tuple that is read -/
def Sq (K : PySem.W.Frag) (H : Hp) (q : Addr) (xs : List V) : Prop := SqL K H q xs ∨ SqT K H q xs
theorem Rd.but {p q : Addr} {H H' : Hp} {u : HO} (h : Rd H q u) (n : q ≠ p) (b : But p H H') : Rd H' q u := by
  rcases h with h | ⟨o, h⟩
  · exact .inl ((b q n).trans h)
  · exact .inr ⟨o, (b q n).trans h⟩
theorem SqL.but {K : PySem.W.Frag} {p q : Addr} {H H' : Hp} {xs : List V} (h : SqL K H q xs) (n : q ≠ p) (b : But p H H') : SqL K H' q xs := h.elim (fun h => .inl (Rd.but h n b)) .inr
theorem SqT.but {K : PySem.W.Frag} {p q : Addr} {H H' : Hp} {xs : List V} (h : SqT K H q xs) (n : q ≠ p) (b : But p H H') : SqT K H' q xs := h.elim (fun h => .inl (Rd.but h n b)) .inr
theorem Sq.but {K : PySem.W.Frag} {p q : Addr} {H H' : Hp} {xs : List V} (h : Sq K H q xs) (n : q ≠ p) (b : But p H H') : Sq K H' q xs := h.elim (fun h => .inl (SqL.but h n b)) fun h => .inr (SqT.but h n b)
theorem rd_ixQ {K : PySem.W.Frag} {p : Addr} {H : Hp} {xs : List V} {i : Int} {v : V} {Q : VK} (h : Sq K H p xs) (e : atI xs i = some v) (k : Q v H) : rIx K (.ref p) (.int i) H Q :=
  h.elim (fun h => .inl ⟨p, xs, i, v, rfl, rfl, h, e, k⟩) fun h => .inr (.inl ⟨p, xs, i, v, rfl, rfl, h, e, k⟩)
theorem rd_lenQ {K : PySem.W.Frag} {p : Addr} {H : Hp} {xs : List V} {Q : VK} (h : Sq K H p xs) (k : Q (.int xs.length) H) : rLen K [.ref p] H Q := ⟨p, xs, rfl, h, k⟩
/-- a divisor of at most some hundred figures -/
abbrev Dv (m : Int) : Prop := 0 < m ∧ m < 10 ^ 70
theorem Dv.w {i m : Int} (h : Dv m) : CDivW i m := by
  refine wide_div (b := 240) h.1 ?_ (by decide) (by decide)
  have h1 := h.1
  have h2 : m < (10 : Int) ^ 70 := h.2
  omega
theorem getInt {ns : List Int} {i : Nat} {y : V} (h : (ns.map V.int)[i]? = some y) : ∃ z, ns[i]? = some z ∧ y = V.int z := by
  rw [List.getElem?_map] at h
  cases e : ns[i]? with
  | none =>
    rw [e] at h
    cases h
  | some z =>
    rw [e] at h
    exact ⟨z, rfl, (Option.some.inj h).symm⟩
theorem atI_of {α : Type} {xs : List α} {i : Int} {v : α} (h0 : 0 ≤ i) (h : xs[i.toNat]? = some v) : atI xs i = some v := by
  have hl : i.toNat < xs.length := (List.getElem?_eq_some_iff.mp h).1
  unfold atI ixN
  rw [if_pos h0, if_pos (by omega), Option.bind_some]
  exact h
theorem atI_in {α : Type} {xs : List α} {i : Int} (h0 : 0 ≤ i) (h1 : i < xs.length) : ∃ v ∈ xs, atI xs i = some v := by
  have hl : i.toNat < xs.length := by omega
  exact ⟨xs[i.toNat], List.getElem_mem hl, atI_of h0 (List.getElem?_eq_getElem hl)⟩
/-! ### data in the heap -/
/-- all that was tracked is as it was, but at p -/
def Keep (p : Addr) (H H' : Hp) : Prop := ∀ c o, c ≠ p → H c = some o → H' c = some o
theorem Keep.refl (p : Addr) (H : Hp) : Keep p H H := fun _ _ _ e => e
theorem Keep.trans {p : Addr} {H H1 H2 : Hp} (a : Keep p H H1) (b : Keep p H1 H2) : Keep p H H2 := fun c o n e => b c o n (a c o n e)
theorem But.keep {p : Addr} {H H' : Hp} (b : But p H H') : Keep p H H' := fun c o n e => (b c n).trans e
theorem Same.keep {p : Addr} {H H' : Hp} (b : Same H H') : Keep p H H' := fun c o _ e => b c o e
theorem Keep.new {p a : Addr} {H : Hp} {o : HO} (h : H a = none) : Keep p H (upd H a o) := fun c u _ e => by rw [upd_ne (ne_of_none e h)]; exact e
/-- the heap without p -/
def hid (p : Addr) (H : Hp) : Hp := fun b => if b = p then none else H b
theorem hid_at {p : Addr} {H : Hp} {b : Addr} {o : HO} (h : hid p H b = some o) : b ≠ p ∧ H b = some o := by
  unfold hid at h
  split at h
  · cases h
  · rename_i n
    exact ⟨n, h⟩
theorem hid_of {p : Addr} {H : Hp} {b : Addr} {o : HO} (n : b ≠ p) (h : H b = some o) : hid p H b = some o := by
  unfold hid
  rw [if_neg n]
  exact h
theorem Keep.hid {p : Addr} {H H' : Hp} (k : Keep p H H') : Same (hid p H) (hid p H') := fun b o e => by
  obtain ⟨n, h⟩ := hid_at e
  exact hid_of n (k b o n h)
theorem hid_sub {p : Addr} {H : Hp} : Same (hid p H) H := fun b o e => (hid_at e).2
/-- what is new in B, seen from A -/
def nw (A B : Hp) : Hp := fun b => match A b with
  | some _ => none
  | none => B b
theorem nw_at {A B : Hp} {b : Addr} {o : HO} (h : nw A B b = some o) : A b = none ∧ B b = some o := by
  unfold nw at h
  cases e : A b with
  | some _ => rw [e] at h; cases h
  | none => rw [e] at h; exact ⟨rfl, h⟩
theorem nw_of {A B : Hp} {b : Addr} {o : HO} (h : A b = none) (h2 : B b = some o) : nw A B b = some o := by
  unfold nw
  rw [h]
  exact h2
theorem nw_same {A B A' B' : Hp} (h : ∀ b o, A b = none → B b = some o → A' b = none ∧ B' b = some o) : Same (nw A B) (nw A' B') := fun b o e => by
  obtain ⟨h1, h2⟩ := nw_at e
  obtain ⟨h3, h4⟩ := h b o h1 h2
  exact nw_of h3 h4
theorem nw_sub {A B : Hp} : Same (nw A B) B := fun b o e => (nw_at e).2
/-- what is tracked stays tracked -/
def Dom (A B : Hp) : Prop := ∀ b, B b = none → A b = none
theorem Keep.dom {p : Addr} {A B : Hp} (k : Keep p A B) (hp : B p ≠ none) : Dom A B := fun b h => by
  by_cases e : b = p
  · exact absurd (e ▸ h) hp
  · cases q : A b with
    | none => rfl
    | some o =>
      rw [k b o e q] at h
      cases h
theorem Well.some {H : Hp} {p : Addr} (w : Well H p) : H p ≠ none := by
  obtain ⟨a, b, e, _⟩ := w
  rw [e]
  exact fun z => nomatch z
theorem Well.upd {H : Hp} {p q : Addr} {o : HO} (w : Well H p) (h : H q = none) : Well (upd H q o) p := by
  obtain ⟨a, b, e, r⟩ := w
  exact ⟨a, b, by rw [upd_ne (ne_of_none e h)]; exact e, r⟩
theorem SqL.same {K : PySem.W.Frag} {q : Addr} {H H' : Hp} {xs : List V} (h : SqL K H q xs) (s : Same H H') : SqL K H' q xs := s.seq h
theorem SqT.same {K : PySem.W.Frag} {q : Addr} {H H' : Hp} {xs : List V} (h : SqT K H q xs) (s : Same H H') : SqT K H' q xs := by
  rcases h with (h | ⟨o, h⟩) | h
  · exact .inl (.inl (s _ _ h))
  · exact .inl (.inr ⟨o, s _ _ h⟩)
  · exact .inr h
mutual
theorem Dp.same {K : PySem.W.Frag} {H H' : Hp} (s : Same H H') : ∀ {v : V} {d : PyData}, Dp K H v d → Dp K H' v d
  | _, _, .non => .non
  | _, _, .bl b => .bl b
  | _, _, .int i => .int i
  | _, _, .str x => .str x
  | _, _, .lst h a => .lst (SqL.same h s) (DpAll.same s a)
  | _, _, .tup h a => .tup (SqT.same h s) (DpAll.same s a)
theorem DpAll.same {K : PySem.W.Frag} {H H' : Hp} (s : Same H H') : ∀ {vs : List V} {ds : List PyData}, DpAll K H vs ds → DpAll K H' vs ds
  | _, _, .nil => .nil
  | _, _, .cons a r => .cons (Dp.same s a) (DpAll.same s r)
end
theorem DpAll.app {K : PySem.W.Frag} {H : Hp} {v : V} {d : PyData} : ∀ {vs : List V} {ds : List PyData}, DpAll K H vs ds → Dp K H v d → DpAll K H (vs ++ [v]) (ds ++ [d])
  | _, _, .nil, h => .cons h .nil
  | _, _, .cons a r, h => .cons a (DpAll.app r h)
/-- data that may be shown, at most n deep -/
structure Good (n : Nat) (d : PyData) : Prop where
  sh : d.showable = true
  nd : d.hasDict = false
  dp : d.depth ≤ n
  ln : d.shown.length + 20 ≤ 120 * 2 ^ n
theorem Good.up {n : Nat} {d : PyData} (g : Good n d) : Good (n + 1) d := ⟨g.sh, g.nd, by have := g.dp; omega, by have := g.ln; rw [Nat.pow_succ]; omega⟩
theorem textFrom_le : ∀ (ts : List Str) (k : Nat) (acc : Str), (textFrom k acc ts).length ≤ acc.length + piled ts
  | [], k, acc => by show acc.length ≤ _; omega
  | t :: r, k, acc => by
    have h := textFrom_le r (k + 1) (acc ++ (if k > 0 then ", " else "" : String) ++ t)
    have e : (((if k > 0 then ", " else "" : String) : Str)).length ≤ 2 := by split <;> decide
    rw [strLen_append, strLen_append] at h
    rw [piled_cons]
    show (textFrom (k + 1) _ r).length ≤ _
    omega
theorem listText_le (ts : List Str) : (listText ts).length ≤ piled ts + 2 := by
  have h := textFrom_le ts 0 "["
  unfold listText
  rw [strLen_append]
  have e1 : ((("[" : String) : Str)).length = 1 := rfl
  have e2 : ((("]" : String) : Str)).length = 1 := rfl
  omega
theorem tupleText_le (ts : List Str) : (tupleText ts).length ≤ piled ts + 3 := by
  unfold tupleText
  rw [strLen_append, strLen_append]
  have e1 : ((("(" : String) : Str)).length = 1 := rfl
  have e3 : (((if ts.length == 1 then ",)" else ")" : String) : Str)).length ≤ 2 := by split <;> decide
  have e2 : (Str.join ", " ts).length ≤ piled ts := by
    by_cases h : ts = []
    · subst h; decide
    · have := join_length_add ts h
      omega
  omega
theorem int_shown {i : Int} {k : Nat} (hk : 0 < k) (h : i.natAbs < 10 ^ k) : (PyData.int i).shown.length ≤ k + 1 := by
  show (Str.ofString (toString i)).length ≤ _
  rw [ofString_length]
  exact int_text_length_le10 hk h
theorem int_showable {i : Int} (h : i.natAbs < 10 ^ 500) : (PyData.int i).showable = true := by
  have e : i.natAbs < 2 ^ 1900 := Nat.lt_trans h (by decide +kernel)
  have := PySem.Flt.log2_lt_of (k := 1900) (by decide) e
  exact decide_eq_true (by omega)
/-! ### kept refusals -/
/-- at a: a kept refusal of the class at C, its one field f is v -/
def ExAt (C : Addr) (f : Str) (H : Hp) (a : Addr) (v : V) : Prop := ∃ dd, H a = some (ExV (.ref C) (some dd) a) ∧ H dd = some (.xd [(f, v)])
theorem ExAt.same {C a : Addr} {f : Str} {H H' : Hp} {v : V} (h : ExAt C f H a v) (s : Same H H') : ExAt C f H' a v := by
  obtain ⟨dd, h1, h2⟩ := h
  exact ⟨dd, s _ _ h1, s _ _ h2⟩
theorem rd_forR {ta : TA} {g : TG} {tb : TS} {D : Ends} {σ : St} {H : Hp} (k : ta σ H fun vs H1 => ∃ j : Int, vs = [.int j] ∧ -(2 ^ 62) ≤ j ∧ j < 2 ^ 62 ∧ ∃ W : Nat → Nat → St → Hp → Prop, (∃ m, W 0 m σ H1) ∧ ∀ i m σ H, W i m σ H →
    ((Itr 0 j.toNat).stop i H ∧ D.nx σ H) ∨ ((Itr 0 j.toNat).go i H ∧ ∃ N : St → Hp → Prop, (∀ σ' H', N σ' H' → ∃ m', m' < m ∧ W (i + 1) m' σ' H') ∧ ∀ x H', (Itr 0 j.toNat).yld i H x H' → g x σ H' fun σ2 H2 => tb { D with nx := N, ct := N, bk := D.nx } σ2 H2)) : tFor (iRng1 ta) g tb D σ H := k
theorem rd_forI {K : PySem.W.Frag} {te : TE} {g : TG} {tb : TS} {D : Ends} {σ : St} {H : Hp} (k : te σ H fun x H1 => ∃ a, x = .ref a ∧ (∃ xs, SqL K H1 a xs) ∧ ∃ W : Nat → Nat → St → Hp → Prop, (∃ m, W 0 m σ H1) ∧ ∀ i m σ H, W i m σ H →
    ((Itl K a).stop i H ∧ D.nx σ H) ∨ ((Itl K a).go i H ∧ ∃ N : St → Hp → Prop, (∀ σ' H', N σ' H' → ∃ m', m' < m ∧ W (i + 1) m' σ' H') ∧ ∀ x H', (Itl K a).yld i H x H' → g x σ H' fun σ2 H2 => tb { D with nx := N, ct := N, bk := D.nx } σ2 H2)) : tFor (iList K te) g tb D σ H := k
theorem rd_par {i j : Nat} {ta : TA} {D : Ends} {σ : St} {H : Hp} (k : ta σ H fun vs H1 => ∃ v w, vs = [v, w] ∧ D.nx ((σ.set i (some v)).set j (some w)) H1) : tPar i j ta D σ H := k
theorem rd_gtup {K : PySem.W.Frag} {n : Nat} {t : TGs} {a : Addr} {xs : List V} {σ : St} {H : Hp} {R : St → Hp → Prop} (h : SqT K H a xs) (hl : xs.length = n) (k : t xs σ H R) : gTup K n t (.ref a) σ H R := ⟨a, xs, rfl, h, hl, k⟩
theorem rd_gcons {t : TG} {u : TGs} {v : V} {r : List V} {σ : St} {H : Hp} {R : St → Hp → Prop} (k : t v σ H fun σ' H' => u r σ' H' R) : gCons t u (v :: r) σ H R := ⟨v, r, rfl, k⟩
theorem rd_gnil {σ : St} {H : Hp} {R : St → Hp → Prop} (k : R σ H) : gNil [] σ H R := ⟨rfl, k⟩
theorem rd_neD {K : PySem.W.Frag} {x y : V} {d e : PyData} {H : Hp} {Q : VK} (h1 : Dp K H x d) (h2 : Dp K H y e) (s1 : SeqAt.shaped d = true) (s2 : SeqAt.shaped e = true) (k : Q (.bl (!PyData.eqv d e)) H) : rNeD K x y H Q := ⟨d, e, h1, h2, s1, s2, k⟩
theorem rd_cat {p q : Addr} {xs ys : List V} {H : Hp} {Q : VK} (h1 : H p = some (.lst xs)) (h2 : H q = some (.lst ys)) (hl : xs.length + ys.length ≤ 1000) (k : ∀ l, H l = none → Q (.ref l) (upd H l (.lst (xs ++ ys)))) : rCat (.ref p) (.ref q) H Q := ⟨p, q, xs, ys, rfl, rfl, h1, h2, Nat.le_trans hl (by decide), k⟩
theorem Same.new {a : Addr} {H : Hp} {o : HO} (h : H a = none) : Same H (upd H a o) := fun c u e => by rw [upd_ne (ne_of_none e h)]; exact e
theorem kept_end {C a d : Addr} {f : Str} {H : Hp} {v : V} (hd : H d = none) (ha : upd H d (.xd [(f, v)]) a = none) :
    ExAt C f (upd (upd H d (.xd [(f, v)])) a (ExV (.ref C) (some d) a)) a v ∧ Same H (upd (upd H d (.xd [(f, v)])) a (ExV (.ref C) (some d) a)) := by
  have nd : d ≠ a := ne_of_none upd_same ha
  refine ⟨⟨d, upd_same, by rw [upd_ne nd, upd_same]⟩, fun b o e => ?_⟩
  have n1 : b ≠ d := ne_of_none e hd
  have n2 : b ≠ a := ne_of_none ((upd_ne n1).trans e) ha
  rw [upd_ne n2, upd_ne n1]
  exact e
theorem rd_xv0 {K : PySem.W.Frag} {C a : Addr} {f : Str} {H : Hp} {v : V} {i : Nat} {σ : St} {Q : VK} (hv : σ[i]? = some (some (.ref a))) (h : ExAt C f H a v) (T : XfC K C) (hno : PySem.W.findIn K (.ref C) f = some none) (k : Q v H) : tXv K f (tVar i) σ H Q := by
  obtain ⟨dd, h1, h2⟩ := h
  exact ⟨_, hv, a, C, dd, _, v, rfl, h1, T, hno, h2, by simp [List.lookup], k⟩
theorem rd_isx {K : PySem.W.Frag} {C D a : Addr} {f : Str} {H : Hp} {v : V} {b : Bool} {Q : VK} (h : ExAt C f H a v) (T : ExcC K C) (e : PySem.W.kitOne K (.ref C) (.ref D) = some b) (k : Q (.bl b) H) : rIsX K [.ref a, .ref D] H Q := by
  obtain ⟨dd, h1, h2⟩ := h
  exact ⟨a, C, dd, _, .ref D, .ref D, b, rfl, h1, h2, T, fun u r => r, e, k⟩
theorem rd_isxT {K : PySem.W.Frag} {C a : Addr} {T : String} {f : Str} {H : Hp} {v : V} {b : Bool} {Q : VK} (h : ExAt C f H a v) (X : ExcC K C) (e : PySem.W.kitOne K (.ref C) (.type T) = some b) (k : Q (.bl b) H) : rIsX K [.ref a, .ty T] H Q := by
  obtain ⟨dd, h1, h2⟩ := h
  exact ⟨a, C, dd, _, .ty T, .type T, b, rfl, h1, h2, X, fun u r => r, e, k⟩
theorem rd_lcR {g : TG} {tt : TT} {te : TE} {ta : TA} {vs : List Nat} {σ : St} {H : Hp} {Q : VK} (k : ta σ H fun zs H1 => ∃ j : Int, zs = [.int j] ∧ -(2 ^ 62) ≤ j ∧ j < 2 ^ 62 ∧ ∀ D, H1 D = none → ∃ W : Nat → Nat → Hp → Prop, (∃ m, W 0 m (upd H1 D (.lst []))) ∧ ∀ i m H, W i m H →
    ((Itr 0 j.toNat).stop i H ∧ Q (.ref D) H) ∨ ((Itr 0 j.toNat).go i H ∧ ∃ Nx : Hp → Prop, (∀ H', Nx H' → ∃ m', m' < m ∧ W (i + 1) m' H') ∧ ∀ x H', (Itr 0 j.toNat).yld i H x H' → g x (wipe σ vs) H' fun σ2 H2 => wipe σ2 vs = wipe σ vs ∧ tt σ2 H2 fun b H3 =>
      if b = true then te σ2 H3 fun y H4 => ∃ acc, H4 D = some (.lst acc) ∧ acc.length < sizeLine ∧ Nx (upd H4 D (.lst (acc ++ [y]))) else Nx H3)) : tLc (iRng1 ta) g tt te vs σ H Q := k
theorem pow_n (n : Nat) : 1 ≤ 2 ^ n := Nat.pos_of_ne_zero (by intro h; have := Nat.pow_eq_zero.mp h; omega)
theorem good_int {n : Nat} {i : Int} (h : i.natAbs < 10 ^ 70) : Good n (.int i) := by
  refine ⟨int_showable (Nat.lt_trans h (by decide +kernel)), rfl, Nat.zero_le _, ?_⟩
  have h1 := int_shown (k := 70) (by decide) h
  have := pow_n n
  omega
theorem good_non {n : Nat} : Good n .none := ⟨rfl, rfl, Nat.zero_le _, by have e : (PyData.none).shown.length = 4 := rfl; have := pow_n n; omega⟩
theorem good_bl {n : Nat} {b : Bool} : Good n (.bool b) := ⟨rfl, rfl, Nat.zero_le _, by have e : (PyData.bool b).shown.length ≤ 5 := by cases b <;> decide
                                                                                        have := pow_n n; omega⟩
theorem good_str {n : Nat} {x : Str} (h : (PyData.str x).shown.length ≤ 100) : Good n (.str x) := ⟨rfl, rfl, Nat.zero_le _, by have := pow_n n; omega⟩
theorem good_all {n : Nat} : ∀ {ds : List PyData}, (∀ d ∈ ds, Good n d) → PyData.showableAll ds = true ∧ PyData.hasDictAll ds = false ∧ PyData.depthAll ds ≤ n ∧ piled (PyData.shownAll ds) + ds.length * 18 ≤ ds.length * (120 * 2 ^ n)
  | [], _ => ⟨rfl, rfl, Nat.zero_le _, Nat.le_of_eq (by simp [PyData.shownAll, piled])⟩
  | d :: ds, h => by
    obtain ⟨a1, a2, a3, a4⟩ := good_all fun e he => h e (List.mem_cons_of_mem _ he)
    have g := h d List.mem_cons_self
    refine ⟨?_, ?_, ?_, ?_⟩
    · show (d.showable && PyData.showableAll ds) = true
      rw [g.sh, a1]; rfl
    · show (d.hasDict || PyData.hasDictAll ds) = false
      rw [g.nd, a2]; rfl
    · exact Nat.max_le.mpr ⟨g.dp, a3⟩
    · show piled (d.shown :: PyData.shownAll ds) + (ds.length + 1) * 18 ≤ (ds.length + 1) * (120 * 2 ^ n)
      rw [piled_cons]
      have := g.ln
      rw [Nat.succ_mul, Nat.succ_mul]
      omega
theorem good_list {n : Nat} {ds : List PyData} (h : ∀ d ∈ ds, Good n d) (hl : ds.length ≤ 2) : Good (n + 1) (.list ds) := by
  obtain ⟨a1, a2, a3, a4⟩ := good_all h
  refine ⟨a1, a2, Nat.succ_le_succ a3, ?_⟩
  have e : (PyData.list ds).shown.length ≤ piled (PyData.shownAll ds) + 2 := listText_le _
  have := pow_n n
  rw [Nat.pow_succ]
  have q : ds.length = 0 ∨ ds.length = 1 ∨ ds.length = 2 := by omega
  rcases q with q | q | q <;> rw [q] at a4 <;> omega
theorem good_tup {n : Nat} {ds : List PyData} (h : ∀ d ∈ ds, Good n d) (hl : ds.length ≤ 2) : Good (n + 1) (.tuple ds) := by
  obtain ⟨a1, a2, a3, a4⟩ := good_all h
  refine ⟨a1, a2, Nat.succ_le_succ a3, ?_⟩
  have e : (PyData.tuple ds).shown.length ≤ piled (PyData.shownAll ds) + 3 := tupleText_le _
  have := pow_n n
  rw [Nat.pow_succ]
  have q : ds.length = 0 ∨ ds.length = 1 ∨ ds.length = 2 := by omega
  rcases q with q | q | q <;> rw [q] at a4 <;> omega
end Tug
namespace Tug
open PySem L2 PySem.Spec PyProof.Rows
/-! ### f(k = v, ..): keywords alone, told from the last to the first -/
def gR {α : Type} (n : Nat) (us ws : List α) : List α := if us.isEmpty && ws.length == n then ws.reverse else []
theorem gR_on {α : Type} {n : Nat} {ws : List α} (h : ws.length = n) : gR n [] ws = ws.reverse := if_pos (by simp [h])
theorem vals_app {xs ys : List V} {us ws : List Value} (a : Vals xs us) (b : Vals ys ws) : Vals (xs ++ ys) (us ++ ws) := by
  induction a with
  | nil => exact b
  | cons r _ ih => exact .cons r ih
theorem vals_rev {xs : List V} {us : List Value} (a : Vals xs us) : Vals xs.reverse us.reverse := by
  induction a with
  | nil => exact .nil
  | cons r _ ih =>
    rw [List.reverse_cons, List.reverse_cons]
    exact vals_app ih (.cons r .nil)
theorem gR_vals {n : Nat} {vs zs : List V} {us ws : List Value} (a : Vals vs us) (b : Vals zs ws) : Vals (gR n vs zs) (gR n us ws) := by
  have e1 : vs.isEmpty = us.isEmpty := by cases a <;> rfl
  have e2 := b.length
  unfold gR
  rw [e1, e2]
  split
  · exact vals_rev b
  · exact .nil
section
variable {K : PySem.W.Frag}
theorem Fun.kbR {x qual : Str} {st : Stmt} {f : Addr} {fd : FuncData} {ps ks : List Str} (F : Fun K x qual st f fd) (n : Nat) (hn : ps.length = n) (h0 : 0 < n) (hk : ks.length = n)
    (h : ∀ (kV doc pm : Value) (an : Option Addr) (cdv ct : Value) (ws : List Value), ws.length = n → bindArgs (PySem.W.fnOf x qual (defArgs st) (defBody st) (defScope st) .none kV doc pm an cdv ct) ⟨[], ks.zip ws⟩ = pure (ps.zip ws.reverse)) :
    KBinds K fd ps ks (gR n) (gR n) := by
  obtain ⟨oc, od, kV, doc, pm, an, cdv, ct, osl, rfl, lk, hcd⟩ := F.ex
  refine ⟨fun s us ws _ hl => ?_, gR_vals⟩
  cases us with
  | cons u us =>
    have e : gR n (u :: us) ws = [] := rfl
    rw [e, hn] at hl
    exact absurd hl (by show ¬ (0 = n); omega)
  | nil =>
    by_cases hw : ws.length = n
    · rw [gR_on hw]
      exact BindsTo.of_eq (h kV doc pm an cdv ct ws hw)
    · have e : gR n [] ws = [] := if_neg (by simp [hw])
      rw [e, hn] at hl
      exact absurd hl (by show ¬ (0 = n); omega)
end
def tCallK0 (sp : Sp) (gV : List V → List V → List V) (E : XK) (tk : TA) : TE := fun σ H Q => tk σ H fun zs H2 => sp (gV [] zs) H2 Q E
section
variable {X : Cx} {CX : CXT} {k : Nat} {f : Addr} {fd : FuncData} {ps ks : List Str} {sp : Sp} {E : XK} {x : Str} {p pos : Pos} {kws : List Keyword} {tk : TA} {g : List Value → List Value → List Value} {gV : List V → List V → List V}
theorem pe_callK0 (F : FnOk X.prog X.w X.K X.mg X.base CX k f fd ps sp) (hr : Room k X.A) (hg : Gl X x) (hm : X.mg x = some (.ref f)) (hk : PySem.W.keepIn X.K (.ref f) = true) (hb : KBinds X.K fd ps ks g gV) (hx : Passes CX X E)
    (hkw : PK X kws tk) (hall : (backToKw pos (keywordEach kws X.env)).all (·.1.isSome) = true := by rfl) (hks : (backToKw pos (keywordEach kws X.env)).filterMap (·.1) = ks := by rfl)
    (hdb : (x == ("__debug__" : Str)) = false := by decide)
    (hpl : ((backTo pos (starEach [] X.env)).any (·.1) || (backToKw pos (keywordEach kws X.env)).any (·.1.isNone)) = false := by rfl) :
    PE X (.Call (.Name x p) [] kws pos) (tCallK0 sp gV E tk) := by
  refine ⟨fun pins s σ H Q I h => ?_⟩
  refine wpAny_Call_Name_kw (ld_glob I hg hm ?_ hdb)
  refine PySem.W.callWith_KW0 (h₀ := X.base) I.ok.mod.kin hk hall ?_ hpl
  refine thn (hkw.run pos pins s σ H _ I h) fun ws s2 ⟨zs, H2, I2, rz, q2⟩ => ⟨I2.kIn, ?_⟩
  rw [hks]
  exact run_fnk (us := []) (vs := []) F hr hb hx I2 .nil rz q2
end
/-! ### what may be shown, by its depth and its length -/
structure Sh (D L : Nat) (d : PyData) : Prop where
  sh : d.showable = true
  nd : d.hasDict = false
  dp : d.depth ≤ D
  ln : d.shown.length ≤ L
theorem Sh.up {D L D' L' : Nat} {d : PyData} (h : Sh D L d) (a : D ≤ D') (b : L ≤ L') : Sh D' L' d := ⟨h.sh, h.nd, Nat.le_trans h.dp a, Nat.le_trans h.ln b⟩
theorem sh_int {k : Nat} {i : Int} (h0 : 0 < k) (hk : k ≤ 500) (h : i.natAbs < 10 ^ k) : Sh 0 (k + 1) (.int i) :=
  ⟨int_showable (Nat.lt_of_lt_of_le h (Nat.pow_le_pow_right (by decide) hk)), rfl, Nat.le_refl _, int_shown h0 h⟩
theorem sh_all {D L : Nat} : ∀ {ds : List PyData}, (∀ d ∈ ds, Sh D L d) → PyData.showableAll ds = true ∧ PyData.hasDictAll ds = false ∧ PyData.depthAll ds ≤ D ∧ piled (PyData.shownAll ds) ≤ ds.length * (L + 2)
  | [], _ => ⟨rfl, rfl, Nat.zero_le _, Nat.le_of_eq (by simp [PyData.shownAll, piled])⟩
  | d :: ds, h => by
    obtain ⟨a1, a2, a3, a4⟩ := sh_all fun e he => h e (List.mem_cons_of_mem _ he)
    have g := h d List.mem_cons_self
    refine ⟨?_, ?_, Nat.max_le.mpr ⟨g.dp, a3⟩, ?_⟩
    · show (d.showable && PyData.showableAll ds) = true
      rw [g.sh, a1]; rfl
    · show (d.hasDict || PyData.hasDictAll ds) = false
      rw [g.nd, a2]; rfl
    · show piled (d.shown :: PyData.shownAll ds) ≤ (ds.length + 1) * (L + 2)
      rw [piled_cons, Nat.succ_mul]
      have := g.ln
      omega
theorem sh_list {D L n : Nat} {ds : List PyData} (h : ∀ d ∈ ds, Sh D L d) (hl : ds.length ≤ n) : Sh (D + 1) (n * (L + 2) + 3) (.list ds) := by
  obtain ⟨a1, a2, a3, a4⟩ := sh_all h
  have e : (PyData.list ds).shown.length ≤ piled (PyData.shownAll ds) + 2 := listText_le _
  have := Nat.mul_le_mul_right (L + 2) hl
  exact ⟨a1, a2, Nat.succ_le_succ a3, by omega⟩
theorem sh_tup {D L n : Nat} {ds : List PyData} (h : ∀ d ∈ ds, Sh D L d) (hl : ds.length ≤ n) : Sh (D + 1) (n * (L + 2) + 3) (.tuple ds) := by
  obtain ⟨a1, a2, a3, a4⟩ := sh_all h
  have e : (PyData.tuple ds).shown.length ≤ piled (PyData.shownAll ds) + 3 := tupleText_le _
  have := Nat.mul_le_mul_right (L + 2) hl
  exact ⟨a1, a2, Nat.succ_le_succ a3, by omega⟩
theorem rd_show {K : PySem.W.Frag} {v : V} {d : PyData} {H : Hp} {Q : VK} {D L : Nat} (h : Dp K H v d) (s : Sh D L d) (hD : D < 60) (hL : L ≤ 16000000) (k : Q (.str d.shown) H) : rRepr K [v] H Q :=
  rd_repr h s.sh s.nd (Nat.lt_of_le_of_lt s.dp hD) (Nat.le_trans s.ln (Nat.le_trans hL (by decide))) k
/-! ### forms -/
abbrev Fm := Int × List (Int × Int)
def pd (q : Int × Int) : PyData := .tuple [.int q.1, .int q.2]
def fmd (f : Fm) : PyData := .tuple [.int f.1, .tuple (f.2.map pd)]
theorem dpAll_at {K : PySem.W.Frag} {H : Hp} : ∀ {vs : List V} {ds : List PyData}, DpAll K H vs ds → vs.length = ds.length ∧ ∀ (i : Nat) (x : V), vs[i]? = some x → ∃ d, ds[i]? = some d ∧ Dp K H x d
  | _, _, .nil => ⟨rfl, fun i x h => by cases h⟩
  | _, _, .cons a r => by
    obtain ⟨l, k⟩ := dpAll_at r
    refine ⟨by simp [l], fun i x h => ?_⟩
    cases i with
    | zero =>
      cases Option.some.inj h
      exact ⟨_, rfl, a⟩
    | succ i => exact k i x h
theorem dp_tup {K : PySem.W.Frag} {H : Hp} {v : V} {ds : List PyData} (h : Dp K H v (.tuple ds)) : ∃ a vs, v = .ref a ∧ SqT K H a vs ∧ DpAll K H vs ds := by
  cases h with
  | tup a b => exact ⟨_, _, rfl, a, b⟩
theorem dp_int {K : PySem.W.Frag} {H : Hp} {v : V} {i : Int} (h : Dp K H v (.int i)) : v = .int i := by
  cases h
  rfl
theorem dp_two {K : PySem.W.Frag} {H : Hp} {vs : List V} {d e : PyData} (h : DpAll K H vs [d, e]) : ∃ x y, vs = [x, y] ∧ Dp K H x d ∧ Dp K H y e := by
  cases h with
  | cons a r =>
    cases r with
    | cons b r =>
      cases r
      exact ⟨_, _, rfl, a, b⟩
theorem dp_pair {K : PySem.W.Frag} {H : Hp} {v : V} {q : Int × Int} (h : Dp K H v (pd q)) : ∃ a, v = .ref a ∧ SqT K H a [.int q.1, .int q.2] := by
  obtain ⟨a, vs, rfl, hs, hd⟩ := dp_tup h
  obtain ⟨x, y, rfl, hx, hy⟩ := dp_two hd
  rw [dp_int hx, dp_int hy] at hs
  exact ⟨a, rfl, hs⟩
theorem dp_form {K : PySem.W.Frag} {H : Hp} {v : V} {f : Fm} (h : Dp K H v (fmd f)) : ∃ a b vs, v = .ref a ∧ SqT K H a [.int f.1, .ref b] ∧ SqT K H b vs ∧ DpAll K H vs (f.2.map pd) := by
  obtain ⟨a, vs, rfl, hs, hd⟩ := dp_tup h
  obtain ⟨x, y, rfl, hx, hy⟩ := dp_two hd
  obtain ⟨b, ws, rfl, ht, he⟩ := dp_tup hy
  rw [dp_int hx] at hs
  exact ⟨a, b, ws, rfl, hs, ht, he⟩
/-- a setting's number, and the products of a form -/
def num (ns : List Int) (k : Int) : Int := (atI ns k).getD 0
def prods (ps : List (Int × Int)) (ns : List Int) : List Int := ps.map fun q => q.2 * num ns q.1
def wo (f : Fm) (ns : List Int) : Int := f.1 + (prods f.2 ns).sum
theorem num_at {ns : List Int} {k : Int} (h0 : 0 ≤ k) (h1 : k < ns.length) : atI (ns.map V.int) k = some (.int (num ns k)) ∧ num ns k ∈ ns := by
  obtain ⟨z, hz, hz2⟩ := atI_in (xs := ns) h0 h1
  have e : num ns k = z := by unfold num; rw [hz2]; rfl
  rw [e]
  refine ⟨?_, hz⟩
  unfold atI ixN at hz2 ⊢
  rw [List.length_map, if_pos h0, if_pos h1, Option.bind_some] at *
  rw [List.getElem?_map, hz2]
  rfl
/-- times and numbers that may be multiplied -/
abbrev Mb (n : Int) : Prop := n.natAbs < 2 ^ 3000
theorem mb_mul {a b : Int} (ha : Mb a) (hb : Mb b) : CMulW a b := wide_mul (a := 3000) (b := 3000) ha hb (by decide) (by decide) (by decide)
/-- all knobs of a form have a number -/
structure Fits (ps : List (Int × Int)) (ns : List Int) : Prop where
  at_ : ∀ q ∈ ps, 0 ≤ q.1 ∧ q.1 < (ns.length : Int) ∧ Mb q.2
  nm : ∀ n ∈ ns, Mb n
  len : ps.length ≤ 1000
/-- [much * numbers[knob] for knob, much in parts] -/
theorem lc_prods {K : PySem.W.Frag} {H1 : Hp} {D a n : Addr} {σ : L2.St} {i j l : Nat} {own : List Nat} {vs : List V} {ps : List (Int × Int)} {ns : List Int} {Qd : Hp → Prop} {rix : R2} (hD : H1 D = none) (hT : SqT K H1 a vs) (hp : DpAll K H1 vs (ps.map pd)) (hn : SqL K H1 n (ns.map V.int)) (hF : Fits ps ns)
    (hix : ∀ H k x Q, SqL K H n (ns.map V.int) → atI (ns.map V.int) k = some x → Q x H → rix (.ref n) (.int k) H Q)
    (hw : ∀ x y : Int, wipe (((wipe σ own).set i (some (.int x))).set j (some (.int y))) own = wipe σ own) (hi : ∀ x y : Int, (((wipe σ own).set i (some (.int x))).set j (some (.int y)))[i]? = some (some (.int x)))
    (hj : ∀ x y : Int, (((wipe σ own).set i (some (.int x))).set j (some (.int y)))[j]? = some (some (.int y))) (hl : ∀ x y : Int, (((wipe σ own).set i (some (.int x))).set j (some (.int y)))[l]? = some (some (.ref n)))
    (hd : ∀ H', H' D = some (.lst ((prods ps ns).map V.int)) → Same H1 H' → Qd H') :
    ∃ W : Nat → Nat → Hp → Prop, (∃ m, W 0 m (upd H1 D (.lst []))) ∧ ∀ m c H, W m c H →
      ((Itt K a).stop m H ∧ Qd H) ∨ ((Itt K a).go m H ∧ ∃ Nx : Hp → Prop, (∀ H', Nx H' → ∃ m', m' < c ∧ W (m + 1) m' H') ∧ ∀ x H', (Itt K a).yld m H x H' → gTup K 2 (gCons (gName i) (gCons (gName j) gNil)) x (wipe σ own) H' fun σ2 H2 => wipe σ2 own = wipe σ own ∧ tYes σ2 H2 fun b H3 =>
        if b = true then tOp (rI CMulW fun i j => .int (i * j)) (tVar j) (tOp rix (tVar l) (tVar i)) σ2 H3 fun y H4 => ∃ acc, H4 D = some (.lst acc) ∧ acc.length < sizeLine ∧ Nx (upd H4 D (.lst (acc ++ [y]))) else Nx H3) := by
  obtain ⟨len, at_⟩ := dpAll_at hp
  refine lc_tup (fun m H' => H' D = some (.lst ((prods (ps.take m) ns).map V.int)) ∧ Same H1 H') ⟨by rw [upd_same]; rfl, Same.new hD⟩ (fun m H' _ ⟨_, s⟩ => SqT.same hT s) ?_ ?_
  · rintro m x H hx ⟨e, s⟩
    obtain ⟨d, hd1, hd2⟩ := at_ m x hx
    rw [List.getElem?_map] at hd1
    cases hq : ps[m]? with
    | none => rw [hq] at hd1; cases hd1
    | some q =>
      rw [hq] at hd1
      obtain ⟨t, rfl, ht⟩ := dp_pair ((Option.some.inj hd1) ▸ hd2)
      have hm := List.mem_of_getElem? hq
      obtain ⟨f0, f1, f2⟩ := hF.at_ q hm
      obtain ⟨g1, g2⟩ := num_at f0 f1
      refine rd_gtup (SqT.same ht s) rfl (rd_gcons (rd_gname (rd_gcons (rd_gname (rd_gnil ⟨hw _ _, rd_yes ?_⟩)))))
      rw [if_pos rfl]
      refine rd_op (rd_var (hj _ _) (rd_op (rd_var (hl _ _) (rd_var (hi _ _) (hix H q.1 _ _ (SqL.same hn s) g1 (rd_I (mb_mul f2 (hF.nm _ g2)) ⟨_, e, ?_, ?_, ?_⟩))))))
      · rw [List.length_map]
        show (List.map _ (ps.take m)).length < sizeLine
        rw [List.length_map]
        exact Nat.lt_of_le_of_lt (Nat.le_trans (List.length_take_le' ..) hF.len) (by decide)
      · rw [upd_same, List.take_add_one, hq]
        show _ = some (HO.lst (List.map V.int (List.map _ (ps.take m ++ [q]))))
        rw [List.map_append, List.map_append]
        rfl
      · intro b o eb
        rw [upd_ne (ne_of_none eb hD)]
        exact s b o eb
  · rintro H ⟨e, s⟩
    have e1 : vs.length = ps.length := by rw [len, List.length_map]
    rw [e1, List.take_length] at e
    exact hd H e s
/-- the same over a list -/
theorem lc_prodsL {K : PySem.W.Frag} {H1 : Hp} {D a n : Addr} {σ : L2.St} {i j l : Nat} {own : List Nat} {vs : List V} {ps : List (Int × Int)} {ns : List Int} {Qd : Hp → Prop} {rix : R2} (hD : H1 D = none) (hT : SqL K H1 a vs) (hp : DpAll K H1 vs (ps.map pd)) (hn : SqL K H1 n (ns.map V.int)) (hF : Fits ps ns)
    (hix : ∀ H k x Q, SqL K H n (ns.map V.int) → atI (ns.map V.int) k = some x → Q x H → rix (.ref n) (.int k) H Q)
    (hw : ∀ x y : Int, wipe (((wipe σ own).set i (some (.int x))).set j (some (.int y))) own = wipe σ own) (hi : ∀ x y : Int, (((wipe σ own).set i (some (.int x))).set j (some (.int y)))[i]? = some (some (.int x)))
    (hj : ∀ x y : Int, (((wipe σ own).set i (some (.int x))).set j (some (.int y)))[j]? = some (some (.int y))) (hl : ∀ x y : Int, (((wipe σ own).set i (some (.int x))).set j (some (.int y)))[l]? = some (some (.ref n)))
    (hd : ∀ H', H' D = some (.lst ((prods ps ns).map V.int)) → Same H1 H' → Qd H') :
    ∃ W : Nat → Nat → Hp → Prop, (∃ m, W 0 m (upd H1 D (.lst []))) ∧ ∀ m c H, W m c H →
      ((Itl K a).stop m H ∧ Qd H) ∨ ((Itl K a).go m H ∧ ∃ Nx : Hp → Prop, (∀ H', Nx H' → ∃ m', m' < c ∧ W (m + 1) m' H') ∧ ∀ x H', (Itl K a).yld m H x H' → gTup K 2 (gCons (gName i) (gCons (gName j) gNil)) x (wipe σ own) H' fun σ2 H2 => wipe σ2 own = wipe σ own ∧ tYes σ2 H2 fun b H3 =>
        if b = true then tOp (rI CMulW fun i j => .int (i * j)) (tVar j) (tOp rix (tVar l) (tVar i)) σ2 H3 fun y H4 => ∃ acc, H4 D = some (.lst acc) ∧ acc.length < sizeLine ∧ Nx (upd H4 D (.lst (acc ++ [y]))) else Nx H3) := by
  obtain ⟨len, at_⟩ := dpAll_at hp
  refine lc_list (fun m H' => H' D = some (.lst ((prods (ps.take m) ns).map V.int)) ∧ Same H1 H') ⟨by rw [upd_same]; rfl, Same.new hD⟩ (fun m H' _ ⟨_, s⟩ => SqL.same hT s) ?_ ?_
  · rintro m x H hx ⟨e, s⟩
    obtain ⟨d, hd1, hd2⟩ := at_ m x hx
    rw [List.getElem?_map] at hd1
    cases hq : ps[m]? with
    | none => rw [hq] at hd1; cases hd1
    | some q =>
      rw [hq] at hd1
      obtain ⟨t, rfl, ht⟩ := dp_pair ((Option.some.inj hd1) ▸ hd2)
      have hm := List.mem_of_getElem? hq
      obtain ⟨f0, f1, f2⟩ := hF.at_ q hm
      obtain ⟨g1, g2⟩ := num_at f0 f1
      refine rd_gtup (SqT.same ht s) rfl (rd_gcons (rd_gname (rd_gcons (rd_gname (rd_gnil ⟨hw _ _, rd_yes ?_⟩)))))
      rw [if_pos rfl]
      refine rd_op (rd_var (hj _ _) (rd_op (rd_var (hl _ _) (rd_var (hi _ _) (hix H q.1 _ _ (SqL.same hn s) g1 (rd_I (mb_mul f2 (hF.nm _ g2)) ⟨_, e, ?_, ?_, ?_⟩))))))
      · rw [List.length_map]
        show (List.map _ (ps.take m)).length < sizeLine
        rw [List.length_map]
        exact Nat.lt_of_le_of_lt (Nat.le_trans (List.length_take_le' ..) hF.len) (by decide)
      · rw [upd_same, List.take_add_one, hq]
        show _ = some (HO.lst (List.map V.int (List.map _ (ps.take m ++ [q]))))
        rw [List.map_append, List.map_append]
        rfl
      · intro b o eb
        rw [upd_ne (ne_of_none eb hD)]
        exact s b o eb
  · rintro H ⟨e, s⟩
    have e1 : vs.length = ps.length := by rw [len, List.length_map]
    rw [e1, List.take_length] at e
    exact hd H e s
end Tug
namespace Tug
open PySem L2 PySem.Spec PyProof.Rows
/-! ### tuples that are known to have no dict of their own, and dict(..) of such a tuple of pairs -/
/-- at a: such a tuple -/
def Tz (H : Hp) (a : Addr) (xs : List V) : Prop := ∃ o : Obj, H a = some (.frz o (.tup xs)) ∧ o.dict = none
theorem Tz.sq {K : PySem.W.Frag} {H : Hp} {a : Addr} {xs : List V} (h : Tz H a xs) : SqT K H a xs := by
  obtain ⟨o, e, _⟩ := h
  exact .inl (.inr ⟨o, e⟩)
theorem Tz.same {H H' : Hp} {a : Addr} {xs : List V} (h : Tz H a xs) (s : Same H H') : Tz H' a xs := by
  obtain ⟨o, e, d⟩ := h
  exact ⟨o, s _ _ e, d⟩
def rTupZ (K : PySem.W.Frag) : List V → Hp → VK → Prop := fun xs H Q => ∃ p ys, xs = [.ref p] ∧ SqL K H p ys ∧ ∀ l o, H l = none → o.dict = none → Q (.ref l) (upd H l (.frz o (.tup ys)))
def rDictT (K : PySem.W.Frag) : List V → Hp → VK → Prop := fun xs H Q => ∃ (a : Addr) (ps : List Addr) (kvs : List (Key × V)), xs = [.ref a] ∧ Tz H a (ps.map V.ref) ∧ Paired (fun p kv => SqT K H p [kV kv.1, kv.2]) ps kvs ∧ ∀ p, H p = none → Q (.ref p) (upd H p (.dK (mergeK [] kvs)))
section
variable {X : Cx}
theorem call_tupZ : CallR X (.type "tuple") (rTupZ X.K) := by
  intro pins s σ H xs us Q I r h
  obtain ⟨p, ys, rfl, hq, q⟩ := h
  obtain ⟨u, rfl, rx⟩ := vals1 r
  cases rx
  obtain ⟨its, r', pl, hz⟩ := I.list hq
  have hlen := r'.length
  refine call_tuple_list pl.isList (fun h' kp => ?_) (by simp only [List.size_toArray] <;> omega)
  have I1 : Inv X pins σ H { s with heap := h' } := I.kept (t' := s.toks) kp
  have I2 : Inv X pins σ (upd H h'.objs.size (.frz { cls := .type "tuple", data := .seq its.toArray } (.tup ys))) { s with heap := h'.push { cls := .type "tuple", data := .seq its.toArray } } :=
    I1.laid (t' := s.toks) (fun b o e => Heap.get?_push_of_some _ e) (Nat.le_refl _) (show ObjOk X.prog X.w _ _ _ (.frz _ (.tup ys)) from ⟨Heap.get?_push_size _ rfl, hz, its, r', IsTup.new _ _⟩)
  exact ⟨.ref h'.objs.size, _, I2, rfl, q _ _ (I1.hok.fresh (Nat.le_refl _)) rfl⟩
theorem pairs_of2 {pins : List (Addr × Obj)} {σ : L2.St} {H : Hp} {s : Shared} (I : Inv X pins σ H s) : ∀ {ps : List Addr} {kvs : List (Key × V)}, Paired (fun p kv => SqT X.K H p [kV kv.1, kv.2]) ps kvs →
    ∃ (prs : List (Key × Value)) (vps : List (Value × Value)), KV kvs prs ∧ prs.length = ps.length ∧ vps.length = ps.length ∧ ∀ (j : Nat) (k v : Value), vps[j]? = some (k, v) → ∃ (b : Addr) (c : Key), ps[j]? = some b ∧ prs[j]? = some (c, v) ∧ IsTup s.heap b #[k, v] ∧ (mixKind X.prog X.w).is c k = true
  | _, _, .nil => ⟨[], [], .nil, rfl, rfl, fun j k v e => by simp at e⟩
  | _, _, .cons (a := p) (b := kv) h t => by
    obtain ⟨prs, vps, r, hl, hl2, hp⟩ := pairs_of2 I t
    obtain ⟨its, rv, ht, _⟩ := I.tuple h
    obtain ⟨u, y, ei, ru, ry⟩ := vals2 rv
    subst ei
    refine ⟨(kv.1, y) :: prs, (u, y) :: vps, .cons ⟨rfl, ry⟩ r, by rw [List.length_cons, List.length_cons, hl], by rw [List.length_cons, List.length_cons, hl2], fun j k v e => ?_⟩
    cases j with
    | zero =>
      have e' : (u, y) = (k, v) := Option.some.inj e
      cases e'
      exact ⟨p, kv.1, rfl, rfl, ht, kV_is (P := X.prog) (w := X.w) ru⟩
    | succ j =>
      obtain ⟨b, c, e1, e2, e3⟩ := hp j k v (by simpa using e)
      exact ⟨b, c, by simpa using e1, by simpa using e2, e3⟩
theorem call_dictT (hcalm : X.calm = true) : CallR X (.type "dict") (rDictT X.K) := by
  intro pins s σ H xs us Q I r q
  obtain ⟨a, ps, kvs, ex, ⟨o, e, hd⟩, hp, q⟩ := q
  subst ex
  obtain ⟨u, eu, rx⟩ := vals1 r
  subst eu
  cases rx
  obtain ⟨ho, hz, its, rv, o', ho', hc, n, hdat⟩ : s.heap.get? a = some o ∧ (ps.map V.ref).length ≤ sizeLine ∧ ∃ its : List Value, Vals (ps.map V.ref) its ∧ IsTup s.heap a its.toArray := I.hok a _ e
  have eo : o = o' := Option.some.inj (ho.symm.trans ho')
  subst eo
  have ei := refs_at rv
  subst ei
  rw [List.length_map] at hz
  obtain ⟨prs, vps, rel, hl, hl2, hpr⟩ := pairs_of2 I hp
  refine PySem.call_dict_pairs (knd := mixKind X.prog X.w) (kvs := prs) (PairArg.tuple a (ps.map Value.ref).toArray (fun j => ps.getD j 0) vps) (I.ok.hd hcalm) ⟨⟨o, n, ho, hc, hd, hdat⟩, by simp [hl2], fun j k v ej => ?_⟩ ⟨hl.trans hl2.symm, fun j k v ej => ?_⟩ (by rw [hl2]; exact hz) fun h' tk hd' kk => ?_
  · obtain ⟨b, c, e1, e2, e3, e4⟩ := hpr j k v ej
    have e5 : ps.getD j 0 = b := by rw [List.getD_eq_getElem?_getD, e1]; rfl
    refine ⟨by show (List.map Value.ref ps).toArray[j]? = some (Value.ref (ps.getD j 0)); rw [e5]; simp [e1], .inl ?_⟩
    show s.heap.IsTuple (ps.getD j 0) #[k, v]
    rw [e5]
    exact e3
  · obtain ⟨b, c, e1, e2, e3, e4⟩ := hpr j k v ej
    exact ⟨c, e2, e4⟩
  · have hm : (s.heap.objs.size == sysModules) = false := beq_eq_false_iff_ne.mpr (Nat.ne_of_gt I.big)
    have hlen : (mergeK [] kvs).length ≤ sizeLine := by
      refine Nat.le_trans (length_mergeK kvs []) ?_
      rw [List.length_nil, Nat.zero_add, rel.length, hl]
      exact hz
    exact ⟨.ref s.heap.objs.size, upd H s.heap.objs.size (.dK (mergeK [] kvs)), I.laid (t' := tk) (fun b ob eb => kk b ob (by simp) eb) (Nat.le_refl _) (show ObjOk X.prog X.w _ _ _ (.dK (mergeK [] kvs)) from ⟨hlen, hm, merged [] prs, KV.merge rel .nil, hd'⟩), rfl, q _ (I.hok.fresh (Nat.le_refl _))⟩
end
/-! ### the times of a form, as a dict has them -/
def kvp (q : Int × Int) : Key × V := (Sum.inl q.1, V.int q.2)
def tm (ps : List (Int × Int)) (k : Int) : Int := ((ps.find? fun q => decide (q.1 = k)).map (·.2)).getD 0
theorem dp_refs {K : PySem.W.Frag} {H : Hp} : ∀ {vs : List V} {ps : List (Int × Int)}, DpAll K H vs (ps.map pd) → ∃ as : List Addr, vs = as.map V.ref ∧ Paired (fun p (kv : Key × V) => SqT K H p [kV kv.1, kv.2]) as (ps.map kvp)
  | [], [], _ => ⟨[], rfl, .nil⟩
  | v :: vs, q :: ps, h => by
    cases h with
    | cons a r =>
      obtain ⟨t, rfl, ht⟩ := dp_pair a
      obtain ⟨as, rfl, hp⟩ := dp_refs r
      exact ⟨t :: as, rfl, .cons ht hp⟩
theorem putK_new {kvs : List (Key × V)} {k : Key} {v : V} (h : ∀ q ∈ kvs, q.1 ≠ k) : putK kvs k v = kvs ++ [(k, v)] := by
  unfold putK
  rw [if_neg]
  intro z
  obtain ⟨q, hq, e⟩ := List.any_eq_true.mp z
  exact h q hq (of_decide_eq_true e)
theorem merge_new : ∀ (more acc : List (Key × V)), (∀ q ∈ more, ∀ r ∈ acc, r.1 ≠ q.1) → more.Pairwise (fun a b => a.1 ≠ b.1) → mergeK acc more = acc ++ more
  | [], acc, _, _ => (List.append_nil acc).symm
  | q :: more, acc, h, hp => by
    have hq := List.pairwise_cons.mp hp
    show mergeK (putK acc q.1 q.2) more = _
    rw [putK_new (h q List.mem_cons_self), merge_new more _ (fun x hx r hr => ?_) hq.2, List.append_assoc]
    · rfl
    · rcases List.mem_append.mp hr with hr | hr
      · exact h x (List.mem_cons_of_mem _ hx) r hr
      · rw [List.mem_singleton.mp hr]; exact hq.1 x hx
theorem val_kvp (k : Int) : ∀ ps : List (Int × Int), valV (ps.map kvp) (Sum.inl k : Key) = (ps.find? fun q => decide (q.1 = k)).map fun q => V.int q.2
  | [] => rfl
  | q :: ps => by
    have ih := val_kvp k ps
    unfold valV at ih ⊢
    rw [List.map_cons, List.find?_cons, List.find?_cons]
    have e : decide ((kvp q).1 = (Sum.inl k : Key)) = decide (q.1 = k) := by
      by_cases h : q.1 = k
      · rw [decide_eq_true h, decide_eq_true]; show Sum.inl q.1 = Sum.inl k; rw [h]
      · rw [decide_eq_false h, decide_eq_false]
        intro z
        exact h (Sum.inl.inj z)
    rw [e]
    cases decide (q.1 = k) with
    | true => rfl
    | false => exact ih
/-- the keys differ -/
abbrev Uq (ps : List (Int × Int)) : Prop := ps.Pairwise fun a b => a.1 ≠ b.1
theorem merge_kvp {ps : List (Int × Int)} (h : Uq ps) : mergeK [] (ps.map kvp) = ps.map kvp := by
  rw [merge_new _ [] (fun _ _ r hr => (nomatch hr)) ?_, List.nil_append]
  rw [List.pairwise_map]
  exact h.imp fun h z => h (Sum.inl.inj z)
theorem getD_tm {ps : List (Int × Int)} {k : Int} : (valV (ps.map kvp) (Sum.inl k : Key)).getD (V.int 0) = V.int (tm ps k) := by
  rw [val_kvp]
  unfold tm
  cases ps.find? fun q => decide (q.1 = k) <;> rfl
theorem rd_dictT {K : PySem.W.Frag} {H : Hp} {Q : VK} {b : Addr} {vs : List V} {ps : List (Int × Int)} (hz : Tz H b vs) (hd : DpAll K H vs (ps.map pd)) (hu : Uq ps) (k : ∀ p, H p = none → Q (.ref p) (upd H p (.dK (ps.map kvp)))) : rDictT K [.ref b] H Q := by
  obtain ⟨as, rfl, hp⟩ := dp_refs hd
  refine ⟨b, as, _, rfl, hz, hp, fun p hp' => ?_⟩
  rw [merge_kvp hu]
  exact k p hp'
theorem rd_tupZ {K : PySem.W.Frag} {H : Hp} {Q : VK} {p : Addr} {ys : List V} (h : SqL K H p ys) (k : ∀ l o, H l = none → o.dict = none → Q (.ref l) (upd H l (.frz o (.tup ys)))) : rTupZ K [.ref p] H Q := ⟨p, ys, rfl, h, k⟩
/-- at v: a form, its parts a tuple without a dict of its own -/
def FmZ (K : PySem.W.Frag) (H : Hp) (v : V) (f : Fm) : Prop := ∃ a b vs, v = .ref a ∧ SqT K H a [.int f.1, .ref b] ∧ Tz H b vs ∧ DpAll K H vs (f.2.map pd)
theorem FmZ.dp {K : PySem.W.Frag} {H : Hp} {v : V} {f : Fm} (h : FmZ K H v f) : Dp K H v (fmd f) := by
  obtain ⟨a, b, vs, rfl, h1, h2, h3⟩ := h
  exact .tup h1 (.cons (.int _) (.cons (.tup h2.sq h3) .nil))
theorem FmZ.same {K : PySem.W.Frag} {H H' : Hp} {v : V} {f : Fm} (s : Same H H') (h : FmZ K H v f) : FmZ K H' v f := by
  obtain ⟨a, b, vs, rfl, h1, h2, h3⟩ := h
  exact ⟨a, b, vs, rfl, SqT.same h1 s, h2.same s, DpAll.same s h3⟩
theorem rd_dget2 {td ty tx : TE} {σ : L2.St} {H : Hp} {Q : VK} (k : td σ H fun x H1 => ∃ a, x = .ref a ∧ IsD H1 a ∧ ty σ H1 fun y H2 => tx σ H2 fun z H3 => ∃ o, DGet H3 a y o ∧ Q (o.getD z) H3) : tDGet2 td ty tx σ H Q := k
end Tug
namespace Tug
open PySem L2 PySem.Spec PyProof.Rows
/-! ### displays and sums of tuples, known to have no dict of their own -/
def tTupZ (t : TA) : TE := fun σ H Q => t σ H fun xs H1 => xs.length ≤ sizeLine ∧ ∀ p o, H1 p = none → o.dict = none → Q (.ref p) (upd H1 p (.frz o (.tup xs)))
def rCatZ : R2 := fun x y H Q => ∃ a b xs ys, x = .ref a ∧ y = .ref b ∧ Tz H a xs ∧ Tz H b ys ∧ xs.length + ys.length ≤ sizeLine ∧ ∀ p H', Same H H' → Tz H' p (xs ++ ys) → Q (.ref p) H'
theorem rd_tupZZ {t : TA} {σ : L2.St} {H : Hp} {Q : VK} (k : t σ H fun xs H1 => xs.length ≤ sizeLine ∧ ∀ p o, H1 p = none → o.dict = none → Q (.ref p) (upd H1 p (.frz o (.tup xs)))) : tTupZ t σ H Q := k
theorem rd_catZ {a b : Addr} {xs ys : List V} {H : Hp} {Q : VK} (h1 : Tz H a xs) (h2 : Tz H b ys) (hl : xs.length + ys.length ≤ 1000) (k : ∀ p H', Same H H' → Tz H' p (xs ++ ys) → Q (.ref p) H') : rCatZ (.ref a) (.ref b) H Q := ⟨a, b, xs, ys, rfl, rfl, h1, h2, Nat.le_trans hl (by decide), k⟩
section
variable {X : Cx} {es : List Expr} {t : TA} {pos : Pos}
theorem pe_tupZ {x1} (h : PA X es t) : PE X (.Tuple es x1 pos) (tTupZ t) := by
  refine ⟨fun pins s σ H Q I hq => ?_⟩
  refine wpAny_Tuple_spliced (thn (h.run pos pins s σ H _ I hq) fun us s1 ⟨xs, H1, I1, r, z, q⟩ => ⟨by rw [← r.length]; exact z, ?_⟩)
  have hf : H1 s1.heap.objs.size = none := I1.hok.fresh (Nat.le_refl _)
  refine ⟨.ref s1.heap.objs.size, upd H1 s1.heap.objs.size (.frz { cls := .type "tuple", data := .seq us.toArray } (.tup xs)), I1.laid (t' := s1.toks) (fun b u e => Heap.get?_push_of_some _ e) (Nat.le_refl _) ?_, rfl, q _ _ hf rfl⟩
  exact ⟨Heap.get?_push_size _ rfl, z, us, r, ⟨_, Heap.get?_push_size _ rfl, rfl, _, rfl⟩⟩
theorem op_catZ : OpR X (binaryOp .Add) rCatZ := by
  intro pins s σ H x y v u Q I rx ry h
  obtain ⟨a, b, xs, ys, rfl, rfl, ha, hb, hz, q⟩ := h
  cases rx
  cases ry
  obtain ⟨its, r1, p1, _⟩ := I.tuple (Tz.sq (K := X.K) ha)
  obtain ⟨its2, r2, p2, _⟩ := I.tuple (Tz.sq (K := X.K) hb)
  by_cases hx : xs = []
  · subst hx
    cases r1
    exact L2.cat_tup0 p1 p2 ⟨.ref b, H, I, rfl, q _ _ (Same.refl H) hb⟩
  · refine HT.cat_tup p1 p2 (fun z => hx (r1.nil_iff.mp z)) (fun z => ⟨.ref a, H, I, rfl, ?_⟩) (fun z => ?_) (by rw [← r1.length, ← r2.length]; exact hz)
    · have e := r2.nil_iff.mp z
      subst e
      exact q _ _ (Same.refl H) (by rw [List.append_nil]; exact ha)
    · have hf := I.hok.fresh (Nat.le_refl s.heap.objs.size)
      refine ⟨.ref s.heap.objs.size, _, I.laid (t' := s.toks) (o := .frz { cls := .type "tuple", data := .seq (its ++ its2).toArray } (.tup (xs ++ ys))) (fun b ob q => Heap.get?_push_of_some _ q) (Nat.le_refl _) ?_, rfl, q _ _ (Same.new hf) ⟨_, upd_same, rfl⟩⟩
      exact ⟨Heap.get?_push_size _ rfl, by rw [List.length_append]; exact hz, _, r1.append r2, IsTup.new _ _⟩
end
end Tug
namespace Tug
open PySem L2
/-! ### forms by the times of their knobs -/
/-- rising knobs, no times 0 -/
structure Can (ps : List (Int × Int)) : Prop where
  up : ps.Pairwise fun a b => a.1 < b.1
  nz : ∀ q ∈ ps, q.2 ≠ 0
theorem Can.uq {ps : List (Int × Int)} (h : Can ps) : Uq ps := h.up.imp fun h z => by omega
theorem Can.tail {q : Int × Int} {ps : List (Int × Int)} (h : Can (q :: ps)) : Can ps := ⟨(List.pairwise_cons.mp h.up).2, fun r hr => h.nz r (List.mem_cons_of_mem _ hr)⟩
theorem tm_cons {q : Int × Int} {ps : List (Int × Int)} {k : Int} : tm (q :: ps) k = if q.1 = k then q.2 else tm ps k := by
  unfold tm
  rw [List.find?_cons]
  by_cases h : q.1 = k
  · rw [decide_eq_true h, if_pos h]; rfl
  · rw [decide_eq_false h, if_neg h]
theorem tm_out {ps : List (Int × Int)} {k : Int} (h : ∀ q ∈ ps, q.1 ≠ k) : tm ps k = 0 := by
  induction ps with
  | nil => rfl
  | cons q ps ih => rw [tm_cons, if_neg (h q List.mem_cons_self), ih fun r hr => h r (List.mem_cons_of_mem _ hr)]
theorem tm_in {ps : List (Int × Int)} (hu : Uq ps) {q : Int × Int} (hq : q ∈ ps) : tm ps q.1 = q.2 := by
  induction ps with
  | nil => cases hq
  | cons r ps ih =>
    obtain ⟨h1, h2⟩ := List.pairwise_cons.mp hu
    rw [tm_cons]
    rcases List.mem_cons.mp hq with rfl | hq
    · rw [if_pos rfl]
    · rw [if_neg (h1 q hq), ih h2 hq]
theorem Can.ext : ∀ {ps qs : List (Int × Int)}, Can ps → Can qs → (∀ k, tm ps k = tm qs k) → ps = qs
  | [], [], _, _, _ => rfl
  | [], q :: qs, _, c, h => by
    have e := h q.1
    rw [tm_cons, if_pos rfl] at e
    exact absurd e.symm (c.nz q List.mem_cons_self)
  | p :: ps, [], c, _, h => by
    have e := h p.1
    rw [tm_cons, if_pos rfl] at e
    exact absurd e (c.nz p List.mem_cons_self)
  | p :: ps, q :: qs, c, d, h => by
    obtain ⟨c1, c2⟩ := List.pairwise_cons.mp c.up
    obtain ⟨d1, d2⟩ := List.pairwise_cons.mp d.up
    have e : p.1 = q.1 := by
      rcases Int.lt_trichotomy p.1 q.1 with l | l | l
      · exfalso
        have e := h p.1
        rw [tm_cons, if_pos rfl, tm_cons, if_neg (by omega), tm_out fun r hr => by have := d1 r hr; omega] at e
        exact c.nz p List.mem_cons_self e
      · exact l
      · exfalso
        have e := h q.1
        rw [tm_cons (q := q), if_pos rfl, tm_cons, if_neg (by omega), tm_out fun r hr => by have := c1 r hr; omega] at e
        exact d.nz q List.mem_cons_self e.symm
    have e2 : p.2 = q.2 := by
      have z := h p.1
      rw [tm_cons, if_pos rfl, tm_cons, if_pos e.symm] at z
      exact z
    have e3 : p = q := Prod.ext e e2
    subst e3
    rw [Can.ext c.tail d.tail fun k => ?_]
    have z := h k
    rw [tm_cons, tm_cons] at z
    by_cases hk : p.1 = k
    · rw [tm_out fun r hr => by have := c1 r hr; omega, tm_out fun r hr => by have := d1 r hr; omega]
    · rw [if_neg hk, if_neg hk] at z
      exact z
/-- a sum over the knobs below n -/
def sumTo (n : Nat) (g : Int → Int) : Int := ((List.range n).map fun k : Nat => g k).sum
theorem sumTo_succ (n : Nat) (g : Int → Int) : sumTo (n + 1) g = sumTo n g + g n := by
  unfold sumTo
  rw [List.range_succ, List.map_append, List.sum_append]
  simp
theorem sumTo_congr {n : Nat} {g h : Int → Int} (e : ∀ k : Int, 0 ≤ k → k < n → g k = h k) : sumTo n g = sumTo n h := by
  induction n with
  | zero => rfl
  | succ n ih => rw [sumTo_succ, sumTo_succ, ih fun k a b => e k a (by omega), e n (by omega) (by omega)]
theorem sumTo_add {n : Nat} {g h : Int → Int} : sumTo n (fun k => g k + h k) = sumTo n g + sumTo n h := by
  induction n with
  | zero => rfl
  | succ n ih => rw [sumTo_succ, sumTo_succ, sumTo_succ, ih]; omega
theorem sumTo_mul {n : Nat} {g : Int → Int} {c : Int} : sumTo n (fun k => c * g k) = c * sumTo n g := by
  induction n with
  | zero => show (0 : Int) = c * 0; rw [Int.mul_zero]
  | succ n ih => rw [sumTo_succ, sumTo_succ, ih, Int.mul_add]
theorem sumTo_zero {n : Nat} {g : Int → Int} (h : ∀ k : Int, 0 ≤ k → k < n → g k = 0) : sumTo n g = 0 := by
  induction n with
  | zero => rfl
  | succ n ih => rw [sumTo_succ, ih fun k a b => h k a (by omega), h n (by omega) (by omega)]; rfl
theorem sumTo_one {n : Nat} {g : Int → Int} {k : Int} (h0 : 0 ≤ k) (h1 : k < n) (h : ∀ j : Int, 0 ≤ j → j < n → j ≠ k → g j = 0) : sumTo n g = g k := by
  induction n with
  | zero => exact absurd h1 (by omega)
  | succ n ih =>
    rw [sumTo_succ]
    by_cases e : k = n
    · subst e
      rw [sumTo_zero fun j a b => h j a (by omega) (by omega)]
      omega
    · rw [ih (by omega) fun j a b c => h j a (by omega) c, h n (by omega) (by omega) (by omega)]
      omega
theorem prods_tm {ns : List Int} {n : Nat} : ∀ {ps : List (Int × Int)}, Uq ps → (∀ q ∈ ps, 0 ≤ q.1 ∧ q.1 < (n : Int)) → (prods ps ns).sum = sumTo n fun k => tm ps k * num ns k
  | [], _, _ => by
    rw [sumTo_zero fun k _ _ => ?_]
    · rfl
    · show (0 : Int) * _ = 0
      rw [Int.zero_mul]
  | q :: ps, hu, h => by
    obtain ⟨h1, h2⟩ := List.pairwise_cons.mp hu
    obtain ⟨a, b⟩ := h q List.mem_cons_self
    show q.2 * num ns q.1 + (prods ps ns).sum = _
    rw [prods_tm h2 fun r hr => h r (List.mem_cons_of_mem _ hr)]
    have e : sumTo n (fun k => tm (q :: ps) k * num ns k) = sumTo n (fun k => (if q.1 = k then q.2 * num ns k else 0) + tm ps k * num ns k) := sumTo_congr fun k _ _ => by
      rw [tm_cons]
      by_cases z : q.1 = k
      · rw [if_pos z, if_pos z, tm_out fun r hr => by have := h1 r hr; omega, Int.zero_mul, Int.add_zero]
      · rw [if_neg z, if_neg z, Int.zero_add]
    rw [e, sumTo_add, sumTo_one (k := q.1) a b fun j _ _ z => if_neg (Ne.symm z), if_pos rfl]
/-- r is a and c times b, by its number and its times -/
structure Comb (r a : Fm) (c : Int) (b : Fm) : Prop where
  nm : r.1 = a.1 + c * b.1
  tm_ : ∀ k, tm r.2 k = tm a.2 k + c * tm b.2 k
  can : Can r.2
theorem tm_ne {ps : List (Int × Int)} {k : Int} (h : tm ps k ≠ 0) : ∃ q ∈ ps, q.1 = k := by
  induction ps with
  | nil => exact absurd rfl h
  | cons q ps ih =>
    rw [tm_cons] at h
    by_cases e : q.1 = k
    · exact ⟨q, List.mem_cons_self, e⟩
    · rw [if_neg e] at h
      obtain ⟨r, hr, e2⟩ := ih h
      exact ⟨r, List.mem_cons_of_mem _ hr, e2⟩
/-- the knobs of a form that is put together are those of one of both -/
theorem Comb.within {r a b : Fm} {c : Int} {n : Nat} (h : Comb r a c b) (ha : ∀ q ∈ a.2, 0 ≤ q.1 ∧ q.1 < (n : Int)) (hb : ∀ q ∈ b.2, 0 ≤ q.1 ∧ q.1 < (n : Int)) : ∀ q ∈ r.2, 0 ≤ q.1 ∧ q.1 < (n : Int) := fun q hq => by
  have e := tm_in h.can.uq hq
  have nz := h.can.nz q hq
  rw [h.tm_] at e
  by_cases z : tm a.2 q.1 = 0
  · have : tm b.2 q.1 ≠ 0 := fun y => nz (by rw [← e, z, y]; omega)
    obtain ⟨x, hx, ex⟩ := tm_ne this
    rw [← ex]; exact hb x hx
  · obtain ⟨x, hx, ex⟩ := tm_ne z
    rw [← ex]; exact ha x hx
theorem Comb.wo {r a b : Fm} {c : Int} {ns : List Int} (h : Comb r a c b) (ua : Uq a.2) (ub : Uq b.2) (ha : ∀ q ∈ a.2, 0 ≤ q.1 ∧ q.1 < (ns.length : Int)) (hb : ∀ q ∈ b.2, 0 ≤ q.1 ∧ q.1 < (ns.length : Int)) : Tug.wo r ns = Tug.wo a ns + c * Tug.wo b ns := by
  show r.1 + _ = a.1 + _ + c * (b.1 + _)
  rw [prods_tm h.can.uq (h.within ha hb), prods_tm ua ha, prods_tm ub hb, h.nm]
  have e : sumTo ns.length (fun k => tm r.2 k * num ns k) = sumTo ns.length (fun k => tm a.2 k * num ns k + c * (tm b.2 k * num ns k)) := sumTo_congr fun k _ _ => by
    rw [h.tm_, Int.add_mul, Int.mul_assoc]
  rw [e, sumTo_add, sumTo_mul, Int.mul_add]
  omega
/-- of the same number and the same times there is one form -/
theorem fm_ext {r s : Fm} (h1 : r.1 = s.1) (c : Can r.2) (d : Can s.2) (h2 : ∀ k, tm r.2 k = tm s.2 k) : r = s := Prod.ext h1 (c.ext d h2)
/-- as long as the knobs below n -/
theorem up_length {n : Int} : ∀ {ps : List (Int × Int)} {lo : Int}, ps.Pairwise (fun a b => a.1 < b.1) → (∀ q ∈ ps, lo ≤ q.1 ∧ q.1 < n) → lo ≤ n → (ps.length : Int) ≤ n - lo
  | [], lo, _, _, hl => by show (0 : Int) ≤ n - lo; omega
  | q :: ps, lo, c, h, hl => by
    obtain ⟨c1, c2⟩ := List.pairwise_cons.mp c
    have hq := h q List.mem_cons_self
    have := up_length (lo := q.1 + 1) c2 (fun r hr => ⟨by have := c1 r hr; omega, (h r (List.mem_cons_of_mem _ hr)).2⟩) (by omega)
    show ((ps.length + 1 : Nat) : Int) ≤ n - lo
    omega
theorem Can.length {ps : List (Int × Int)} {n : Nat} (c : Can ps) (h : ∀ q ∈ ps, 0 ≤ q.1 ∧ q.1 < (n : Int)) : ps.length ≤ n := by
  have := up_length c.up h (by omega)
  omega
/-- times that are told knob by knob -/
def made (n : Nat) (g : Int → Int) : List (Int × Int) := ((List.range n).map fun k : Nat => ((k : Int), g k)).filter fun q => decide (q.2 ≠ 0)
theorem made_succ (n : Nat) (g : Int → Int) : made (n + 1) g = made n g ++ if g n ≠ 0 then [((n : Int), g n)] else [] := by
  unfold made
  rw [List.range_succ, List.map_append, List.filter_append]
  congr 1
  show List.filter _ [_] = _
  rw [List.filter_cons]
  by_cases h : g n = 0
  · simp [h]
  · simp [h]
theorem made_mem {n : Nat} {g : Int → Int} {q : Int × Int} (h : q ∈ made n g) : 0 ≤ q.1 ∧ q.1 < (n : Int) ∧ q.2 = g q.1 ∧ q.2 ≠ 0 := by
  obtain ⟨h1, h2⟩ := List.mem_filter.mp h
  obtain ⟨k, hk, rfl⟩ := List.mem_map.mp h1
  have := List.mem_range.mp hk
  exact ⟨by show (0 : Int) ≤ k; omega, by show (k : Int) < n; omega, rfl, of_decide_eq_true h2⟩
theorem made_can (n : Nat) (g : Int → Int) : Can (made n g) := by
  refine ⟨?_, fun q hq => (made_mem hq).2.2.2⟩
  induction n with
  | zero => exact .nil
  | succ n ih =>
    rw [made_succ]
    refine List.pairwise_append.mpr ⟨ih, by split <;> simp, fun a ha b hb => ?_⟩
    have := made_mem ha
    split at hb
    · rw [List.mem_singleton.mp hb]; exact this.2.1
    · cases hb
theorem made_tm {n : Nat} {g : Int → Int} {k : Int} (h0 : 0 ≤ k) (h1 : k < n) : tm (made n g) k = g k := by
  by_cases z : g k = 0
  · rw [z, tm_out]
    intro q hq e
    obtain ⟨_, _, e1, e2⟩ := made_mem hq
    rw [e] at e1
    exact e2 (e1.trans z)
  · have hm : (k, g k) ∈ made n g := List.mem_filter.mpr ⟨List.mem_map.mpr ⟨k.toNat, List.mem_range.mpr (by omega), by rw [Int.toNat_of_nonneg h0]⟩, decide_eq_true z⟩
    exact tm_in (made_can n g).uq hm
theorem made_out {n : Nat} {g : Int → Int} {k : Int} (h : ¬ (0 ≤ k ∧ k < n)) : tm (made n g) k = 0 := tm_out fun q hq e => by
  obtain ⟨a, b, _⟩ := made_mem hq
  rw [e] at a b
  exact h ⟨a, b⟩
end Tug
namespace Tug
open PySem L2
/-! ### forms as they are handed in -/
structure FOk (f : Fm) : Prop where
  can : Can f.2
  at_ : ∀ q ∈ f.2, 0 ≤ q.1 ∧ q.1 < 60 ∧ Mb q.2
  nm : Mb f.1
/-- what may be shown: numbers of at most some hundred and thirty figures -/
theorem sh_fmB {f : Fm} (h : ∀ q ∈ f.2, q.1.natAbs < 10 ^ 130 ∧ q.2.natAbs < 10 ^ 130) (hl : f.2.length ≤ 40) (hn : f.1.natAbs < 10 ^ 130) : Sh 3 30000 (fmd f) := by
  have s1 : Sh 2 (40 * (1000 + 2) + 3) (.tuple (f.2.map pd)) := sh_tup (D := 1) (L := 1000) (fun d hd => by
    obtain ⟨q, hq, rfl⟩ := List.mem_map.mp hd
    obtain ⟨a, b⟩ := h q hq
    refine (sh_tup (ds := [.int q.1, .int q.2]) (n := 2) (D := 0) (L := 131) (fun d hd => ?_) (Nat.le_refl 2)).up (by decide) (by decide)
    simp only [List.mem_cons, List.not_mem_nil, or_false] at hd
    rcases hd with rfl | rfl
    · exact sh_int (k := 130) (by decide) (by decide) a
    · exact sh_int (k := 130) (by decide) (by decide) b) (by rw [List.length_map]; exact hl)
  have s2 : Sh 2 13000 (.tuple (f.2.map pd)) := by
    have e : ∀ d ∈ f.2.map pd, Sh 1 300 d := fun d hd => by
      obtain ⟨q, hq, rfl⟩ := List.mem_map.mp hd
      obtain ⟨a, b⟩ := h q hq
      refine (sh_tup (ds := [.int q.1, .int q.2]) (n := 2) (D := 0) (L := 131) (fun d hd => ?_) (Nat.le_refl 2)).up (by decide) (by decide)
      simp only [List.mem_cons, List.not_mem_nil, or_false] at hd
      rcases hd with rfl | rfl
      · exact sh_int (k := 130) (by decide) (by decide) a
      · exact sh_int (k := 130) (by decide) (by decide) b
    exact (sh_tup (n := 40) e (by rw [List.length_map]; exact hl)).up (by decide) (by decide)
  refine (sh_tup (ds := [.int f.1, .tuple (f.2.map pd)]) (n := 2) (D := 2) (L := 13000) (fun d hd => ?_) (Nat.le_refl 2)).up (by decide) (by decide)
  simp only [List.mem_cons, List.not_mem_nil, or_false] at hd
  rcases hd with rfl | rfl
  · exact (sh_int (k := 130) (by decide) (by decide) hn).up (by decide) (by decide)
  · exact s2
theorem eqv_pd (q : Int × Int) : PyData.eqv (pd q) (pd q) = true := by
  show PyData.eqv (.tuple [.int q.1, .int q.2]) (.tuple [.int q.1, .int q.2]) = true
  simp [PyData.eqv, PyData.eqvAll]
theorem eqv_pds : ∀ ps : List (Int × Int), PyData.eqvAll (ps.map pd) (ps.map pd) = true
  | [] => by simp [PyData.eqvAll]
  | q :: ps => by
    have := eqv_pds ps
    simp [PyData.eqvAll, eqv_pd q, this]
theorem eqv_fm (f : Fm) : PyData.eqv (fmd f) (fmd f) = true := by
  show PyData.eqv (.tuple [.int f.1, .tuple (f.2.map pd)]) (.tuple [.int f.1, .tuple (f.2.map pd)]) = true
  simp [PyData.eqv, PyData.eqvAll, eqv_pds f.2]
theorem lay_pds : ∀ ps : List (Int × Int), PyData.canLayAll0 (ps.map pd) = true ∧ PyData.depthAll (ps.map pd) ≤ 1
  | [] => ⟨rfl, Nat.zero_le _⟩
  | q :: ps => by
    obtain ⟨h1, h2⟩ := lay_pds ps
    refine ⟨?_, Nat.max_le.mpr ⟨Nat.le_refl 1, h2⟩⟩
    show (PyData.canLay0 (pd q) && PyData.canLayAll0 (ps.map pd)) = true
    rw [h1]
    rfl
theorem shaped_fm (f : Fm) : SeqAt.shaped (fmd f) = true := by
  obtain ⟨h1, h2⟩ := lay_pds f.2
  have e1 : (fmd f).canLay0 = true := by
    show (true && (PyData.canLayAll0 (f.2.map pd) && true)) = true
    rw [h1]
    rfl
  have e2 : (fmd f).depth ≤ 64 := by
    show max 0 (max (PyData.depthAll (f.2.map pd) + 1) 0) + 1 ≤ 64
    omega
  show ((fmd f).canLay0 && decide ((fmd f).depth ≤ 64)) = true
  rw [e1, decide_eq_true e2]
  rfl
/-- a and c times b, put together knob by knob -/
def fput (n : Nat) (a : Fm) (c : Int) (b : Fm) : Fm := (a.1 + c * b.1, made n fun k => tm a.2 k + c * tm b.2 k)
theorem tm_far {ps : List (Int × Int)} {n : Nat} (h : ∀ q ∈ ps, 0 ≤ q.1 ∧ q.1 < (n : Int)) {k : Int} (hk : ¬ (0 ≤ k ∧ k < (n : Int))) : tm ps k = 0 := tm_out fun q hq e => hk (e ▸ h q hq)
theorem put_comb {n : Nat} {a b : Fm} {c : Int} (ha : ∀ q ∈ a.2, 0 ≤ q.1 ∧ q.1 < (n : Int)) (hb : ∀ q ∈ b.2, 0 ≤ q.1 ∧ q.1 < (n : Int)) : Comb (fput n a c b) a c b := by
  refine ⟨rfl, fun k => ?_, made_can n fun k => tm a.2 k + c * tm b.2 k⟩
  show tm (made n fun k => tm a.2 k + c * tm b.2 k) k = _
  by_cases h : 0 ≤ k ∧ k < (n : Int)
  · rw [made_tm h.1 h.2]
  · rw [made_out h, tm_far ha h, tm_far hb h]; omega
theorem Comb.eq {r s a b : Fm} {c : Int} (h : Comb r a c b) (h' : Comb s a c b) : r = s := fm_ext (h.nm.trans h'.nm.symm) h.can h'.can fun k => (h.tm_ k).trans (h'.tm_ k).symm
/-! ### what the program's functions of forms are to do -/
def spComb (K : PySem.W.Frag) (c : Int) : Sp := fun vs H Q _ => ∃ (va vb : V) (a b : Fm), vs = [va, vb] ∧ FmZ K H va a ∧ FmZ K H vb b ∧ FOk a ∧ FOk b ∧ ∀ (v : V) (r : Fm) (H' : Hp), Comb r a c b → FmZ K H' v r → Same H H' → Q v H'
def spTimes (K : PySem.W.Frag) : Sp := fun vs H Q _ => ∃ (va : V) (a : Fm) (n : Int), vs = [va, .int n] ∧ FmZ K H va a ∧ FOk a ∧ Mb n ∧ ∀ (v : V) (r : Fm) (H' : Hp), Comb r (0, []) n a → FmZ K H' v r → Same H H' → Q v H'
def spKnob (K : PySem.W.Frag) : Sp := fun vs H Q _ => ∃ k : Int, vs = [.int k] ∧ 0 ≤ k ∧ k < 1000 ∧ ∀ (v : V) (H' : Hp), FmZ K H' v (0, [(k, 1)]) → Same H H' → Q v H'
def spPlain (K : PySem.W.Frag) : Sp := fun vs H Q _ => ∃ n : Int, vs = [.int n] ∧ ∀ (v : V) (H' : Hp), FmZ K H' v (n, []) → Same H H' → Q v H'
end Tug
namespace Tug
open PySem L2 PySem.Spec PyProof.Rows
/-! ### a dict of times that is filled, and what is sorted of it -/
theorem kvp_key (q : Int × Int) (k : Int) : ((kvp q).1 = (Sum.inl k : Key)) ↔ q.1 = k := ⟨fun h => Sum.inl.inj h, fun h => congrArg Sum.inl h⟩
def putP (ds : List (Int × Int)) (k v : Int) : List (Int × Int) := if (ds.any fun q => decide (q.1 = k)) = true then ds.map (fun q => if q.1 = k then (q.1, v) else q) else ds ++ [(k, v)]
theorem putK_kvp (ds : List (Int × Int)) (k v : Int) : putK (ds.map kvp) (Sum.inl k : Key) (V.int v) = (putP ds k v).map kvp := by
  unfold putK putP
  have e : ((ds.map kvp).any fun kv => decide (kv.1 = (Sum.inl k : Key))) = ds.any fun q => decide (q.1 = k) := by
    rw [List.any_map]
    congr 1
    funext q
    exact decide_eq_decide.mpr (kvp_key q k)
  rw [e]
  split
  · rw [List.map_map, List.map_map]
    refine List.map_congr_left fun q _ => ?_
    show (if (kvp q).1 = (Sum.inl k : Key) then ((kvp q).1, V.int v) else kvp q) = kvp (if q.1 = k then (q.1, v) else q)
    by_cases h : q.1 = k
    · rw [if_pos ((kvp_key q k).mpr h), if_pos h]; rfl
    · rw [if_neg (fun z => h ((kvp_key q k).mp z)), if_neg h]
  · rw [List.map_append]; rfl
theorem tm_putP {ds : List (Int × Int)} {k v j : Int} : tm (putP ds k v) j = if j = k then v else tm ds j := by
  have e := getD_tm (ps := putP ds k v) (k := j)
  rw [← putK_kvp, valV_put] at e
  by_cases h : j = k
  · rw [if_pos (congrArg Sum.inl h)] at e
    rw [if_pos h]
    injection e with e
    exact e.symm
  · rw [if_neg (fun z => h (Sum.inl.inj z)), getD_tm] at e
    rw [if_neg h]
    injection e with e
    exact e.symm
theorem keys_map {ds : List (Int × Int)} {k v : Int} : (ds.map (fun q => if q.1 = k then (q.1, v) else q)).map (·.1) = ds.map (·.1) := by
  rw [List.map_map]
  refine List.map_congr_left fun q _ => ?_
  show (if q.1 = k then (q.1, v) else q).1 = q.1
  split <;> rfl
theorem uq_keys {ds : List (Int × Int)} : Uq ds ↔ (ds.map (·.1)).Pairwise (· ≠ ·) := by rw [List.pairwise_map]
theorem uq_putP {ds : List (Int × Int)} {k v : Int} (h : Uq ds) : Uq (putP ds k v) := by
  unfold putP
  split
  · rw [uq_keys, keys_map]
    exact uq_keys.mp h
  · rename_i n
    refine List.pairwise_append.mpr ⟨h, List.pairwise_singleton _ _, fun a ha b hb e => ?_⟩
    rw [List.mem_singleton.mp hb] at e
    exact n (List.any_eq_true.mpr ⟨a, ha, decide_eq_true e⟩)
theorem in_putP {ds : List (Int × Int)} {k v n : Int} (h : ∀ q ∈ ds, 0 ≤ q.1 ∧ q.1 < n) (h0 : 0 ≤ k) (h1 : k < n) : ∀ q ∈ putP ds k v, 0 ≤ q.1 ∧ q.1 < n := fun q hq => by
  unfold putP at hq
  split at hq
  · obtain ⟨r, hr, e⟩ := List.mem_map.mp hq
    have := h r hr
    by_cases z : r.1 = k
    · rw [if_pos z] at e; rw [← e]; exact this
    · rw [if_neg z] at e; rw [← e]; exact this
  · rcases List.mem_append.mp hq with hq | hq
    · exact h q hq
    · rw [List.mem_singleton.mp hq]; exact ⟨h0, h1⟩
theorem uq_length : ∀ (n : Nat) {ds : List (Int × Int)}, Uq ds → (∀ q ∈ ds, 0 ≤ q.1 ∧ q.1 < (n : Int)) → ds.length ≤ n
  | 0, [], _, _ => Nat.le_refl 0
  | 0, q :: ds, _, h => absurd (h q List.mem_cons_self) (by omega)
  | n + 1, ds, hu, h => by
    by_cases z : ∃ q ∈ ds, q.1 = (n : Int)
    · obtain ⟨q, hq, e⟩ := z
      obtain ⟨s, t, rfl⟩ := List.append_of_mem hq
      obtain ⟨u1, u2, u3⟩ := List.pairwise_append.mp hu
      obtain ⟨u4, u5⟩ := List.pairwise_cons.mp u2
      have hu' : Uq (s ++ t) := hu.sublist (List.Sublist.append_left (List.sublist_cons_self q t) s)
      have ih := uq_length n hu' fun r hr => by
        rcases List.mem_append.mp hr with hr | hr
        · have a := h r (List.mem_append_left _ hr)
          have b := u3 r hr q List.mem_cons_self
          omega
        · have a := h r (List.mem_append_right _ (List.mem_cons_of_mem _ hr))
          have b := u4 r hr
          omega
      rw [List.length_append] at ih ⊢
      rw [List.length_cons]
      omega
    · have ih := uq_length n hu fun r hr => by
        have a := h r hr
        have b : r.1 ≠ (n : Int) := fun e => z ⟨r, hr, e⟩
        omega
      omega
/-- what is told of a dict: its keys in order, their times, none 0 -/
def told (ys : List Int) (ds : List (Int × Int)) : List (Int × Int) := (ys.map fun k => (k, tm ds k)).filter fun q => decide (q.2 ≠ 0)
theorem told_mem {ys : List Int} {ds : List (Int × Int)} {q : Int × Int} (h : q ∈ told ys ds) : q.1 ∈ ys ∧ q.2 = tm ds q.1 ∧ q.2 ≠ 0 := by
  obtain ⟨h1, h2⟩ := List.mem_filter.mp h
  obtain ⟨k, hk, rfl⟩ := List.mem_map.mp h1
  exact ⟨hk, rfl, of_decide_eq_true h2⟩
theorem told_can {ys : List Int} {ds : List (Int × Int)} (hu : Uq ds) (hp : ys.Perm (ds.map (·.1))) (hs : ys.Pairwise (· ≤ ·)) : Can (told ys ds) := by
  refine ⟨?_, fun q hq => (told_mem hq).2.2⟩
  have hn : ys.Pairwise (· ≠ ·) := (hp.pairwise_iff (fun h => Ne.symm h)).mpr (uq_keys.mp hu)
  have hl : ys.Pairwise (· < ·) := (hs.and hn).imp fun ⟨a, b⟩ => by omega
  refine List.Pairwise.filter _ ?_
  rw [List.pairwise_map]
  exact hl
theorem told_tm {ys : List Int} {ds : List (Int × Int)} (hu : Uq ds) (hp : ys.Perm (ds.map (·.1))) (hs : ys.Pairwise (· ≤ ·)) (k : Int) : tm (told ys ds) k = tm ds k := by
  by_cases z : tm ds k = 0
  · rw [z]
    refine tm_out fun q hq e => ?_
    obtain ⟨_, h2, h3⟩ := told_mem hq
    rw [e] at h2
    exact h3 (h2.trans z)
  · obtain ⟨q, hq, e⟩ := tm_ne z
    have hk : k ∈ ys := hp.mem_iff.mpr (List.mem_map.mpr ⟨q, hq, e⟩)
    have hm : (k, tm ds k) ∈ told ys ds := List.mem_filter.mpr ⟨List.mem_map.mpr ⟨k, hk, rfl⟩, decide_eq_true z⟩
    exact tm_in (told_can hu hp hs).uq hm
/-! ### rules -/
/-- a test of any value by its truth -/
def tTru (K : PySem.W.Frag) (ta : TE) : TT := fun σ H Q => ta σ H fun x H1 => ∃ k, TruV K x H1 k ∧ Q k H1
section
variable {X : Cx} {a : Expr} {ta tb : TE} {K : PySem.W.Frag} {σ : L2.St} {H : Hp}
theorem pt_tru (ha : PE X a ta) (he : ∀ whole, isTrue a X.env whole = (do let v ← whole; standAt a.pos; holding [v] (truthy v))) : PT X a (tTru X.K ta) := pt_truth ha he
theorem rd_tru {R : Bool → Hp → Prop} (k : ta σ H fun x H1 => ∃ k, TruV K x H1 k ∧ R k H1) : tTru K ta σ H R := k
theorem rd_orT {Q : VK} (k : ta σ H fun x H1 => ∃ k, TruV K x H1 k ∧ if k = true then Q x H1 else tb σ H1 Q) : tOrT K ta tb σ H Q := k
end
theorem tru_tup {K : PySem.W.Frag} {H : Hp} {p : Addr} {xs : List V} (h : SqT K H p xs) : TruV K (.ref p) H (!xs.isEmpty) := .inr (.inl ⟨xs, h, rfl⟩)
theorem rd_dget {td ty : TE} {σ : L2.St} {H : Hp} {Q : VK} (k : td σ H fun x H1 => ty σ H1 fun y H2 => ∃ a v, x = .ref a ∧ DGet H2 a y (some v) ∧ Q v H2) : tDGet td ty σ H Q := k
theorem rd_dput {td ty tv : TE} {D : Ends} {σ : L2.St} {H : Hp} (k : tv σ H fun v H1 => td σ H1 fun x H2 => ty σ H2 fun y H3 => ∃ a H4, x = .ref a ∧ DPut H3 a y v H4 ∧ D.nx σ H4) : sDPut td ty tv D σ H := k
def rSortDI : List V → Hp → VK → Prop := fun xs H Q => ∃ (a : Addr) (kvs : List (Key × V)) (ks : List Int), xs = [.ref a] ∧ Rd H a (.dK kvs) ∧ kvs.map (·.1) = ks.map Sum.inl ∧ ks.length < 64 ∧ ∀ (ys : List Int) (p : Addr), ys.Perm ks → ys.Pairwise (· ≤ ·) → H p = none → Q (.ref p) (upd H p (.lst (ys.map V.int)))
theorem call_sortDI {X : Cx} (hc : X.calm = true) : CallR X (.builtin "sorted") rSortDI := call_sortedDI hc
theorem rd_forT {K : PySem.W.Frag} {te : TE} {g : TG} {tb : TS} {D : Ends} {σ : L2.St} {H : Hp} (k : te σ H fun x H1 => ∃ a, x = .ref a ∧ (∃ xs, SqT K H1 a xs) ∧ ∃ W : Nat → Nat → L2.St → Hp → Prop, (∃ m, W 0 m σ H1) ∧ ∀ i m σ H, W i m σ H →
    ((Itt K a).stop i H ∧ D.nx σ H) ∨ ((Itt K a).go i H ∧ ∃ N : L2.St → Hp → Prop, (∀ σ' H', N σ' H' → ∃ m', m' < m ∧ W (i + 1) m' σ' H') ∧ ∀ x H', (Itt K a).yld i H x H' → g x σ H' fun σ2 H2 => tb { D with nx := N, ct := N, bk := D.nx } σ2 H2)) : tFor (iTup K te) g tb D σ H := k
theorem val_in {ds : List (Int × Int)} {y : Int} (h : y ∈ ds.map (·.1)) : valV (ds.map kvp) (Sum.inl y : Key) = some (V.int (tm ds y)) := by
  obtain ⟨q, hq, e⟩ := List.mem_map.mp h
  rw [val_kvp]
  unfold tm
  cases z : ds.find? fun q => decide (q.1 = y) with
  | none => exact absurd (List.find?_eq_none.mp z q hq) (by simp [show q.1 = y from e])
  | some r => rfl
theorem dc_tup {K : PySem.W.Frag} {a : Addr} {xs : List V} {g : TG} {tt : TT} {tk tv : TE} {vs : List Nat} {σ : L2.St} {H1 : Hp} {D : Addr} {Qd : Hp → Prop} (Pv : Nat → Hp → Prop) (h0 : Pv 0 (upd H1 D (.dK []))) (hl : ∀ i H, i ≤ xs.length → Pv i H → SqT K H a xs)
    (hs : ∀ i x H, xs[i]? = some x → Pv i H → g x (wipe σ vs) H fun σ2 H2 => wipe σ2 vs = wipe σ vs ∧ tt σ2 H2 fun b H3 =>
      if b = true then tk σ2 H3 fun y H4 => tv σ2 H4 fun z H5 => ∃ kvs k, y = kV k ∧ H5 D = some (.dK kvs) ∧ kvs.length < sizeLine ∧ Pv (i + 1) (upd H5 D (.dK (putK kvs k z))) else Pv (i + 1) H3) (hd : ∀ H, Pv xs.length H → Qd H) :
    ∃ W : Nat → Nat → Hp → Prop, (∃ m, W 0 m (upd H1 D (.dK []))) ∧ ∀ i m H, W i m H →
      ((Itt K a).stop i H ∧ Qd H) ∨ ((Itt K a).go i H ∧ ∃ Nx : Hp → Prop, (∀ H', Nx H' → ∃ m', m' < m ∧ W (i + 1) m' H') ∧ ∀ x H', (Itt K a).yld i H x H' → g x (wipe σ vs) H' fun σ2 H2 => wipe σ2 vs = wipe σ vs ∧ tt σ2 H2 fun b H3 =>
        if b = true then tk σ2 H3 fun y H4 => tv σ2 H4 fun z H5 => ∃ kvs k, y = kV k ∧ H5 D = some (.dK kvs) ∧ kvs.length < sizeLine ∧ Nx (upd H5 D (.dK (putK kvs k z))) else Nx H3) := by
  refine ⟨fun i m H => m = xs.length - i ∧ i ≤ xs.length ∧ Pv i H, ⟨xs.length, by simp, Nat.zero_le _, h0⟩, ?_⟩
  rintro i m H ⟨rfl, hi, p⟩
  have q := hl i H hi p
  by_cases hlt : i < xs.length
  · refine .inr ⟨⟨xs, xs[i], q, by simp [hlt]⟩, Pv (i + 1), fun H' p' => ⟨xs.length - (i + 1), by omega, rfl, hlt, p'⟩, fun x H' y => ?_⟩
    obtain ⟨e, y⟩ := y
    subst e
    exact hs i x _ (y xs q) p
  · have e : i = xs.length := by omega
    subst e
    exact .inl ⟨⟨xs, q, Nat.le_refl _⟩, hd H p⟩
theorem rd_dcT {K : PySem.W.Frag} {tl : TE} {g : TG} {tt : TT} {tk tv : TE} {vs : List Nat} {σ : L2.St} {H : Hp} {Q : VK} (k : tl σ H fun x H1 => ∃ a, x = .ref a ∧ (∃ xs, SqT K H1 a xs) ∧ ∀ D, H1 D = none → ∃ W : Nat → Nat → Hp → Prop, (∃ m, W 0 m (upd H1 D (.dK []))) ∧ ∀ i m H, W i m H →
    ((Itt K a).stop i H ∧ Q (.ref D) H) ∨ ((Itt K a).go i H ∧ ∃ Nx : Hp → Prop, (∀ H', Nx H' → ∃ m', m' < m ∧ W (i + 1) m' H') ∧ ∀ x H', (Itt K a).yld i H x H' → g x (wipe σ vs) H' fun σ2 H2 => wipe σ2 vs = wipe σ vs ∧ tt σ2 H2 fun b H3 =>
      if b = true then tk σ2 H3 fun y H4 => tv σ2 H4 fun z H5 => ∃ kvs k, y = kV k ∧ H5 D = some (.dK kvs) ∧ kvs.length < sizeLine ∧ Nx (upd H5 D (.dK (putK kvs k z))) else Nx H3)) : tDc (iTup K tl) g tt tk tv vs σ H Q := k
end Tug
namespace Tug
open PySem L2
local macro_rules | `(tactic| walk_at "rd") => `(tactic| (first
  | with_reducible refine rd_seq ?_
  | with_reducible refine rd_if ?_
  | with_reducible refine rd_asg ?_
  | with_reducible refine rd_ret ?_
  | with_reducible refine rd_drop ?_
  | with_reducible refine rd_next ?_
  | ((with_reducible refine' rd_var ?rde ?_); (case rde => rfl))
  | with_reducible refine rd_c ?_
  | with_reducible refine rd_op ?_
  | with_reducible refine rd_un ?_
  | with_reducible refine rd_neg ?_
  | with_reducible refine rd_I0 ?_
  | with_reducible refine rd_nil ?_
  | with_reducible refine rd_cons ?_
  | with_reducible refine rd_tup ?_
  | with_reducible refine rd_lst ?_
  | with_reducible refine rd_gname ?_
  | with_reducible refine rd_gsub ?_
  | with_reducible refine rd_test ?_
  | with_reducible refine rd_B ?_
  | ((with_reducible show ∃ k, V.bl _ = V.bl k ∧ _); refine ⟨_, rfl, ?_⟩)
  | with_reducible refine rd_and ?_
  | with_reducible refine rd_or ?_
  | with_reducible refine rd_not ?_
  | with_reducible refine rd_ifE ?_
  | with_reducible refine rd_call ?_
  | with_reducible refine rd_cb ?_
  | ((with_reducible refine' rd_eq ?rdc ?_); (case rdc => rfl))
  | ((with_reducible refine' rd_ne ?rdc ?_); (case rdc => rfl))
  | ((with_reducible refine' rd_ixL ?rda ?rdb ?_); (case rda => first | exact SqL.of (by assumption) | assumption); (case rdb => rfl))
  | ((with_reducible refine' rd_ixT ?rda ?rdb ?_); (case rda => first | exact SqT.of (by assumption) | assumption); (case rdb => rfl))
  | ((with_reducible refine' rd_setL ?rda ?rdb ?_); (case rda => assumption); (case rdb => rfl))
  | ((with_reducible refine' rd_lenL ?rda ?_); (case rda => first | exact SqL.of (by assumption) | assumption))
  | with_reducible refine rd_yes ?_
  | with_reducible refine rd_par ?_
  | with_reducible refine rd_gcons ?_
  | with_reducible refine rd_gnil ?_
  | ((with_reducible refine' rd_decY ?rdc ?_); (case rdc => decide))
  | ((with_reducible refine' rd_decF ?rdc ?_); (case rdc => decide))
  | with_reducible refine iteF ?_
  | with_reducible refine iteT ?_
  | with_reducible refine rd_max ?_
  | with_reducible refine rd_min ?_
  | ((with_reducible refine' rd_I ?rdc ?_); (case rdc => first | (show (0 : Int) < _; omega) | exact ⟨by decide, by decide⟩ | exact ⟨by decide, by decide, by decide⟩ | exact .inr ⟨by omega, by omega⟩ | exact .inl ⟨by omega, by omega⟩ | exact CPowW.of (by decide) (by decide) (by omega) (by omega) | fail "rdc"))
  | with_reducible refine rd_nx ?_
  | fail "rd"))
def top (i : Nat) : Stmt := PySem.Challenge.pw_tugline_k20_whole_forms_and_settings.main.body.getD i (.Pass ⟨0, 0, 0, 0⟩)
abbrev sWell : Stmt := top 9
abbrev sDraw : Stmt := top 10
abbrev sPick : Stmt := top 11
def spDraw : Sp := fun vs H Q _ => ∃ (p : Addr) (m : Int), vs = [.ref p, .int m] ∧ Well H p ∧ Dv m ∧ ∀ (r : Int) (H' : Hp), 0 ≤ r → r < m → Well H' p → But p H H' → Q (.int r) H'
section
variable {P : Program} {w : World} {K : PySem.W.Frag} {mg : Str → Option Value} {base : Heap}
theorem scD : FnScope ["well", "many", "found"] ["well", "many"] (defScope sDraw) := ⟨rfl, rfl, rfl, by decide +kernel, rfl, by decide +kernel, by decide +kernel⟩
theorem ok_draw {f : Addr} {fd : FuncData} (F : Fun K "_law_draw" "_law_draw" sDraw f fd) : FnOk P w K mg base CX0 1 f fd ["well", "many"] spDraw := by
  refine F.ok scD (fun vs H Q E h => ?_) (fun cdv A outer s H vs Q E hr h => ?_)
  · obtain ⟨p, m, rfl, _⟩ := h
    rfl
  · obtain ⟨p, m, rfl, ⟨a, b, hp, ha, hb, hb2⟩, hm, k⟩ := h
    refine ⟨_, pss_cons (ps_if (pt_cmpR op_ge (pe_ix ix_list (pv 0) pe_int (fun _ _ => rfl)) (pv 1) (nomark _))
        (pss_cons (ps_set (i := 2) scD.nd rfl (Or.inl rfl) (pe_op op_mod (pe_ix ix_list (pv 0) pe_int (fun _ _ => rfl)) (pv 1)))
        (pss_cons (ps_asg (pe_op op_fdivW (pe_ix ix_list (pv 0) pe_int (fun _ _ => rfl)) (pv 1)) (pg_sub (pv 0) pe_int set_list))
        (pss_one (ps_ret (pv 2))))) pss_nil)
      (pss_cons (ps_asg (pe_op op_mod (pe_op op_add (pe_op op_mul (pe_ix ix_list (pv 0) pe_int (fun _ _ => rfl)) pe_int) pe_int) pe_int) (pg_sub (pv 0) pe_int set_list))
      (pss_one (ps_ret (pe_op op_mod (pe_op op_fdiv (pe_op op_mod (pe_op op_powW (pe_op op_mod (pe_op op_powW (pe_ix ix_list (pv 0) pe_int (fun _ _ => rfl)) pe_int) pe_int) pe_int) pe_int) pe_int) (pv 1))))), ?_⟩
    repeat walk_at "rd"
    refine rd_dec (fun hc => ?_) (fun hc => ?_)
    · have h0 := hm.1
      repeat walk_at "rd"
      refine rd_I hm.w ?_
      repeat walk_at "rd"
      refine k _ _ (Int.emod_nonneg _ (by omega)) (Int.emod_lt_of_pos _ h0) ⟨a / m, b, upd_same, Int.ediv_nonneg ha (by omega), hb, hb2⟩ But.upd
    · have h0 := hm.1
      repeat walk_at "rd"
      have e1 : H p = H p := rfl
      refine rd_ixL (SqL.of upd_same) rfl ?_
      repeat walk_at "rd"
      refine k _ _ (Int.emod_nonneg _ (by omega)) (Int.emod_lt_of_pos _ h0) ⟨a, _, upd_same, ha, Int.emod_nonneg _ (by decide), by omega⟩ But.upd
/-- the well of a script: a new list -/
def spWell (K : PySem.W.Frag) : Sp := fun vs H Q _ => ∃ (a : Addr) (ns : List Int) (k : Int), vs = [.ref a, .int k] ∧ SqL K H a (ns.map V.int) ∧ (∀ z ∈ ns, Builtin.Int.intBits z ≤ 1048576) ∧ 0 ≤ k ∧ k < 100 ∧ ∀ (p : Addr) (H' : Hp), H p = none → Well H' p → But p H H' → Q (.ref p) H'
theorem scW : FnScope ["script", "k", "seed", "cell", "own"] ["script", "k"] (defScope sWell) := ⟨rfl, rfl, rfl, by decide +kernel, rfl, by decide +kernel, by decide +kernel⟩
theorem ok_well {f : Addr} {fd : FuncData} (F : Fun K "_law_well" "_law_well" sWell f fd) (len : mg "len" = none) : FnOk P w K mg base CX0 1 f fd ["script", "k"] (spWell K) := by
  refine F.ok scW (fun vs H Q E h => ?_) (fun cdv A outer s H vs Q E hr h => ?_)
  · obtain ⟨a, ns, k, rfl, _⟩ := h
    rfl
  · obtain ⟨a, ns, k, rfl, hS, hbits, hk, hk2, kq⟩ := h
    refine ⟨_, pss_cons (ps_set (i := 2) scW.nd rfl (Or.inl rfl) (pe_op op_add pe_int (pv 1)))
      (pss_cons (ps_for PassesOwn.never rfl (pi_list (pv 0)) (pg_name (i := 3) scW.nd rfl (Or.inl rfl))
        (pss_one (ps_set (i := 2) scW.nd rfl (Or.inl rfl) (pe_op op_add (pe_op op_mod (pe_op op_powW (pe_op op_add (pe_op op_mul (pv 2) pe_int) (pv 3)) pe_int) pe_int) pe_int))))
      (pss_cons (ps_set (i := 4) scW.nd rfl (Or.inl rfl) pe_int)
      (pss_cons (ps_if (pw_and (pt_cmpR op_lt (pv 1) (pe_callB call_len (by rfl) len PySem.boot_len (pa_cons (pv 0) pa_nil)) (nomark _)) (pw_and1 (pt_cmpR op_ge (pe_ix ix_list (pv 0) (pv 1) (fun _ _ => rfl)) (pe_op op_pow pe_int pe_int) (nomark _)))).pt
          (pss_one (ps_set (i := 4) scW.nd rfl (Or.inl rfl) (pe_op op_sub (pe_ix ix_list (pv 0) (pv 1) (fun _ _ => rfl)) (pe_op op_pow pe_int pe_int)))) pss_nil)
      (pss_one (ps_ret (pe_lst (pa_cons (pv 4) (pa_cons (pv 2) pa_nil)))))))), ?_⟩
    repeat walk_at "rd"
    refine rd_forL (i := 0) (p := a) (xs := ns.map V.int) rfl hS (fun i σ H' => ∃ (sd : Int) (v : Option V), σ = [some (.ref a), some (.int k), some (.int sd), v, none] ∧ H' = H ∧ 0 ≤ sd ∧ sd < 2147483648)
      ⟨7 + k, none, rfl, rfl, by omega, by omega⟩ (fun i σ H' _ ⟨_, _, _, e, _⟩ => by rw [e]; exact hS) ?_ ?_
    · rintro i x σ H' hi ⟨sd, v, rfl, rfl, h0, h1⟩
      obtain ⟨z, hz, rfl⟩ := getInt hi
      have hb := hbits z (List.mem_of_getElem? hz)
      repeat walk_at "rd"
      refine rd_I (CPowW.add (by decide) (by decide) (by omega) (by omega) hb) ?_
      repeat walk_at "rd"
      exact ⟨_, _, rfl, rfl, by have := Int.emod_nonneg ((sd * 50021 + z) ^ (3 : Int).toNat) (show (2147483629 : Int) ≠ 0 by decide); omega, by have := Int.emod_lt_of_pos ((sd * 50021 + z) ^ (3 : Int).toNat) (show (0 : Int) < 2147483629 by decide); omega⟩
    · rintro σ H' ⟨sd, v, rfl, rfl, h0, h1⟩
      have hS' := hS
      have fin : ∀ own : Int, 0 ≤ own → ([V.int own, V.int sd].length ≤ sizeLine ∧ ∀ p, H' p = none → Q (.ref p) (upd H' p (.lst [V.int own, V.int sd]))) := fun own ho =>
        ⟨by show 2 ≤ sizeLine; decide, fun p hp => kq p _ hp ⟨own, sd, upd_same, ho, h0, h1⟩ But.upd⟩
      repeat walk_at "rd"
      refine rd_dec (fun hc => ?_) (fun _ => ?_)
      · rw [List.length_map] at hc
        obtain ⟨z, hz, hz2⟩ := atI_in (xs := ns) hk hc
        have hat : atI (ns.map V.int) k = some (V.int z) := by
          unfold atI ixN at hz2 ⊢
          rw [List.length_map, if_pos hk, if_pos hc, Option.bind_some] at *
          rw [List.getElem?_map, hz2]
          rfl
        repeat walk_at "rd"
        refine rd_ixL hS' hat ?_
        repeat walk_at "rd"
        refine rd_dec (fun hc2 => ?_) (fun _ => ?_)
        · repeat walk_at "rd"
          refine rd_ixL hS' hat ?_
          repeat walk_at "rd"
          have e : ((10 : Int) ^ (18 : Int).toNat) = 1000000000000000000 := by decide
          rw [e] at hc2 ⊢
          exact fin _ (by omega)
        · repeat walk_at "rd"
          exact fin 0 (Int.le_refl _)
      · repeat walk_at "rd"
        exact fin 0 (Int.le_refl _)
/-- one of some, by the well -/
def spPick (K : PySem.W.Frag) : Sp := fun vs H Q _ => ∃ (p q : Addr) (xs : List V), vs = [.ref p, .ref q] ∧ Well H p ∧ Sq K H q xs ∧ q ≠ p ∧ 0 < xs.length ∧ xs.length ≤ 1000 ∧ ∀ (v : V) (H' : Hp), v ∈ xs → Well H' p → But p H H' → Q v H'
theorem scP : FnScope ["well", "some"] ["well", "some"] (defScope sPick) := ⟨rfl, rfl, rfl, by decide +kernel, rfl, by decide +kernel, by decide +kernel⟩
theorem ok_pick {f fD : Addr} {fd fdD : FuncData} (F : Fun K "_law_pick" "_law_pick" sPick f fd) (FD : Fun K "_law_draw" "_law_draw" sDraw fD fdD) (bD : Binds K fdD ["well", "many"] []) (mD : mg "_law_draw" = some (.ref fD)) (len : mg "len" = none) : FnOk P w K mg base CX0 2 f fd ["well", "some"] (spPick K) := by
  have GD : FnOk P w K mg base CX0 1 fD fdD ["well", "many"] spDraw := ok_draw FD
  refine F.ok scP (fun vs H Q E h => ?_) (fun cdv A outer s H vs Q E hr h => ?_)
  · obtain ⟨p, q, xs, rfl, _⟩ := h
    rfl
  · obtain ⟨p, q, xs, rfl, hw, hq, hkeep, hl, hl2, k⟩ := h
    refine ⟨_, pss_one (ps_ret (pe_ix ix_seq (pv 1) (pe_call GD hr rfl mD FD.kp bD .nil pass0 (pa_cons (pv 0) (pa_cons (pe_callB call_len (by rfl) len PySem.boot_len (pa_cons (pv 1) pa_nil)) pa_nil))) (fun _ _ => rfl))), ?_⟩
    repeat walk_at "rd"
    refine rd_lenQ hq ?_
    repeat walk_at "rd"
    refine ⟨p, _, rfl, hw, ⟨by omega, by omega⟩, fun r H' h0 h1 hw' hb => ?_⟩
    obtain ⟨v, hv, ha⟩ := atI_in h0 h1
    exact rd_ixQ (hq.but hkeep hb) ha (k v H' hv hw' hb)
end
end Tug
namespace Tug
open PySem L2
local macro_rules | `(tactic| walk_at "rd") => `(tactic| (first
  | with_reducible refine rd_seq ?_
  | with_reducible refine rd_if ?_
  | with_reducible refine rd_asg ?_
  | with_reducible refine rd_ret ?_
  | with_reducible refine rd_drop ?_
  | with_reducible refine rd_next ?_
  | ((with_reducible refine' rd_var ?rde ?_); (case rde => rfl))
  | with_reducible refine rd_c ?_
  | with_reducible refine rd_op ?_
  | with_reducible refine rd_un ?_
  | with_reducible refine rd_neg ?_
  | with_reducible refine rd_I0 ?_
  | with_reducible refine rd_nil ?_
  | with_reducible refine rd_cons ?_
  | with_reducible refine rd_tup ?_
  | with_reducible refine rd_lst ?_
  | with_reducible refine rd_gname ?_
  | with_reducible refine rd_gsub ?_
  | with_reducible refine rd_test ?_
  | with_reducible refine rd_B ?_
  | ((with_reducible show ∃ k, V.bl _ = V.bl k ∧ _); refine ⟨_, rfl, ?_⟩)
  | with_reducible refine rd_and ?_
  | with_reducible refine rd_or ?_
  | with_reducible refine rd_not ?_
  | with_reducible refine rd_ifE ?_
  | with_reducible refine rd_call ?_
  | with_reducible refine rd_cb ?_
  | ((with_reducible refine' rd_eq ?rdc ?_); (case rdc => rfl))
  | ((with_reducible refine' rd_ne ?rdc ?_); (case rdc => rfl))
  | ((with_reducible refine' rd_ixL ?rda ?rdb ?_); (case rda => first | exact SqL.of (by assumption) | assumption); (case rdb => rfl))
  | ((with_reducible refine' rd_ixT ?rda ?rdb ?_); (case rda => first | exact SqT.of (by assumption) | assumption); (case rdb => rfl))
  | ((with_reducible refine' rd_setL ?rda ?rdb ?_); (case rda => assumption); (case rdb => rfl))
  | ((with_reducible refine' rd_lenL ?rda ?_); (case rda => first | exact SqL.of (by assumption) | assumption))
  | with_reducible refine rd_yes ?_
  | with_reducible refine rd_par ?_
  | with_reducible refine rd_gcons ?_
  | with_reducible refine rd_gnil ?_
  | ((with_reducible refine' rd_decY ?rdc ?_); (case rdc => decide))
  | ((with_reducible refine' rd_decF ?rdc ?_); (case rdc => decide))
  | with_reducible refine iteF ?_
  | with_reducible refine iteT ?_
  | with_reducible refine rd_max ?_
  | with_reducible refine rd_min ?_
  | ((with_reducible refine' rd_I ?rdc ?_); (case rdc => first | (show (0 : Int) < _; omega) | exact ⟨by decide, by decide⟩ | exact ⟨by decide, by decide, by decide⟩ | exact .inr ⟨by omega, by omega⟩ | exact .inl ⟨by omega, by omega⟩ | exact CPowW.of (by decide) (by decide) (by omega) (by omega) | fail "rdc"))
  | with_reducible refine rd_nx ?_
  | fail "rd"))
abbrev sNumber : Stmt := top 12
abbrev sForm : Stmt := top 13
/-- all that was tracked is as it was, but at p and at q -/
def Keep2 (p q : Addr) (H H' : Hp) : Prop := ∀ c o, c ≠ p → c ≠ q → H c = some o → H' c = some o
theorem Keep2.of {p q : Addr} {A B : Hp} (k : Keep p A B) : Keep2 p q A B := fun c o n _ e => k c o n e
theorem Keep2.trans {p q : Addr} {A B C : Hp} (a : Keep2 p q A B) (b : Keep2 p q B C) : Keep2 p q A C := fun c o n m e => b c o n m (a c o n m e)
theorem Keep2.upd {p q : Addr} {A B : Hp} {o : HO} (k : Keep2 p q A B) : Keep2 p q A (L2.upd B q o) := fun c u n m e => by rw [upd_ne m]; exact k c u n m e
theorem Keep2.new {p q a : Addr} {A B : Hp} {o : HO} (k : Keep2 p q A B) (h : B a = none) : Keep2 p q A (L2.upd B a o) := fun c u n m e => by rw [upd_ne (ne_of_none (k c u n m e) h)]; exact k c u n m e
theorem Keep2.keep {p D : Addr} {H H' : Hp} {o : HO} (hD : H D = none) (k : Keep2 p D (L2.upd H D o) H') : Keep p H H' := fun c u n e => by
  have m : c ≠ D := ne_of_none e hD
  exact k c u n m ((upd_ne m).trans e)
theorem Well.put {H : Hp} {p q : Addr} {o : HO} (w : Well H p) (n : q ≠ p) : Well (L2.upd H q o) p := by
  obtain ⟨a, b, e, r⟩ := w
  exact ⟨a, b, by rw [upd_ne (Ne.symm n)]; exact e, r⟩
/-- a number of at most so many figures -/
abbrev Big : Int := 10 ^ 59
def spNumber : Sp := fun vs H Q _ => ∃ p : Addr, vs = [.ref p] ∧ Well H p ∧ ∀ (n : Int) (H' : Hp), -(10 ^ 59) ≤ n → n ≤ 10 ^ 59 → Well H' p → Keep p H H' → Q (.int n) H'
section
variable {P : Program} {w : World} {K : PySem.W.Frag} {mg : Str → Option Value} {base : Heap}
theorem scNu : FnScope ["well", "great"] ["well"] (defScope sNumber) := ⟨rfl, rfl, rfl, by decide +kernel, rfl, by decide +kernel, by decide +kernel⟩
theorem ok_number {f fD fP : Addr} {fd fdD fdP : FuncData} (F : Fun K "_law_number" "_law_number" sNumber f fd)
    (GD : FnOk P w K mg base CX0 1 fD fdD ["well", "many"] spDraw) (bD : Binds K fdD ["well", "many"] []) (mD : mg "_law_draw" = some (.ref fD)) (kD : PySem.W.keepIn K (.ref fD) = true)
    (GP : FnOk P w K mg base CX0 2 fP fdP ["well", "some"] (spPick K)) (bP : Binds K fdP ["well", "some"] []) (mP : mg "_law_pick" = some (.ref fP)) (kP : PySem.W.keepIn K (.ref fP) = true) :
    FnOk P w K mg base CX0 3 f fd ["well"] spNumber := by
  refine F.ok scNu (fun vs H Q E h => ?_) (fun cdv A outer s H vs Q E hr h => ?_)
  · obtain ⟨p, rfl, _⟩ := h
    rfl
  · obtain ⟨p, rfl, hw, kq⟩ := h
    have hr1 : Room 1 _ := hr.mono (by omega)
    have hr2 : Room 2 _ := hr.mono (by omega)
    refine ⟨_, pss_cons (ps_set (i := 1) scNu.nd rfl (Or.inl rfl) (pe_call GP hr2 (by rfl) mP kP bP .nil pass0 (pa_cons (pv 0) (pa_cons (pe_lst (pa_cons pe_int (pa_cons pe_int (pa_cons pe_int (pa_cons (pe_op op_pow pe_int pe_int) pa_nil))))) pa_nil))))
      (pss_one (ps_ret (pe_call GP hr2 (by rfl) mP kP bP .nil pass0 (pa_cons (pv 0) (pa_cons (pe_lst (pa_cons pe_int (pa_cons pe_int (pa_cons (pe_op op_sub pe_int pe_int)
        (pa_cons (pe_op op_sub (pe_call GD hr1 (by rfl) mD kD bD .nil pass0 (pa_cons (pv 0) (pa_cons (pe_op op_add (pe_op op_mul pe_int (pv 1)) pe_int) pa_nil))) (pv 1))
        (pa_cons (pe_call GD hr1 (by rfl) mD kD bD .nil pass0 (pa_cons (pv 0) (pa_cons (pv 1) pa_nil))) pa_nil)))))) pa_nil))))), ?_⟩
    repeat walk_at "rd"
    refine ⟨by show 4 ≤ sizeLine; decide, fun q hq => ?_⟩
    repeat walk_at "rd"
    have nq : q ≠ p := fun z => hw.some (z ▸ hq)
    refine ⟨p, q, _, rfl, hw.upd hq, .inl (SqL.of upd_same), nq, by show 0 < 4; decide, by show 4 ≤ 1000; decide, fun v H1 hv w1 b1 => ?_⟩
    have k1 : Keep p H H1 := (Keep.new hq).trans b1.keep
    obtain ⟨g, rfl, g0, g1⟩ : ∃ g : Int, v = .int g ∧ 4 ≤ g ∧ g ≤ 10 ^ 59 := by
      simp only [List.mem_cons, List.not_mem_nil, or_false] at hv
      rcases hv with rfl | rfl | rfl | rfl
      · exact ⟨_, rfl, by decide, by decide +kernel⟩
      · exact ⟨_, rfl, by decide, by decide +kernel⟩
      · exact ⟨_, rfl, by decide, by decide +kernel⟩
      · exact ⟨_, rfl, by decide +kernel, by decide +kernel⟩
    have e59 : (10 : Int) ^ 70 = 100000000000 * 10 ^ 59 := by decide +kernel
    repeat walk_at "rd"
    refine ⟨p, _, rfl, w1, ⟨by omega, by omega⟩, fun r H2 r0 r1 w2 b2 => ?_⟩
    repeat walk_at "rd"
    refine ⟨p, _, rfl, w2, ⟨by omega, by omega⟩, fun r' H3 r2 r3 w3 b3 => ?_⟩
    repeat walk_at "rd"
    refine ⟨by show 5 ≤ sizeLine; decide, fun q2 hq2 => ?_⟩
    repeat walk_at "rd"
    have nq2 : q2 ≠ p := fun z => w3.some (z ▸ hq2)
    refine ⟨p, q2, _, rfl, w3.upd hq2, .inl (SqL.of upd_same), nq2, by show 0 < 5; decide, by show 5 ≤ 1000; decide, fun v H4 hv w4 b4 => ?_⟩
    have k4 : Keep p H H4 := (((k1.trans b2.keep).trans b3.keep).trans (Keep.new hq2)).trans b4.keep
    simp only [List.mem_cons, List.not_mem_nil, or_false] at hv
    have b0 : (0 : Int) < 10 ^ 59 := by decide +kernel
    rcases hv with rfl | rfl | rfl | rfl | rfl
    · exact kq _ H4 (by omega) (by omega) w4 k4
    · exact kq _ H4 (by omega) (by omega) w4 k4
    · exact kq _ H4 (by omega) (by omega) w4 k4
    · exact kq _ H4 (by omega) (by omega) w4 k4
    · exact kq _ H4 (by omega) (by omega) w4 k4
theorem rd_bmL {r : V → List V → Hp → VK → Prop} {i : Nat} {ta : TA} {σ : St} {H : Hp} {Q : VK} {p : Addr} {xs : List V} (hv : σ[i]? = some (some (.ref p))) (h : H p = some (.lst xs)) (k : ta σ H fun ys H2 => r (.ref p) ys H2 Q) : tBM K "list" r (tVar i) ta σ H Q := ⟨_, hv, .inl ⟨rfl, _, SqL.of h⟩, k⟩
theorem rd_append {H : Hp} {Q : VK} {p : Addr} {xs : List V} {y : V} (h : H p = some (.lst xs)) (hl : xs.length < 1000) (k : Q .non (upd H p (.lst (xs ++ [y])))) : rAppend (.ref p) [y] H Q := ⟨p, xs, y, rfl, rfl, h, Nat.lt_of_lt_of_le hl (by decide), k⟩
end
/-! ### forms -/
/-- numbers within sixty figures -/
abbrev Sm (n : Int) : Prop := -(10 ^ 59) ≤ n ∧ n ≤ 10 ^ 59
structure PsOk (m : Int) (ps : List (Int × Int)) : Prop where
  at_ : ∀ q ∈ ps, 0 ≤ q.1 ∧ q.1 < m ∧ q.2 ≠ 0 ∧ Sm q.2
  up : ps.Pairwise fun a b => a.1 < b.1
  len : (ps.length : Int) ≤ m
def spForm (K : PySem.W.Frag) : Sp := fun vs H Q _ => ∃ (p : Addr) (m : Int), vs = [.ref p, .int m] ∧ Well H p ∧ 0 ≤ m ∧ m ≤ 100 ∧
  ∀ (v : V) (f : Fm) (H' : Hp), FmZ K (nw H H') v f → Sm f.1 → PsOk m f.2 → Well H' p → Keep p H H' → Q v H'
theorem PsOk.nil : PsOk 0 [] := ⟨fun _ h => (nomatch h), .nil, Int.le_refl _⟩
theorem PsOk.up1 {m : Int} {ps : List (Int × Int)} (h : PsOk m ps) : PsOk (m + 1) ps := ⟨fun q hq => by have := h.at_ q hq; exact ⟨this.1, by omega, this.2.2⟩, h.up, by have := h.len; omega⟩
theorem PsOk.add {m : Int} {ps : List (Int × Int)} {n : Int} (h : PsOk m ps) (h0 : 0 ≤ m) (hn : n ≠ 0) (hs : Sm n) : PsOk (m + 1) (ps ++ [(m, n)]) := by
  refine ⟨fun q hq => ?_, List.pairwise_append.mpr ⟨h.up, List.pairwise_singleton _ _, fun a ha b hb => ?_⟩, ?_⟩
  · rcases List.mem_append.mp hq with hq | hq
    · have := h.at_ q hq; exact ⟨this.1, by omega, this.2.2⟩
    · rw [List.mem_singleton.mp hq]; exact ⟨h0, by show m < m + 1; omega, hn, hs⟩
  · rw [List.mem_singleton.mp hb]; exact (h.at_ a ha).2.1
  · have := h.len; rw [List.length_append]; show ((ps.length + 1 : Nat) : Int) ≤ m + 1; omega
section
variable {P : Program} {w : World} {K : PySem.W.Frag} {mg : Str → Option Value} {base : Heap}
theorem scFo : FnScope ["well", "many", "parts", "knob", "much"] ["well", "many"] (defScope sForm) := ⟨rfl, rfl, rfl, by decide +kernel, rfl, by decide +kernel, by decide +kernel⟩
theorem ok_form {f fD fN : Addr} {fd fdD fdN : FuncData} (F : Fun K "_law_form" "_law_form" sForm f fd)
    (GD : FnOk P w K mg base CX0 1 fD fdD ["well", "many"] spDraw) (bD : Binds K fdD ["well", "many"] []) (mD : mg "_law_draw" = some (.ref fD)) (kD : PySem.W.keepIn K (.ref fD) = true)
    (GN : FnOk P w K mg base CX0 3 fN fdN ["well"] spNumber) (bN : Binds K fdN ["well"] []) (mN : mg "_law_number" = some (.ref fN)) (kN : PySem.W.keepIn K (.ref fN) = true)
    (rng : mg "range" = none) (tup : mg "tuple" = none) : FnOk P w K mg base CX0 4 f fd ["well", "many"] (spForm K) := by
  refine F.ok scFo (fun vs H Q E h => ?_) (fun cdv A outer s H vs Q E hr h => ?_)
  · obtain ⟨p, m, rfl, _⟩ := h
    rfl
  · obtain ⟨p, m, rfl, hw, m0, m1, kq⟩ := h
    have hr1 : Room 1 _ := hr.mono (by omega)
    have hr3 : Room 3 _ := hr.mono (by omega)
    refine ⟨_, pss_cons (ps_set (i := 2) scFo.nd rfl (Or.inl rfl) (pe_lst pa_nil))
      (pss_cons (ps_for PassesOwn.never rfl (pi_range1 (by rfl) rng (pa_cons (pv 1) pa_nil)) (pg_name (i := 3) scFo.nd rfl (Or.inl rfl))
        (pss_cons (ps_set (i := 4) scFo.nd rfl (Or.inl rfl) (pe_call GN hr3 (by rfl) mN kN bN .nil pass0 (pa_cons (pv 0) pa_nil)))
        (pss_one (ps_if (pw_and (pt_cmpR op_ne (pv 4) pe_int (nomark _)) (pw_and1 (pt_cmpR op_eq (pe_call GD hr1 (by rfl) mD kD bD .nil pass0 (pa_cons (pv 0) (pa_cons pe_int pa_nil))) pe_int (nomark _)))).pt
          (pss_one (ps_expr (pe_bm PySem.F.plainAttrs_list PySem.F.slot_list_append PySem.F.type_list_append mt_append (pv 2) (pa_cons (pe_tup (pa_cons (pv 3) (pa_cons (pv 4) pa_nil))) pa_nil)))) pss_nil))))
      (pss_one (ps_ret (pe_tup (pa_cons (pe_call GN hr3 (by rfl) mN kN bN .nil pass0 (pa_cons (pv 0) pa_nil)) (pa_cons (pe_callTy call_tupZ (by rfl) tup (by decide +kernel) (pa_cons (pv 2) pa_nil)) pa_nil)))))), ?_⟩
    repeat walk_at "rd"
    refine ⟨by show 0 ≤ sizeLine; decide, fun D hD => ?_⟩
    repeat walk_at "rd"
    have nDp : D ≠ p := fun z => hw.some (z ▸ hD)
    refine rd_forR ?_
    repeat walk_at "rd"
    refine ⟨_, rfl, by omega, by omega, for_range (fun i σ H' => ∃ (o3 o4 : Option V) (vs : List V) (ps : List (Int × Int)), σ = [some (.ref p), some (.int m), some (.ref D), o3, o4] ∧ H' D = some (.lst vs) ∧ DpAll K (nw (upd H D (.lst [])) H') vs (ps.map pd) ∧ vs.length = ps.length ∧ PsOk i ps ∧ Well H' p ∧ Keep2 p D (upd H D (.lst [])) H')
      ⟨_, _, [], [], rfl, upd_same, .nil, rfl, .nil, hw.upd hD, fun _ _ _ _ e => e⟩ ?_ ?_⟩
    · rintro i σ H1 hi ⟨o3, o4, vs, ps, rfl, e1, e2, e3, e4, e5, e6⟩
      repeat walk_at "rd"
      refine ⟨p, rfl, e5, fun n H2 n0 n1 w2 k2 => ?_⟩
      have e1' : H2 D = some (.lst vs) := k2 D _ nDp e1
      have s2 : Same (nw (upd H D (.lst [])) H1) (nw (upd H D (.lst [])) H2) := nw_same fun b o h1 h2 => ⟨h1, k2 b o (fun z => (hw.upd hD (o := .lst [])).some (z ▸ h1)) h2⟩
      have e2' := DpAll.same s2 e2
      have e6' : Keep2 p D (upd H D (.lst [])) H2 := e6.trans (Keep2.of k2)
      repeat walk_at "rd"
      have go : PsOk ((i + 1 : Nat) : Int) ps := by have := e4.up1; exact_mod_cast this
      have nxt : ∀ o3 o4 : Option V, ∃ (o3' o4' : Option V) (vs : List V) (ps : List (Int × Int)), [some (V.ref p), some (V.int m), some (V.ref D), o3, o4] = [some (V.ref p), some (V.int m), some (V.ref D), o3', o4'] ∧ H2 D = some (.lst vs) ∧ DpAll K (nw (upd H D (.lst [])) H2) vs (ps.map pd) ∧ vs.length = ps.length ∧ PsOk ((i + 1 : Nat) : Int) ps ∧ Well H2 p ∧ Keep2 p D (upd H D (.lst [])) H2 :=
        fun o3 o4 => ⟨o3, o4, vs, ps, rfl, e1', e2', e3, go, w2, e6'⟩
      refine rd_decN (fun hn => ?_) (fun hn => ?_)
      · repeat walk_at "rd"
        refine ⟨p, 2, rfl, w2, ⟨by decide, by decide⟩, fun r H3 r0 r1 w3 b3 => ?_⟩
        have k3 := b3.keep
        have e1'' : H3 D = some (.lst vs) := k3 D _ nDp e1'
        have s3 : Same (nw (upd H D (.lst [])) H2) (nw (upd H D (.lst [])) H3) := nw_same fun b o h1 h2 => ⟨h1, k3 b o (fun z => (hw.upd hD (o := .lst [])).some (z ▸ h1)) h2⟩
        have e2'' := DpAll.same s3 e2'
        have e6'' : Keep2 p D (upd H D (.lst [])) H3 := e6'.trans (Keep2.of k3)
        repeat walk_at "rd"
        refine rd_dec (fun hc => ?_) (fun hc => ?_)
        · repeat walk_at "rd"
          refine rd_bmL rfl e1'' ?_
          repeat walk_at "rd"
          refine ⟨by show 2 ≤ sizeLine; decide, fun q hq => ?_⟩
          repeat walk_at "rd"
          have nqD : D ≠ q := ne_of_none e1'' hq
          have nqp : q ≠ p := fun z => w3.some (z ▸ hq)
          have e1q : (upd H3 q (.tup [.int (0 + (i : Int)), .int n])) D = some (.lst vs) := (upd_ne nqD).trans e1''
          have hlen := e4.len
          refine rd_append e1q (by omega) ?_
          repeat walk_at "rd"
          have old : ∀ b, H3 b = none → (upd H D (.lst [])) b = none := fun b hb => by
            by_cases eb : b = D
            · rw [eb, e1''] at hb; cases hb
            · by_cases ep : b = p
              · exact absurd (ep ▸ hb) w3.some
              · cases z : (upd H D (.lst [])) b with
                | none => rfl
                | some o => rw [e6'' b o ep eb z] at hb; cases hb
          refine ⟨_, _, vs ++ [.ref q], ps ++ [((i : Int), n)], rfl, upd_same, ?_, by simp [e3], by have := e4.add (by omega) (fun z => hn (by rw [z])) ⟨n0, n1⟩; exact_mod_cast this, (w3.upd hq).put nDp, (e6''.new hq).upd⟩
          rw [List.map_append]
          refine DpAll.app (DpAll.same (nw_same fun b o h1 h2 => ⟨h1, ?_⟩) e2'') (.tup (SqT.of (nw_of (old q hq) ((upd_ne (Ne.symm nqD)).trans upd_same))) ?_)
          · have m1 : b ≠ q := ne_of_none h2 hq
            have m2 : b ≠ D := fun z => by rw [z, upd_same] at h1; cases h1
            rw [upd_ne m2, upd_ne m1]
            exact h2
          · rw [Int.zero_add]
            exact .cons (.int _) (.cons (.int _) .nil)
        · repeat walk_at "rd"
          exact ⟨_, _, vs, ps, rfl, e1'', e2'', e3, go, w3, e6''⟩
      · repeat walk_at "rd"
        exact ⟨_, _, vs, ps, rfl, e1', e2', e3, go, w2, e6'⟩
    · rintro σ H1 ⟨o3, o4, vs, ps, rfl, e1, e2, e3, e4, e5, e6⟩
      repeat walk_at "rd"
      refine ⟨p, rfl, e5, fun n H2 n0 n1 w2 k2 => ?_⟩
      have e1' : H2 D = some (.lst vs) := k2 D _ nDp e1
      have s2 : Same (nw (upd H D (.lst [])) H1) (nw (upd H D (.lst [])) H2) := nw_same fun b o h1 h2 => ⟨h1, k2 b o (fun z => (hw.upd hD (o := .lst [])).some (z ▸ h1)) h2⟩
      have e2' := DpAll.same s2 e2
      have e6' : Keep2 p D (upd H D (.lst [])) H2 := e6.trans (Keep2.of k2)
      repeat walk_at "rd"
      refine rd_tupZ (SqL.of e1') (fun l oz hl ho => ?_)
      repeat walk_at "rd"
      refine ⟨by show 2 ≤ sizeLine; decide, fun q hq => ?_⟩
      have k0 : Keep p H H2 := Keep2.keep hD e6'
      have kl : Keep p H (upd H2 l (.frz oz (.tup vs))) := k0.trans (Keep.new hl)
      have kq' : Keep p H (upd (upd H2 l (.frz oz (.tup vs))) q (.tup [.int n, .ref l])) := kl.trans (Keep.new hq)
      have nlp : l ≠ p := fun z => w2.some (z ▸ hl)
      have nqp : q ≠ p := fun z => (w2.upd hl).some (z ▸ hq)
      have old : ∀ b, (upd H D (.lst [])) b = none → H b = none := fun b hb => by
        cases z : H b with
        | none => rfl
        | some o =>
          rw [upd_ne (ne_of_none z hD), z] at hb
          cases hb
      have nl : H l = none := by
        cases z : H l with
        | none => rfl
        | some u => rw [k0 l u nlp z] at hl; cases hl
      have nq : H q = none := by
        cases z : H q with
        | none => rfl
        | some u => rw [kl q u nqp z] at hq; cases hq
      have nlq : l ≠ q := ne_of_none upd_same hq
      have up2 : ∀ b o, H2 b = some o → (upd (upd H2 l (.frz oz (.tup vs))) q (.tup [.int n, .ref l])) b = some o := fun b o e => by
        have m1 := ne_of_none e hl
        have m2 : b ≠ q := ne_of_none ((upd_ne m1).trans e) hq
        rw [upd_ne m2, upd_ne m1]
        exact e
      refine kq (.ref q) (n, ps) _ ⟨q, l, vs, rfl, SqT.of (nw_of nq upd_same), ⟨oz, nw_of nl (by rw [upd_ne nlq, upd_same]), ho⟩, DpAll.same (nw_same fun b o h1 h2 => ⟨old b h1, up2 b o h2⟩) e2'⟩ ⟨n0, n1⟩ ?_ ((w2.upd hl).upd hq) kq'
      have e : ((m.toNat : Nat) : Int) = m := by omega
      rw [← e]
      exact e4
end
end Tug
namespace Tug
open PySem L2
theorem rd_callk {sp : Sp} {gV : List V → List V → List V} {E : XK} {tk : TA} {σ : St} {H : Hp} {Q : VK} (k : tk σ H fun zs H2 => sp (gV [] zs) H2 Q E) : tCallK0 sp gV E tk σ H Q := k
theorem rd_seqM {t u : TS} {D : Ends} {σ : St} {H : Hp} (Mid : St → Hp → Prop) (hu : ∀ σ' H', Mid σ' H' → u D σ' H') (k : (∀ σ' H', Mid σ' H' → u D σ' H') → t { D with nx := u D } σ H) : tSeq t u D σ H := k hu
theorem rd_neS {x : V} {H : Hp} {Q : VK} (h : scal x x = true) (k : Q (.bl false) H) : rNe x x H Q := ⟨h, by rw [decide_eq_true rfl]; exact k⟩
theorem rd_lcI {K : PySem.W.Frag} {tl : TE} {g : TG} {tt : TT} {te : TE} {vs : List Nat} {σ : St} {H : Hp} {Q : VK} (k : tl σ H fun x H1 => ∃ a, x = .ref a ∧ (∃ xs, SqL K H1 a xs) ∧ ∀ D, H1 D = none → ∃ W : Nat → Nat → Hp → Prop, (∃ m, W 0 m (upd H1 D (.lst []))) ∧ ∀ i m H, W i m H →
    ((Itl K a).stop i H ∧ Q (.ref D) H) ∨ ((Itl K a).go i H ∧ ∃ Nx : Hp → Prop, (∀ H', Nx H' → ∃ m', m' < m ∧ W (i + 1) m' H') ∧ ∀ x H', (Itl K a).yld i H x H' → g x (wipe σ vs) H' fun σ2 H2 => wipe σ2 vs = wipe σ vs ∧ tt σ2 H2 fun b H3 =>
      if b = true then te σ2 H3 fun y H4 => ∃ acc, H4 D = some (.lst acc) ∧ acc.length < sizeLine ∧ Nx (upd H4 D (.lst (acc ++ [y]))) else Nx H3)) : tLc (iList K tl) g tt te vs σ H Q := k
theorem rd_lcT {K : PySem.W.Frag} {tl : TE} {g : TG} {tt : TT} {te : TE} {vs : List Nat} {σ : St} {H : Hp} {Q : VK} (k : tl σ H fun x H1 => ∃ a, x = .ref a ∧ (∃ xs, SqT K H1 a xs) ∧ ∀ D, H1 D = none → ∃ W : Nat → Nat → Hp → Prop, (∃ m, W 0 m (upd H1 D (.lst []))) ∧ ∀ i m H, W i m H →
    ((Itt K a).stop i H ∧ Q (.ref D) H) ∨ ((Itt K a).go i H ∧ ∃ Nx : Hp → Prop, (∀ H', Nx H' → ∃ m', m' < m ∧ W (i + 1) m' H') ∧ ∀ x H', (Itt K a).yld i H x H' → g x (wipe σ vs) H' fun σ2 H2 => wipe σ2 vs = wipe σ vs ∧ tt σ2 H2 fun b H3 =>
      if b = true then te σ2 H3 fun y H4 => ∃ acc, H4 D = some (.lst acc) ∧ acc.length < sizeLine ∧ Nx (upd H4 D (.lst (acc ++ [y]))) else Nx H3)) : tLc (iTup K tl) g tt te vs σ H Q := k
theorem nw_keep {K : PySem.W.Frag} {p : Addr} {HB A B : Hp} (hp : HB p ≠ none) (k : Keep p A B) : Same (nw HB A) (nw HB B) := nw_same fun b o h1 h2 => ⟨h1, k b o (fun z => hp (z ▸ h1)) h2⟩
theorem sm_lt {n : Int} (h : Sm n) : n.natAbs < 10 ^ 60 := by
  have e : (10 : Nat) ^ 60 = 10 * 10 ^ 59 := by decide +kernel
  have e2 : ((10 : Int) ^ 59) = ((10 ^ 59 : Nat) : Int) := by decide +kernel
  obtain ⟨a, b⟩ := h
  rw [e2] at a b
  generalize (10 : Nat) ^ 59 = B at *
  omega
theorem sh_pd {m : Int} {ps : List (Int × Int)} (h : PsOk m ps) (hm : m ≤ 100) : ∀ q ∈ ps, Sh 1 (2 * (61 + 2) + 3) (pd q) := fun q hq => by
  obtain ⟨a, b, _, c⟩ := h.at_ q hq
  refine sh_tup (n := 2) (fun d hd => ?_) (Nat.le_refl 2)
  simp only [List.mem_cons, List.not_mem_nil, or_false] at hd
  rcases hd with rfl | rfl
  · exact sh_int (k := 60) (by decide) (by decide) (Nat.lt_of_le_of_lt (show q.1.natAbs ≤ 100 by omega) (by decide +kernel))
  · exact sh_int (k := 60) (by decide) (by decide) (sm_lt c)
theorem dp_ints {K : PySem.W.Frag} {H : Hp} : ∀ zs : List Int, DpAll K H (zs.map V.int) (zs.map .int)
  | [] => .nil
  | z :: zs => .cons (.int z) (dp_ints zs)
theorem fits_of {m : Int} {ps : List (Int × Int)} {zs : List Int} (h : PsOk m ps) (hm : m ≤ 30) (hl : m ≤ zs.length) (hz : ∀ z ∈ zs, Sm z) : Fits ps zs := by
  have b : ∀ z : Int, Sm z → Mb z := fun z hz => Nat.lt_trans (sm_lt hz) (by decide +kernel)
  exact ⟨fun q hq => by
    obtain ⟨x, y, _, c⟩ := h.at_ q hq
    exact ⟨x, by omega, b _ c⟩, fun z hz' => b z (hz z hz'), by have := h.len; omega⟩
theorem prods_le : ∀ (ps : List (Int × Int)) (zs : List Int), (∀ q ∈ ps, Sm q.2) → (∀ z ∈ zs, Sm z) → (prods ps zs).sum.natAbs ≤ ps.length * 10 ^ 118
  | [], _, _, _ => Nat.zero_le _
  | q :: ps, zs, h, hz => by
    have ih := prods_le ps zs (fun x hx => h x (List.mem_cons_of_mem _ hx)) hz
    have h1 : q.2.natAbs ≤ 10 ^ 59 := by
      have e2 : ((10 : Int) ^ 59) = ((10 ^ 59 : Nat) : Int) := by decide +kernel
      obtain ⟨a, b⟩ := h q List.mem_cons_self
      rw [e2] at a b
      generalize (10 : Nat) ^ 59 = B at *
      omega
    have h2 : (num zs q.1).natAbs ≤ 10 ^ 59 := by
      unfold num
      cases e : atI zs q.1 with
      | none => exact Nat.zero_le _
      | some z =>
        have hm : z ∈ zs := by
          unfold atI at e
          cases e1 : ixN zs.length q.1 with
          | none => rw [e1] at e; cases e
          | some j => rw [e1] at e; exact List.mem_of_getElem? e
        have e2 : ((10 : Int) ^ 59) = ((10 ^ 59 : Nat) : Int) := by decide +kernel
        obtain ⟨a, b⟩ := hz z hm
        rw [e2] at a b
        show z.natAbs ≤ _
        generalize (10 : Nat) ^ 59 = B at *
        omega
    have h3 : (q.2 * num zs q.1).natAbs ≤ 10 ^ 118 := by
      rw [Int.natAbs_mul]
      exact Nat.le_trans (Nat.mul_le_mul h1 h2) (by decide +kernel)
    show (q.2 * num zs q.1 + (prods ps zs).sum).natAbs ≤ (ps.length + 1) * 10 ^ 118
    have := Int.natAbs_add_le (q.2 * num zs q.1) (prods ps zs).sum
    rw [Nat.succ_mul]
    omega
theorem wo_le {f : Fm} {m : Int} {zs : List Int} (h0 : Sm f.1) (h : PsOk m f.2) (hm : m ≤ 30) (hz : ∀ z ∈ zs, Sm z) : (wo f zs).natAbs ≤ 10 ^ 125 := by
  have a := prods_le f.2 zs (fun q hq => (h.at_ q hq).2.2.2) hz
  have b : f.2.length ≤ 30 := by have := h.len; omega
  have c := sm_lt h0
  have d := Int.natAbs_add_le f.1 (prods f.2 zs).sum
  have e : f.2.length * 10 ^ 118 ≤ 30 * 10 ^ 118 := Nat.mul_le_mul_right _ b
  have e2 : (30 : Nat) * 10 ^ 118 + 10 ^ 60 ≤ 10 ^ 125 := by decide +kernel
  show (f.1 + (prods f.2 zs).sum).natAbs ≤ _
  omega
/-- a comprehension's scope as one within it sees it -/
def inCell (sc : Scope) : Scope := { sc with names := sc.names.map fun q => if q.2 == NameKind.free then (q.1, NameKind.cell) else q }
/-- a form that may be shown -/
theorem sh_fm {m : Int} {f : Fm} (h : PsOk m f.2) (hm : m ≤ 40) (hn : f.1.natAbs < 10 ^ 130) : Sh 3 12000 (fmd f) := by
  have s1 : Sh 2 (40 * ((2 * (61 + 2) + 3) + 2) + 3) (.tuple (f.2.map pd)) := sh_tup (fun d hd => by
    obtain ⟨q, hq, rfl⟩ := List.mem_map.mp hd
    exact sh_pd h (by omega) q hq) (by have := h.len; rw [List.length_map]; omega)
  refine (sh_tup (ds := [.int f.1, .tuple (f.2.map pd)]) (n := 2) (D := 2) (L := 40 * ((2 * (61 + 2) + 3) + 2) + 3) (fun d hd => ?_) (Nat.le_refl 2)).up (by decide) (by decide)
  simp only [List.mem_cons, List.not_mem_nil, or_false] at hd
  rcases hd with rfl | rfl
  · exact (sh_int (k := 130) (by decide) (by decide) hn).up (by decide) (by decide)
  · exact s1
end Tug
namespace Tug
open PySem L2
/-! ### what keeps all tuples -/
def TL : HO → Prop
  | .tup _ => True
  | .frz _ (.tup _) => True
  | _ => False
def KT (H H' : Hp) : Prop := ∀ c u, TL u → H c = some u → H' c = some u
theorem KT.refl (H : Hp) : KT H H := fun _ _ _ e => e
theorem KT.trans {A B C : Hp} (a : KT A B) (b : KT B C) : KT A C := fun c u t e => b c u t (a c u t e)
theorem Same.kt {A B : Hp} (s : Same A B) : KT A B := fun c u _ e => s c u e
theorem Keep.kt {p : Addr} {A B : Hp} (k : Keep p A B) (w : Well A p) : KT A B := fun c u t e => by
  by_cases h : c = p
  · obtain ⟨a, b, z, _⟩ := w
    rw [h, z] at e
    cases e
    exact absurd t id
  · exact k c u h e
theorem KT.lst {A : Hp} {D : Addr} {xs : List V} {o : HO} (h : A D = some (.lst xs)) : KT A (upd A D o) := fun c u t e => by
  have n : c ≠ D := fun z => by
    rw [z, h] at e
    cases e
    exact absurd t id
  rw [upd_ne n]
  exact e
theorem SqT.kt {K : PySem.W.Frag} {H H' : Hp} {a : Addr} {xs : List V} (h : SqT K H a xs) (k : KT H H') : SqT K H' a xs := by
  rcases h with (h | ⟨o, h⟩) | h
  · exact .inl (.inl (k _ _ trivial h))
  · exact .inl (.inr ⟨o, k _ _ trivial h⟩)
  · exact .inr h
theorem Tz.kt {H H' : Hp} {a : Addr} {xs : List V} (h : Tz H a xs) (k : KT H H') : Tz H' a xs := by
  obtain ⟨o, e, d⟩ := h
  exact ⟨o, k _ _ trivial e, d⟩
theorem pds_kt {K : PySem.W.Frag} {H H' : Hp} (k : KT H H') : ∀ {vs : List V} {ps : List (Int × Int)}, DpAll K H vs (ps.map pd) → DpAll K H' vs (ps.map pd)
  | [], [], _ => .nil
  | v :: vs, q :: ps, h => by
    cases h with
    | cons a r =>
      obtain ⟨t, rfl, ht⟩ := dp_pair a
      exact .cons (.tup (SqT.kt ht k) (.cons (.int _) (.cons (.int _) .nil))) (pds_kt k r)
theorem FmZ.kt {K : PySem.W.Frag} {H H' : Hp} {v : V} {f : Fm} (h : FmZ K H v f) (k : KT H H') : FmZ K H' v f := by
  obtain ⟨a, b, vs, rfl, h1, h2, h3⟩ := h
  exact ⟨a, b, vs, rfl, SqT.kt h1 k, h2.kt k, pds_kt k h3⟩
/-- two numbers -/
def two (a b : Int) : PyData := .tuple [.int a, .int b]
theorem dp_twoI {K : PySem.W.Frag} {H : Hp} {t : Addr} {a b : Int} (h : SqT K H t [.int a, .int b]) : Dp K H (.ref t) (two a b) := .tup h (.cons (.int _) (.cons (.int _) .nil))
theorem two_dp {K : PySem.W.Frag} {H : Hp} {t : Addr} {a b : Int} (h : Dp K H (.ref t) (two a b)) : SqT K H t [.int a, .int b] := by
  obtain ⟨u, e, hs⟩ := dp_pair (q := (a, b)) h
  cases e
  exact hs
theorem sh_two {a b : Int} (ha : a.natAbs < 10 ^ 130) (hb : b.natAbs < 10 ^ 130) : Sh 1 1000 (two a b) := by
  refine (sh_tup (ds := [.int a, .int b]) (n := 2) (D := 0) (L := 131) (fun d hd => ?_) (Nat.le_refl 2)).up (by decide) (by decide)
  simp only [List.mem_cons, List.not_mem_nil, or_false] at hd
  rcases hd with rfl | rfl
  · exact sh_int (k := 130) (by decide) (by decide) ha
  · exact sh_int (k := 130) (by decide) (by decide) hb
theorem two_ok (a b : Int) : SeqAt.shaped (two a b) = true ∧ PyData.eqv (two a b) (two a b) = true := by
  constructor
  · rfl
  · show PyData.eqv (.tuple [.int a, .int b]) (.tuple [.int a, .int b]) = true
    simp [PyData.eqv, PyData.eqvAll]
end Tug
namespace Tug
open PySem L2
local macro_rules | `(tactic| walk_at "rd") => `(tactic| (first
  | with_reducible refine rd_seq ?_
  | with_reducible refine rd_if ?_
  | with_reducible refine rd_asg ?_
  | with_reducible refine rd_ret ?_
  | with_reducible refine rd_drop ?_
  | with_reducible refine rd_next ?_
  | ((with_reducible refine' rd_var ?rde ?_); (case rde => rfl))
  | with_reducible refine rd_c ?_
  | with_reducible refine rd_op ?_
  | with_reducible refine rd_un ?_
  | with_reducible refine rd_neg ?_
  | with_reducible refine rd_I0 ?_
  | with_reducible refine rd_nil ?_
  | with_reducible refine rd_cons ?_
  | with_reducible refine rd_tup ?_
  | with_reducible refine rd_lst ?_
  | with_reducible refine rd_gname ?_
  | with_reducible refine rd_gsub ?_
  | with_reducible refine rd_test ?_
  | with_reducible refine rd_B ?_
  | ((with_reducible show ∃ k, V.bl _ = V.bl k ∧ _); refine ⟨_, rfl, ?_⟩)
  | with_reducible refine rd_and ?_
  | with_reducible refine rd_or ?_
  | with_reducible refine rd_not ?_
  | with_reducible refine rd_ifE ?_
  | with_reducible refine rd_call ?_
  | with_reducible refine rd_cb ?_
  | ((with_reducible refine' rd_eq ?rdc ?_); (case rdc => rfl))
  | ((with_reducible refine' rd_ne ?rdc ?_); (case rdc => rfl))
  | ((with_reducible refine' rd_ixL ?rda ?rdb ?_); (case rda => first | exact SqL.of (by assumption) | assumption); (case rdb => rfl))
  | ((with_reducible refine' rd_ixT ?rda ?rdb ?_); (case rda => first | exact SqT.of (by assumption) | assumption); (case rdb => rfl))
  | ((with_reducible refine' rd_setL ?rda ?rdb ?_); (case rda => assumption); (case rdb => rfl))
  | ((with_reducible refine' rd_lenL ?rda ?_); (case rda => first | exact SqL.of (by assumption) | assumption))
  | with_reducible refine rd_yes ?_
  | with_reducible refine rd_par ?_
  | with_reducible refine rd_gcons ?_
  | with_reducible refine rd_gnil ?_
  | ((with_reducible refine' rd_decY ?rdc ?_); (case rdc => decide))
  | ((with_reducible refine' rd_decF ?rdc ?_); (case rdc => decide))
  | with_reducible refine iteF ?_
  | with_reducible refine iteT ?_
  | with_reducible refine rd_max ?_
  | with_reducible refine rd_min ?_
  | ((with_reducible refine' rd_I ?rdc ?_); (case rdc => first | (show (0 : Int) < _; omega) | exact ⟨by decide, by decide⟩ | exact ⟨by decide, by decide, by decide⟩ | exact .inr ⟨by omega, by omega⟩ | exact .inl ⟨by omega, by omega⟩ | exact CPowW.of (by decide) (by decide) (by omega) (by omega) | fail "rdc"))
  | with_reducible refine rd_nx ?_
  | fail "rd"))
abbrev sKnob : Stmt := top 1
abbrev sPlain : Stmt := top 2
abbrev sAdded : Stmt := top 3
abbrev sTaken : Stmt := top 4
abbrev sTimes : Stmt := top 5
abbrev sParts : Stmt := top 7
/-- the parts of two forms, knobs below 60 -/
structure POk (a : List (Int × Int)) : Prop where
  can : Can a
  at_ : ∀ q ∈ a, 0 ≤ q.1 ∧ q.1 < 60
theorem FOk.p {f : Fm} (h : FOk f) : POk f.2 := ⟨h.can, fun q hq => ⟨(h.at_ q hq).1, (h.at_ q hq).2.1⟩⟩
def spParts (K : PySem.W.Frag) : Sp := fun vs H Q _ => ∃ (p q : Addr) (va vb : List V) (a b : List (Int × Int)), vs = [.ref p, .ref q] ∧ Tz H p va ∧ DpAll K H va (a.map pd) ∧ Tz H q vb ∧ DpAll K H vb (b.map pd) ∧ POk a ∧ POk b ∧
  ∀ (r : Addr) (vr : List V) (c : List (Int × Int)) (H' : Hp), Tz H' r vr → DpAll K H' vr (c.map pd) → Can c → (∀ k, tm c k = tm a k + tm b k) → Same H H' → Q (.ref r) H'
section
variable {P : Program} {w : World} {K : PySem.W.Frag} {mg : Str → Option Value} {base : Heap}
theorem scKn : FnScope ["knob"] ["knob"] (defScope sKnob) := ⟨rfl, rfl, rfl, by decide +kernel, rfl, by decide +kernel, by decide +kernel⟩
theorem scPl : FnScope ["number"] ["number"] (defScope sPlain) := ⟨rfl, rfl, rfl, by decide +kernel, rfl, by decide +kernel, by decide +kernel⟩
theorem scAd : FnScope ["one", "other"] ["one", "other"] (defScope sAdded) := ⟨rfl, rfl, rfl, by decide +kernel, rfl, by decide +kernel, by decide +kernel⟩
theorem scTa : FnScope ["one", "other"] ["one", "other"] (defScope sTaken) := ⟨rfl, rfl, rfl, by decide +kernel, rfl, by decide +kernel, by decide +kernel⟩
theorem scTi : FnScope ["form", "number", "knob", "many"] ["form", "number"] (defScope sTimes) := ⟨rfl, rfl, rfl, by decide +kernel, rfl, by decide +kernel, by decide +kernel⟩
abbrev nmP : List Str := ["one", "other", "counts", "knob", "many"]
theorem scPa : FnScope nmP ["one", "other"] (defScope sParts) := ⟨rfl, rfl, rfl, by decide +kernel, rfl, by decide +kernel, by decide +kernel⟩
theorem ok_knob {n : Nat} {f : Addr} {fd : FuncData} (F : Fun K "form_of" "form_of" sKnob f fd) : FnOk P w K mg base CX0 (n + 1) f fd ["knob"] (spKnob K) := by
  refine F.ok scKn (fun vs H Q E h => ?_) (fun cdv A outer s H vs Q E hr h => ?_)
  · obtain ⟨k, rfl, _⟩ := h
    rfl
  · obtain ⟨k, rfl, k0, k1, kq⟩ := h
    refine ⟨_, pss_one (ps_ret (pe_tup (pa_cons pe_int (pa_cons (pe_tupZ (pa_cons (pe_tup (pa_cons (pv 0) (pa_cons pe_int pa_nil))) pa_nil)) pa_nil)))), ?_⟩
    repeat walk_at "rd"
    refine rd_tupZZ ?_
    repeat walk_at "rd"
    refine ⟨by show 2 ≤ sizeLine; decide, fun p hp => ?_⟩
    repeat walk_at "rd"
    refine ⟨by show 1 ≤ sizeLine; decide, fun q o hq ho => ?_⟩
    repeat walk_at "rd"
    refine ⟨by show 2 ≤ sizeLine; decide, fun r hr' => ?_⟩
    have s1 := Same.new (o := .tup [.int k, .int 1]) hp
    have s2 := Same.new (o := .frz o (.tup [V.ref p])) hq
    have s3 := Same.new (o := .tup [.int 0, .ref q]) hr'
    refine kq (.ref r) _ ⟨r, q, [.ref p], rfl, SqT.of upd_same, Tz.same ⟨o, upd_same, ho⟩ s3, ?_⟩ ((s1.trans s2).trans s3)
    exact .cons (.tup (SqT.same (SqT.of upd_same) (s2.trans s3)) (.cons (.int _) (.cons (.int _) .nil))) .nil
theorem ok_plain {n : Nat} {f : Addr} {fd : FuncData} (F : Fun K "plain_form" "plain_form" sPlain f fd) : FnOk P w K mg base CX0 (n + 1) f fd ["number"] (spPlain K) := by
  refine F.ok scPl (fun vs H Q E h => ?_) (fun cdv A outer s H vs Q E hr h => ?_)
  · obtain ⟨k, rfl, _⟩ := h
    rfl
  · obtain ⟨k, rfl, kq⟩ := h
    refine ⟨_, pss_one (ps_ret (pe_tup (pa_cons (pv 0) (pa_cons (pe_tupZ pa_nil) pa_nil)))), ?_⟩
    repeat walk_at "rd"
    refine rd_tupZZ ?_
    repeat walk_at "rd"
    refine ⟨by show 0 ≤ sizeLine; decide, fun q o hq ho => ?_⟩
    repeat walk_at "rd"
    refine ⟨by show 2 ≤ sizeLine; decide, fun r hr' => ?_⟩
    have s2 := Same.new (o := .frz o (.tup [])) hq
    have s3 := Same.new (o := .tup [.int k, .ref q]) hr'
    exact kq (.ref r) _ ⟨r, q, [], rfl, SqT.of upd_same, Tz.same ⟨o, upd_same, ho⟩ s3, .nil⟩ (s2.trans s3)
theorem dp_len {H : Hp} {vs : List V} {ps : List (Int × Int)} (h : DpAll K H vs (ps.map pd)) : vs.length = ps.length := by rw [(dpAll_at h).1, List.length_map]
theorem dp_get {H : Hp} {vs : List V} {ps : List (Int × Int)} {m : Nat} {x : V} (h : DpAll K H vs (ps.map pd)) (hx : vs[m]? = some x) : ∃ c t, ps[m]? = some c ∧ x = .ref t ∧ SqT K H t [.int c.1, .int c.2] := by
  obtain ⟨d, hd1, hd2⟩ := (dpAll_at h).2 m x hx
  rw [List.getElem?_map] at hd1
  cases hq : ps[m]? with
  | none => rw [hq] at hd1; cases hd1
  | some c =>
    rw [hq] at hd1
    obtain ⟨t, rfl, ht⟩ := dp_pair ((Option.some.inj hd1) ▸ hd2)
    exact ⟨c, t, rfl, rfl, ht⟩
theorem take_snoc {ps : List (Int × Int)} {m : Nat} {c : Int × Int} (h : ps[m]? = some c) : ps.take (m + 1) = ps.take m ++ [c] := by rw [List.take_add_one, h]; rfl
theorem uq_notin {ps : List (Int × Int)} {m : Nat} {c : Int × Int} (hu : Uq ps) (h : ps[m]? = some c) : ∀ q ∈ ps.take m, q.1 ≠ c.1 := fun q hq => by
  have h1 : Uq (ps.take (m + 1)) := hu.sublist (List.take_sublist _ _)
  rw [take_snoc h] at h1
  exact (List.pairwise_append.mp h1).2.2 q hq c List.mem_cons_self
theorem tm_times {ps : List (Int × Int)} {i k : Int} : tm (ps.map fun q => (q.1, q.2 * i)) k = tm ps k * i := by
  induction ps with
  | nil => show (0 : Int) = 0 * i; rw [Int.zero_mul]
  | cons q ps ih =>
    rw [List.map_cons, tm_cons, tm_cons, ih]
    show (if q.1 = k then q.2 * i else _) = _
    split <;> rfl
theorem tm_snoc {ps : List (Int × Int)} {c : Int × Int} (h : ∀ q ∈ ps, q.1 ≠ c.1) (k : Int) : tm (ps ++ [c]) k = if k = c.1 then c.2 else tm ps k := by
  unfold tm
  rw [List.find?_append, List.find?_cons]
  by_cases e : k = c.1
  · rw [if_pos e, List.find?_eq_none.mpr fun q hq => by simpa [e] using h q hq, Option.none_or, decide_eq_true e.symm]
    rfl
  · rw [if_neg e, decide_eq_false (fun z => e z.symm)]
    cases List.find? (fun q => decide (q.1 = k)) ps <;> rfl
theorem ok_parts {n : Nat} {f : Addr} {fd : FuncData} (F : Fun K "parts_added" "parts_added" sParts f fd) (srt : mg "sorted" = none) (tup : mg "tuple" = none) : FnOk P w K mg base CX0 (n + 1) f fd ["one", "other"] (spParts K) := by
  refine F.ok scPa (fun vs H Q E h => ?_) (fun cdv A outer s H vs Q E hr h => ?_)
  · obtain ⟨p, q, va, vb, a, b, rfl, _⟩ := h
    rfl
  · obtain ⟨p, q, va, vb, a, b, rfl, ha, da, hb, db, oa, ob, k⟩ := h
    have hu := hr.units
    refine ⟨_, pss_cons (ps_if (PW.pt (pw_or (pt_not (pt_tru (pv 0) (by intro _; rfl))) (pw_or1 (pt_not (pt_tru (pv 1) (by intro _; rfl))))))
        (pss_one (ps_ret (pe_orT (pv 0) (pe_one (pv 1))))) pss_nil)
      (pss_cons (ps_set (i := 2) scPa.nd rfl (Or.inr rfl) (pe_dc (own := [("knob", 3), ("many", 4)]) (g := gTup K 2 (gCons (gName 3) (gCons (gName 4) gNil))) (tt := tYes) (tk := tVar 3) (tv := tVar 4) rfl scPa.nd (pi_tup (pv 0)) (blkOk_by (N := nmP) (sc := defScope sParts) (by decide +kernel))
          (fun _ _ _ _ _ => pg_tup rfl (pgs_cons (pg_name (i := 3) scPa.nd rfl (Or.inl rfl)) (pgs_cons (pg_name (i := 4) scPa.nd rfl (Or.inl rfl)) pgs_nil))) (fun _ _ _ _ _ => pts_nil) (fun _ _ _ _ _ => pv 3) (fun _ _ _ _ _ => pv 4)))
      (pss_cons (ps_for PassesOwn.never rfl (pi_tup (pv 1)) (pg_tup rfl (pgs_cons (pg_name (i := 3) scPa.nd rfl (Or.inl rfl)) (pgs_cons (pg_name (i := 4) scPa.nd rfl (Or.inl rfl)) pgs_nil)))
        (pss_one (ps_dput (hu_of hr) (pv 2) (pv 3) (pe_op op_add (pe_dget2 (hu_of hr) (pv 2) (pv 3) pe_int ⟨rfl, rfl, rfl, rfl⟩) (pv 4)) rfl)))
      (pss_one (ps_ret (pe_callTy call_tupZ (by rfl) tup (by decide +kernel) (pa_cons
        (pe_lc (own := [("knob", 3)]) (g := gName 3) (wi := iList K (tCB rSortDI (tCons (tVar 2) tNil))) (tt := fun σ H R => tTest (tOp rNe (tDGet (tVar 2) (tVar 3)) (tC (.int 0))) σ H R) (te := tTup (tCons (tVar 3) (tCons (tDGet (tVar 2) (tVar 3)) tNil))) rfl scPa.nd
          (pi_list (pe_callB (call_sortDI rfl) (by rfl) srt (by decide +kernel) (pa_cons (pv 2) pa_nil))) (blkOk_by (N := nmP) (sc := defScope sParts) (by decide +kernel))
          (fun _ _ _ _ _ => pg_name (i := 3) scPa.nd rfl (Or.inl rfl)) (fun _ _ _ _ _ => pts_one (pt_cmpR op_ne (pe_dget (hu_of hr) (pv 2) (pv 3) (fun _ _ => rfl)) pe_int (nomark _)))
          (fun _ _ _ _ _ => pe_tup (pa_cons (pv 3) (pa_cons (pe_dget (hu_of hr) (pv 2) (pv 3) (fun _ _ => rfl)) pa_nil)))) pa_nil))))))  , ?_⟩
    repeat walk_at "rd"
    refine rd_tru ?_
    repeat walk_at "rd"
    refine ⟨_, tru_tup ha.sq, ?_⟩
    by_cases za : va = []
    · have ea : a = [] := by
        have e := dp_len da
        rw [za] at e
        exact List.length_eq_zero_iff.mp e.symm
      subst za
      subst ea
      refine iteT ?_
      repeat walk_at "rd"
      refine rd_orT ?_
      repeat walk_at "rd"
      refine ⟨_, tru_tup ha.sq, ?_⟩
      refine iteF ?_
      repeat walk_at "rd"
      exact k q vb b H hb db ob.can (fun k => by show _ = 0 + _; omega) (Same.refl H)
    have ea : va.isEmpty = false := by cases va with
      | nil => exact absurd rfl za
      | cons _ _ => rfl
    rw [ea]
    refine iteF ?_
    refine rd_not ?_
    refine rd_tru ?_
    repeat walk_at "rd"
    refine ⟨_, tru_tup hb.sq, ?_⟩
    by_cases zb : vb = []
    · have eb : b = [] := by
        have e := dp_len db
        rw [zb] at e
        exact List.length_eq_zero_iff.mp e.symm
      subst zb
      subst eb
      refine iteT ?_
      repeat walk_at "rd"
      refine rd_orT ?_
      repeat walk_at "rd"
      refine ⟨_, tru_tup ha.sq, ?_⟩
      rw [ea]
      refine iteT ?_
      exact k p va a H ha da oa.can (fun k => by show _ = _ + 0; omega) (Same.refl H)
    have eb : vb.isEmpty = false := by cases vb with
      | nil => exact absurd rfl zb
      | cons _ _ => rfl
    rw [eb]
    refine iteF ?_
    have la : a.length ≤ 60 := oa.can.length oa.at_
    repeat walk_at "rd"
    refine rd_dcT ?_
    repeat walk_at "rd"
    refine ⟨p, rfl, ⟨_, ha.sq⟩, fun D hD => dc_tup (xs := va) (fun m H' => H' D = some (.dK ((a.take m).map kvp)) ∧ Same H H') ⟨upd_same, Same.new hD⟩ (fun m H' _ ⟨_, s⟩ => SqT.same ha.sq s) ?_ ?_⟩
    · rintro m x H1 hx ⟨e1, s1⟩
      obtain ⟨c, t, hc, rfl, ht⟩ := dp_get da hx
      refine rd_gtup (SqT.same ht s1) rfl ?_
      repeat walk_at "rd"
      refine ⟨rfl, ?_⟩
      repeat walk_at "rd"
      refine ⟨_, Sum.inl c.1, rfl, e1, ?_, ?_, fun b o e => ?_⟩
      · rw [List.length_map]
        have := List.length_take_le' m a
        exact Nat.lt_of_le_of_lt (show (a.take m).length ≤ 1000 by omega) (by decide)
      · rw [upd_same, take_snoc hc, List.map_append, putK_new]
        · rfl
        · intro r hr e
          obtain ⟨d, hd, rfl⟩ := List.mem_map.mp hr
          exact uq_notin oa.can.uq hc d hd (Sum.inl.inj e)
      · rw [upd_ne (ne_of_none e hD)]
        exact s1 b o e
    · rintro H1 ⟨e1, s1⟩
      rw [dp_len da, List.take_length] at e1
      repeat walk_at "rd"
      refine rd_forT ?_
      repeat walk_at "rd"
      refine ⟨q, rfl, ⟨_, SqT.same hb.sq s1⟩, for_tup (xs := vb) (fun m σ H' => ∃ (o3 o4 : Option V) (ds : List (Int × Int)), σ = [some (.ref p), some (.ref q), some (.ref D), o3, o4] ∧ H' D = some (.dK (ds.map kvp)) ∧ Uq ds ∧ (∀ q ∈ ds, 0 ≤ q.1 ∧ q.1 < 60) ∧ (∀ k, tm ds k = tm a k + tm (b.take m) k) ∧ Same H H')
        ⟨_, _, a, rfl, e1, oa.can.uq, oa.at_, fun k => by show _ = _ + 0; omega, s1⟩ (fun m σ H' _ ⟨_, _, _, _, _, _, _, _, s⟩ => SqT.same hb.sq s) ?_ ?_⟩
      · rintro m x σ H2 hx ⟨o3, o4, ds, rfl, e2, u2, i2, t2, s2⟩
        obtain ⟨c, t, hc, rfl, ht⟩ := dp_get db hx
        obtain ⟨c0, c1⟩ := ob.at_ c (List.mem_of_getElem? hc)
        have hn := uq_notin ob.can.uq hc
        refine rd_gtup (SqT.same ht s2) rfl ?_
        repeat walk_at "rd"
        refine rd_dput ?_
        repeat walk_at "rd"
        refine rd_dget2 ?_
        repeat walk_at "rd"
        refine ⟨D, rfl, .inl ⟨_, .inl e2⟩, ?_⟩
        repeat walk_at "rd"
        refine ⟨_, DGet.k (k := Sum.inl c.1) e2, ?_⟩
        rw [getD_tm]
        repeat walk_at "rd"
        have ld : ds.length ≤ 60 := uq_length 60 u2 i2
        refine ⟨D, _, rfl, DPut.k (k := Sum.inl c.1) e2 (by rw [List.length_map]; exact Nat.lt_of_le_of_lt (show _ ≤ 1000 by omega) (by decide)), ?_⟩
        repeat walk_at "rd"
        refine ⟨some (.int c.1), some (.int c.2), putP ds c.1 (tm ds c.1 + c.2), rfl, by rw [upd_same, putK_kvp], uq_putP u2, in_putP i2 c0 c1, fun k => ?_, fun b o e => ?_⟩
        · rw [tm_putP, take_snoc hc, tm_snoc hn]
          by_cases z : k = c.1
          · rw [if_pos z, if_pos z, t2, z, tm_out hn]; omega
          · rw [if_neg z, if_neg z, t2]
        · rw [upd_ne (ne_of_none e hD)]
          exact s2 b o e
      · rintro σ H2 ⟨o3, o4, ds, rfl, e2, u2, i2, t2, s2⟩
        rw [dp_len db, List.take_length] at t2
        have ld : ds.length ≤ 60 := uq_length 60 u2 i2
        repeat walk_at "rd"
        refine rd_lcI ?_
        repeat walk_at "rd"
        refine ⟨D, _, ds.map (·.1), rfl, .inl e2, by rw [List.map_map, List.map_map]; rfl, by rw [List.length_map]; omega, fun ys l hp hs hl => ?_⟩
        have ly : ys.length ≤ 60 := by rw [hp.length_eq, List.length_map]; exact ld
        have s3 := Same.new (o := .lst (ys.map V.int)) hl
        generalize hH3 : upd H2 l (.lst (ys.map V.int)) = H3 at *
        have e3 := s3 _ _ e2
        have l3 : H3 l = some (.lst (ys.map V.int)) := by rw [← hH3]; exact upd_same
        refine ⟨l, rfl, ⟨_, SqL.of l3⟩, fun R hR => lc_list (xs := ys.map V.int) (fun m H' => ∃ us : List V, H' R = some (.lst us) ∧ DpAll K H' us ((told (ys.take m) ds).map pd) ∧ Same H3 H') ⟨[], upd_same, .nil, Same.new hR⟩ (fun m H' _ ⟨_, _, _, s⟩ => SqL.of (s _ _ l3)) ?_ ?_⟩
        · rintro m x H4 hx ⟨us, f1, f2, s4⟩
          obtain ⟨y, hy, rfl⟩ := getInt hx
          have hk : y ∈ ds.map (·.1) := hp.mem_iff.mp (List.mem_of_getElem? hy)
          have tk : ∀ b : Bool, decide (tm ds y ≠ 0) = b → told (ys.take (m + 1)) ds = told (ys.take m) ds ++ if b = true then [(y, tm ds y)] else [] := fun b hb => by
            unfold told
            rw [List.take_add_one, hy, List.map_append, List.filter_append]
            show _ ++ List.filter _ [(y, tm ds y)] = _
            rw [List.filter_cons, hb]
            cases b <;> rfl
          have dg : DGet H4 D (.int y) (some (.int (tm ds y))) := by
            have e := DGet.k (k := Sum.inl y) (s4 _ _ e3)
            rw [val_in hk] at e
            exact e
          have lu : us.length ≤ 60 := by
            rw [dp_len f2]
            refine Nat.le_trans (List.length_filter_le _ _) ?_
            rw [List.length_map, List.length_take]
            omega
          repeat walk_at "rd"
          refine ⟨rfl, ?_⟩
          repeat walk_at "rd"
          refine rd_dget ?_
          repeat walk_at "rd"
          refine ⟨D, _, rfl, dg, ?_⟩
          repeat walk_at "rd"
          refine rd_decN (fun hn => ?_) (fun hn => ?_)
          · have hn' : tm ds y ≠ 0 := fun z => hn (by rw [z])
            repeat walk_at "rd"
            refine rd_dget ?_
            repeat walk_at "rd"
            refine ⟨D, _, rfl, dg, ?_⟩
            repeat walk_at "rd"
            refine ⟨by show 2 ≤ sizeLine; decide, fun u hu' => ?_⟩
            have s5 := Same.new (o := .tup [.int y, .int (tm ds y)]) hu'
            refine ⟨us, s5 _ _ f1, Nat.lt_of_le_of_lt (show _ ≤ 1000 by omega) (by decide), us ++ [.ref u], upd_same, ?_, fun b o e => ?_⟩
            · rw [tk true (decide_eq_true hn'), if_pos rfl, List.map_append]
              have kt : KT (upd H4 u (.tup [.int y, .int (tm ds y)])) (upd (upd H4 u (.tup [.int y, .int (tm ds y)])) R (.lst (us ++ [.ref u]))) := KT.lst (s5 _ _ f1)
              exact DpAll.app (pds_kt kt (DpAll.same s5 f2)) (.tup (SqT.kt (SqT.of upd_same) kt) (.cons (.int _) (.cons (.int _) .nil)))
            · rw [upd_ne (ne_of_none e hR)]
              exact s5 _ _ (s4 b o e)
          · have hn' : tm ds y = 0 := by injection hn
            repeat walk_at "rd"
            refine ⟨us, f1, ?_, s4⟩
            rw [tk false (decide_eq_false (fun z => z hn')), if_neg Bool.false_ne_true, List.append_nil]
            exact f2
        · rintro H4 ⟨us, f1, f2, s4⟩
          rw [List.length_map, List.take_length] at f2
          repeat walk_at "rd"
          refine rd_tupZ (SqL.of f1) (fun r oz hr' ho => ?_)
          have s5 := Same.new (o := .frz oz (.tup us)) hr'
          exact k r us (told ys ds) _ ⟨oz, upd_same, ho⟩ (DpAll.same s5 f2) (told_can u2 hp hs) (fun k => (told_tm u2 hp hs k).trans (t2 k)) (((s2.trans s3).trans s4).trans s5)
theorem ok_added {n : Nat} {f fP : Addr} {fd dP : FuncData} (F : Fun K "added" "added" sAdded f fd) (GP : FnOk P w K mg base CX0 n fP dP ["one", "other"] (spParts K)) (bP : Binds K dP ["one", "other"] []) (mP : mg "parts_added" = some (.ref fP)) (kP : PySem.W.keepIn K (.ref fP) = true) :
    FnOk P w K mg base CX0 (n + 1) f fd ["one", "other"] (spComb K 1) := by
  refine F.ok scAd (fun vs H Q E h => ?_) (fun cdv A outer s H vs Q E hr h => ?_)
  · obtain ⟨va, vb, a, b, rfl, _⟩ := h
    rfl
  · obtain ⟨va, vb, a, b, rfl, ha, hb, oa, ob, k⟩ := h
    obtain ⟨fa, pa, wa, rfl, a1, a2, a3⟩ := ha
    obtain ⟨fb, pb, wb, rfl, b1, b2, b3⟩ := hb
    have hr1 : Room n _ := hr.mono (by omega)
    refine ⟨_, pss_one (ps_ret (pe_tup (pa_cons (pe_op op_add (pe_ix ix_seq (pv 0) pe_int (fun _ _ => rfl)) (pe_ix ix_seq (pv 1) pe_int (fun _ _ => rfl)))
      (pa_cons (pe_call GP hr1 (by rfl) mP kP bP .nil pass0 (pa_cons (pe_ix ix_seq (pv 0) pe_int (fun _ _ => rfl)) (pa_cons (pe_ix ix_seq (pv 1) pe_int (fun _ _ => rfl)) pa_nil))) pa_nil)))), ?_⟩
    repeat walk_at "rd"
    refine rd_ixQ (.inr a1) rfl ?_
    repeat walk_at "rd"
    refine rd_ixQ (.inr b1) rfl ?_
    repeat walk_at "rd"
    refine rd_ixQ (.inr a1) rfl ?_
    repeat walk_at "rd"
    refine rd_ixQ (.inr b1) rfl ?_
    repeat walk_at "rd"
    refine ⟨pa, pb, wa, wb, a.2, b.2, rfl, a2, a3, b2, b3, oa.p, ob.p, fun r vr c H1 z1 z2 z3 z4 s1 => ?_⟩
    repeat walk_at "rd"
    refine ⟨by show 2 ≤ sizeLine; decide, fun t ht => ?_⟩
    have s2 := Same.new (o := .tup [.int (a.1 + b.1), .ref r]) ht
    exact k (.ref t) (a.1 + b.1, c) _ ⟨by show a.1 + b.1 = a.1 + 1 * b.1; rw [Int.one_mul], fun k => by rw [z4, Int.one_mul], z3⟩ ⟨t, r, vr, rfl, SqT.of upd_same, z1.same s2, DpAll.same s2 z2⟩ (s1.trans s2)
theorem ok_times {n : Nat} {f fP : Addr} {fd dP : FuncData} (F : Fun K "times" "times" sTimes f fd) (GP : FnOk P w K mg base CX0 n fP dP ["number"] (spPlain K)) (bP : Binds K dP ["number"] []) (mP : mg "plain_form" = some (.ref fP)) (kP : PySem.W.keepIn K (.ref fP) = true) (tup : mg "tuple" = none) :
    FnOk P w K mg base CX0 (n + 1) f fd ["form", "number"] (spTimes K) := by
  refine F.ok scTi (fun vs H Q E h => ?_) (fun cdv A outer s H vs Q E hr h => ?_)
  · obtain ⟨va, a, i, rfl, _⟩ := h
    rfl
  · obtain ⟨va, a, i, rfl, ha, oa, mi, k⟩ := h
    obtain ⟨fa, pa, wa, rfl, a1, a2, a3⟩ := ha
    have hr1 : Room n _ := hr.mono (by omega)
    have la : a.2.length ≤ 60 := oa.p.can.length oa.p.at_
    refine ⟨_, pss_cons (ps_if (pt_cmpR op_eq (pv 1) pe_int (nomark _)) (pss_one (ps_ret (pe_call GP hr1 (by rfl) mP kP bP .nil pass0 (pa_cons pe_int pa_nil)))) pss_nil)
      (pss_one (ps_ret (pe_tup (pa_cons (pe_op op_mulW (pe_ix ix_seq (pv 0) pe_int (fun _ _ => rfl)) (pv 1)) (pa_cons (pe_callTy call_tupZ (by rfl) tup (by decide +kernel) (pa_cons
        (pe_lc (own := [("knob", 2), ("many", 3)]) (g := gTup K 2 (gCons (gName 2) (gCons (gName 3) gNil))) (tt := tYes) rfl scTi.nd (pi_tup (pe_ix ix_seq (pv 0) pe_int (fun _ _ => rfl))) (blkOk_by (N := ["form", "number", "knob", "many"]) (sc := defScope sTimes) (by decide +kernel))
          (fun _ _ _ _ _ => pg_tup rfl (pgs_cons (pg_name (i := 2) scTi.nd rfl (Or.inl rfl)) (pgs_cons (pg_name (i := 3) scTi.nd rfl (Or.inl rfl)) pgs_nil))) (fun _ _ _ _ _ => pts_nil) (fun _ _ _ _ _ => pe_tup (pa_cons (pv 2) (pa_cons (pe_op op_mulW (pv 3) (pv 1)) pa_nil)))) pa_nil)) pa_nil))))), ?_⟩
    repeat walk_at "rd"
    refine rd_dec (fun hc => ?_) (fun hc => ?_)
    · have hc : i = 0 := by injection hc
      repeat walk_at "rd"
      refine ⟨0, rfl, fun v H1 z s1 => ?_⟩
      refine k v (0, []) H1 ⟨?_, fun k => ?_, ⟨.nil, fun _ h => (nomatch h)⟩⟩ z s1
      · show (0 : Int) = 0 + i * a.1
        rw [hc, Int.zero_mul]; rfl
      · show (0 : Int) = 0 + i * tm a.2 k
        rw [hc, Int.zero_mul]; rfl
    · have hc : i ≠ 0 := fun z => hc (by rw [z])
      repeat walk_at "rd"
      refine rd_ixQ (.inr a1) rfl ?_
      repeat walk_at "rd"
      refine rd_I (mb_mul oa.nm mi) ?_
      repeat walk_at "rd"
      refine rd_lcT ?_
      repeat walk_at "rd"
      refine rd_ixQ (.inr a1) rfl ?_
      refine ⟨pa, rfl, ⟨_, a2.sq⟩, fun R hR => lc_tup (xs := wa) (fun m H' => ∃ us : List V, H' R = some (.lst us) ∧ DpAll K H' us (((a.2.take m).map fun q => (q.1, q.2 * i)).map pd) ∧ Same H H') ⟨[], upd_same, .nil, Same.new hR⟩ (fun m H' _ ⟨_, _, _, s⟩ => SqT.same a2.sq s) ?_ ?_⟩
      · rintro m x H4 hx ⟨us, f1, f2, s4⟩
        obtain ⟨c, t, hc, rfl, ht⟩ := dp_get a3 hx
        obtain ⟨c0, c1, c2⟩ := oa.at_ c (List.mem_of_getElem? hc)
        have lu : us.length ≤ 60 := by
          rw [dp_len f2, List.length_map, List.length_take]
          omega
        refine rd_gtup (SqT.same ht s4) rfl ?_
        repeat walk_at "rd"
        refine ⟨rfl, ?_⟩
        repeat walk_at "rd"
        refine rd_I (mb_mul c2 mi) ?_
        repeat walk_at "rd"
        refine ⟨by show 2 ≤ sizeLine; decide, fun u hu' => ?_⟩
        have s5 := Same.new (o := .tup [.int c.1, .int (c.2 * i)]) hu'
        refine ⟨us, s5 _ _ f1, Nat.lt_of_le_of_lt (show _ ≤ 1000 by omega) (by decide), us ++ [.ref u], upd_same, ?_, fun b o e => ?_⟩
        · rw [take_snoc hc, List.map_append, List.map_append]
          have kt : KT (upd H4 u (.tup [.int c.1, .int (c.2 * i)])) (upd (upd H4 u (.tup [.int c.1, .int (c.2 * i)])) R (.lst (us ++ [.ref u]))) := KT.lst (s5 _ _ f1)
          exact DpAll.app (pds_kt kt (DpAll.same s5 f2)) (.tup (SqT.kt (SqT.of upd_same) kt) (.cons (.int _) (.cons (.int _) .nil)))
        · rw [upd_ne (ne_of_none e hR)]
          exact s5 _ _ (s4 b o e)
      · rintro H4 ⟨us, f1, f2, s4⟩
        rw [dp_len a3, List.take_length] at f2
        repeat walk_at "rd"
        refine rd_tupZ (SqL.of f1) (fun r oz hr' ho => ?_)
        have s5 := Same.new (o := .frz oz (.tup us)) hr'
        repeat walk_at "rd"
        refine ⟨by show 2 ≤ sizeLine; decide, fun t ht => ?_⟩
        have s6 := Same.new (o := .tup [.int (a.1 * i), .ref r]) ht
        refine k (.ref t) (a.1 * i, a.2.map fun q => (q.1, q.2 * i)) _ ⟨?_, fun k => ?_, ?_⟩ ⟨t, r, us, rfl, SqT.of upd_same, Tz.same ⟨oz, upd_same, ho⟩ s6, DpAll.same (s5.trans s6) f2⟩ ((s4.trans s5).trans s6)
        · show a.1 * i = 0 + i * a.1
          rw [Int.mul_comm, Int.zero_add]
        · show tm (a.2.map fun q => (q.1, q.2 * i)) k = 0 + i * tm a.2 k
          rw [tm_times, Int.zero_add, Int.mul_comm]
        · refine ⟨?_, fun q hq => ?_⟩
          · rw [List.pairwise_map]
            exact oa.can.up
          · obtain ⟨r, hr, rfl⟩ := List.mem_map.mp hq
            exact Int.mul_ne_zero (oa.can.nz r hr) hc
theorem ok_taken {n : Nat} {f fA fT : Addr} {fd dA dT : FuncData} (F : Fun K "taken" "taken" sTaken f fd) (GA : FnOk P w K mg base CX0 n fA dA ["one", "other"] (spComb K 1)) (bA : Binds K dA ["one", "other"] []) (mA : mg "added" = some (.ref fA)) (kA : PySem.W.keepIn K (.ref fA) = true)
    (GT : FnOk P w K mg base CX0 n fT dT ["form", "number"] (spTimes K)) (bT : Binds K dT ["form", "number"] []) (mT : mg "times" = some (.ref fT)) (kT : PySem.W.keepIn K (.ref fT) = true) :
    FnOk P w K mg base CX0 (n + 1) f fd ["one", "other"] (spComb K (-1)) := by
  refine F.ok scTa (fun vs H Q E h => ?_) (fun cdv A outer s H vs Q E hr h => ?_)
  · obtain ⟨va, vb, a, b, rfl, _⟩ := h
    rfl
  · obtain ⟨va, vb, a, b, rfl, ha, hb, oa, ob, k⟩ := h
    have hr1 : Room n _ := hr.mono (by omega)
    refine ⟨_, pss_one (ps_ret (pe_call GA hr1 (by rfl) mA kA bA .nil pass0 (pa_cons (pv 0) (pa_cons (pe_call GT hr1 (by rfl) mT kT bT .nil pass0 (pa_cons (pv 1) (pa_cons (pe_un un_neg pe_int) pa_nil))) pa_nil)))), ?_⟩
    repeat walk_at "rd"
    refine ⟨vb, b, -1, rfl, hb, ob, by show (-1 : Int).natAbs < 2 ^ 3000; exact Nat.lt_of_lt_of_le (show 1 < 2 ^ 1 by decide) (Nat.pow_le_pow_right (by decide) (by decide)), fun v r H1 c1 z1 s1 => ?_⟩
    repeat walk_at "rd"
    have e1 : r.1 = -b.1 := by have := c1.nm; simp only [] at this; omega
    have e2 : ∀ k, tm r.2 k = - tm b.2 k := fun k => by have := c1.tm_ k; have e : tm ([] : List (Int × Int)) k = 0 := rfl; rw [show ((0, []) : Fm).2 = [] from rfl, e] at this; omega
    have hin : ∀ q ∈ r.2, 0 ≤ q.1 ∧ q.1 < ((60 : Nat) : Int) := c1.within (n := 60) (fun _ h => (nomatch h)) ob.p.at_
    refine ⟨va, v, a, r, rfl, ha.same s1, z1, oa, ⟨c1.can, fun q hq => ?_, ?_⟩, fun u t H2 c2 z2 s2 => ?_⟩
    · refine ⟨(hin q hq).1, (hin q hq).2, ?_⟩
      have e3 := tm_in c1.can.uq hq
      rw [← e3, e2]
      show (- tm b.2 q.1).natAbs < 2 ^ 3000
      rw [Int.natAbs_neg]
      unfold tm
      cases e : b.2.find? fun x => decide (x.1 = q.1) with
      | none => exact Nat.pow_pos (by decide)
      | some x => exact (ob.at_ x (List.mem_of_find?_eq_some e)).2.2
    · show r.1.natAbs < 2 ^ 3000
      rw [e1, Int.natAbs_neg]
      exact ob.nm
    · refine k u t H2 ⟨?_, fun k => ?_, c2.can⟩ z2 (s1.trans s2)
      · have := c2.nm; rw [e1] at this; omega
      · have := c2.tm_ k; rw [e2] at this; omega
end
end Tug
namespace Tug
open PySem L2
local macro_rules | `(tactic| walk_at "rd") => `(tactic| (first
  | with_reducible refine rd_seq ?_
  | with_reducible refine rd_if ?_
  | with_reducible refine rd_asg ?_
  | with_reducible refine rd_ret ?_
  | with_reducible refine rd_drop ?_
  | with_reducible refine rd_next ?_
  | ((with_reducible refine' rd_var ?rde ?_); (case rde => rfl))
  | with_reducible refine rd_c ?_
  | with_reducible refine rd_op ?_
  | with_reducible refine rd_un ?_
  | with_reducible refine rd_neg ?_
  | with_reducible refine rd_I0 ?_
  | with_reducible refine rd_nil ?_
  | with_reducible refine rd_cons ?_
  | with_reducible refine rd_tup ?_
  | with_reducible refine rd_lst ?_
  | with_reducible refine rd_gname ?_
  | with_reducible refine rd_gsub ?_
  | with_reducible refine rd_test ?_
  | with_reducible refine rd_B ?_
  | ((with_reducible show ∃ k, V.bl _ = V.bl k ∧ _); refine ⟨_, rfl, ?_⟩)
  | with_reducible refine rd_and ?_
  | with_reducible refine rd_or ?_
  | with_reducible refine rd_not ?_
  | with_reducible refine rd_ifE ?_
  | with_reducible refine rd_call ?_
  | with_reducible refine rd_cb ?_
  | ((with_reducible refine' rd_eq ?rdc ?_); (case rdc => rfl))
  | ((with_reducible refine' rd_ne ?rdc ?_); (case rdc => rfl))
  | ((with_reducible refine' rd_ixL ?rda ?rdb ?_); (case rda => first | exact SqL.of (by assumption) | assumption); (case rdb => rfl))
  | ((with_reducible refine' rd_ixT ?rda ?rdb ?_); (case rda => first | exact SqT.of (by assumption) | assumption); (case rdb => rfl))
  | ((with_reducible refine' rd_setL ?rda ?rdb ?_); (case rda => assumption); (case rdb => rfl))
  | ((with_reducible refine' rd_lenL ?rda ?_); (case rda => first | exact SqL.of (by assumption) | assumption))
  | with_reducible refine rd_yes ?_
  | with_reducible refine rd_par ?_
  | with_reducible refine rd_gcons ?_
  | with_reducible refine rd_gnil ?_
  | ((with_reducible refine' rd_decY ?rdc ?_); (case rdc => decide))
  | ((with_reducible refine' rd_decF ?rdc ?_); (case rdc => decide))
  | with_reducible refine iteF ?_
  | with_reducible refine iteT ?_
  | with_reducible refine rd_max ?_
  | with_reducible refine rd_min ?_
  | ((with_reducible refine' rd_I ?rdc ?_); (case rdc => first | (show (0 : Int) < _; omega) | exact ⟨by decide, by decide⟩ | exact ⟨by decide, by decide, by decide⟩ | exact .inr ⟨by omega, by omega⟩ | exact .inl ⟨by omega, by omega⟩ | exact CPowW.of (by decide) (by decide) (by omega) (by omega) | fail "rdc"))
  | with_reducible refine rd_nx ?_
  | fail "rd"))
abbrev sWorth : Stmt := top 6
def spWorth (K : PySem.W.Frag) : Sp := fun vs H Q _ => ∃ (v : V) (f : Fm) (n : Addr) (ns : List Int), vs = [v, .ref n] ∧ Dp K H v (fmd f) ∧ SqL K H n (ns.map V.int) ∧ Fits f.2 ns ∧ ∀ H', Same H H' → Q (.int (wo f ns)) H'
theorem SqL.ix {K : PySem.W.Frag} {n : Addr} {ns : List Int} : ∀ (H : Hp) (k : Int) (x : V) (Q : VK), SqL K H n (ns.map V.int) → atI (ns.map V.int) k = some x → Q x H → rIx K (.ref n) (.int k) H Q := fun H k x Q h e q => rd_ixQ (.inl h) e q
section
variable {P : Program} {w : World} {K : PySem.W.Frag} {mg : Str → Option Value} {base : Heap}
theorem scWo : FnScope ["form", "setting", "knob", "many"] ["form", "setting"] (defScope sWorth) := ⟨rfl, rfl, rfl, by decide +kernel, rfl, by decide +kernel, by decide +kernel⟩
theorem rd_iTup {te : TE} {σ : St} {H : Hp} {R : It → Hp → Prop} {K : PySem.W.Frag} (k : te σ H fun x H1 => ∃ a, x = .ref a ∧ (∃ xs, SqT K H1 a xs) ∧ R (Itt K a) H1) : iTup K te σ H R := k
theorem rd_sum {K : PySem.W.Frag} {H : Hp} {Q : VK} {a : Addr} {ns : List Int} (h : H a = some (.lst (ns.map V.int))) (k : Q (.int ns.sum) H) : rSum K [.ref a] H Q := ⟨a, ns, rfl, SqL.of h, k⟩
theorem ok_worth {f : Addr} {fd : FuncData} (F : Fun K "worth" "worth" sWorth f fd) (sm : mg "sum" = none) : FnOk P w K mg base CX0 1 f fd ["form", "setting"] (spWorth K) := by
  refine F.ok scWo (fun vs H Q E h => ?_) (fun cdv A outer s H vs Q E hr h => ?_)
  · obtain ⟨v, f, n, ns, rfl, _⟩ := h
    rfl
  · obtain ⟨v, f, n, ns, rfl, hv, hn, hF, k⟩ := h
    obtain ⟨a, b, ws, rfl, ha, hb, hp⟩ := dp_form hv
    refine ⟨_, pss_one (ps_ret (pe_op op_add (pe_ix ix_seq (pv 0) pe_int (fun _ _ => rfl)) (pe_callB (cr_sum rfl) (by rfl) sm (by decide +kernel) (pa_cons
        (pe_lc (own := [("knob", 2), ("many", 3)]) (g := gTup K 2 (gCons (gName 2) (gCons (gName 3) gNil))) (tt := tYes) (te := tOp (rI CMulW fun i j => .int (i * j)) (tVar 3) (tOp (rIx K) (tVar 1) (tVar 2))) rfl scWo.nd (pi_tup (pe_ix ix_seq (pv 0) pe_int (fun _ _ => rfl))) (blkOk_by (N := ["form", "setting", "knob", "many"]) (sc := defScope sWorth) (by decide +kernel))
          (fun _ _ _ _ _ => pg_tup rfl (pgs_cons (pg_name (i := 2) scWo.nd rfl (Or.inl rfl)) (pgs_cons (pg_name (i := 3) scWo.nd rfl (Or.inl rfl)) pgs_nil))) (fun _ _ _ _ _ => pts_nil) (fun _ _ _ _ _ => pe_op op_mulW (pv 3) (pe_ix (r := rIx K) ix_seq (pv 1) (pv 2) (fun _ _ => rfl)))) pa_nil)))), ?_⟩
    repeat walk_at "rd"
    refine rd_ixQ (.inr ha) rfl ?_
    repeat walk_at "rd"
    refine rd_iTup ?_
    repeat walk_at "rd"
    refine rd_ixQ (.inr ha) rfl ?_
    refine ⟨b, rfl, ⟨_, hb⟩, fun D hD => lc_prods hD hb hp hn hF SqL.ix (fun _ _ => rfl) (fun _ _ => rfl) (fun _ _ => rfl) (fun _ _ => rfl) (fun H' e s => ?_)⟩
    repeat walk_at "rd"
    refine rd_sum e ?_
    repeat walk_at "rd"
    exact k H' s
end
end Tug
namespace Tug
open PySem L2
theorem rd_lcW {wi : TI} {g : TG} {tt : TT} {te : TE} {vs : List Nat} {σ : St} {H : Hp} {Q : VK} (k : wi σ H fun J H1 => ∀ D, H1 D = none → ∃ W : Nat → Nat → Hp → Prop, (∃ m, W 0 m (upd H1 D (.lst []))) ∧ ∀ i m H, W i m H →
    (J.stop i H ∧ Q (.ref D) H) ∨ (J.go i H ∧ ∃ Nx : Hp → Prop, (∀ H', Nx H' → ∃ m', m' < m ∧ W (i + 1) m' H') ∧ ∀ x H', J.yld i H x H' → g x (wipe σ vs) H' fun σ2 H2 => wipe σ2 vs = wipe σ vs ∧ tt σ2 H2 fun b H3 =>
      if b = true then te σ2 H3 fun y H4 => ∃ acc, H4 D = some (.lst acc) ∧ acc.length < sizeLine ∧ Nx (upd H4 D (.lst (acc ++ [y]))) else Nx H3)) : tLc wi g tt te vs σ H Q := k
theorem psok_mono {m n : Int} {ps : List (Int × Int)} (h : PsOk m ps) (l : m ≤ n) : PsOk n ps := ⟨fun q hq => by have := h.at_ q hq; exact ⟨this.1, by omega, this.2.2⟩, h.up, by have := h.len; omega⟩
theorem can_of {m : Int} {ps : List (Int × Int)} (h : PsOk m ps) : Can ps := ⟨h.up, fun q hq => (h.at_ q hq).2.2.1⟩
theorem sm_mb {x : Int} (hx : Sm x) : Mb x := Nat.lt_trans (sm_lt hx) (by decide +kernel)
theorem fok_of {m : Int} {f : Fm} (h : PsOk m f.2) (hm : m ≤ 40) (hn : Sm f.1) : FOk f := ⟨can_of h, fun q hq => by
  obtain ⟨a, b, c, d⟩ := h.at_ q hq
  exact ⟨a, by omega, sm_mb d⟩, sm_mb hn⟩
theorem tm_sm {m : Int} {ps : List (Int × Int)} (h : PsOk m ps) (s : Int) : Sm (tm ps s) := by
  unfold tm
  cases e : ps.find? fun q => decide (q.1 = s) with
  | none => exact ⟨by show -(10 ^ 59) ≤ (0 : Int); decide, by show (0 : Int) ≤ 10 ^ 59; decide⟩
  | some q => exact (h.at_ q (List.mem_of_find?_eq_some e)).2.2.2
theorem sm_le {n : Int} (h : Sm n) : n.natAbs ≤ 10 ^ 59 := by
  have e2 : ((10 : Int) ^ 59) = ((10 ^ 59 : Nat) : Int) := by decide +kernel
  obtain ⟨a, b⟩ := h
  rw [e2] at a b
  generalize (10 : Nat) ^ 59 = B at *
  omega
theorem sm_comb {x c y : Int} (hx : Sm x) (hc : Sm c) (hy : Sm y) : (x + c * y).natAbs < 10 ^ 130 := by
  have h1 := Int.natAbs_add_le x (c * y)
  have h2 : (c * y).natAbs ≤ 10 ^ 59 * 10 ^ 59 := by rw [Int.natAbs_mul]; exact Nat.mul_le_mul (sm_le hc) (sm_le hy)
  have h3 := sm_le hx
  have h4 : (10 : Nat) ^ 59 * 10 ^ 59 + 10 ^ 59 < 10 ^ 130 := by decide +kernel
  omega
theorem eqv_if {x : PyData} {A B : Prop} (h : PyData.eqv x x = true) (k : B) : if (!PyData.eqv x x) = true then A else B := by
  rw [h]
  exact iteF k
theorem sm0 : Sm 0 := ⟨by decide, by decide⟩
theorem ne_sameG {x : Str} {H1 : Hp} {R : Bool → Hp → Prop} (k : R false H1) : rNe (.str x) (.str x) H1 (fun y H' => ∃ b, y = V.bl b ∧ R b H') := ⟨rfl, false, by rw [decide_eq_true rfl]; rfl, k⟩
theorem comb_fits {r a b : Fm} {c m : Int} {ns : List Int} (h : Comb r a c b) (pa : PsOk m a.2) (pb : PsOk m b.2) (hc : Sm c) (hm : m ≤ 30) (hl : m ≤ ns.length) (hz : ∀ z ∈ ns, Sm z) : Fits r.2 ns := by
  have ia : ∀ q ∈ a.2, 0 ≤ q.1 ∧ q.1 < ((30 : Nat) : Int) := fun q hq => by obtain ⟨x, y, _⟩ := pa.at_ q hq; exact ⟨x, by omega⟩
  have ib : ∀ q ∈ b.2, 0 ≤ q.1 ∧ q.1 < ((30 : Nat) : Int) := fun q hq => by obtain ⟨x, y, _⟩ := pb.at_ q hq; exact ⟨x, by omega⟩
  have ja : ∀ q ∈ a.2, 0 ≤ q.1 ∧ q.1 < (ns.length : Int) := fun q hq => by obtain ⟨x, y, _⟩ := pa.at_ q hq; exact ⟨x, by omega⟩
  have jb : ∀ q ∈ b.2, 0 ≤ q.1 ∧ q.1 < (ns.length : Int) := fun q hq => by obtain ⟨x, y, _⟩ := pb.at_ q hq; exact ⟨x, by omega⟩
  refine ⟨fun q hq => ?_, fun z hz' => sm_mb (hz z hz'), by have := h.can.length (h.within ia ib); omega⟩
  obtain ⟨x, y⟩ := h.within ja jb q hq
  refine ⟨x, y, ?_⟩
  have e := tm_in h.can.uq hq
  rw [← e, h.tm_]
  exact Nat.lt_trans (sm_comb (tm_sm pa _) hc (tm_sm pb _)) (by decide +kernel)
theorem comb_fok {r a b : Fm} {c m : Int} (h : Comb r a c b) (pa : PsOk m a.2) (pb : PsOk m b.2) (na : Sm a.1) (nb : Sm b.1) (hc : Sm c) (hm : m ≤ 30) : FOk r := by
  have ia : ∀ q ∈ a.2, 0 ≤ q.1 ∧ q.1 < ((30 : Nat) : Int) := fun q hq => by obtain ⟨x, y, _⟩ := pa.at_ q hq; exact ⟨x, by omega⟩
  have ib : ∀ q ∈ b.2, 0 ≤ q.1 ∧ q.1 < ((30 : Nat) : Int) := fun q hq => by obtain ⟨x, y, _⟩ := pb.at_ q hq; exact ⟨x, by omega⟩
  refine ⟨h.can, fun q hq => ?_, ?_⟩
  · obtain ⟨x, y⟩ := h.within ia ib q hq
    refine ⟨x, by omega, ?_⟩
    have e := tm_in h.can.uq hq
    rw [← e, h.tm_]
    exact Nat.lt_trans (sm_comb (tm_sm pa _) hc (tm_sm pb _)) (by decide +kernel)
  · show r.1.natAbs < 2 ^ 3000
    rw [h.nm]
    exact Nat.lt_trans (sm_comb na hc nb) (by decide +kernel)
theorem comb_wo {r a b : Fm} {c m : Int} {ns : List Int} (h : Comb r a c b) (pa : PsOk m a.2) (pb : PsOk m b.2) (hl : m ≤ ns.length) : wo r ns = wo a ns + c * wo b ns :=
  h.wo (can_of pa).uq (can_of pb).uq (fun q hq => by obtain ⟨x, y, _⟩ := pa.at_ q hq; exact ⟨x, by omega⟩) (fun q hq => by obtain ⟨x, y, _⟩ := pb.at_ q hq; exact ⟨x, by omega⟩)
/-! ### lists of ints, compared -/
theorem eqv_ints : ∀ ns : List Int, PyData.eqvAll (ns.map .int) (ns.map .int) = true
  | [] => by simp [PyData.eqvAll]
  | n :: ns => by
    have := eqv_ints ns
    simp [PyData.eqvAll, PyData.eqv, this]
theorem eqv_list (ns : List Int) : PyData.eqv (.list (ns.map .int)) (.list (ns.map .int)) = true := by
  have := eqv_ints ns
  simp [PyData.eqv, this]
theorem lay_ints : ∀ ns : List Int, PyData.canLayAll0 (ns.map .int) = true ∧ PyData.depthAll (ns.map .int) ≤ 0
  | [] => ⟨rfl, Nat.zero_le _⟩
  | n :: ns => by
    obtain ⟨h1, h2⟩ := lay_ints ns
    exact ⟨by show (true && PyData.canLayAll0 (ns.map .int)) = true; rw [h1]; rfl, Nat.max_le.mpr ⟨Nat.le_refl 0, h2⟩⟩
theorem shaped_list (ns : List Int) : SeqAt.shaped (.list (ns.map .int)) = true := by
  obtain ⟨h1, h2⟩ := lay_ints ns
  have e1 : (PyData.list (ns.map .int)).canLay0 = true := h1
  have e2 : (PyData.list (ns.map .int)).depth ≤ 64 := by
    show PyData.depthAll (ns.map .int) + 1 ≤ 64
    omega
  show ((PyData.list (ns.map .int)).canLay0 && decide ((PyData.list (ns.map .int)).depth ≤ 64)) = true
  rw [e1, decide_eq_true e2]
  rfl
theorem rd_listOf {K : PySem.W.Frag} {H : Hp} {Q : VK} {p : Addr} {ys : List V} (h : SqL K H p ys) (k : ∀ l, H l = none → Q (.ref l) (upd H l (.lst ys))) : (fun xs H Q => ∃ p ys, xs = [.ref p] ∧ (SqL K H p ys ∨ SqT K H p ys) ∧ ∀ l, H l = none → Q (.ref l) (upd H l (.lst ys)) : List V → Hp → VK → Prop) [.ref p] H Q := ⟨p, ys, rfl, .inl h, k⟩
end Tug
namespace Tug
open PySem L2
section
variable {K : PySem.W.Frag} {σ : St} {H : Hp} {D : Ends} {va vb : V} {a b : Fm} {m n : Int} {ns : List Int} {d e : Addr}
structure S20 (K : PySem.W.Frag) (H : Hp) (va vb : V) (a b : Fm) (m : Int) : Prop where
  za : FmZ K H va a
  zb : FmZ K H vb b
  pa : PsOk m a.2
  pb : PsOk m b.2
  na : Sm a.1
  nb : Sm b.1
  m0 : 0 ≤ m
  m1 : m ≤ 30
structure N20 (H : Hp) (d : Addr) (ns : List Int) (m : Int) : Prop where
  nl : H d = some (.lst (ns.map V.int))
  l0 : m ≤ ns.length
  l1 : ns.length ≤ 900
  nz : ∀ z ∈ ns, Sm z
theorem S20.same {H' : Hp} (t : S20 K H va vb a b m) (s : Same H H') : S20 K H' va vb a b m := ⟨t.za.same s, t.zb.same s, t.pa, t.pb, t.na, t.nb, t.m0, t.m1⟩
theorem S20.kt {H' : Hp} (t : S20 K H va vb a b m) (s : KT H H') : S20 K H' va vb a b m := ⟨t.za.kt s, t.zb.kt s, t.pa, t.pb, t.na, t.nb, t.m0, t.m1⟩
theorem N20.same {H' : Hp} (t : N20 H d ns m) (s : Same H H') : N20 H' d ns m := ⟨s _ _ t.nl, t.l0, t.l1, t.nz⟩
theorem S20.oka (t : S20 K H va vb a b m) : FOk a := fok_of t.pa (by have := t.m1; omega) t.na
theorem S20.okb (t : S20 K H va vb a b m) : FOk b := fok_of t.pb (by have := t.m1; omega) t.nb
theorem S20.fa (t : S20 K H va vb a b m) (u : N20 H d ns m) : Fits a.2 ns := fits_of t.pa t.m1 u.l0 u.nz
theorem S20.fb (t : S20 K H va vb a b m) (u : N20 H d ns m) : Fits b.2 ns := fits_of t.pb t.m1 u.l0 u.nz
theorem sm1 : Sm 1 := ⟨by decide +kernel, by decide +kernel⟩
theorem smm : Sm (-1) := ⟨by decide +kernel, by decide +kernel⟩
theorem ps0' : PsOk m ([] : List (Int × Int)) ↔ 0 ≤ m := ⟨fun h => h.len, fun h => ⟨fun _ h => (nomatch h), .nil, h⟩⟩
theorem ne_fm {x y : V} {r s : Fm} {H1 : Hp} {R : Bool → Hp → Prop} (h1 : Dp K H1 x (fmd r)) (h2 : Dp K H1 y (fmd s)) (e : r = s) (k : R false H1) : rNeD K x y H1 (fun z H' => ∃ b, z = V.bl b ∧ R b H') := by
  subst e
  exact rd_neD h1 h2 (shaped_fm _) (shaped_fm _) ⟨_, rfl, by rw [eqv_fm]; exact k⟩
theorem ne_int {i j : Int} {H1 : Hp} {R : Bool → Hp → Prop} (e : i = j) (k : R false H1) : rNe (.int i) (.int j) H1 (fun z H' => ∃ b, z = V.bl b ∧ R b H') := by
  subst e
  exact ⟨rfl, false, by rw [decide_eq_true rfl]; rfl, k⟩
theorem ne_ints {x y : V} {H1 : Hp} {R : Bool → Hp → Prop} (h1 : Dp K H1 x (.list (ns.map .int))) (h2 : Dp K H1 y (.list (ns.map .int))) (k : R false H1) : rNeD K x y H1 (fun z H' => ∃ b, z = V.bl b ∧ R b H') :=
  rd_neD h1 h2 (shaped_list _) (shaped_list _) ⟨_, rfl, by rw [eqv_list]; exact k⟩
theorem wo_mb {f : Fm} (hn : Sm f.1) (hp : PsOk m f.2) (m1 : m ≤ 30) (nz : ∀ z ∈ ns, Sm z) : (wo f ns).natAbs < 10 ^ 130 := Nat.lt_of_le_of_lt (wo_le hn hp m1 nz) (by decide +kernel)
/-- worth(added(one, other), numbers) != first + second -/
theorem c_comb {c : Int} {f : Int → Int → Int} (hc : Sm c) (hf : ∀ i j : Int, i + c * j = f i j) (t : S20 K H va vb a b m) (u : N20 H d ns m) (h4 : σ[4]? = some (some va)) (h5 : σ[5]? = some (some vb)) (h8 : σ[8]? = some (some (.ref d)))
    (h10 : σ[10]? = some (some (.int (wo a ns)))) (h11 : σ[11]? = some (some (.int (wo b ns)))) (k : ∀ H', Same H H' → D.nx σ H') :
    tIfS (tTest (tOp rNe (tCall (spWorth K) [] E0 (tCons (tCall (spComb K c) [] E0 (tCons (tVar 4) (tCons (tVar 5) tNil))) (tCons (tVar 8) tNil))) (tOp (rI0 fun i j => .int (f i j)) (tVar 10) (tVar 11)))) (tRet (tC (.bl false))) tNext D σ H := by
  refine rd_if (rd_test (rd_op (rd_call (rd_cons (rd_call (rd_cons (rd_var h4 (rd_cons (rd_var h5 (rd_nil ?_))))))))))
  refine ⟨va, vb, a, b, rfl, t.za, t.zb, t.oka, t.okb, fun v r H1 cr y s1 => rd_cons (rd_var h8 (rd_nil ?_))⟩
  refine ⟨v, r, d, ns, rfl, y.dp, SqL.of (s1 _ _ u.nl), comb_fits cr t.pa t.pb hc t.m1 u.l0 u.nz, fun H2 s2 => ?_⟩
  refine rd_op (rd_var h10 (rd_var h11 (rd_I0 ?_)))
  refine ne_int ?_ (iteF (rd_next (k H2 (s1.trans s2))))
  rw [comb_wo cr t.pa t.pb u.l0, hf]
/-- worth(times(one, number), numbers) != first * number -/
theorem c_times (hn : Sm n) (t : S20 K H va vb a b m) (u : N20 H d ns m) (h4 : σ[4]? = some (some va)) (h6 : σ[6]? = some (some (.int n))) (h8 : σ[8]? = some (some (.ref d)))
    (h10 : σ[10]? = some (some (.int (wo a ns)))) (k : ∀ H', Same H H' → D.nx σ H') :
    tIfS (tTest (tOp rNe (tCall (spWorth K) [] E0 (tCons (tCall (spTimes K) [] E0 (tCons (tVar 4) (tCons (tVar 6) tNil))) (tCons (tVar 8) tNil))) (tOp (rI CMulW fun i j => .int (i * j)) (tVar 10) (tVar 6)))) (tRet (tC (.bl false))) tNext D σ H := by
  refine rd_if (rd_test (rd_op (rd_call (rd_cons (rd_call (rd_cons (rd_var h4 (rd_cons (rd_var h6 (rd_nil ?_))))))))))
  refine ⟨va, a, n, rfl, t.za, t.oka, sm_mb hn, fun v r H1 cr y s1 => rd_cons (rd_var h8 (rd_nil ?_))⟩
  refine ⟨v, r, d, ns, rfl, y.dp, SqL.of (s1 _ _ u.nl), comb_fits (m := m) cr (ps0'.mpr t.m0) t.pa hn t.m1 u.l0 u.nz, fun H2 s2 => ?_⟩
  have hm : Mb (wo a ns) := Nat.lt_trans (wo_mb t.na t.pa t.m1 u.nz) (by decide +kernel)
  refine rd_op (rd_var h10 (rd_var h6 (rd_I (mb_mul hm (sm_mb hn)) ?_)))
  refine ne_int ?_ (iteF (rd_next (k H2 (s1.trans s2))))
  rw [comb_wo (m := m) cr (ps0'.mpr t.m0) t.pa u.l0]
  show 0 + 0 + n * wo a ns = wo a ns * n
  rw [Int.mul_comm]
  omega
/-- worth(plain_form(number), numbers) != number or numbers != kept -/
theorem c_plain (u : N20 H d ns m) (h6 : σ[6]? = some (some (.int n))) (h8 : σ[8]? = some (some (.ref d))) (h9 : σ[9]? = some (some (.ref e))) (he : H e = some (.lst (ns.map V.int))) (k : ∀ H', Same H H' → D.nx σ H') :
    tIfS (tOr (tTest (tOp rNe (tCall (spWorth K) [] E0 (tCons (tCall (spPlain K) [] E0 (tCons (tVar 6) tNil)) (tCons (tVar 8) tNil))) (tVar 6))) (tTest (tOp (rNeD K) (tVar 8) (tVar 9)))) (tRet (tC (.bl false))) tNext D σ H := by
  refine rd_if (rd_or (rd_test (rd_op (rd_call (rd_cons (rd_call (rd_cons (rd_var h6 (rd_nil ?_)))))))))
  refine ⟨n, rfl, fun v H1 y s1 => rd_cons (rd_var h8 (rd_nil ?_))⟩
  refine ⟨v, (n, []), d, ns, rfl, y.dp, SqL.of (s1 _ _ u.nl), ⟨fun _ h => (nomatch h), fun z hz => sm_mb (u.nz z hz), by show 0 ≤ 1000; decide⟩, fun H2 s2 => ?_⟩
  refine rd_var h6 ?_
  refine ne_int (show n + 0 = n by omega) (iteF (rd_test (rd_op (rd_var h8 (rd_var h9 ?_)))))
  refine ne_ints (.lst (SqL.of ((s1.trans s2) _ _ u.nl)) (dp_ints ns)) (.lst (SqL.of ((s1.trans s2) _ _ he)) (dp_ints ns)) (iteF (rd_next (k H2 (s1.trans s2))))
/-- [k for k in range(many) if worth(form_of(k), numbers) != numbers[k]] != [] -/
theorem c_knobs {j : Nat} (m0 : 0 ≤ m) (m1 : m ≤ 30) (u : N20 H d ns m) (h3 : σ[3]? = some (some (.int m))) (h8 : (wipe σ [j])[8]? = some (some (.ref d))) (hj : j ≠ 8) (hl : j < (wipe σ [j]).length) (hw : ∀ x, wipe ((wipe σ [j]).set j x) [j] = wipe σ [j]) (k : ∀ H', Same H H' → D.nx σ H') :
    tIfS (tTest (tOp (rNeD K) (tLc (iRng1 (tCons (tVar 3) tNil)) (gName j) (fun σ H R => tTest (tOp rNe (tCall (spWorth K) [] E0 (tCons (tCall (spKnob K) [] E0 (tCons (tVar j) tNil)) (tCons (tVar 8) tNil))) (tOp (rIx K) (tVar 8) (tVar j))) σ H R) (tVar j) [j]) (tLst tNil))) (tRet (tC (.bl false))) tNext D σ H := by
  refine rd_if (rd_test (rd_op (rd_lcR (rd_cons (rd_var h3 (rd_nil ?_))))))
  refine ⟨m, rfl, by omega, by omega, fun R hR => lc_range (fun i H' => H' R = some (.lst []) ∧ Same H H') ⟨upd_same, Same.new hR⟩ ?_ ?_⟩
  · rintro i H1 hi ⟨e1, s1⟩
    refine rd_gname ⟨hw _, rd_test (rd_op (rd_call (rd_cons (rd_call (rd_cons (rd_var (v := .int (0 + (i : Int))) ?_ (rd_nil ?_)))))))⟩
    · rw [List.getElem?_set_self hl]
    · have hk0 : (0 : Int) ≤ 0 + (i : Int) := by omega
      have hk1 : 0 + (i : Int) < ns.length := by have := u.l0; omega
      obtain ⟨g1, g2⟩ := num_at hk0 hk1
      have h8' : ((wipe σ [j]).set j (some (.int (0 + (i : Int)))))[8]? = some (some (.ref d)) := by rw [List.getElem?_set_ne hj]; exact h8
      refine ⟨0 + (i : Int), rfl, by omega, by omega, fun v H2 y s2 => rd_cons (rd_var h8' (rd_nil ?_))⟩
      have s12 := s1.trans s2
      refine ⟨v, (0, [(0 + (i : Int), 1)]), d, ns, rfl, y.dp, SqL.of (s12 _ _ u.nl), ⟨fun q hq => ?_, fun z hz => sm_mb (u.nz z hz), by show 1 ≤ 1000; decide⟩, fun H3 s3 => ?_⟩
      · rw [List.mem_singleton.mp hq]
        exact ⟨hk0, hk1, sm_mb sm1⟩
      have s13 := s12.trans s3
      refine rd_op (rd_var h8' (rd_var (v := .int (0 + (i : Int))) (by rw [List.getElem?_set_self hl]) (SqL.ix _ _ _ _ (SqL.of (s13 _ _ u.nl)) g1 ?_)))
      refine ne_int (show 0 + (1 * num ns (0 + (i : Int)) + 0) = num ns (0 + (i : Int)) by omega) ?_
      exact iteF ⟨(s2.trans s3) _ _ e1, s13⟩
  · rintro H1 ⟨e1, s1⟩
    refine rd_lst (rd_nil ⟨by show 0 ≤ sizeLine; decide, fun p hp => ?_⟩)
    have s2 := Same.new (o := .lst []) hp
    exact ne_ints (ns := []) (.lst (SqL.of (s2 _ _ e1)) .nil) (.lst (SqL.of upd_same) .nil) (iteF (rd_next (k _ (s1.trans s2))))
theorem dp_zero {p q : Addr} {H1 : Hp} (h1 : H1 q = some (.tup [.int 0, .ref p])) (h2 : H1 p = some (.tup [])) : Dp K H1 (.ref q) (fmd (0, [])) := .tup (SqT.of h1) (.cons (.int 0) (.cons (.tup (SqT.of h2) .nil) .nil))
/-- added(one, other) != added(other, one) or taken(one, one) != (0, ()) or times(one, 0) != (0, ()) -/
theorem c_alike (t : S20 K H va vb a b m) (h4 : σ[4]? = some (some va)) (h5 : σ[5]? = some (some vb)) (k : ∀ H', Same H H' → D.nx σ H') :
    tIfS (tOr (tTest (tOp (rNeD K) (tCall (spComb K 1) [] E0 (tCons (tVar 4) (tCons (tVar 5) tNil))) (tCall (spComb K 1) [] E0 (tCons (tVar 5) (tCons (tVar 4) tNil)))))
      (tOr (tTest (tOp (rNeD K) (tCall (spComb K (-1)) [] E0 (tCons (tVar 4) (tCons (tVar 4) tNil))) (tTup (tCons (tC (.int 0)) (tCons (tTup tNil) tNil)))))
        (tTest (tOp (rNeD K) (tCall (spTimes K) [] E0 (tCons (tVar 4) (tCons (tC (.int 0)) tNil))) (tTup (tCons (tC (.int 0)) (tCons (tTup tNil) tNil))))))) (tRet (tC (.bl false))) tNext D σ H := by
  refine rd_if (rd_or (rd_test (rd_op (rd_call (rd_cons (rd_var h4 (rd_cons (rd_var h5 (rd_nil ?_)))))))))
  refine ⟨va, vb, a, b, rfl, t.za, t.zb, t.oka, t.okb, fun v r H1 cr y s1 => rd_call (rd_cons (rd_var h5 (rd_cons (rd_var h4 (rd_nil ?_)))))⟩
  refine ⟨vb, va, b, a, rfl, t.zb.same s1, t.za.same s1, t.okb, t.oka, fun v2 r2 H2 cr2 y2 s2 => ?_⟩
  refine ne_fm (y.same s2).dp y2.dp (fm_ext (by rw [cr.nm, cr2.nm]; omega) cr.can cr2.can fun k => by rw [cr.tm_, cr2.tm_]; omega) (iteF ?_)
  have t2 := t.same (s1.trans s2)
  refine rd_or (rd_test (rd_op (rd_call (rd_cons (rd_var h4 (rd_cons (rd_var h4 (rd_nil ?_))))))))
  refine ⟨va, va, a, a, rfl, t2.za, t2.za, t2.oka, t2.oka, fun v3 r3 H3 cr3 y3 s3 => ?_⟩
  refine rd_tup (rd_cons (rd_c (rd_cons (rd_tup (rd_nil ⟨by show 0 ≤ sizeLine; decide, fun p1 q1 => rd_nil ⟨by show 2 ≤ sizeLine; decide, fun p2 q2 => ?_⟩⟩)))))
  have s4 := Same.new (o := .tup []) q1
  have s5 := Same.new (o := .tup [.int 0, .ref p1]) q2
  refine ne_fm (y3.same (s4.trans s5)).dp (dp_zero upd_same (s5 _ _ upd_same)) (fm_ext (by rw [cr3.nm]; show a.1 + -1 * a.1 = 0; omega) cr3.can ⟨.nil, fun _ h => (nomatch h)⟩ fun k => by rw [cr3.tm_]; show tm a.2 k + -1 * tm a.2 k = 0; omega) (iteF ?_)
  have t5 := t2.same ((s3.trans s4).trans s5)
  refine rd_test (rd_op (rd_call (rd_cons (rd_var h4 (rd_cons (rd_c (rd_nil ?_)))))))
  refine ⟨va, a, 0, rfl, t5.za, t5.oka, sm_mb sm0, fun v6 r6 H6 cr6 y6 s6 => ?_⟩
  refine rd_tup (rd_cons (rd_c (rd_cons (rd_tup (rd_nil ⟨by show 0 ≤ sizeLine; decide, fun p3 q3 => rd_nil ⟨by show 2 ≤ sizeLine; decide, fun p4 q4 => ?_⟩⟩)))))
  have s7 := Same.new (o := .tup []) q3
  have s8 := Same.new (o := .tup [.int 0, .ref p3]) q4
  refine ne_fm (y6.same (s7.trans s8)).dp (dp_zero upd_same (s8 _ _ upd_same)) (fm_ext (by rw [cr6.nm]; show 0 + 0 * a.1 = 0; rw [Int.zero_mul]; rfl) cr6.can ⟨.nil, fun _ h => (nomatch h)⟩ fun k => by rw [cr6.tm_]; show 0 + 0 * tm a.2 k = 0; rw [Int.zero_mul]; rfl) (iteF (rd_next (k _ ?_)))
  exact (((s1.trans s2).trans ((s3.trans s4).trans s5)).trans s6).trans (s7.trans s8)
/-- taken(added(one, other), other) != one or times(one, 1) != one -/
theorem c_back (t : S20 K H va vb a b m) (h4 : σ[4]? = some (some va)) (h5 : σ[5]? = some (some vb)) (k : ∀ H', Same H H' → D.nx σ H') :
    tIfS (tOr (tTest (tOp (rNeD K) (tCall (spComb K (-1)) [] E0 (tCons (tCall (spComb K 1) [] E0 (tCons (tVar 4) (tCons (tVar 5) tNil))) (tCons (tVar 5) tNil))) (tVar 4)))
      (tTest (tOp (rNeD K) (tCall (spTimes K) [] E0 (tCons (tVar 4) (tCons (tC (.int 1)) tNil))) (tVar 4)))) (tRet (tC (.bl false))) tNext D σ H := by
  refine rd_if (rd_or (rd_test (rd_op (rd_call (rd_cons (rd_call (rd_cons (rd_var h4 (rd_cons (rd_var h5 (rd_nil ?_)))))))))))
  refine ⟨va, vb, a, b, rfl, t.za, t.zb, t.oka, t.okb, fun v r H1 cr y s1 => rd_cons (rd_var h5 (rd_nil ?_))⟩
  have t1 := t.same s1
  refine ⟨v, vb, r, b, rfl, y, t1.zb, comb_fok cr t.pa t.pb t.na t.nb sm1 t.m1, t1.okb, fun v2 r2 H2 cr2 y2 s2 => rd_var h4 ?_⟩
  have t2 := t1.same s2
  refine ne_fm y2.dp t2.za.dp (fm_ext (by rw [cr2.nm, cr.nm]; omega) cr2.can t.oka.can fun k => by rw [cr2.tm_, cr.tm_]; omega) (iteF ?_)
  refine rd_test (rd_op (rd_call (rd_cons (rd_var h4 (rd_cons (rd_c (rd_nil ?_)))))))
  refine ⟨va, a, 1, rfl, t2.za, t2.oka, sm_mb sm1, fun v3 r3 H3 cr3 y3 s3 => rd_var h4 ?_⟩
  refine ne_fm y3.dp (t2.za.same s3).dp (fm_ext (by rw [cr3.nm]; show 0 + 1 * a.1 = a.1; omega) cr3.can t.oka.can fun k => by rw [cr3.tm_]; show 0 + 1 * tm a.2 k = _; omega) (iteF (rd_next (k _ ((s1.trans s2).trans s3))))
/-- repr(first) != repr(due) or worth(setting=numbers, form=other) != second -/
theorem c_due (t : S20 K H va vb a b m) (u : N20 H d ns m) (h5 : σ[5]? = some (some vb)) (h8 : σ[8]? = some (some (.ref d))) (h10 : σ[10]? = some (some (.int (wo a ns)))) (h11 : σ[11]? = some (some (.int (wo b ns)))) (h12 : σ[12]? = some (some (.int (wo a ns)))) (k : ∀ H', Same H H' → D.nx σ H') :
    tIfS (tOr (tTest (tOp rNe (tCB (rRepr K) (tCons (tVar 10) tNil)) (tCB (rRepr K) (tCons (tVar 12) tNil)))) (tTest (tOp rNe (tCallK0 (spWorth K) (gR 2) E0 (tCons (tVar 8) (tCons (tVar 5) tNil))) (tVar 11)))) (tRet (tC (.bl false))) tNext D σ H := by
  have sh : Sh 0 131 (.int (wo a ns)) := sh_int (k := 130) (by decide) (by decide) (wo_mb t.na t.pa t.m1 u.nz)
  refine rd_if (rd_or (rd_test (rd_op (rd_cb (rd_cons (rd_var h10 (rd_nil ?_)))))))
  refine rd_show (.int _) sh (by decide) (by decide) ?_
  refine rd_cb (rd_cons (rd_var h12 (rd_nil ?_)))
  refine rd_show (.int _) sh (by decide) (by decide) ?_
  refine ne_sameG (iteF ?_)
  refine rd_test (rd_op (rd_callk (rd_cons (rd_var h8 (rd_cons (rd_var h5 (rd_nil ?_)))))))
  refine ⟨vb, b, d, ns, rfl, t.zb.dp, SqL.of u.nl, t.fb u, fun H1 s1 => rd_var h11 ?_⟩
  exact ne_int rfl (iteF (rd_next (k H1 s1)))
end
end Tug
namespace Tug
open PySem L2
local macro_rules | `(tactic| walk_at "rd") => `(tactic| (first
  | with_reducible refine rd_seq ?_
  | with_reducible refine rd_if ?_
  | with_reducible refine rd_asg ?_
  | with_reducible refine rd_ret ?_
  | with_reducible refine rd_drop ?_
  | with_reducible refine rd_next ?_
  | ((with_reducible refine' rd_var ?rde ?_); (case rde => rfl))
  | with_reducible refine rd_c ?_
  | with_reducible refine rd_op ?_
  | with_reducible refine rd_un ?_
  | with_reducible refine rd_neg ?_
  | with_reducible refine rd_I0 ?_
  | with_reducible refine rd_nil ?_
  | with_reducible refine rd_cons ?_
  | with_reducible refine rd_tup ?_
  | with_reducible refine rd_lst ?_
  | with_reducible refine rd_gname ?_
  | with_reducible refine rd_gsub ?_
  | with_reducible refine rd_test ?_
  | with_reducible refine rd_B ?_
  | ((with_reducible show ∃ k, V.bl _ = V.bl k ∧ _); refine ⟨_, rfl, ?_⟩)
  | with_reducible refine rd_and ?_
  | with_reducible refine rd_or ?_
  | with_reducible refine rd_not ?_
  | with_reducible refine rd_ifE ?_
  | with_reducible refine rd_call ?_
  | with_reducible refine rd_cb ?_
  | ((with_reducible refine' rd_eq ?rdc ?_); (case rdc => rfl))
  | ((with_reducible refine' rd_ne ?rdc ?_); (case rdc => rfl))
  | ((with_reducible refine' rd_ixL ?rda ?rdb ?_); (case rda => first | exact SqL.of (by assumption) | assumption); (case rdb => rfl))
  | ((with_reducible refine' rd_ixT ?rda ?rdb ?_); (case rda => first | exact SqT.of (by assumption) | assumption); (case rdb => rfl))
  | ((with_reducible refine' rd_setL ?rda ?rdb ?_); (case rda => assumption); (case rdb => rfl))
  | ((with_reducible refine' rd_lenL ?rda ?_); (case rda => first | exact SqL.of (by assumption) | assumption))
  | with_reducible refine rd_yes ?_
  | with_reducible refine rd_par ?_
  | with_reducible refine rd_gcons ?_
  | with_reducible refine rd_gnil ?_
  | ((with_reducible refine' rd_decY ?rdc ?_); (case rdc => decide))
  | ((with_reducible refine' rd_decF ?rdc ?_); (case rdc => decide))
  | with_reducible refine iteF ?_
  | with_reducible refine iteT ?_
  | with_reducible refine rd_max ?_
  | with_reducible refine rd_min ?_
  | ((with_reducible refine' rd_I ?rdc ?_); (case rdc => first | (show (0 : Int) < _; omega) | exact ⟨by decide, by decide⟩ | exact ⟨by decide, by decide, by decide⟩ | exact .inr ⟨by omega, by omega⟩ | exact .inl ⟨by omega, by omega⟩ | exact CPowW.of (by decide) (by decide) (by omega) (by omega) | fail "rdc"))
  | with_reducible refine rd_nx ?_
  | fail "rd"))
abbrev sLaw : Stmt := top 14
def spLaw (K : PySem.W.Frag) : Sp := fun vs H Q _ => ∃ (a : Addr) (ns : List Int), vs = [.ref a] ∧ SqL K H a (ns.map V.int) ∧ (∀ z ∈ ns, Builtin.Int.intBits z ≤ 1048576) ∧ ∀ H', Q (.bl true) H'
/-- what the law calls -/
structure Gs (P : Program) (w : World) (K : PySem.W.Frag) (mg : Str → Option Value) (base : Heap) (fW fD fP fN fF fO fA fT fM fK fL : Addr) (dW dD dP dN dF dO dA dT dM dK dL : FuncData) : Prop where
  W : FnOk P w K mg base CX0 1 fW dW ["script", "k"] (spWell K)
  D : FnOk P w K mg base CX0 1 fD dD ["well", "many"] spDraw
  Pk : FnOk P w K mg base CX0 2 fP dP ["well", "some"] (spPick K)
  N : FnOk P w K mg base CX0 3 fN dN ["well"] spNumber
  F : FnOk P w K mg base CX0 4 fF dF ["well", "many"] (spForm K)
  O : FnOk P w K mg base CX0 1 fO dO ["form", "setting"] (spWorth K)
  A : FnOk P w K mg base CX0 4 fA dA ["one", "other"] (spComb K 1)
  T : FnOk P w K mg base CX0 4 fT dT ["one", "other"] (spComb K (-1))
  M : FnOk P w K mg base CX0 4 fM dM ["form", "number"] (spTimes K)
  Kn : FnOk P w K mg base CX0 4 fK dK ["knob"] (spKnob K)
  L : FnOk P w K mg base CX0 4 fL dL ["number"] (spPlain K)
  bW : Binds K dW ["script", "k"] []
  bD : Binds K dD ["well", "many"] []
  bP : Binds K dP ["well", "some"] []
  bN : Binds K dN ["well"] []
  bF : Binds K dF ["well", "many"] []
  bO : Binds K dO ["form", "setting"] []
  bA : Binds K dA ["one", "other"] []
  bT : Binds K dT ["one", "other"] []
  bM : Binds K dM ["form", "number"] []
  bK : Binds K dK ["knob"] []
  bL : Binds K dL ["number"] []
  qO : KBinds K dO ["form", "setting"] ["setting", "form"] (gR 2) (gR 2)
  mW : mg "_law_well" = some (.ref fW)
  mD : mg "_law_draw" = some (.ref fD)
  mP : mg "_law_pick" = some (.ref fP)
  mN : mg "_law_number" = some (.ref fN)
  mF : mg "_law_form" = some (.ref fF)
  mO : mg "worth" = some (.ref fO)
  mA : mg "added" = some (.ref fA)
  mT : mg "taken" = some (.ref fT)
  mM : mg "times" = some (.ref fM)
  mK : mg "form_of" = some (.ref fK)
  mL : mg "plain_form" = some (.ref fL)
  kW : PySem.W.keepIn K (.ref fW) = true
  kD : PySem.W.keepIn K (.ref fD) = true
  kP : PySem.W.keepIn K (.ref fP) = true
  kN : PySem.W.keepIn K (.ref fN) = true
  kF : PySem.W.keepIn K (.ref fF) = true
  kO : PySem.W.keepIn K (.ref fO) = true
  kA : PySem.W.keepIn K (.ref fA) = true
  kT : PySem.W.keepIn K (.ref fT) = true
  kM : PySem.W.keepIn K (.ref fM) = true
  kK : PySem.W.keepIn K (.ref fK) = true
  kL : PySem.W.keepIn K (.ref fL) = true
  rng : mg "range" = none
  rep : mg "repr" = none
  sm : mg "sum" = none
  lst : mg "list" = none
theorem rd_par3 {i j l : Nat} {ta : TA} {D : Ends} {σ : St} {H : Hp} (k : ta σ H fun vs H1 => ∃ u v w, vs = [u, v, w] ∧ D.nx (((σ.set i (some u)).set j (some v)).set l (some w)) H1) : tPar3 i j l ta D σ H := k
section
variable {P : Program} {w : World} {K : PySem.W.Frag} {mg : Str → Option Value} {base : Heap} {fW fD fP fN fF fO fA fT fM fK fL : Addr} {dW dD dP dN dF dO dA dT dM dK dL : FuncData}
abbrev nmL : List Str := ["script", "well", "turn", "many", "one", "other", "number", "look", "numbers", "kept", "first", "second", "due", "knob", "much", "k"]
theorem scL : FnScope nmL ["script"] (defScope sLaw) := ⟨rfl, rfl, rfl, by decide +kernel, rfl, by decide +kernel, by decide +kernel⟩
theorem ok_law {f : Addr} {fd : FuncData} (F : Fun K "law" "law" sLaw f fd) (G : Gs P w K mg base fW fD fP fN fF fO fA fT fM fK fL dW dD dP dN dF dO dA dT dM dK dL) : FnG P w K mg base CX0 5 f fd ["script"] (spLaw K) := by
  refine F.okG scL (fun vs H Q E h => ?_) (fun cdv A outer s H vs Q E hgd hr h => ?_)
  · obtain ⟨a, ns, rfl, _⟩ := h
    rfl
  · obtain ⟨a, ns, rfl, hS, hbits, k⟩ := h
    have hr1 : Room 1 _ := hr.mono (by decide)
    have hr2 : Room 2 _ := hr.mono (by decide)
    have hr3 : Room 3 _ := hr.mono (by decide)
    have hr4 : Room 4 _ := hr.mono (by decide)
    have hu := hr.units
    refine ⟨_, pss_cons (ps_set (i := 1) scL.nd rfl (Or.inr rfl) (pe_call G.W hr1 (by rfl) G.mW G.kW G.bW .nil pass0 (pa_cons (pv 0) (pa_cons pe_int pa_nil))))
      (pss_cons (ps_for PassesOwn.never rfl (pi_range1 (by rfl) G.rng (pa_cons pe_int pa_nil)) (pg_name (i := 2) scL.nd rfl (Or.inl rfl))
        (pss_cons (ps_set (i := 3) scL.nd rfl (Or.inl rfl) (pe_call G.Pk hr2 (by rfl) G.mP G.kP G.bP .nil pass0 (pa_cons (pv 1) (pa_cons (pe_lst (pa_cons pe_int (pa_cons pe_int (pa_cons pe_int (pa_cons pe_int pa_nil))))) pa_nil))))
        (pss_cons (ps_par3 (i := 4) (j := 5) (l := 6) rfl scL.nd rfl rfl rfl (by decide) (by decide) (by decide) rfl rfl rfl (pa_cons (pe_call G.F hr4 (by rfl) G.mF G.kF G.bF .nil pass0 (pa_cons (pv 1) (pa_cons (pv 3) pa_nil))) (pa_cons (pe_call G.F hr4 (by rfl) G.mF G.kF G.bF .nil pass0 (pa_cons (pv 1) (pa_cons (pv 3) pa_nil)))
            (pa_cons (pe_call G.N hr3 (by rfl) G.mN G.kN G.bN .nil pass0 (pa_cons (pv 1) pa_nil)) pa_nil))) rfl)
        (pss_cons (ps_for PassesOwn.never rfl (pi_range1 (by rfl) G.rng (pa_cons pe_int pa_nil)) (pg_name (i := 7) scL.nd rfl (Or.inl rfl))
          (pss_cons (ps_set (i := 8) scL.nd rfl (Or.inr rfl) (pe_lc (own := [("knob", 13)]) (g := gName 13) (tt := tYes) rfl scL.nd (pi_range1 (by rfl) G.rng (pa_cons (pe_op op_add (pv 3) (pe_call G.D hr1 (by rfl) G.mD G.kD G.bD .nil pass0 (pa_cons (pv 1) (pa_cons pe_int pa_nil)))) pa_nil)) (blkOk_by (N := nmL) (sc := defScope sLaw) (by decide +kernel))
            (fun _ _ _ _ _ => pg_name (i := 13) scL.nd rfl (Or.inl rfl)) (fun _ _ _ _ _ => pts_nil) (fun _ _ _ _ _ => pe_call G.N hr3 (by rfl) G.mN G.kN G.bN .nil pass0 (pa_cons (pv 1) pa_nil))))
          (pss_cons (ps_set (i := 9) scL.nd rfl (Or.inl rfl) (pe_callTy call_list_of (by rfl) G.lst (by decide +kernel) (pa_cons (pv 8) pa_nil)))
          (pss_cons (ps_par (i := 10) (j := 11) rfl scL.nd rfl rfl (by decide) rfl rfl (pa_cons (pe_call G.O hr1 (by rfl) G.mO G.kO G.bO .nil pass0 (pa_cons (pv 4) (pa_cons (pv 8) pa_nil))) (pa_cons (pe_call G.O hr1 (by rfl) G.mO G.kO G.bO .nil pass0 (pa_cons (pv 5) (pa_cons (pv 8) pa_nil))) pa_nil)) rfl)
          (pss_cons (ps_set (i := 12) scL.nd rfl (Or.inl rfl) (pe_op op_add (pe_ix ix_seq (pv 4) pe_int (fun _ _ => rfl)) (pe_callB (cr_sum rfl) (by rfl) G.sm (by decide +kernel) (pa_cons
            (pe_lc (own := [("knob", 13), ("much", 14)]) (g := gTup K 2 (gCons (gName 13) (gCons (gName 14) gNil))) (tt := tYes) (te := tOp (rI CMulW fun i j => .int (i * j)) (tVar 14) (tOp (rIx K) (tVar 8) (tVar 13))) rfl scL.nd (pi_tup (pe_ix ix_seq (pv 4) pe_int (fun _ _ => rfl))) (blkOk_by (N := nmL) (sc := defScope sLaw) (by decide +kernel))
              (fun _ _ _ _ _ => pg_tup rfl (pgs_cons (pg_name (i := 13) scL.nd rfl (Or.inl rfl)) (pgs_cons (pg_name (i := 14) scL.nd rfl (Or.inl rfl)) pgs_nil))) (fun _ _ _ _ _ => pts_nil) (fun _ _ _ _ _ => pe_op op_mulW (pv 14) (pe_ix (r := rIx K) ix_seq (pv 8) (pv 13) (fun _ _ => rfl)))) pa_nil))))
          (pss_cons (ps_if (PW.pt (pw_or (pt_cmpR op_ne (pe_callB (call_repr hgd hu) (by rfl) G.rep (by decide +kernel) (pa_cons (pv 10) pa_nil)) (pe_callB (call_repr hgd hu) (by rfl) G.rep (by decide +kernel) (pa_cons (pv 12) pa_nil)) (nomark _))
              (pw_or1 (pt_cmpR op_ne (pe_callK0 G.O hr1 (by rfl) G.mO G.kO G.qO pass0 (pk_cons (pv 8) (pk_cons (pv 5) pk_nil))) (pv 11) (nomark _))))) (pss_one (ps_ret pe_bl)) pss_nil)
          (pss_cons (ps_if (pt_cmpR op_ne (pe_call G.O hr1 (by rfl) G.mO G.kO G.bO .nil pass0 (pa_cons (pe_call G.A hr4 (by rfl) G.mA G.kA G.bA .nil pass0 (pa_cons (pv 4) (pa_cons (pv 5) pa_nil))) (pa_cons (pv 8) pa_nil))) (pe_op op_add (pv 10) (pv 11)) (nomark _)) (pss_one (ps_ret pe_bl)) pss_nil)
          (pss_cons (ps_if (pt_cmpR op_ne (pe_call G.O hr1 (by rfl) G.mO G.kO G.bO .nil pass0 (pa_cons (pe_call G.T hr4 (by rfl) G.mT G.kT G.bT .nil pass0 (pa_cons (pv 4) (pa_cons (pv 5) pa_nil))) (pa_cons (pv 8) pa_nil))) (pe_op op_sub (pv 10) (pv 11)) (nomark _)) (pss_one (ps_ret pe_bl)) pss_nil)
          (pss_cons (ps_if (pt_cmpR op_ne (pe_call G.O hr1 (by rfl) G.mO G.kO G.bO .nil pass0 (pa_cons (pe_call G.M hr4 (by rfl) G.mM G.kM G.bM .nil pass0 (pa_cons (pv 4) (pa_cons (pv 6) pa_nil))) (pa_cons (pv 8) pa_nil))) (pe_op op_mulW (pv 10) (pv 6)) (nomark _)) (pss_one (ps_ret pe_bl)) pss_nil)
          (pss_cons (ps_if (PW.pt (pw_or (pt_cmpR op_ne (pe_call G.O hr1 (by rfl) G.mO G.kO G.bO .nil pass0 (pa_cons (pe_call G.L hr4 (by rfl) G.mL G.kL G.bL .nil pass0 (pa_cons (pv 6) pa_nil)) (pa_cons (pv 8) pa_nil))) (pv 6) (nomark _)) (pw_or1 (pt_cmpR (op_neD hu) (pv 8) (pv 9) (nomark _))))) (pss_one (ps_ret pe_bl)) pss_nil)
          (pss_one (ps_if (pt_cmpR (op_neD hu)
            (pe_lc (own := [("k", 15)]) (g := gName 15) (wi := iRng1 (tCons (tVar 3) tNil)) (tt := fun σ H R => tTest (tOp rNe (tCall (spWorth K) [] E0 (tCons (tCall (spKnob K) [] E0 (tCons (tVar 15) tNil)) (tCons (tVar 8) tNil))) (tOp (rIx K) (tVar 8) (tVar 15))) σ H R) (te := tVar 15) rfl scL.nd (pi_range1 (by rfl) G.rng (pa_cons (pv 3) pa_nil)) (blkOk_by (N := nmL) (sc := defScope sLaw) (by decide +kernel))
              (fun _ _ _ _ _ => pg_name (i := 15) scL.nd rfl (Or.inl rfl))
              (fun _ _ _ _ _ => pts_one (pt_cmpR op_ne (pe_call G.O hr1 (by rfl) G.mO G.kO G.bO .nil pass0 (pa_cons (pe_call G.Kn hr4 (by rfl) G.mK G.kK G.bK .nil pass0 (pa_cons (pv 15) pa_nil)) (pa_cons (pv 8) pa_nil))) (pe_ix (r := rIx K) ix_seq (pv 8) (pv 15) (fun _ _ => rfl)) (nomark _)))
              (fun _ _ _ _ _ => pv 15)) (pe_lst pa_nil) (nomark _)) (pss_one (ps_ret pe_bl)) pss_nil))))))))))))
        (pss_cons (ps_if (PW.pt (pw_or (pt_cmpR (op_neD hu) (pe_call G.A hr4 (by rfl) G.mA G.kA G.bA .nil pass0 (pa_cons (pv 4) (pa_cons (pv 5) pa_nil))) (pe_call G.A hr4 (by rfl) G.mA G.kA G.bA .nil pass0 (pa_cons (pv 5) (pa_cons (pv 4) pa_nil))) (nomark _))
            (pw_or (pt_cmpR (op_neD hu) (pe_call G.T hr4 (by rfl) G.mT G.kT G.bT .nil pass0 (pa_cons (pv 4) (pa_cons (pv 4) pa_nil))) (pe_tup (pa_cons pe_int (pa_cons (pe_tup pa_nil) pa_nil))) (nomark _))
              (pw_or1 (pt_cmpR (op_neD hu) (pe_call G.M hr4 (by rfl) G.mM G.kM G.bM .nil pass0 (pa_cons (pv 4) (pa_cons pe_int pa_nil))) (pe_tup (pa_cons pe_int (pa_cons (pe_tup pa_nil) pa_nil))) (nomark _)))))) (pss_one (ps_ret pe_bl)) pss_nil)
        (pss_one (ps_if (PW.pt (pw_or (pt_cmpR (op_neD hu) (pe_call G.T hr4 (by rfl) G.mT G.kT G.bT .nil pass0 (pa_cons (pe_call G.A hr4 (by rfl) G.mA G.kA G.bA .nil pass0 (pa_cons (pv 4) (pa_cons (pv 5) pa_nil))) (pa_cons (pv 5) pa_nil))) (pv 4) (nomark _))
            (pw_or1 (pt_cmpR (op_neD hu) (pe_call G.M hr4 (by rfl) G.mM G.kM G.bM .nil pass0 (pa_cons (pv 4) (pa_cons pe_int pa_nil))) (pv 4) (nomark _))))) (pss_one (ps_ret pe_bl)) pss_nil)))))))
      (pss_one (ps_ret pe_bl))), ?_⟩
    repeat walk_at "rd"
    refine ⟨a, ns, 0, rfl, hS, hbits, by decide, by decide, fun p HA hp w0 b0 => ?_⟩
    repeat walk_at "rd"
    refine rd_forR ?_
    repeat walk_at "rd"
    refine ⟨_, rfl, by decide, by decide, for_range (fun i σ H' => ∃ o2 o3 o4 o5 o6 o7 o8 o9 o10 o11 o12 o13 o14 o15 : Option V, σ = [some (.ref a), some (.ref p), o2, o3, o4, o5, o6, o7, o8, o9, o10, o11, o12, o13, o14, o15] ∧ Well H' p)
      ⟨_, _, _, _, _, _, _, _, _, _, _, _, _, _, rfl, w0⟩ ?_ ?_⟩
    · rintro iT σ HB hi ⟨o2, o3, o4, o5, o6, o7, o8, o9, o10, o11, o12, o13, o14, o15, rfl, w1⟩
      repeat walk_at "rd"
      refine ⟨by show 4 ≤ sizeLine; decide, fun q hq => ?_⟩
      have nq : q ≠ p := fun z => w1.some (z ▸ hq)
      repeat walk_at "rd"
      refine ⟨p, q, _, rfl, w1.upd hq, .inl (SqL.of upd_same), nq, by show 0 < 4; decide, by show 4 ≤ 1000; decide, fun mv HC hv w2 b2 => ?_⟩
      obtain ⟨m, rfl, m0, m1⟩ : ∃ m : Int, mv = .int m ∧ 0 ≤ m ∧ m ≤ 30 := by
        simp only [List.mem_cons, List.not_mem_nil, or_false] at hv
        rcases hv with rfl | rfl | rfl | rfl <;> exact ⟨_, rfl, by decide, by decide⟩
      repeat walk_at "rd"
      refine rd_par3 ?_
      repeat walk_at "rd"
      refine ⟨p, m, rfl, w2, m0, by omega, fun va f1 HD d1 n1 p1 w3 k3 => ?_⟩
      repeat walk_at "rd"
      refine ⟨p, m, rfl, w3, m0, by omega, fun vb f2 HE d2 n2 p2 w4 k4 => ?_⟩
      repeat walk_at "rd"
      refine ⟨p, rfl, w4, fun n HF n0 n1' w5 k5 => ?_⟩
      have hn : Sm n := ⟨n0, n1'⟩
      have z1 : FmZ K HF va f1 := ((d1.same nw_sub).kt (Keep.kt k4 w3)).kt (Keep.kt k5 w4)
      have z2 : FmZ K HF vb f2 := (d2.same nw_sub).kt (Keep.kt k5 w4)
      have T : S20 K HF va vb f1 f2 m := ⟨z1, z2, p1, p2, n1, n2, m0, m1⟩
      repeat walk_at "rd"
      refine ⟨_, _, _, rfl, ?_⟩
      clear z1 z2 d1 d2
      with_reducible refine rd_nx ?_
      with_reducible refine rd_seq ?_
      refine rd_forR ?_
      repeat walk_at "rd"
      refine ⟨_, rfl, by decide, by decide, for_range (fun i σ H' => ∃ o7 o8 o9 o10 o11 o12 o13 o14 o15 : Option V, σ = [some (.ref a), some (.ref p), some (.int (0 + (iT : Int))), some (.int m), some va, some vb, some (.int n), o7, o8, o9, o10, o11, o12, o13, o14, o15] ∧ Well H' p ∧ S20 K H' va vb f1 f2 m)
        ⟨_, _, _, _, _, _, _, _, _, rfl, w5, T⟩ ?_ ?_⟩
      · clear T w5 w4 w3
        rintro iL σ HG hiL ⟨o7, o8, o9, o10, o11, o12, o13, o14, o15, rfl, w6, T⟩
        repeat walk_at "rd"
        refine rd_lcR ?_
        repeat walk_at "rd"
        refine ⟨p, 3, rfl, w6, ⟨by decide, by decide⟩, fun r HH r0 r1 w7 b7 => ?_⟩
        have T := T.kt (Keep.kt b7.keep w6)
        repeat walk_at "rd"
        refine ⟨_, rfl, by omega, by omega, fun D hD => lc_range (fun i H' => ∃ zs : List Int, H' D = some (.lst (zs.map V.int)) ∧ zs.length = i ∧ (∀ z ∈ zs, Sm z) ∧ Well H' p ∧ S20 K H' va vb f1 f2 m) ⟨[], upd_same, rfl, fun _ h => (nomatch h), w7.upd hD, T.same (Same.new hD)⟩ ?_ ?_⟩
        · rintro i H4 hi ⟨zs, e1, e2, e3, e4, e5⟩
          have nDp : D ≠ p := fun z => w7.some (z ▸ hD)
          repeat walk_at "rd"
          refine ⟨rfl, ?_⟩
          repeat walk_at "rd"
          refine ⟨p, rfl, e4, fun z H5 z0 z1 w5 k5 => ?_⟩
          have e1' := k5 D _ nDp e1
          refine ⟨_, e1', by rw [List.length_map, e2]; exact Nat.lt_of_lt_of_le (show i < 1000 by omega) (by decide), zs ++ [z], by rw [upd_same, List.map_append]; rfl, by simp [e2], fun x hx => ?_, w5.put nDp, (e5.kt (Keep.kt k5 e4)).kt (KT.lst e1')⟩
          rcases List.mem_append.mp hx with hx | hx
          · exact e3 x hx
          · rw [List.mem_singleton.mp hx]; exact ⟨z0, z1⟩
        · clear T w7
          rintro H0 ⟨zs, e1, e2, e3, w8, T⟩
          have N0 : N20 H0 D zs m := ⟨e1, by omega, by omega, e3⟩
          refine rd_gname ?_
          with_reducible refine rd_nx ?_
          repeat walk_at "rd"
          refine ⟨D, _, rfl, .inl (SqL.of e1), fun e he => ?_⟩
          have s1 := Same.new (o := .lst (zs.map V.int)) he
          generalize hH1 : upd H0 e (.lst (zs.map V.int)) = H1 at *
          have e9 : H1 e = some (.lst (zs.map V.int)) := by rw [← hH1]; exact upd_same
          have T1 := T.same s1
          have N1 := N0.same s1
          refine rd_gname ?_
          repeat walk_at "rd"
          refine ⟨va, f1, D, zs, rfl, T1.za.dp, SqL.of N1.nl, T1.fa N1, fun H2 s2 => ?_⟩
          have T2 := T1.same s2
          have N2 := N1.same s2
          repeat walk_at "rd"
          refine ⟨vb, f2, D, zs, rfl, T2.zb.dp, SqL.of N2.nl, T2.fb N2, fun H3 s3 => ?_⟩
          have T3 := T2.same s3
          have N3 := N2.same s3
          repeat walk_at "rd"
          refine ⟨_, _, rfl, ?_⟩
          with_reducible refine rd_nx ?_
          repeat walk_at "rd"
          obtain ⟨fa, fp, ws, rfl, ha, hpz, hpd⟩ := T3.za
          refine rd_ixQ (.inr ha) rfl ?_
          repeat walk_at "rd"
          refine rd_iTup ?_
          repeat walk_at "rd"
          refine rd_ixQ (.inr ha) rfl ?_
          refine ⟨fp, rfl, ⟨_, hpz.sq⟩, fun R hR => lc_prods hR hpz.sq hpd (SqL.of N3.nl) (T3.fa N3) SqL.ix (fun _ _ => rfl) (fun _ _ => rfl) (fun _ _ => rfl) (fun _ _ => rfl) (fun H5 e5 s5 => ?_)⟩
          repeat walk_at "rd"
          refine rd_sum e5 ?_
          refine rd_I0 ?_
          refine rd_gname ?_
          have T5 := T3.same s5
          have N5 := N3.same s5
          have s05 : Same H0 H5 := ((s1.trans s2).trans s3).trans s5
          with_reducible refine rd_nx ?_
          with_reducible refine rd_seq ?_
          refine c_due T5 N5 rfl rfl rfl rfl rfl fun H6 s6 => ?_
          with_reducible refine rd_nx ?_
          with_reducible refine rd_seq ?_
          have s06 := s05.trans s6
          refine c_comb sm1 (fun i j => by rw [Int.one_mul]) (T.same s06) (N0.same s06) rfl rfl rfl rfl rfl fun H7 s7 => ?_
          with_reducible refine rd_nx ?_
          with_reducible refine rd_seq ?_
          have s07 := s06.trans s7
          refine c_comb smm (fun i j => by omega) (T.same s07) (N0.same s07) rfl rfl rfl rfl rfl fun H8 s8 => ?_
          with_reducible refine rd_nx ?_
          with_reducible refine rd_seq ?_
          have s08 := s07.trans s8
          refine c_times hn (T.same s08) (N0.same s08) rfl rfl rfl rfl fun H9 s9 => ?_
          with_reducible refine rd_nx ?_
          with_reducible refine rd_seq ?_
          have s09 := s08.trans s9
          have s19 : Same H1 H9 := ((((((s2.trans s3).trans s5).trans s6).trans s7).trans s8).trans s9)
          refine c_plain (N0.same s09) rfl rfl rfl (s19 _ _ e9) fun H10 s10 => ?_
          with_reducible refine rd_nx ?_
          have s010 := s09.trans s10
          refine c_knobs (j := 15) m0 m1 (N0.same s010) rfl rfl (by decide) (by show 15 < 16; decide) (fun _ => rfl) fun H11 s11 => ?_
          have s011 := s010.trans s11
          exact ⟨_, _, _, _, _, _, _, _, _, rfl, by obtain ⟨x, y, z, u⟩ := w8; exact ⟨x, y, s011 _ _ z, u⟩, T.same s011⟩
      · clear T w5 w4 w3
        rintro σ HG ⟨o7, o8, o9, o10, o11, o12, o13, o14, o15, rfl, w6, T⟩
        with_reducible refine rd_nx ?_
        with_reducible refine rd_seq ?_
        refine c_alike T rfl rfl fun H1 s1 => ?_
        with_reducible refine rd_nx ?_
        refine c_back (T.same s1) rfl rfl fun H2 s2 => ?_
        exact ⟨_, _, _, _, _, _, _, _, _, _, _, _, _, _, rfl, by obtain ⟨x, y, z, u⟩ := w6; exact ⟨x, y, (s1.trans s2) _ _ z, u⟩⟩
    · rintro σ H1 ⟨o2, o3, o4, o5, o6, o7, o8, o9, o10, o11, o12, o13, o14, o15, rfl, w1⟩
      repeat walk_at "rd"
      exact k _
end
end Tug
namespace Tug
open PySem L2
open PySem.W (Frag nsIn findIn typeIn keepIn subIn hasDictIn codeIn kitOne mroIn)
theorem all_mk {l : PySem.W.OpenLaw} {w : World} {K : Frag} {h : Heap} {mg : Str → Option Value} {fa f0 f1 f2 f3 f4 f5 f6 f7 f8 f9 f10 f11 f12 : Addr} (X : K.In h) (G : h.Ns mainGlobals mg) (hfa : mg "law" = some (.ref fa))
    {od0 an0 od1 an1 od2 an2 od3 an3 od4 an4 od5 an5 od6 an6 od7 an7 od8 an8 od9 an9 od10 an10 od11 an11 od12 an12 : Option Addr} {sl0 sl1 sl2 sl3 sl4 sl5 sl6 sl7 sl8 sl9 sl10 sl11 sl12 : Array (Option Value)} {oc0 kV0 dc0 pm0 cd0 ct0 oc1 kV1 dc1 pm1 cd1 ct1 oc2 kV2 dc2 pm2 cd2 ct2 oc3 kV3 dc3 pm3 cd3 ct3 oc4 kV4 dc4 pm4 cd4 ct4 oc5 kV5 dc5 pm5 cd5 ct5 oc6 kV6 dc6 pm6 cd6 ct6 oc7 kV7 dc7 pm7 cd7 ct7 oc8 kV8 dc8 pm8 cd8 ct8 oc9 kV9 dc9 pm9 cd9 ct9 oc10 kV10 dc10 pm10 cd10 ct10 oc11 kV11 dc11 pm11 cd11 ct11 oc12 kV12 dc12 pm12 cd12 ct12 : Value}
    (a0 : nsIn K mainGlobals "_law_well" = some (some (.ref f0))) (l0 : K.lookup f0 = some ⟨oc0, od0, .func (PySem.W.fnOf "_law_well" "_law_well" (defArgs sWell) (defBody sWell) (defScope sWell) .none kV0 dc0 pm0 an0 cd0 ct0), sl0⟩) (c0 : codeIn K cd0 "_law_well" = true) (k0 : keepIn K (.ref f0) = true)
    (a1 : nsIn K mainGlobals "_law_draw" = some (some (.ref f1))) (l1 : K.lookup f1 = some ⟨oc1, od1, .func (PySem.W.fnOf "_law_draw" "_law_draw" (defArgs sDraw) (defBody sDraw) (defScope sDraw) .none kV1 dc1 pm1 an1 cd1 ct1), sl1⟩) (c1 : codeIn K cd1 "_law_draw" = true) (k1 : keepIn K (.ref f1) = true)
    (a2 : nsIn K mainGlobals "_law_pick" = some (some (.ref f2))) (l2 : K.lookup f2 = some ⟨oc2, od2, .func (PySem.W.fnOf "_law_pick" "_law_pick" (defArgs sPick) (defBody sPick) (defScope sPick) .none kV2 dc2 pm2 an2 cd2 ct2), sl2⟩) (c2 : codeIn K cd2 "_law_pick" = true) (k2 : keepIn K (.ref f2) = true)
    (a3 : nsIn K mainGlobals "_law_number" = some (some (.ref f3))) (l3 : K.lookup f3 = some ⟨oc3, od3, .func (PySem.W.fnOf "_law_number" "_law_number" (defArgs sNumber) (defBody sNumber) (defScope sNumber) .none kV3 dc3 pm3 an3 cd3 ct3), sl3⟩) (c3 : codeIn K cd3 "_law_number" = true) (k3 : keepIn K (.ref f3) = true)
    (a4 : nsIn K mainGlobals "_law_form" = some (some (.ref f4))) (l4 : K.lookup f4 = some ⟨oc4, od4, .func (PySem.W.fnOf "_law_form" "_law_form" (defArgs sForm) (defBody sForm) (defScope sForm) .none kV4 dc4 pm4 an4 cd4 ct4), sl4⟩) (c4 : codeIn K cd4 "_law_form" = true) (k4 : keepIn K (.ref f4) = true)
    (a5 : nsIn K mainGlobals "worth" = some (some (.ref f5))) (l5 : K.lookup f5 = some ⟨oc5, od5, .func (PySem.W.fnOf "worth" "worth" (defArgs sWorth) (defBody sWorth) (defScope sWorth) .none kV5 dc5 pm5 an5 cd5 ct5), sl5⟩) (c5 : codeIn K cd5 "worth" = true) (k5 : keepIn K (.ref f5) = true)
    (a6 : nsIn K mainGlobals "added" = some (some (.ref f6))) (l6 : K.lookup f6 = some ⟨oc6, od6, .func (PySem.W.fnOf "added" "added" (defArgs sAdded) (defBody sAdded) (defScope sAdded) .none kV6 dc6 pm6 an6 cd6 ct6), sl6⟩) (c6 : codeIn K cd6 "added" = true) (k6 : keepIn K (.ref f6) = true)
    (a7 : nsIn K mainGlobals "taken" = some (some (.ref f7))) (l7 : K.lookup f7 = some ⟨oc7, od7, .func (PySem.W.fnOf "taken" "taken" (defArgs sTaken) (defBody sTaken) (defScope sTaken) .none kV7 dc7 pm7 an7 cd7 ct7), sl7⟩) (c7 : codeIn K cd7 "taken" = true) (k7 : keepIn K (.ref f7) = true)
    (a8 : nsIn K mainGlobals "times" = some (some (.ref f8))) (l8 : K.lookup f8 = some ⟨oc8, od8, .func (PySem.W.fnOf "times" "times" (defArgs sTimes) (defBody sTimes) (defScope sTimes) .none kV8 dc8 pm8 an8 cd8 ct8), sl8⟩) (c8 : codeIn K cd8 "times" = true) (k8 : keepIn K (.ref f8) = true)
    (a9 : nsIn K mainGlobals "form_of" = some (some (.ref f9))) (l9 : K.lookup f9 = some ⟨oc9, od9, .func (PySem.W.fnOf "form_of" "form_of" (defArgs sKnob) (defBody sKnob) (defScope sKnob) .none kV9 dc9 pm9 an9 cd9 ct9), sl9⟩) (c9 : codeIn K cd9 "form_of" = true) (k9 : keepIn K (.ref f9) = true)
    (a10 : nsIn K mainGlobals "plain_form" = some (some (.ref f10))) (l10 : K.lookup f10 = some ⟨oc10, od10, .func (PySem.W.fnOf "plain_form" "plain_form" (defArgs sPlain) (defBody sPlain) (defScope sPlain) .none kV10 dc10 pm10 an10 cd10 ct10), sl10⟩) (c10 : codeIn K cd10 "plain_form" = true) (k10 : keepIn K (.ref f10) = true)
    (a11 : nsIn K mainGlobals "parts_added" = some (some (.ref f11))) (l11 : K.lookup f11 = some ⟨oc11, od11, .func (PySem.W.fnOf "parts_added" "parts_added" (defArgs sParts) (defBody sParts) (defScope sParts) .none kV11 dc11 pm11 an11 cd11 ct11), sl11⟩) (c11 : codeIn K cd11 "parts_added" = true) (k11 : keepIn K (.ref f11) = true)
    (a12 : nsIn K mainGlobals "law" = some (some (.ref f12))) (l12 : K.lookup f12 = some ⟨oc12, od12, .func (PySem.W.fnOf "law" "law" (defArgs sLaw) (defBody sLaw) (defScope sLaw) .none kV12 dc12 pm12 an12 cd12 ct12), sl12⟩) (c12 : codeIn K cd12 "law" = true) (k12 : keepIn K (.ref f12) = true)
    (z_len : nsIn K mainGlobals "len" = some none)
    (z_range : nsIn K mainGlobals "range" = some none)
    (z_tuple : nsIn K mainGlobals "tuple" = some none)
    (z_sum : nsIn K mainGlobals "sum" = some none)
    (z_sorted : nsIn K mainGlobals "sorted" = some none)
    (z_repr : nsIn K mainGlobals "repr" = some none)
    (z_list : nsIn K mainGlobals "list" = some none)
    : ∃ fd : FuncData, (∀ (s : Shared) (v : Value), BindsTo s fd ⟨[v], []⟩ [("script", v)]) ∧ ∀ base : Heap, K.In base → base.Ns mainGlobals mg → FnG l.prog w K mg base CX0 5 fa fd ["script"] (spLaw K) := by
  have e := hfa.symm.trans (PySem.W.mg_of X G a12)
  cases e
  have F0 := fun_mk (st := sWell) l0 c0 k0
  have F1 := fun_mk (st := sDraw) l1 c1 k1
  have F2 := fun_mk (st := sPick) l2 c2 k2
  have F3 := fun_mk (st := sNumber) l3 c3 k3
  have F4 := fun_mk (st := sForm) l4 c4 k4
  have F5 := fun_mk (st := sWorth) l5 c5 k5
  have F6 := fun_mk (st := sAdded) l6 c6 k6
  have F7 := fun_mk (st := sTaken) l7 c7 k7
  have F8 := fun_mk (st := sTimes) l8 c8 k8
  have F9 := fun_mk (st := sKnob) l9 c9 k9
  have F10 := fun_mk (st := sPlain) l10 c10 k10
  have F11 := fun_mk (st := sParts) l11 c11 k11
  have F12 := fun_mk (st := sLaw) l12 c12 k12
  have b0 := F0.binds (ps := ["script", "k"]) fun _ _ _ _ _ _ us hl => match us, hl with | [_, _], _ => rfl
  have m0 := PySem.W.mg_of X G a0
  have b1 := F1.binds (ps := ["well", "many"]) fun _ _ _ _ _ _ us hl => match us, hl with | [_, _], _ => rfl
  have m1 := PySem.W.mg_of X G a1
  have b2 := F2.binds (ps := ["well", "some"]) fun _ _ _ _ _ _ us hl => match us, hl with | [_, _], _ => rfl
  have m2 := PySem.W.mg_of X G a2
  have b3 := F3.binds (ps := ["well"]) fun _ _ _ _ _ _ us hl => match us, hl with | [_], _ => rfl
  have m3 := PySem.W.mg_of X G a3
  have b4 := F4.binds (ps := ["well", "many"]) fun _ _ _ _ _ _ us hl => match us, hl with | [_, _], _ => rfl
  have m4 := PySem.W.mg_of X G a4
  have b5 := F5.binds (ps := ["form", "setting"]) fun _ _ _ _ _ _ us hl => match us, hl with | [_, _], _ => rfl
  have m5 := PySem.W.mg_of X G a5
  have b6 := F6.binds (ps := ["one", "other"]) fun _ _ _ _ _ _ us hl => match us, hl with | [_, _], _ => rfl
  have m6 := PySem.W.mg_of X G a6
  have b7 := F7.binds (ps := ["one", "other"]) fun _ _ _ _ _ _ us hl => match us, hl with | [_, _], _ => rfl
  have m7 := PySem.W.mg_of X G a7
  have b8 := F8.binds (ps := ["form", "number"]) fun _ _ _ _ _ _ us hl => match us, hl with | [_, _], _ => rfl
  have m8 := PySem.W.mg_of X G a8
  have b9 := F9.binds (ps := ["knob"]) fun _ _ _ _ _ _ us hl => match us, hl with | [_], _ => rfl
  have m9 := PySem.W.mg_of X G a9
  have b10 := F10.binds (ps := ["number"]) fun _ _ _ _ _ _ us hl => match us, hl with | [_], _ => rfl
  have m10 := PySem.W.mg_of X G a10
  have b11 := F11.binds (ps := ["one", "other"]) fun _ _ _ _ _ _ us hl => match us, hl with | [_, _], _ => rfl
  have m11 := PySem.W.mg_of X G a11
  have y_len := PySem.W.mg_none_of X G z_len
  have y_range := PySem.W.mg_none_of X G z_range
  have y_tuple := PySem.W.mg_none_of X G z_tuple
  have y_sum := PySem.W.mg_none_of X G z_sum
  have y_sorted := PySem.W.mg_none_of X G z_sorted
  have y_repr := PySem.W.mg_none_of X G z_repr
  have y_list := PySem.W.mg_none_of X G z_list
  refine ⟨PySem.W.fnOf "law" "law" (defArgs sLaw) (defBody sLaw) (defScope sLaw) .none kV12 dc12 pm12 an12 cd12 ct12, fun s v => .of_eq rfl, fun base _ _ => ?_⟩
  have GD : FnOk l.prog w K mg base CX0 1 f1 _ ["well", "many"] spDraw := ok_draw F1
  have GP : FnOk l.prog w K mg base CX0 2 f2 _ ["well", "some"] (spPick K) := ok_pick F2 F1 b1 m1 y_len
  have GN : FnOk l.prog w K mg base CX0 3 f3 _ ["well"] spNumber := ok_number F3 GD b1 m1 k1 GP b2 m2 k2
  have GF : FnOk l.prog w K mg base CX0 4 f4 _ ["well", "many"] (spForm K) := ok_form F4 GD b1 m1 k1 GN b3 m3 k3 y_range y_tuple
  have GO : FnOk l.prog w K mg base CX0 1 f5 _ ["form", "setting"] (spWorth K) := ok_worth F5 y_sum
  have GA3 : FnOk l.prog w K mg base CX0 3 f6 _ ["one", "other"] (spComb K 1) := ok_added (n := 2) F6 (ok_parts (n := 1) F11 y_sorted y_tuple) b11 m11 k11
  have GA : FnOk l.prog w K mg base CX0 4 f6 _ ["one", "other"] (spComb K 1) := ok_added (n := 3) F6 (ok_parts (n := 2) F11 y_sorted y_tuple) b11 m11 k11
  have GM3 : FnOk l.prog w K mg base CX0 3 f8 _ ["form", "number"] (spTimes K) := ok_times (n := 2) F8 (ok_plain (n := 1) F10) b10 m10 k10 y_tuple
  have GM : FnOk l.prog w K mg base CX0 4 f8 _ ["form", "number"] (spTimes K) := ok_times (n := 3) F8 (ok_plain (n := 2) F10) b10 m10 k10 y_tuple
  have GT : FnOk l.prog w K mg base CX0 4 f7 _ ["one", "other"] (spComb K (-1)) := ok_taken (n := 3) F7 GA3 b6 m6 k6 GM3 b8 m8 k8
  have GK : FnOk l.prog w K mg base CX0 4 f9 _ ["knob"] (spKnob K) := ok_knob (n := 3) F9
  have GL : FnOk l.prog w K mg base CX0 4 f10 _ ["number"] (spPlain K) := ok_plain (n := 3) F10
  have qO : KBinds K _ ["form", "setting"] ["setting", "form"] (gR 2) (gR 2) := Tug.Fun.kbR F5 2 rfl (by decide) rfl fun _ _ _ _ _ _ ws hl => match ws, hl with | [_, _], _ => rfl
  exact ok_law F12 ⟨ok_well F0 y_len, GD, GP, GN, GF, GO, GA, GT, GM, GK, GL, b0, b1, b2, b3, b4, b5, b6, b7, b8, b9, b10, qO, m0, m1, m2, m3, m4, m5, m6, m7, m8, m9, m10, k0, k1, k2, k3, k4, k5, k6, k7, k8, k9, k10, y_range, y_repr, y_sum, y_list⟩
theorem walk {l : PySem.W.OpenLaw} {q : Program} {loose : List Str} {XP : (Str → Option Value) → Heap → Prop} {YP : World → Heap → Prop} {d : DefRec} {K : Params → Frag} (hn : l.most = some 63) (hdf : d.params.defaults = [])
    (hY : ∀ (w : World) (h : Heap), YP w h → (K w.params).In h)
    (F : ∀ (w : World) (mg : Str → Option Value) (fa : Addr) (h : Heap), (K w.params).In h → h.Ns mainGlobals mg → mg d.name = some (.ref fa) →
      ∃ fd : FuncData, (∀ (s : Shared) (u : Value), BindsTo s fd ⟨[u], []⟩ [("script", u)]) ∧ ∀ base : Heap, (K w.params).In base → base.Ns mainGlobals mg → FnG l.prog w (K w.params) mg base CX0 5 fa fd ["script"] (spLaw (K w.params))) :
    PySem.W.WalkO q loose XP YP l.row.toRowW d [] (fun f vs => PySem.call f vs) :=
  walk_G (n := 63) (k := 5) (x := "script") (sp := fun w => spLaw (K w.params)) hn (by decide) hdf ⟨rfl, by decide, by decide⟩ hY F fun _ _ a ns _ hb hS => ⟨a, ns, rfl, hS, hb, fun _ => rfl⟩
end Tug
open PySem PySem.W PyProof.Rows
set_option maxRecDepth 100000 in
set_option maxHeartbeats 0 in
theorem PySem.Challenge.cw_tugline_k20_whole_forms_and_settings_holds : PySem.Challenge.rw_tugline_k20_whole_forms_and_settings.Holds := by
  w_on; o_law; k_head; (case hw => w_witness2)
  k_fill
  refine Tug.walk (l := PySem.Challenge.rw_tugline_k20_whole_forms_and_settings) rfl rfl (fun w h Y => PySem.W.kIn_of Y) ?F
  case F =>
    intro w mg fa h KX G hmg
    refine' Tug.all_mk KX G hmg ?a0 ?l0 ?c0 ?k0 ?a1 ?l1 ?c1 ?k1 ?a2 ?l2 ?c2 ?k2 ?a3 ?l3 ?c3 ?k3 ?a4 ?l4 ?c4 ?k4 ?a5 ?l5 ?c5 ?k5 ?a6 ?l6 ?c6 ?k6 ?a7 ?l7 ?c7 ?k7 ?a8 ?l8 ?c8 ?k8 ?a9 ?l9 ?c9 ?k9 ?a10 ?l10 ?c10 ?k10 ?a11 ?l11 ?c11 ?k11 ?a12 ?l12 ?c12 ?k12 ?z_len ?z_range ?z_tuple ?z_sum ?z_sorted ?z_repr ?z_list
    (case a0 => k_is)
    (case l0 => k_is)
    (case c0 => k_is)
    (case k0 => k_is)
    (case a1 => k_is)
    (case l1 => k_is)
    (case c1 => k_is)
    (case k1 => k_is)
    (case a2 => k_is)
    (case l2 => k_is)
    (case c2 => k_is)
    (case k2 => k_is)
    (case a3 => k_is)
    (case l3 => k_is)
    (case c3 => k_is)
    (case k3 => k_is)
    (case a4 => k_is)
    (case l4 => k_is)
    (case c4 => k_is)
    (case k4 => k_is)
    (case a5 => k_is)
    (case l5 => k_is)
    (case c5 => k_is)
    (case k5 => k_is)
    (case a6 => k_is)
    (case l6 => k_is)
    (case c6 => k_is)
    (case k6 => k_is)
    (case a7 => k_is)
    (case l7 => k_is)
    (case c7 => k_is)
    (case k7 => k_is)
    (case a8 => k_is)
    (case l8 => k_is)
    (case c8 => k_is)
    (case k8 => k_is)
    (case a9 => k_is)
    (case l9 => k_is)
    (case c9 => k_is)
    (case k9 => k_is)
    (case a10 => k_is)
    (case l10 => k_is)
    (case c10 => k_is)
    (case k10 => k_is)
    (case a11 => k_is)
    (case l11 => k_is)
    (case c11 => k_is)
    (case k11 => k_is)
    (case a12 => k_is)
    (case l12 => k_is)
    (case c12 => k_is)
    (case k12 => k_is)
    (case z_len => k_is)
    (case z_range => k_is)
    (case z_tuple => k_is)
    (case z_sum => k_is)
    (case z_sorted => k_is)
    (case z_repr => k_is)
    (case z_list => k_is)
