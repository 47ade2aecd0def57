import PyProof.Rows.All
import Wide.All
import OpenK.AllK
import Wide.FinOn
import PyProof.EqAt
import PyProof.EqKinds
import PyProof.TupleCall
import KE.KExcSuper
import HandS.Base
import HandS.Call
import HandS.Exc
import HandS.List
import HandS.Words
import HandS.ExcIs
import HandS.ExcField
import HandS.ExcValue
import HandS.ExcOwn
import HandS.Ends
import HandS.EndBits
import HandS.WordsExc
import KE.KExcIs
import HandS.ForMost
import HandS.Wide
import HandS.Defaults
import KE.KDictPairs
import HandS.Dict
import PySem.Challenge.RW_tugline_k21_forms_along_a_knob
set_option Elab.async false
set_option linter.all false
set_option maxRecDepth 100000
set_option maxHeartbeats 4000000
namespace PySem
namespace TugX
open PySem.W PySem.Calls PyProof.Rows PySem.HandSPX
def iA (f : Str) (p1 p2 : Pos) : Arguments := { posonlyargs := [], args := [{ arg := "self", annotation := none, pos := p1 }, { arg := f, annotation := none, pos := p2 }], vararg := none, kwonlyargs := [], kw_defaults := [], kwarg := none, defaults := [] }
def iB (f m : Str) (j : Nat) (q0 q1 q2 q3 q4 q5 q6 q7 q8 q9 : Pos) : List Stmt :=
  [.Expr (.Call (.Attribute (.Call (.Name "super" q0) [] [] q1) "__init__" q2) [.Constant (.str m) j q3] [] q4) q5,
   .Assign [.Attribute (.Name "self" q6) f q7] (.Name f q8) q9]
def iS (f : Str) : Scope := { kind := .function, names := [(PySem.Str.ofString "self", .local), (f, .local), (PySem.Str.ofString "__class__", .free), (PySem.Str.ofString "super", .globalImplicit)], isGenerator := false, isCoroutine := false, more := [] }
/-- what is known of an own exception class: x its name, f its field, m its text, T the base that is caught -/
structure XTxt (P : Program) (K : Frag) (mg : Str → Option Value) (x f m qual : Str) (C fI cc cda : Addr) : Prop where
  gC : mg x = some (.ref C)
  cls : ∃ nm q N bs bm sn sub ab col dd k0 k1 k2 k3 k5, K.lookup C = some (excClassObj nm q C N bs bm true sn sub ab col dd k0 k1 k2 k3 k5 "ValueError.__new__") ∧ refsVE bm = true
  sa : findIn K (.ref C) "__setattr__" = some (some (.builtin "object.__setattr__"))
  ga : findIn K (.ref C) "__getattribute__" = some (some (.builtin "BaseException.__getattribute__"))
  gg : findIn K (.ref C) "__getattr__" = some none
  noN : findIn K (.ref C) f = some none
  iC : findIn K (.ref C) "__init__" = some (some (.ref fI))
  tC : typeIn K (.ref fI) = some (.type "function")
  kC : keepIn K (.ref C) = true
  exC : subIn K (.ref C) (.type "BaseException") = some true
  veC : subIn K (.ref C) (.type "ValueError") = some true
  tyC : typeIn K (.ref C) = some (.type "type")
  hdC : hasDictIn K C = true
  fn : ∃ (oc : Value) (od : Option Addr) (doc pm ct : Value) (an : Option Addr) (osl : Array (Option Value)) (j : Nat) (p1 p2 q0 q1 q2 q3 q4 q5 q6 q7 q8 q9 : Pos),
    K.lookup fI = some ⟨oc, od, .func (ksFn "__init__" qual (iA f p1 p2) (iB f m j q0 q1 q2 q3 q4 q5 q6 q7 q8 q9) (iS f) .none .none doc pm an (.ref cda) ct cc), osl⟩ ∧ codeIn K (.ref cda) qual = true ∧ (q2.endLine == q4.line) = true
  code : ∃ (c : Value) (dd : Option Addr) (vs : Array Value) (sl : Array (Option Value)) (file : Str) (tf : Tok), K.lookup cda = some ⟨c, dd, .fields vs, sl⟩ ∧ vs[2]? = some (.str file tf) ∧ ((P.main.file : Str) == file) = true
  cell : ∃ (c : Value) (dd : Option Addr) (sl : Array (Option Value)), K.lookup cc = some ⟨c, dd, .cell (some (.ref C)), sl⟩
  gS : mg "super" = none
  opq : nsIn K cStatics "thirdparty.any" = some none
  sup : ks_superIn K C C "__init__" = some (some (.builtin "ValueError.__init__"))
  top : (P.main.scope.names.lookup ("super" : Str)).isSome = false
  lkf : (iS f).names.lookup f = some .local
  lks : (iS f).names.lookup ("super" : Str) = some .globalImplicit
  lkc : (iS f).names.lookup ("__class__" : Str) = some .free
  nself : (f == ("self" : Str)) = false
  ndbg : (f == ("__debug__" : Str)) = false
  bnd : ∀ (doc pm ct cdv : Value) (an : Option Addr) (p1 p2 : Pos) (body : List Stmt) (sc : Scope) (u v : Value), bindArgs (ksFn "__init__" qual (iA f p1 p2) body sc .none .none doc pm an cdv ct cc) ⟨[u, v], []⟩ = pure ([("self", u), (f, v)] : List (Str × Value))
  bndk : ∀ (doc pm ct cdv : Value) (an : Option Addr) (p1 p2 : Pos) (body : List Stmt) (sc : Scope) (u v : Value), bindArgs (ksFn "__init__" qual (iA f p1 p2) body sc .none .none doc pm an cdv ct cc) ⟨[u], [(f, v)]⟩ = pure ([("self", u), (f, v)] : List (Str × Value))
/-- what __init__ leaves of a fresh exception at x -/
structure InitEnd (f : Str) (h h' : Heap) (x C dx t1 : Addr) (v : Value) : Prop where
  keep : ∀ b o, b ≠ x → h.get? b = some o → h'.get? b = some o
  obj : h'.get? x = some { cls := .ref C, dict := some dx, data := .fields #[.ref t1, .none, .none, .none, .bool false, .none] }
  dbig : h.objs.size ≤ dx
  dne : dx ≠ x
  ns : h'.Ns1 dx (fun y => if y = f then some v else none)
section
variable {prog : Program} {w : World} {A : Around} {E : Value → Shared → Prop} {R : Result → Shared → Prop} {s : Shared} {K : Frag} {mg mb : Str → Option Value} {C fI cc cda : Addr} {n f m qual : Str}
theorem x_init (T : XTxt prog K mg n f m qual C fI cc cda) {x t0 : Addr} {v : Value} {args : Args} (X : K.In s.heap) (hg : s.heap.Ns mainGlobals mg) (hb : s.heap.Ns builtinsNs mb) (hbv : ∀ x : Str, x ≠ "__name__" → mb x = bootBuiltins x) (hlim : s.heap.NoLimit)
    (hx : s.heap.get? x = some (excO C t0)) (hnx : K.lookup x = none) (hroom : A.depth < recursionLimit)
    (hbind : ∀ (doc pm ct : Value) (an : Option Addr) (p1 p2 : Pos) (body : List Stmt) (sc : Scope), BindsTo s (ksFn "__init__" qual (iA f p1 p2) body sc .none .none doc pm an (.ref cda) ct cc) args [("self", .ref x), (f, v)])
    (hq : ∀ h' tk dx t1, InitEnd f s.heap h' x C dx t1 v → R (.ok (.ret .none)) { s with heap := h', toks := tk }) :
    codeAny (model prog w) A (.call (.ref fI) args) R s := by
  obtain ⟨oc, od, doc, pm, ct, an, osl, j, p1, p2, q0, q1, q2, q3, q4, q5, q6, q7, q8, q9, ho, hcd, hln⟩ := T.fn
  obtain ⟨nm, q, N, bs, bm, sn, sub, ab, col, dd, k0, k1, k2, k3, k5, hC, hbm⟩ := T.cls
  obtain ⟨c1, dd1, vs, sl1, file, tf, hcode, hvs, hfile⟩ := T.code
  obtain ⟨c2, dd2, sl2, hcell⟩ := T.cell
  have hcl : clsIn K C = some { name := nm, bases := bs, mro := .ref C :: bm, ns := N, qualname := q, hasDict := true, slotNames := sn, subclasses := sub, abstract := ab, collection := col, hasDel := false } := by unfold clsIn; rw [hC] <;> rfl
  refine ks_codeAny_call_defAt (fd := ksFn "__init__" qual (iA f p1 p2) (iB f m j q0 q1 q2 q3 q4 q5 q6 q7 q8 q9) (iS f) .none .none doc pm an (.ref cda) ct cc) (body := iB f m j q0 q1 q2 q3 q4 q5 q6 q7 q8 q9) (binds := [("self", .ref x), (f, v)]) hroom (X _ _ ho) rfl hlim (codeRec_of X hcd) rfl (hbind _ _ _ _ _ _ _ _) ?_ ?_ (fun h₁ hns hk₁ => ?_) rfl rfl rfl
  · intro y hy
    have hy' : y ∈ [(PySem.Str.ofString "self", NameKind.local), (f, .local), (PySem.Str.ofString "__class__", .free), (PySem.Str.ofString "super", .globalImplicit)] := hy
    rcases List.mem_cons.mp hy' with rfl | hy'
    · exact (fun z => nomatch z)
    rcases List.mem_cons.mp hy' with rfl | hy'
    · exact (fun z => nomatch z)
    rcases List.mem_cons.mp hy' with rfl | hy'
    · exact (fun z => nomatch z)
    rcases List.mem_cons.mp hy' with rfl | hy'
    · exact (fun z => nomatch z)
    · cases hy'
  · intro y hy
    rcases List.mem_cons.mp hy with rfl | hy
    · rfl
    rcases List.mem_cons.mp hy with rfl | hy
    · exact T.lkf
    · cases hy
  have X₁ : K.In h₁ := X.keeps hk₁
  have hg₁ := hg.keeps hk₁
  have hb₁ := hb.keeps hk₁
  have hx₁ := hk₁ _ _ hx
  have hC₁ := X₁ _ _ hC
  have nxC : x ≠ C := fun z => by
    rw [z, hC₁] at hx₁
    cases hx₁
  have I₁ : InstAt h₁ x (excO C t0) C none := ⟨hx₁, rfl, rfl, trivial⟩
  show _root_.PySem.wpAt (model prog w) (A.deeper (ksEnv qual (iS f) s.heap.objs.size fI (.ref cda) cc)) (.func (iB f m j q0 q1 q2 q3 q4 q5 q6 q7 q8 q9) (ksEnv qual (iS f) s.heap.objs.size fI (.ref cda) cc)) (execs (iB f m j q0 q1 q2 q3 q4 q5 q6 q7 q8 q9) (ksEnv qual (iS f) s.heap.objs.size fI (.ref cda) cc)) _ _ _
  obtain ⟨env, henv⟩ : ∃ env, env = ksEnv qual (iS f) s.heap.objs.size fI (.ref cda) cc := ⟨_, rfl⟩
  have he : eval (.Call (.Attribute (.Call (.Name "super" q0) [] [] q1) "__init__" q2) [.Constant (.str m) j q3] [] q4) env = (do
      let ov ← attributeBase (.Call (.Name "super" q0) [] [] q1) "__init__" env (eval (.Call (.Name "super" q0) [] [] q1) env)
      standAt q2.atName
      let (f, first) ← holding [ov] (getMethod ov "__init__" (do return (← importBound (.Call (.Name "super" q0) [] [] q1) env).getD true))
      callWith q4 f first (backTo q4 (starEach [.Constant (.str m) j q3] env)) []) := by
    rw [arm_eval_Call]
    have hform : methodCallForm (([.Constant (.str m) j q3] : List Expr).length + ([] : List Keyword).length) (backTo q4 (starEach [.Constant (.str m) j q3] env)) (backToKw q4 (keywordEach [] env)) = true := by rfl
    have hpos : methodCallPos true (.Call (.Name "super" q0) [] [] q1) env q2 q4 = pure q4 := by unfold methodCallPos; simp [hln]
    unfold methodCall
    rw [hform, hpos]
    simp only [pure_bind]
    rfl
  rw [← henv]
  refine ks_wpAt_execs_cons (ks_wpAt_Expr_any (ks_wpAt_MethodCall ?_ he) (by rw [henv]; rfl) (by rw [henv]; rfl))
  rw [henv]
  refine ks_wpAt_super_base (env := ksEnv qual (iS f) s.heap.objs.size fI (.ref cda) cc) T.lks T.lkc (by decide) rfl (X₁ _ _ ho) rfl (ar := { arg := "self", annotation := none, pos := p1 }) rfl rfl (X₁ _ _ hcode) rfl hvs hfile T.top ?_
  have hself : (iS f).names.lookup ("self" : Str) = some .local := rfl
  refine ks_loadName_global (env := ksEnv qual (iS f) s.heap.objs.size fI (.ref cda) cc) rfl T.lks (loadGlobal_builtin (env := ksEnv qual (iS f) s.heap.objs.size fI (.ref cda) cc) hg₁ T.gS hb₁ ((hbv "super" (by decide)).trans (by first | rfl | kernel_rfl)) ⟨rfl, ?_⟩)
  refine wpAny_loadName_free (env := ksEnv qual (iS f) s.heap.objs.size fI (.ref cda) cc) rfl T.lkc rfl ⟨_, X₁ _ _ hcell, rfl⟩ ?_
  have vself : ([(("self" : Str), Value.ref x), (f, v)] : List (Str × Value)).reverse.lookup ("self" : Str) = some (.ref x) := by
    show List.lookup ("self" : Str) [(f, v), (("self" : Str), Value.ref x)] = _
    have e : (("self" : Str) == f) = false := by
      rw [Bool.beq_comm]; exact T.nself
    simp [List.lookup, e]
  have vf : ([(("self" : Str), Value.ref x), (f, v)] : List (Str × Value)).reverse.lookup f = some v := by
    show List.lookup f [(f, v), (("self" : Str), Value.ref x)] = _
    simp [List.lookup]
  refine wpAny_loadName_local (env := ksEnv qual (iS f) s.heap.objs.size fI (.ref cda) cc) rfl hself hns vself ?_
  refine ks_wpAny_isType_cls hC₁ rfl ⟨rfl, ?_⟩
  have hsubC : mroIn K C (.ref C) = some true := by
    unfold mroIn
    rw [hcl, Option.bind_some, if_neg (by simp)]
    simp
  refine ks_wpAny_call_super hC₁ rfl hx₁ rfl (fun c e => nomatch e) (looks_mroIn X₁ hsubC) (fun h₂ hso k₂ => ?_)
  have X₂ : K.In h₂ := X₁.keeps k₂
  have hx₂ := k₂ _ _ hx₁
  have hC₂ := X₂ _ _ hC
  have I₂ : InstAt h₂ x (excO C t0) C none := ⟨hx₂, rfl, rfl, trivial⟩
  have hsup : alongIn K "__init__" (((Value.ref C :: bm).dropWhile (· != .ref C)).drop 1) = some (some (.builtin "ValueError.__init__")) := by
    have z := T.sup
    unfold ks_superIn at z
    rw [hcl] at z
    exact z
  refine kxs_getMethod kxs_ValueError hso (looks_opaque X₂ T.opq) (l₀ := .ref C :: bm) ?_ rfl X₂ hsup (I₂.type.andThen (looks_subIn X₂ T.veC)) nxC (by decide) ?_
  · exact (looks_clsIn X₂ hcl).andThen .now
  have hu : (h₂.push (kxs_mw "ValueError.__init__" x)).get? h₂.objs.size = some (kxs_mw "ValueError.__init__" x) := Heap.get?_push_at rfl rfl
  have k₃ : ∀ b o, h₂.get? b = some o → (h₂.push (kxs_mw "ValueError.__init__" x)).get? b = some o := fun b o e => Heap.get?_push_of_some _ e
  have hx₃ := k₃ _ _ hx₂
  have hC₃ := k₃ _ _ hC₂
  have hes : starEach [.Constant (.str m) j q3] (ksEnv qual (iS f) s.heap.objs.size fI (.ref cda) cc) = (false, eval (.Constant (.str m) j q3) (ksEnv qual (iS f) s.heap.objs.size fI (.ref cda) cc)) :: starEach [] (ksEnv qual (iS f) s.heap.objs.size fI (.ref cda) cc) := by rfl
  rw [hes]
  show wpAny (model prog w) _ (callWith q4 (.ref h₂.objs.size) [] (backTo q4 ((false, eval (.Constant (.str m) j q3) (ksEnv qual (iS f) s.heap.objs.size fI (.ref cda) cc)) :: starEach [] (ksEnv qual (iS f) s.heap.objs.size fI (.ref cda) cc))) []) _ _ _
  refine kxs_callWith (i := "ValueError.__init__") (x := x) (by rfl) ?_
  refine evalArgs_plain ?_
  show wpAny (model prog w) _ (spliced ((false, eval (.Constant (.str m) j q3) (ksEnv qual (iS f) s.heap.objs.size fI (.ref cda) cc)) :: backTo q4 (starEach [] (ksEnv qual (iS f) s.heap.objs.size fI (.ref cda) cc)))) _ _ _
  refine Calls.spliced_cons (Calls.Constant_str ?_)
  refine Calls.spliced_nil ⟨hu, ?_⟩
  show wpAny (model prog w) _ (call (.ref h₂.objs.size) [.str m _]) _ _ _
  refine wpAny_call (codeAny_of_tree ?_)
  show wpAny _ _ (callAny (.ref h₂.objs.size) ⟨[.str m _], []⟩) _ _ _
  simp only [callAny]
  refine wpAny_bind (wpAny_load hu ?_)
  simp only [kxs_mw, show (Value.type "method-wrapper" == Value.type "method" || Value.type "method-wrapper" == Value.type "builtin_function_or_method" || Value.type "method-wrapper" == Value.type "method-wrapper") = true by decide, if_true]
  refine KFB.if_so (by decide) ?_
  refine wpAny_bind (check_bound_init F.excBase_ValueError.toExcCallFacts hC₃ hx₃ rfl ?_)
  refine wpAny_bind (wpAny_pure (wpAny_pure ?_))
  refine ⟨plainId_quiet F.excBase_ValueError.init.plain _, codeAny_builtin F.excBase_ValueError.initEntry ?_⟩
  refine exc_init_tree (cls := .ref C) (t0 := t0) (dv := none) (c2 := .none) (c3 := .none) (b4 := .bool false) hx₃ (by show 1 ≤ sizeLine; rw [sizeLine_eq]; omega) (fun h₄ k₄ hx₄ _ => ?_)
  -- self.f = f
  have kk : ∀ b o, b ≠ x → h₁.get? b = some o → h₄.get? b = some o := fun b o hb e => k₄ b o hb (k₃ _ _ (k₂ _ _ e))
  have gone : ∀ b o, s.heap.get? b = some o → h₁.get? b = some o := hk₁
  have hns₄ : h₄.Ns s.heap.objs.size (fun y => ([(("self" : Str), Value.ref x), (f, v)] : List (Str × Value)).reverse.lookup y) := by
    obtain ⟨oL, es, ep, hL, r⟩ := hns
    refine ⟨oL, es, ep, kk _ _ ?_ hL, r⟩
    exact Nat.ne_of_gt (Heap.lt_size hx)
  have hx4 : h₄.get? x = some (excO C (h₂.push (kxs_mw "ValueError.__init__" x)).objs.size) := hx₄
  have X₄ : K.In h₄ := fun a o e => kk a o (fun z => by
    rw [z, hnx] at e
    cases e) (X₁ a o e)
  refine wpAt_of_wpAny (wpAny_execs_cons (plainObj_wpAny_Assign_Attribute ?_))
  have hf' : (ksEnv qual (iS f) s.heap.objs.size fI (.ref cda) cc).kindOf f = some .local := T.lkf
  refine wpAny_Name (wpAny_loadName_local (env := ksEnv qual (iS f) s.heap.objs.size fI (.ref cda) cc) rfl hf' hns₄ vf ?_) T.ndbg
  refine wpAny_Name (wpAny_loadName_local (env := ksEnv qual (iS f) s.heap.objs.size fI (.ref cda) cc) rfl hself hns₄ vself ?_) (by decide)
  refine set_plain X₄ (ox := excO C (h₂.push (kxs_mw "ValueError.__init__" x)).objs.size) (od := none) ⟨hx4, rfl, rfl, trivial⟩ T.sa ?_
  refine exc_osa X₄ hx4 hcl (show refsVE (.ref C :: bm) = true from hbm) rfl T.noN (fun h₅ tk₅ dx k₅ dn dne hx₅ hn₅ => ?_)
  show wpAny _ _ (execs _ _) _ _ _
  have z4 : s.heap.objs.size ≤ h₄.objs.size := by
    have q := Heap.lt_size hx4
    obtain ⟨oL, es, ep, hL, r⟩ := hns₄
    exact Nat.le_of_lt (Heap.lt_size hL)
  exact wpAny_execs_nil (hq h₅ tk₅ dx _ ⟨fun b o hb e => k₅ b o hb (kk b o hb (hk₁ b o e)), hx₅, Nat.le_trans z4 dn, dne, hn₅⟩)
/-- a made one: its object at e, its own dict at d -/
structure Made (f : Str) (h h' : Heap) (e C d : Addr) (v : Value) : Prop where
  keep : ∀ b o, h.get? b = some o → h'.get? b = some o
  new : h.objs.size ≤ e
  obj : ∃ oe vs, h'.get? e = some oe ∧ oe.cls = .ref C ∧ oe.dict = some d ∧ oe.data = .fields vs ∧ vs[1]? = some .none
  dbig : h.objs.size ≤ d
  dne : d ≠ e
  ns : h'.Ns1 d (fun y => if y = f then some v else none)
theorem one_size (v : Value) : [v].length ≤ sizeLine := by
  rw [sizeLine_eq]
  exact (by decide : 1 ≤ 16777216)
theorem fresh_K {h : Heap} (X : K.In h) {a : Addr} (ha : h.objs.size ≤ a) : K.lookup a = none := by
  cases e : K.lookup a with
  | none => rfl
  | some o => exact absurd (Nat.lt_of_lt_of_le (Heap.lt_size (X _ _ e)) ha) (Nat.lt_irrefl _)
section
variable {h : Heap} {g : Array GenState} {d : Drawn} {t : Nat} {os : OsState} {M : Model}
variable {nm q : Str} {N : Addr} {bs bm bmB : List Value} {hdct : Bool} {sn : List Str} {sub : List Value} {ab : Bool} {col : Option Bool} {dd : Option Addr} {k0 k1 k2 k3 k5 : Option Value} {B newId initId : String}
theorem check_new_kw (F : ExcBaseFacts B newId initId bmB) (hT : ∀ X : String, bm.contains (.type X) = bmB.contains (.type X)) {rest : List Value} {kw : List (Str × Value)} {Q : Unit → Shared → Prop}
    (hC : h.get? C = some (excClassObj nm q C N bs bm hdct sn sub ab col dd k0 k1 k2 k3 k5 newId)) (hq : Q () ⟨h, g, d, t, os⟩) : wpAny M A (checkBuiltinCall newId ⟨.ref C :: rest, kw⟩) Q E ⟨h, g, d, t, os⟩ := by
  have hcont : (Value.ref C :: bm).contains (.type B) = true := by rw [List.contains_cons, hT, F.hasB, Bool.or_true]
  have hstar := F.noStar
  simp only [checkBuiltinCall, F.newKind, F.newSplit, F.newRow]
  repeat (first | refine wpAny_loadPart_at hC ?_ | (refine wpAny_isSubtype_exc hC ?_; rw [hcont]) | refine wpAny_staticBase_exc hC ?_ | refine wpAny_madeBy_exc hC ?_ | simp only [bne_self_eq_false, Bool.false_eq_true, if_false] | wp_step)
  exact hq
theorem new_kw (F : ExcBaseFacts B newId initId bmB) (hT : ∀ X : String, bm.contains (.type X) = bmB.contains (.type X)) {rest : List Value} {kw : List (Str × Value)}
    (hC : h.get? C = some (excClassObj nm q C N bs bm hdct sn sub ab col dd k0 k1 k2 k3 k5 newId))
    (hq : R (.ok (.ret (.ref (h.objs.size + 1)))) ⟨(h.push { cls := .type "tuple", data := .seq rest.toArray }).push
      { cls := .ref C, data := .fields #[.ref h.objs.size, .none, .none, .none, .bool false, .none] }, g, d, t, os⟩) (hrest : rest.length ≤ sizeLine) :
    codeAny (model prog w) A (.builtin newId ⟨.ref C :: rest, kw⟩) R ⟨h, g, d, t, os⟩ := by
  have hends := F.ends
  have hcB : (Value.ref C :: bm).contains (.type B) = true := by rw [List.contains_cons, hT, F.hasB, Bool.or_true]
  have hcA : (Value.ref C :: bm).contains (.type "AttributeError") = false := by rw [List.contains_cons, hT, F.noAttr]; rfl
  have hcN : (Value.ref C :: bm).contains (.type "NameError") = false := by rw [List.contains_cons, hT, F.noName]; rfl
  refine codeAny_builtinAt F.entry ?_
  unfold Builtin.«BaseException.__new__»
  refine wpAt_bind ?_
  show wpAt _ _ _ (stack >>= _) _ _ _
  refine wpAt_bind (wpAt_stack fun p below => wpAt_of_wpAny ?_)
  wp_walk
  refine wpAt_of_wpAny ?_
  rw [F.owner]
  repeat (first | with_reducible refine wpAny_madeHere_exc F.canon hC ?_ | with_reducible refine wpAny_loadPart_at hC ?_ | (with_reducible refine wpAny_isSubtype_exc hC ?_; first | rw [hcB] | rw [hcA] | rw [hcN]) | wp_step)
  show R _ _
  rw [Heap.size_push]
  exact hq
theorem type_call_kw (F : ExcBaseFacts B newId initId bmB) (hT : ∀ X : String, bm.contains (.type X) = bmB.contains (.type X)) {rest : List Value} {kw : List (Str × Value)} {Q : PySem.Fin → Shared → Prop}
    (hC : h.get? C = some (excClassObj nm q C N bs bm hdct sn sub ab col dd k0 k1 k2 k3 k5 newId))
    (hi : W.Looks (model prog w) h (typeLookup (.ref C) "__init__") (some (.ref fI))) (hb : ∀ self, W.Looks (model prog w) h (bindSpecial (.ref fI) self) (.ref fI, [self])) (hrest : rest.length ≤ sizeLine)
    (hq : codeAny (model prog w) A (.call (.ref fI) ⟨.ref (h.objs.size + 1) :: rest, kw⟩)
      (fun r s' => match r with | .ok (.ret v) => v = .none ∧ Q (.done (.ret (.ref (h.objs.size + 1)))) s' | .ok _ => False | .error e => E e s')
      ⟨(h.push (W.kdv_tup rest)).push (excO C h.objs.size), g, d, t, os⟩) :
    wpAny (model prog w) A (Builtin.«type.__call__» ⟨.ref C :: rest, kw⟩) Q E ⟨h, g, d, t, os⟩ := by
  repeat (first | with_reducible refine wpAny_loadPart_at hC ?_ | with_reducible refine wpAny_madeBy_exc hC ?_ | wp_step)
  refine codeAny_call_builtin_code (Code.quiet_builtin _ F.quiet) (check_new_kw F hT hC ?_)
  refine new_kw F hT hC ?_ hrest
  show wpAny _ _ _ _ _ _
  have k : ∀ b o, h.get? b = some o → ((h.push (W.kdv_tup rest)).push (excO C h.objs.size)).get? b = some o := fun b o e => Heap.get?_push_of_some _ (Heap.get?_push_of_some _ e)
  have hC₁ := k _ _ hC
  have hget : ((h.push (W.kdv_tup rest)).push (excO C h.objs.size)).get? (h.objs.size + 1) = some (excO C h.objs.size) := by heap_get
  have hcC : (Value.ref C :: bm).contains (.ref C) = true := by simp
  have i1 := hi.keeps k
  have b1 := (hb (.ref (h.objs.size + 1))).keeps k
  unfold isInstance
  repeat (first | with_reducible refine wpAny_loadPart_at hget ?_ | (with_reducible refine wpAny_isSubtype_exc hC₁ ?_; rw [hcC]) | wp_step)
  show wpAny _ _ (typeLookup (.ref C) _) _ _ _
  refine i1.at ?_
  refine wpAny_holding (wpAny_bind (b1.at ?_))
  refine wpAny_bind (wpAny_call (codeAny_mono hq fun r s' z => ?_))
  rcases r with e | (v | _ | _ | _) <;> first | exact z | exact z.elim | skip
  obtain ⟨rfl, z⟩ := z
  first
    | exact wpAny_pure (wpAny_pure z)
    | (wp_walk; exact z)
theorem check_tc_kw {rest : List Value} {kw : List (Str × Value)} {Q : Unit → Shared → Prop} (hC : h.get? C = some (excClassObj nm q C N bs bm hdct sn sub ab col dd k0 k1 k2 k3 k5 newId))
    (hq : Q () ⟨h, g, d, t, os⟩) : wpAny M A (checkBuiltinCall "type.__call__" ⟨.ref C :: rest, kw⟩) Q E ⟨h, g, d, t, os⟩ := by
  have f3 := tc_sub
  have hT : (⟨h, g, d, t, os⟩ : Shared).TypeIs (.ref C) "type" := ⟨_, hC, rfl⟩
  simp only [checkBuiltinCall, tc_kind, tc_split]
  repeat (any_goals (first | assumption | with_reducible refine wpAny_loadPart_at hC ?_ | with_reducible refine wpAny_onRaise ?_ | with_reducible refine wpAny_map ?_ | wp_step))
theorem call_kw (F : ExcBaseFacts B newId initId bmB) (hT : ∀ X : String, bm.contains (.type X) = bmB.contains (.type X)) {rest : List Value} {kw : List (Str × Value)}
    (hC : h.get? C = some (excClassObj nm q C N bs bm hdct sn sub ab col dd k0 k1 k2 k3 k5 newId))
    (hi : W.Looks (model prog w) h (typeLookup (.ref C) "__init__") (some (.ref fI))) (hb : ∀ self, W.Looks (model prog w) h (bindSpecial (.ref fI) self) (.ref fI, [self])) (hrest : rest.length ≤ sizeLine)
    (hq : codeAny (model prog w) (A.under (.builtin "type.__call__" ⟨.ref C :: rest, kw⟩)) (.call (.ref fI) ⟨.ref (h.objs.size + 1) :: rest, kw⟩) (W.InitBack (h.objs.size + 1) R)
      ⟨(h.push (W.kdv_tup rest)).push (excO C h.objs.size), g, d, t, os⟩) :
    codeAny (model prog w) A (.call (.ref C) ⟨rest, kw⟩) R ⟨h, g, d, t, os⟩ := by
  have f1 := tc_lookup
  have f2 := tc_bind (.ref C)
  have hTy : (⟨h, g, d, t, os⟩ : Shared).TypeIs (.ref C) "type" := ⟨_, hC, rfl⟩
  refine codeAny_of_tree ?_
  show wpAny _ _ (callAny (.ref C) _) _ _ _
  repeat (any_goals (first | assumption | with_reducible refine wpAny_loadPart_at hC ?_ | wp_step))
  refine ⟨rfl, ?_⟩
  refine codeAny_call_builtin_at (Code.quiet_builtin _ (by decide +kernel)) entry_typeCall (check_tc_kw hC (type_call_kw F hT hC hi hb hrest ?_))
  refine codeAny_mono hq fun r s' z => ?_
  rcases r with e | (v | _ | _ | _) <;> exact z
end
theorem x_made_kw (T : XTxt prog K mg n f m qual C fI cc cda) {v : Value} (X : K.In s.heap) (hg : s.heap.Ns mainGlobals mg) (hb : s.heap.Ns builtinsNs mb) (hbv : ∀ x : Str, x ≠ "__name__" → mb x = bootBuiltins x) (hlim : s.heap.NoLimit) (hroom : A.depth + 1 < recursionLimit)
    (hq : ∀ h' tk e d, Made f s.heap h' e C d v → R (.ok (.ret (.ref e))) { s with heap := h', toks := tk }) :
    codeAny (model prog w) A (.call (.ref C) ⟨[], [(f, v)]⟩) R s := by
  obtain ⟨nm, q, N, bs, bm, sn, sub, ab, col, dd, k0, k1, k2, k3, k5, hC, hbm⟩ := T.cls
  obtain ⟨hp, g, dr, tk, os⟩ := s
  have k : ∀ b o, hp.get? b = some o → ((hp.push (kdv_tup [])).push (excO C hp.objs.size)).get? b = some o := fun b o e => Heap.get?_push_of_some _ (Heap.get?_push_of_some _ e)
  have hget : ((hp.push (kdv_tup [])).push (excO C hp.objs.size)).get? (hp.objs.size + 1) = some (excO C hp.objs.size) := by heap_get
  refine call_kw F.excBase_ValueError (fun X => refsVE_contains X bm hbm) (X _ _ hC) (looks_findIn X T.iC) (fun self => bind_fn X self T.tC) (Nat.zero_le _) ?_
  refine x_init (v := v) (s := ⟨(hp.push (kdv_tup [])).push (excO C hp.objs.size), g, dr, tk, os⟩) T (X.keeps k) (hg.keeps k) (hb.keeps k) hbv (hlim.keeps k) hget (fresh_K X (Nat.le_succ _)) ?_ (fun _ _ _ _ _ _ _ _ => BindsTo.of_eq (T.bndk _ _ _ _ _ _ _ _ _ _ _)) fun h' tk' dx t1 ⟨k', hx, dn, dne, hns⟩ => ?_
  · show A.depth + 1 < recursionLimit
    exact hroom
  · have old : ∀ b o, hp.get? b = some o → h'.get? b = some o := fun b o e => k' b o (Nat.ne_of_lt (Nat.lt_succ_of_lt (Heap.lt_size e))) (k b o e)
    have z : hp.objs.size + 1 + 1 ≤ dx := by
      first
        | (simpa only [Heap.size_push] using dn)
        | exact dn
        | (have q := dn; rw [Heap.size_push, Heap.size_push] at q; exact q)
    exact ⟨rfl, hq h' tk' (hp.objs.size + 1) dx ⟨old, Nat.le_succ _, ⟨_, _, hx, rfl, rfl, rfl, rfl⟩, Nat.le_trans (Nat.le_trans (Nat.le_succ _) (Nat.le_succ _)) z, dne, hns⟩⟩
theorem x_made (T : XTxt prog K mg n f m qual C fI cc cda) {v : Value} (X : K.In s.heap) (hg : s.heap.Ns mainGlobals mg) (hb : s.heap.Ns builtinsNs mb) (hbv : ∀ x : Str, x ≠ "__name__" → mb x = bootBuiltins x) (hlim : s.heap.NoLimit) (hroom : A.depth + 1 < recursionLimit)
    (hq : ∀ h' tk e d, Made f s.heap h' e C d v → R (.ok (.ret (.ref e))) { s with heap := h', toks := tk }) :
    codeAny (model prog w) A (.call (.ref C) ⟨[v], []⟩) R s := by
  obtain ⟨nm, q, N, bs, bm, sn, sub, ab, col, dd, k0, k1, k2, k3, k5, hC, hbm⟩ := T.cls
  obtain ⟨hp, g, dr, tk, os⟩ := s
  have k : ∀ b o, hp.get? b = some o → ((hp.push (kdv_tup [v])).push (excO C hp.objs.size)).get? b = some o := fun b o e => Heap.get?_push_of_some _ (Heap.get?_push_of_some _ e)
  have hget : ((hp.push (kdv_tup [v])).push (excO C hp.objs.size)).get? (hp.objs.size + 1) = some (excO C hp.objs.size) := by heap_get
  refine call_own F.excBase_ValueError (fun X => refsVE_contains X bm hbm) (X _ _ hC) (looks_findIn X T.iC) (fun self => bind_fn X self T.tC) (one_size v) ?_
  refine x_init (v := v) (s := ⟨(hp.push (kdv_tup [v])).push (excO C hp.objs.size), g, dr, tk, os⟩) T (X.keeps k) (hg.keeps k) (hb.keeps k) hbv (hlim.keeps k) hget (fresh_K X (Nat.le_succ _)) ?_ (fun _ _ _ _ _ _ _ _ => BindsTo.of_eq (T.bnd _ _ _ _ _ _ _ _ _ _ _)) fun h' tk' dx t1 ⟨k', hx, dn, dne, hns⟩ => ?_
  · show A.depth + 1 < recursionLimit
    exact hroom
  · have old : ∀ b o, hp.get? b = some o → h'.get? b = some o := fun b o e => k' b o (Nat.ne_of_lt (Nat.lt_succ_of_lt (Heap.lt_size e))) (k b o e)
    have z : hp.objs.size + 1 + 1 ≤ dx := by
      first
        | (simpa only [Heap.size_push] using dn)
        | exact dn
        | (have q := dn; rw [Heap.size_push, Heap.size_push] at q; exact q)
    exact ⟨rfl, hq h' tk' (hp.objs.size + 1) dx ⟨old, Nat.le_succ _, ⟨_, _, hx, rfl, rfl, rfl, rfl⟩, Nat.le_trans (Nat.le_trans (Nat.le_succ _) (Nat.le_succ _)) z, dne, hns⟩⟩
end
end TugX
end PySem
namespace L2
open PySem PySem.Spec PyProof.Rows
theorem relO_one {v : V} {v' : Value} {f : Str} (r : RelV v v') (g : Str) : RelO (List.lookup g [(f, v)]) (if g = f then some v' else none) := by
  by_cases hw : g = f
  · subst hw
    rw [if_pos rfl]
    have q : List.lookup g [(g, v)] = some v := by simp [List.lookup]
    rw [q]
    exact r
  · rw [if_neg hw]
    have qw : (g == f) = false := by simpa using hw
    have q2 : List.lookup g [(f, v)] = none := by simp [List.lookup, qw]
    rw [q2]
    trivial
/-- C(e) or C(f = e) -/
def tMkX (C : Addr) (f : Str) (ta : TA) : St → Hp → XK → Prop := fun σ H Q => ta σ H fun vs H1 => ∃ v, vs = [v] ∧ ∀ d, H1 d = none → Q (.ref C) (some d) (upd H1 d (.xd [(f, v)]))
section
variable {X : Cx} {n f m qual : Str} {C fI cc cda : Addr}
theorem mk_made {pins : List (Addr × Obj)} {σ : St} {H1 : Hp} {s1 : Shared} {h' : Heap} {tk' : Nat} {e d : Addr} {v : V} {v' : Value} {Q : XK} (T : PySem.TugX.XTxt X.prog X.K X.mg n f m qual C fI cc cda) (I1 : Inv X pins σ H1 s1) (rv : RelV v v')
    (M : PySem.TugX.Made f s1.heap h' e C d v') (q1 : ∀ d, H1 d = none → Q (.ref C) (some d) (upd H1 d (.xd [(f, v)]))) : MkP X pins σ Q (.ref e) { s1 with heap := h', toks := tk' } := by
  obtain ⟨hp, g, dr, tk, os⟩ := s1
  obtain ⟨oe, fv, hoe, hc, hd, hdat, h1⟩ := M.obj
  have hns := M.ns
  obtain ⟨G', g1, g2⟩ := restrict h' fun b => decide (b ≠ e)
  have gk : ∀ b, b ≠ e → G'.get? b = h'.get? b := fun b hb => g1 b (decide_eq_true hb)
  have ge : G'.get? e = none := g2 e (by simp)
  have old : ∀ b o, hp.get? b = some o → G'.get? b = some o := fun b o q => (gk b (Nat.ne_of_lt (Nat.lt_of_lt_of_le (Heap.lt_size q) M.new))).trans (M.keep b o q)
  have ob : ObjOk X.prog X.w (upd H1 d (.xd [(f, v)])) G' d (.xd [(f, v)]) :=
    ⟨_, hns.at (fun o q => (gk d M.dne).trans q), fun g => relO_one rv g⟩
  have J : Inv X pins σ (upd H1 d (.xd [(f, v)])) ⟨G', g, dr, tk', os⟩ := I1.laid (t' := tk') old M.dbig ob
  refine ⟨e, oe, fv, ⟨G', g, dr, tk', os⟩, _, .ref C, some d, rfl, J, fun b o q => ?_, ge, hoe, ⟨hc, hd⟩, hdat, h1, ?_, rfl, I1.bare, raises_own T.exC T.tyC, q1 d (I1.hok.fresh M.dbig)⟩
  · by_cases hb : b = e
    · have q' : G'.get? b = some o := q
      rw [hb, ge] at q'; cases q'
    · exact (gk b hb).symm.trans q
  · rw [upd_ne (Ne.symm M.dne)]
    exact I1.hok.fresh M.new
theorem pmk_x {a : Expr} {ta : TA} {p pos : Pos} {k : Nat} (T : PySem.TugX.XTxt X.prog X.K X.mg n f m qual C fI cc cda) (hr : Room k X.A) (ha : PA X [a] ta) (hg : Gl X n)
    (he : starEach (a :: []) X.env = (false, eval a X.env) :: starEach [] X.env := by rfl) (hpl : (backTo pos (starEach [] X.env)).any (·.1) = false := by rfl) (hdb : (n == ("__debug__" : Str)) = false := by decide) :
    PMk X (.Call (.Name n p) [a] [] pos) (tMkX C f ta) := by
  intro pins s σ H Q I h
  refine wpAny_Call_Name_kw (ld_glob I hg T.gC ?_ hdb)
  refine PySem.W.callWith_K (h₀ := X.base) I.ok.mod.kin T.kC (thn (ha.run pos pins s σ H _ I h) fun us s1 hh => ?_) he hpl
  obtain ⟨vs, H1, I1, r1, v, ev, q1⟩ := hh
  subst ev
  refine ⟨I1.kIn, ?_⟩
  cases r1 with
  | cons rv rn =>
    rename_i v' us'
    cases rn
    show wpAny _ _ (call (.ref C) [v']) _ _ _
    obtain ⟨mb, hb1, hb2⟩ := I1.mod.blt
    exact wpAny_call (PySem.TugX.x_made T I1.kIn (I1.mod.glob.keeps I1.bk) (hb1.keeps I1.bk) hb2 I1.nolimit (by have := hr.dp; omega) fun h' tk' e d M => mk_made T I1 rv M q1)
theorem pmk_xk {a : Expr} {te : TE} {p pos kpos : Pos} {k : Nat} (T : PySem.TugX.XTxt X.prog X.K X.mg n f m qual C fI cc cda) (hr : Room k X.A) (ha : PE X a te) (hg : Gl X n)
    (hall : (backToKw pos (keywordEach [⟨some f, a, kpos⟩] X.env)).all (·.1.isSome) = true := by rfl) (hks : (backToKw pos (keywordEach [⟨some f, a, kpos⟩] X.env)).filterMap (·.1) = [f] := by rfl) (hdb : (n == ("__debug__" : Str)) = false := by decide)
    (hpl : ((backTo pos (starEach [] X.env)).any (·.1) || (backToKw pos (keywordEach [⟨some f, a, kpos⟩] X.env)).any (·.1.isNone)) = false := by rfl) :
    PMk X (.Call (.Name n p) [] [⟨some f, a, kpos⟩] pos) (tMkX C f (tCons te tNil)) := by
  intro pins s σ H Q I h
  refine wpAny_Call_Name_kw (ld_glob I hg T.gC ?_ hdb)
  refine PySem.W.callWith_KW0 (h₀ := X.base) I.ok.mod.kin T.kC hall ?_ hpl
  refine thn ((pk_cons ha pk_nil).run pos pins s σ H _ I h) fun ws s1 ⟨zs, H1, I1, rz, v, ev, q1⟩ => ⟨I1.kIn, ?_⟩
  subst ev
  rw [hks]
  cases rz with
  | cons rv rn =>
    cases rn
    rename_i v' hAP
    show wpAny _ _ (call (.ref C) [] [(f, v')]) _ _ _
    obtain ⟨mb, hb1, hb2⟩ := I1.mod.blt
    exact wpAny_call (PySem.TugX.x_made_kw T I1.kIn (I1.mod.glob.keeps I1.bk) (hb1.keeps I1.bk) hb2 I1.nolimit (by have := hr.dp; omega) fun h' tk' e d M => mk_made T I1 rv M q1)
end

/-! ### a caught exception that is kept -/
/-- at a: an exception of the class cls, its own dict d, caught and kept -/
def ExV (cls : Value) (d : Option Addr) (a : Addr) : HO := .ext fun h => ∃ (oe : Obj) (vs : Array Value), h.get? a = some oe ∧ Zc cls d oe ∧ oe.data = .fields vs
theorem exV_ok {P : Program} {w : World} {H : Hp} {h : Heap} {a : Addr} {cls : Value} {d : Option Addr} {oe : Obj} {vs : Array Value} (e : h.get? a = some oe) (z : Zc cls d oe) (hd : oe.data = .fields vs) : ObjOk P w H h a (ExV cls d a) :=
  ⟨⟨oe, vs, e, z, hd⟩, ⟨oe, e⟩, fun _ _ ⟨o, v, q, r⟩ k => ⟨o, v, k o q, r⟩⟩
theorem exV_at {P : Program} {w : World} {H : Hp} {h : Heap} {a : Addr} {cls : Value} {d : Option Addr} (hok : HOk P w H h) (he : H a = some (ExV cls d a)) : ∃ (oe : Obj) (vs : Array Value), h.get? a = some oe ∧ Zc cls d oe ∧ oe.data = .fields vs := by
  have x : ObjOk P w H h a (.ext fun h => ∃ (oe : Obj) (vs : Array Value), h.get? a = some oe ∧ Zc cls d oe ∧ oe.data = .fields vs) := hok a _ he
  exact x.1
section
variable {X : Cx} {pins : List (Addr × Obj)} {σ : St} {H : Hp} {s : Shared} {a : Addr} {cls : Value} {d : Option Addr} {oe : Obj} {vs : Array Value}
theorem Inv.trackX (I : Inv X pins σ H s) (he : s.heap.get? a = some oe) (hd : oe.data = .fields vs) (z : Zc cls d oe) (na : H a = none) (n0 : X.s_0.heap.get? a = none) (nL : a ≠ X.env.locals) (npin : ∀ p ∈ X.pn ++ pins, p.1 ≠ a) :
    Inv X pins σ (upd H a (ExV cls d a)) s := by
  have ne0 : ∀ b o, X.s_0.heap.get? b = some o → b ≠ a := fun b o e z => by
    rw [z, n0] at e
    cases e
  refine ⟨I.ok, I.os, I.bare, ⟨I.base.keep, I.base.slot, fun b o e n hb => ?_, I.base.there, fun b xs e => ?_, fun b o u e => ?_, fun b ps e => ?_⟩, I.loc, I.cell, ?_, fun x c e => ?_, fun p hp => ?_, fun b u e => ?_, I.len⟩
  · rw [upd_ne (ne0 b o e)]
    exact I.base.free b o e n hb
  · have q := I.base.tups b xs e
    rw [upd_ne (ne_of_none q na)]
    exact q
  · have q := I.base.frzs b o u e
    rw [upd_ne (ne_of_none q na)]
    exact q
  · obtain ⟨m, q⟩ := I.base.tbls b ps e
    exact ⟨m, by rw [upd_ne (ne_of_none q na)]; exact q⟩
  · rw [upd_ne (Ne.symm nL)]
    exact I.free
  · have nc : c ≠ a := fun q => by
      obtain ⟨v, o, ho, hdc⟩ := I.cell x c e
      rw [q, he] at ho
      cases ho
      rw [hd] at hdc
      cases hdc
    rw [upd_ne nc]
    exact I.freeC x c e
  · obtain ⟨e, n, ne, nf, dd⟩ := I.pin p hp
    exact ⟨e, by rw [upd_ne (npin p hp)]; exact n, ne, nf, dd⟩
  · by_cases hb : b = a
    · subst hb
      rw [upd_same] at e
      cases e
      exact exV_ok he z hd
    · rw [upd_ne hb] at e
      exact (I.hok b u e).stay (fun c v _ q => q) (fun c q => by rw [upd_ne (ne_of_none q na)]; exact q) fun c xs q => by rw [upd_ne (ne_of_none q na)]; exact q
end
/-- what is sought behind a suite that kept its exception -/
abbrev Ends.keep (D : Ends) (i : Nat) (cls : Value) (d : Option Addr) (a : Addr) : Ends :=
  { nx := fun σ' H' => D.nx (σ'.set i none) (upd H' a (ExV cls d a)), rt := fun v H' => D.rt v (upd H' a (ExV cls d a)), bk := fun σ' H' => D.bk (σ'.set i none) (upd H' a (ExV cls d a)), ct := fun σ' H' => D.ct (σ'.set i none) (upd H' a (ExV cls d a)) }
section
variable {X : Cx} {pins : List (Addr × Obj)} {D : Ends} {f : Flow} {s sI : Shared} {σ : St} {H : Hp} {a : Addr} {cls : Value} {d : Option Addr} {i : Nat} {n : Str}
theorem SP.ofTry {xe : Value → Shared → Prop} (ok : X.Ok) (h : SP (X.tr (X.pn ++ pins) xe) [] D f s) : SP X pins D f s := by
  cases f with
  | ret u => obtain ⟨v, σ', H', J, r, q⟩ := h; exact ⟨v, σ', H', J.ofTry ok, r, q⟩
  | next => obtain ⟨σ', H', J, q⟩ := h; exact ⟨σ', H', J.ofTry ok, q⟩
  | brk => obtain ⟨σ', H', J, q⟩ := h; exact ⟨σ', H', J.ofTry ok, q⟩
  | cont => obtain ⟨σ', H', J, q⟩ := h; exact ⟨σ', H', J.ofTry ok, q⟩
/-- the suite's end: the exception is tracked from here on, its name goes -/
theorem SP.kept {M : Model} {A : Around} {E : Value → Shared → Prop} {oe : Obj} {vs : Array Value} {pos : Pos} (ok : X.Ok) (hN : X.N.Nodup) (hi : X.N[i]? = some n) (hln : X.env.kindOf n = some .local) (hd : oe.data = .fields vs) (hz : Zc cls d oe)
    (n0 : X.s_0.heap.get? a = none) (nL : a ≠ X.env.locals) (np : ∀ p ∈ X.pn ++ pins, p.1 ≠ a) (h : SP (X.suite a ((a, oe) :: (X.pn ++ pins))) [] (D.keep i cls d a) f s) :
    wpAny M A (do bindName X.env n .none; unbindBehindTheSuite X.env n pos) (fun _ s' => SP X pins D f s') E s := by
  have go : ∀ {σ' : St} {H' : Hp} {Q : Unit → Shared → Prop}, Inv (X.suite a ((a, oe) :: (X.pn ++ pins))) [] σ' H' s → (∀ s', Inv X pins (σ'.set i none) (upd H' a (ExV cls d a)) s' → Q () s') →
      wpAny M A (do bindName X.env n .none; unbindBehindTheSuite X.env n pos) Q E s := fun {σ' H' Q} J k => by
    have P := J.pin (a, oe) (List.mem_append_left _ List.mem_cons_self)
    exact gone_ok ((J.unsuite ok).trackX P.1 hd hz P.2.1 n0 nL np) hN hi hln k
  cases f with
  | ret u => obtain ⟨v, σ', H', J, r, q⟩ := h; exact go J fun s' J' => ⟨v, _, _, J', r, q⟩
  | next => obtain ⟨σ', H', J, q⟩ := h; exact go J fun s' J' => ⟨_, _, J', q⟩
  | brk => obtain ⟨σ', H', J, q⟩ := h; exact go J fun s' J' => ⟨_, _, J', q⟩
  | cont => obtain ⟨σ', H', J, q⟩ := h; exact go J fun s' J' => ⟨_, _, J', q⟩
/-- an exception in the air of a def is newer than the def's entry, and no pin's -/
theorem sky_new {B h : Heap} {o : Obj} {vs : Array Value} {Z : Obj → Prop} {L : Addr} (I : Inv X pins σ H sI) (hex : X.ex = []) (nb : ∀ b o, sI.heap.get? b = some o → b ∉ frs X.stack → B.get? b = some o) (sky : Sky B X.stack a Z L s.heap)
    (ff : h.FunFrames B X.stack) (he : h.get? a = some o) (hd : o.data = .fields vs) : a ∉ frs X.stack ∧ X.s_0.heap.get? a = none ∧ ∀ p ∈ X.pn ++ pins, p.1 ≠ a := by
  have nB : B.get? a = none := by
    rcases sky with ⟨_, q, _⟩ | ⟨_, q, _⟩ | ⟨_, q, _⟩ <;> exact q
  have nf : a ∉ frs X.stack := fun hm => by
    obtain ⟨_, o', e', hn⟩ := ff.mem hm
    rw [he] at e'
    cases e'
    exact hn _ hd
  have nI : sI.heap.get? a = none := Option.eq_none_iff_forall_ne_some.mpr fun u q => by
    have z := nb a u q nf
    rw [nB] at z
    cases z
  refine ⟨nf, Option.eq_none_iff_forall_ne_some.mpr fun u q => ?_, fun p hp z => ?_⟩
  · obtain ⟨u', q'⟩ := I.base.there a u q (by rw [hex]; exact fun z => nomatch z)
    rw [nI] at q'
    cases q'
  · have q := (I.pin p hp).1
    rw [z, nI] at q
    cases q
end
/-- what the clause 'except x as n' wishes, the exception kept behind it -/
def wKeep (K : PySem.W.Frag) (c : Value) (i : Nat) (ts : Addr → Value → Option Addr → TS) (Wout : WX) (D : Ends) : WX := fun cls d σ H =>
  ∃ b, PySem.W.exmOne K cls c = some b ∧ (b = true → ∀ a, H a = none → ts a cls d (D.keep i cls d a) (σ.set i (some (.ref a))) H) ∧ (b = false → Wout cls d σ H)
section
variable {X : Cx} {x n : Str} {c : Value} {i : Nat} {body suite : List Stmt} {b₀ : Stmt} {np pos pos' : Pos} {tb : WX → TS} {ts : Addr → Value → Option Addr → TS} {Wout : WX}
theorem ps_try_keep (hs : X.stack = X.env :: X.outer) (hf : X.env.frame = some X.env.locals) (hex : X.ex = []) (hN : X.N.Nodup) (hi : X.N[i]? = some n) (hln : X.env.kindOf n = some .local) (hc : Names X x c) (tk : Takes X Wout)
    (hb : ∀ (W : WX) (pn : List (Addr × Obj)) (xe : Value → Shared → Prop), Takes (X.tr pn xe) W → PassesOwn (model X.prog X.w) X.A X.env xe → PSs (X.tr pn xe) body (tb W))
    (hsu : ∀ (a : Addr) (oe : Obj) (cls : Value) (d : Option Addr) (pn : List (Addr × Obj)), Zc cls d oe → (∃ vs, oe.data = .fields vs) → PSs (X.suite a ((a, oe) :: pn)) (b₀ :: suite) (ts a cls d)) :
    PS X (.Try body [.ExceptHandler (some (.Name x np)) (some n) (b₀ :: suite) pos'] [] [] pos) (fun D σ H => tb (wKeep X.K c i ts Wout D) D σ H) := by
  refine ⟨fun pins s σ H D I h => wpAny_Try_except ?_⟩
  have ok := I.ok
  have hfr : X.A.frames = some (X.env :: X.outer) := by rw [ok.frames, hs]
  have caught : Takes (X.tr (X.pn ++ pins) fun e s₁ => wpAny (model X.prog X.w) X.A (noteFrame e X.env) (fun _ s₂ => wpAny (model X.prog X.w) X.A (setFlight e none) (fun _ s₃ =>
      wpAny (model X.prog X.w) X.A (handleBy e X.env [.ExceptHandler (some (.Name x np)) (some n) (b₀ :: suite) pos']) (SP X pins D) X.xe s₃) X.xe s₂) X.xe s₁) (wKeep X.K c i ts Wout D) := by
    rintro u s' ⟨a, B, sI, pins', σ', H', cls, d, rfl, J', nb, up, sky, na, os, ag, b, hb1, hyes, hno⟩
    have J : Inv X pins σ' H' sI := J'.ofTry ok
    refine Sky.land (outer := X.outer) (L := X.env.locals) Zc.steady hfr hf (by rw [← hs]; exact sky) fun h3 fl3 up3 => ?_
    obtain ⟨oe3, vs3, he3, hz3, hd3⟩ := fl3.there
    obtain ⟨nfr, n0, npin⟩ := sky_new J hex nb sky (by rw [hs]; exact fl3.2.2.1) he3 hd3
    rw [hs] at nfr
    have nL : a ≠ X.env.locals := fun z => nfr (List.mem_filterMap.mpr ⟨X.env, List.mem_cons_self, hf.trans (congrArg some z.symm)⟩)
    have nF : a ∉ X.fs := fun hm => nfr ((List.mem_filterMap.mp hm).elim fun e he => List.mem_filterMap.mpr ⟨e, List.mem_cons_of_mem _ he.1, he.2⟩)
    -- the state of the suite, whatever heap the flight has left
    have J3 : Inv X pins σ' H' { s' with heap := h3 } := J.landed nb fl3.1 (up.trans up3) os ag
    have S3 := J3.suite he3 hd3 na nL nF
    have LT : PySem.W.Looks (model X.prog X.w) h3 (typeOf (.ref a)) cls := fun A Q E s k q => wpAny_typeOf_ref (k _ _ he3) (by rw [hz3.1]; exact q)
    have named : ∀ {Q : Value → Shared → Prop} {E : Value → Shared → Prop}, Q c { s' with heap := h3 } → wpAny (model X.prog X.w) (X.A.mark (some (.ref a))) (eval (.Name x np) X.env) Q E { s' with heap := h3 } := fun q =>
      hc.2.2.elim (fun hm => ld_glob (X := X.suite a ((a, oe3) :: (X.pn ++ pins))) S3 hc.1 hm q hc.2.1) fun hm => ld_blt (X := X.suite a ((a, oe3) :: (X.pn ++ pins))) S3 hc.1 hm.1 hm.2.1 q hm.2.2 hc.2.1
    refine wpAny_handleBy_cons (codeAny_handlers_test (named ((PySem.W.exm_one J3.kIn LT hb1).here ?_))) (fun q => nomatch q)
    cases b with
    | true =>
      refine codeAny_handlers_suite_as (HandSPX.lands_againZ fl3 fun h4 fl4 up4 => ?_)
      obtain ⟨oe4, vs4, he4, hz4, hd4⟩ := fl4.there
      have S4 := (J.landed (s' := { s' with heap := h4 }) nb fl4.1 ((up.trans up3).trans up4) os ag).suite he4 hd4 na nL nF
      refine store_ok (X := X.suite a ((a, oe4) :: (X.pn ++ pins))) (v := .ref a) S4 hN hi (.inl hln) rfl (fun s5 S5 => ?_) (.inr hln)
      exact wpAny_mono ((hsu a oe4 cls d (X.pn ++ pins) hz4 ⟨_, hd4⟩).run [] s5 _ H' _ S5 (hyes rfl a na)) (fun f s6 e => SP.kept ok hN hi hln hd4 hz4 n0 nL npin e) fun _ _ z => z.elim
    | false =>
      refine wpAny_handleBy_nil ?_
      obtain ⟨_, _, _, oe, vs, T, _, _, he, _, hd, h1, _⟩ := id fl3
      have fly : wpAny (model X.prog X.w) X.A (setFlight (.ref a) X.env.frame) (fun _ s4 => wpAny (model X.prog X.w) X.A (throw (.ref a) : Sem Flow) (SP X pins D) X.xe s4) X.xe { s' with heap := h3 } := by
        rw [hf]
        exact HandSPX.setFlight_upZ fl3 fun h4 hh4 up4 => wpAny_throw (tk _ _ ⟨a, B, sI, pins, σ', H', cls, d, rfl, J, nb, (up.trans up3).trans up4, .inr (.inr (by rw [hs]; exact hh4)), na, os, ag, hno rfl⟩)
      unfold PySem.passOn
      refine wpAny_bind (wpAny_field he hd h1 ?_)
      rw [if_neg (show ¬ ((Value.ref T == Value.none) = true) from by simp)]
      first
        | exact wpAny_bind (wpAny_pure (wpAny_bind fly))
        | exact wpAny_bind fly
  refine wpAny_mono ((hb _ (X.pn ++ pins) _ caught PassesOwn.looking).run [] s σ H D (I.toTry _) h) (fun f s1 e => ?_) fun _ _ e => e
  have e' := SP.ofTry ok e
  cases f with
  | next => exact wpAny_execs_nil e'
  | ret _ => exact e'
  | brk => exact e'
  | cont => exact e'
end
/-! ### its field, read -/
def tXv (K : PySem.W.Frag) (f : Str) (te : TE) : TE := fun σ H Q => te σ H fun x H1 => ∃ (a C dd : Addr) (fs : List (Str × V)) (v : V), x = .ref a ∧ H1 a = some (ExV (.ref C) (some dd) a) ∧ XfC K C ∧ PySem.W.findIn K (.ref C) f = some none ∧ H1 dd = some (.xd fs) ∧ fs.lookup f = some v ∧ Q v H1
theorem pe_xv {X : Cx} {e : Expr} {te : TE} {pos : Pos} {n : Str} (he : PE X e te) (hb : attributeBase e n X.env (eval e X.env) = eval e X.env := by rfl) : PE X (.Attribute e n pos) (tXv X.K n te) := by
  refine ⟨fun pins s σ H Q I h => ?_⟩
  refine attr_of hb (thn (he.run pins s σ H _ I h) fun u s1 hh => ?_)
  obtain ⟨x, H1, I1, rx, a, C, dd, fs, v, ex, e1, T, hno, ea, l, q⟩ := hh
  subst ex
  obtain rfl : u = Value.ref a := rx
  obtain ⟨oe, vs, ha, hz, hd⟩ := exV_at I1.hok e1
  have hx : ObjOk X.prog X.w H1 s1.heap dd (.xd fs) := I1.hok dd _ ea
  obtain ⟨mA, hns, hr⟩ := hx
  obtain ⟨od, ho, hl⟩ := lookIn_ns hns
  obtain ⟨u, hu, ru⟩ := RelO.some_of (v := v) (o := mA n) (by rw [← l]; exact hr n)
  have J : PySem.W.InstAt s1.heap a oe C (some od) := ⟨ha, hz.1, by unfold PySem.W.notCls; rw [hd] <;> rfl, by rw [hz.2]; exact ho⟩
  exact HandSPX.exc_get I1.kIn J T.ga T.gg T.exC (PySem.W.findObj_own T.hdC hno rfl (by rw [hl, hu])) (handed_of ru) ⟨v, H1, I1.tok _, ru, q⟩
end L2
namespace L2
open PySem PySem.Spec PyProof.Rows
/-! ### isinstance of a kept exception -/
theorem call_isX {X : Cx} : CallR X (.builtin "isinstance") (fun xs H Q => ∃ (a D dd : Addr) (fs : List (Str × V)) (c : V) (cv : Value) (b : Bool), xs = [.ref a, c] ∧ H a = some (ExV (.ref D) (some dd) a) ∧ H dd = some (.xd fs) ∧ ExcC X.K D ∧ (∀ u, RelV c u → u = cv) ∧ PySem.W.kitOne X.K (.ref D) cv = some b ∧ Q (.bl b) H) := by
  intro pins s σ H xs us Q I r h
  obtain ⟨a, D, dd, fs, c, cv, b, rfl, hx, hdd, C, hcv, e, q⟩ := h
  cases r with
  | cons rx rr =>
    cases rr with
    | cons rt rr =>
      cases rr
      cases rx
      have ec := hcv _ rt
      subst ec
      obtain ⟨oe, vs, ha, hz, hd⟩ := exV_at I.hok hx
      have hxd : ObjOk X.prog X.w H s.heap dd (.xd fs) := I.hok dd _ hdd
      obtain ⟨mA, hns, _⟩ := hxd
      obtain ⟨od, ho, _⟩ := lookIn_ns hns
      have J : PySem.W.InstAt s.heap a oe D (some od) := ⟨ha, hz.1, by unfold PySem.W.notCls; rw [hd] <;> rfl, by rw [hz.2]; exact ho⟩
      have hcl : (PySem.W.clsIn X.K D).isSome = true := by
        obtain ⟨cd, hc, _⟩ := PySem.W.any_some C.hd
        rw [hc]; rfl
      exact PySem.W.kia_one (PySem.W.kitx_exc hcl C.hg C.hk C.hs C.ha C.hn C.ht C.hm) I.kIn J e (fun z => nomatch z) fun tk => ⟨.bl b, H, I.kept (t' := tk) fun _ _ z => z, rfl, q⟩
/-! ### repr of data, where no guard is on the stack -/
theorem call_reprD {X : Cx} (hg : X.A.guards = some []) (hu : X.A.units + 64 < cLine) : CallR X (.builtin "repr") (fun xs H Q => ∃ (v : V) (d : PyData), xs = [v] ∧ Dp X.K H v d ∧ d.showable = true ∧ d.hasDict = false ∧ d.depth < 60 ∧ d.shown.length ≤ sizeLine ∧ Q (.str d.shown) H) := by
  intro pins s σ H xs us Q I r h
  obtain ⟨v, d, rfl, hD, hs, hnd, hdp, hsz, q⟩ := h
  cases r with
  | cons rv rr =>
    cases rr
    rename_i u
    have dn : Q (.str d.shown) H → EP X pins σ Q (.str d.shown s.toks) { s with toks := s.toks + 1 } := fun q => ⟨.str d.shown, H, I.tok _, ⟨_, rfl⟩, q⟩
    have rd : ∀ a : Addr, u = Value.ref a → wpAny (model X.prog X.w) X.A (call (.builtin "repr") [u]) (EP X pins σ Q) X.xe s := fun a e => by
      subst e
      obtain ⟨as, hr⟩ := Dp.reads I d v (.ref a) hD rv
      exact repr_of_reads' (h₀ := s.heap) hr hs (PyData.noDict_hsm hnd) hg (by omega) (fun _ _ e => e) (fun h' u tk hk => ⟨.str d.shown, H, I.kept (h' := h') (t' := tk) hk, ⟨_, rfl⟩, q⟩) hsz
    cases hD with
    | non => cases rv; exact PySem.P.repr_of_none (dn q)
    | bl b =>
      cases rv
      have e : (PyData.bool b).shown = (if b then ("True" : Str) else "False") := by cases b <;> rfl
      refine PySem.P.repr_of_bool ?_
      have z := dn q
      rw [e] at z
      cases b <;> exact z
    | int i =>
      obtain ⟨t, rfl⟩ := rv
      exact PySem.P.repr_of_int (of_decide_eq_true hs) (dn q)
    | str x =>
      obtain ⟨t, rfl⟩ := rv
      exact PySem.P.repr_of_str (dn q) hsz
    | lst h1 h2 => exact rd _ rv
    | tup h1 h2 => exact rd _ rv

/-! ### defs that are run where no guard is on the stack: a def's promise at such a call -/
structure FnG (P : Program) (w : World) (K : PySem.W.Frag) (mg : Str → Option Value) (base : Heap) (CX : CXT) (k : Nat) (f : Addr) (fd : FuncData) (ps : List Str) (sp : Sp) : Prop where
  len : ∀ vs H Q E, sp vs H Q E → vs.length = ps.length
  go : ∀ (A : Around) (outer : List Env) (s : Shared) (H : Hp) (args : Args) (us : List Value) (vs : List V) (Q : VK) (E : XK), A.guards = some [] → Room k A → Env0 P w K mg base A outer s H → BindsTo s fd args (ps.zip us) → Vals vs us → sp vs H Q E →
    codeAny (model P w) A (.call (.ref f) args) (CR CX outer P w H s Q E) s
section
variable {CX : CXT} {P : Program} {w : World} {K : PySem.W.Frag} {mg : Str → Option Value} {base : Heap} {N ps : List Str} {qual : Str} {scope : Scope} {f : Addr} {cd : Value} {A : Around} {outer : List Env} {s s' : Shared} {H : Hp} {E : XK} {Q : VK}
/-- what a body hands back -/
def flV : Flow → Value
  | .ret v => v
  | _ => .none
/-- how a body's end is a call's end -/
theorem back_of {fl : Flow} (h : SP (cxOf CX P w K mg base N qual scope f cd A outer s H E) [] { nx := fun _ H' => Q .non H', rt := Q } fl s') : CR CX outer P w H s Q E (.ok (.ret (flV fl))) s' := by
  cases fl with
  | ret u => obtain ⟨v, _, H', J, rv, q⟩ := h; exact ⟨v, H', J.os, J.bare, J.base, J.hok, rv, q⟩
  | next => obtain ⟨_, H', J, q⟩ := h; exact ⟨V.non, H', J.os, J.bare, J.base, J.hok, rfl, q⟩
  | brk => obtain ⟨_, _, _, q⟩ := h; exact False.elim q
  | cont => obtain ⟨_, _, _, q⟩ := h; exact False.elim q
theorem guards_in {env : Env} (h : A.guards = some []) : (A.deeper env).guards = some [] := by
  first
    | exact h
    | (unfold Around.deeper; exact h)
    | simp [Around.deeper, h]
/-- a def of the text, by its body, at such a call -/
theorem Fun.okG {x : Str} {st : Stmt} {fd : FuncData} {k : Nat} {sp : Sp} (F : Fun K x qual st f fd) (S : FnScope N ps (defScope st)) (len : ∀ vs H Q E, sp vs H Q E → vs.length = ps.length)
    (body : ∀ (cdv : Value) (A : Around) (outer : List Env) (s : Shared) (H : Hp) (vs : List V) (Q : VK) (E : XK), (A.deeper (envOfC qual (defScope st) s.heap.objs.size f cdv)).guards = some [] → Room k (A.deeper (envOfC qual (defScope st) s.heap.objs.size f cdv)) → sp vs H Q E →
      ∃ t, PSs (cxOf CX0 P w K mg base N qual (defScope st) f cdv A outer s H E).nox (defBody st) t ∧ t { nx := fun _ H' => Q .non H', rt := Q } (start N vs) H) : FnG P w K mg base CX0 (k + 1) f fd ps sp := by
  obtain ⟨oc, od, kV, doc, pm, an, cdv, ct, osl, rfl, lk, hcd⟩ := F.ex
  refine ⟨len, fun A outer s H args us vs Q E hgd hr e0 hb r hsp => ?_⟩
  have old : ∀ b o, base.get? b = some o → s.heap.get? b = some o := fun b o e => (e0.bs b o e).1
  have KX : K.In s.heap := e0.mod.kin.keeps old
  refine codeAny_call_function hr.depth (KX _ _ lk) rfl S.co S.gen rfl (PySem.W.codeRec_of KX hcd) (hb _ _ _ _ (wpAny_newFunctionEnv_cells S.kind (fun y hy => ?_) fun env he s1 x => ?_))
  · cases y with
    | mk n v =>
      have hn := S.par n (List.of_mem_zip hy).1
      exact hn.imp id fun q => ⟨q, PySem.W.cellsFrom_some _ _ _ (.inl q)⟩
  · subst he
    obtain ⟨t, ht, hq⟩ := body cdv A outer s H vs Q E (guards_in hgd) (hr.deeper _) hsp
    have I := inv_start (CX := CX0) (N := N) (qual := qual) (f := f) (cd := cdv) (E := E) S hr.hd e0 (len _ _ _ _ hsp) r x
    exact ⟨(e0.mod.nolimit.keeps old).keeps x.toInCall.keep, codeAny_func (wpAny_mono (ht.nox.run [] s1 (start N vs) H _ I hq) (fun fl s' hs => by have z := back_of hs; cases fl <;> exact z) fun _ _ z => z)⟩
end
/-! ### the end of a law's row, no guard on the stack, the script's bits told -/
section
variable {K : PySem.W.Frag} {P : Program} {w : World}
/-- the script alone is tracked: locked, where it is no object of the written part -/
theorem script_hp {h : Heap} {a : Addr} {vs : List Value} {ns : List Int} (X : K.In h) (ha : h.get? a = some { cls := .type "list", data := .seq vs.toArray }) (hi : IntsAre vs ns) (hl : ns.length ≤ sizeLine) :
    ∃ H : Hp, (∀ b u, H b = some u → b = a ∧ u = .frz { cls := .type "list", data := .seq vs.toArray } (.lst (ns.map V.int))) ∧ (∀ b o, K.lookup b = some o → H b = none) ∧ SqL K H a (ns.map V.int) ∧ HOk P w H h := by
  have rv := vals_ints hi
  by_cases hk : K.lookup a = none
  · refine ⟨upd (fun _ => none) a (.frz { cls := .type "list", data := .seq vs.toArray } (.lst (ns.map V.int))), fun b u e => ?_, fun b o e => ?_, .inl (.inr ⟨_, upd_same⟩), fun b u e => ?_⟩
    · by_cases hb : b = a
      · subst hb; rw [upd_same] at e; exact ⟨rfl, (Option.some.inj e).symm⟩
      · rw [upd_ne hb] at e; cases e
    · exact upd_ne fun hb => by rw [hb, hk] at e; cases e
    · by_cases hb : b = a
      · subst hb; rw [upd_same] at e; cases e
        exact ⟨ha, by rw [List.length_map]; exact hl, vs, _, rv, ha⟩
      · rw [upd_ne hb] at e; cases e
  · obtain ⟨o, ho⟩ := Option.ne_none_iff_exists'.mp hk
    have e := X a o ho
    rw [ha] at e
    cases e
    refine ⟨fun _ => none, fun b u e => (nomatch e), fun _ _ _ => rfl, .inr ⟨_, vs.toArray, _, ho, rfl, rfl, rfl, ?_, by simpa using rv⟩, fun b u e => (nomatch e)⟩
    have := hi.length
    rw [List.size_toArray]; omega
theorem walk_G {l : PySem.W.OpenLaw} {n k : Nat} {q : Program} {loose : List Str} {XP : (Str → Option Value) → Heap → Prop} {YP : World → Heap → Prop} {d : DefRec} {K : Params → PySem.W.Frag} {sp : World → Sp} {x : Str}
    (hn : l.most = some n) (hn2 : n ≤ sizeLine) (hdf : d.params.defaults = []) (hr : Room k callerA) (hY : ∀ (w : World) (h : Heap), YP w h → (K w.params).In h)
    (F : ∀ (w : World) (mg : Str → Option Value) (fa : Addr) (h : Heap), (K w.params).In h → h.Ns mainGlobals mg → mg d.name = some (.ref fa) →
      ∃ fd : FuncData, (∀ (s : Shared) (u : Value), BindsTo s fd ⟨[u], []⟩ [(x, u)]) ∧ ∀ base : Heap, (K w.params).In base → base.Ns mainGlobals mg → FnG l.prog w (K w.params) mg base CX0 k fa fd [x] (sp w))
    (hsp : ∀ (w : World) (H : Hp) (a : Addr) (ns : List Int), ns.length ≤ n → (∀ z ∈ ns, Builtin.Int.intBits z ≤ 1048576) → SqL (K w.params) H a (ns.map V.int) → sp w [.ref a] H (fun v _ => v = .bl true) fun _ _ _ => False) :
    PySem.W.WalkO q loose XP YP l.row.toRowW d [] (fun f vs => PySem.call f vs) := by
  refine Att.attach_callB hn hdf fun w s₀ s₁ mg mb fa o pm cd doc a vs ns G Y ho hd hcd hmg hobj hints hlen hbits hg => ?_
  have KX := hY w _ Y
  obtain ⟨fd, hb, hF⟩ := F w mg fa _ KX G.T.g hmg
  obtain ⟨H, hO, hK, hS, hok⟩ := script_hp (P := l.prog) (w := w) KX hobj hints (Nat.le_trans hlen hn2)
  have free : ∀ {b : Addr} {u : Obj}, s₁.heap.get? b = some u → (∀ its m, u.data ≠ .seq its m) → H b = none := fun {b u} e nd => by
    cases z : H b with
    | none => rfl
    | some v =>
      obtain ⟨eb, _⟩ := hO b v z
      rw [eb, hobj] at e
      cases e
      exact absurd rfl (nd _ _)
  have ns' : ∀ {b : Addr} {m : Str → Option Value}, s₁.heap.Ns b m → (hidT s₁.heap H).Ns b m := fun {b m} ⟨u, es, ep, e, dd, r⟩ => ⟨u, es, ep, hidT_get e (free e fun its m z => by rw [dd] at z; cases z), dd, r⟩
  have KB : (K w.params).In (hidT s₁.heap H) := fun b u e => hidT_get (KX b u e) (hK b u e)
  have M : Mod (K w.params) mg (hidT s₁.heap H) := ⟨KB, ns' G.T.g, ⟨mb, ns' G.T.b, G.T.builtins⟩, G.T.nolimit.imp fun _ z => ⟨ns' z.1, z.2⟩⟩
  have e0 : Env0 l.prog w (K w.params) mg (hidT s₁.heap H) callerA [] s₁ H := ⟨rfl, M, fun b u e => of_hidT e, Nat.le_of_eq (hidT_size _ _), trivial, fun b hb => (nomatch hb), hok, .of_eq hg⟩
  refine codeAny_mono ((hF _ KB (ns' G.T.g)).go callerA [] s₁ H ⟨[.ref a], []⟩ [.ref a] [.ref a] _ _ rfl hr e0 (hb s₁ (.ref a)) (.cons rfl .nil) (hsp w H a ns hlen hbits hS)) fun r s' h => ?_
  rcases r with e | (u | _ | _ | _)
  · exact False.elim h
  · exact False.elim h
  · exact False.elim h
  · exact False.elim h
  · obtain ⟨v, H', os, bare, un, hok', r', q⟩ := h
    have q' : v = .bl true := q
    subst q'
    cases r'
    refine ⟨rfl, OldK.of_keep fun b u e => ?_, os, bare⟩
    cases z : H b with
    | none => exact un.keep b u e z (fun z => nomatch z) (fun z => nomatch z)
    | some t =>
      obtain ⟨eb, et⟩ := hO b t z
      subst et
      obtain ⟨e1, _⟩ := hok b _ z
      obtain ⟨e2, _⟩ := hok' b _ (un.frzs b _ _ z)
      exact e2.trans (e1.symm.trans e)
end
end L2
namespace Tug
open PySem L2
/-! ### the steps of a reading -/
section
variable {K : PySem.W.Frag} {σ : St} {H H1 : Hp} {Q : VK} {i : Nat} {v x y : V} {ta tb te : TE} {r : R2} {D : Ends} {t u : TS} {p q : Addr} {xs ys : List V} {c : TT} {tt : TA} {E : XK} {sp : Sp}
theorem rd_var (h : σ[i]? = some (some v)) (k : Q v H) : tVar i σ H Q := ⟨v, h, k⟩
theorem rd_c (k : Q v H) : tC v σ H Q := k
theorem rd_op (k : ta σ H fun x H1 => tb σ H1 fun y H2 => r x y H2 Q) : tOp r ta tb σ H Q := k
theorem rd_un {r : V → Hp → VK → Prop} (k : ta σ H fun x H1 => r x H1 Q) : tUn r ta σ H Q := k
theorem rd_neg {a : Int} (k : Q (.int (-a)) H) : rU (fun i => .int (-i)) (.int a) H Q := ⟨a, rfl, k⟩
theorem rd_I0 {g : Int → Int → V} {a b : Int} (k : Q (g a b) H) : rI0 g (.int a) (.int b) H Q := ⟨a, b, rfl, rfl, k⟩
theorem rd_I {C : Int → Int → Prop} {g : Int → Int → V} {a b : Int} (h : C a b) (k : Q (g a b) H) : rI C g (.int a) (.int b) H Q := ⟨a, b, rfl, rfl, h, k⟩
theorem rd_eq (h : scal x y = true) (k : Q (.bl (decide (x = y))) H) : rEq x y H Q := ⟨h, k⟩
theorem rd_ne (h : scal x y = true) (k : Q (.bl (!decide (x = y))) H) : rNe x y H Q := ⟨h, k⟩
theorem rd_nil {Q : List V → Hp → Prop} (k : Q [] H) : tNil σ H Q := k
theorem rd_cons {Q : List V → Hp → Prop} (k : ta σ H fun x H1 => tt σ H1 fun xs H2 => Q (x :: xs) H2) : tCons ta tt σ H Q := k
theorem rd_ixL {a : Int} (h : SqL K H p xs) (e : atI xs a = some v) (k : Q v H) : rIxL K (.ref p) (.int a) H Q := ⟨p, xs, a, v, rfl, rfl, h, e, k⟩
theorem rd_ixT {a : Int} (h : SqT K H p xs) (e : atI xs a = some v) (k : Q v H) : rIxT K (.ref p) (.int a) H Q := ⟨p, xs, a, v, rfl, rfl, h, e, k⟩
theorem rd_tup (k : tt σ H fun xs H1 => xs.length ≤ sizeLine ∧ ∀ p, H1 p = none → Q (.ref p) (upd H1 p (.tup xs))) : tTup tt σ H Q := k
theorem rd_lst (k : tt σ H fun xs H1 => xs.length ≤ sizeLine ∧ ∀ p, H1 p = none → Q (.ref p) (upd H1 p (.lst xs))) : tLst tt σ H Q := k
theorem rd_asg {g : TG} (k : te σ H fun x H1 => g x σ H1 D.nx) : tAsg te g D σ H := k
theorem rd_gname {R : St → Hp → Prop} (k : R (σ.set i (some v)) H) : gName i v σ H R := k
theorem rd_gsub {ti to : TE} {s : TSet} {R : St → Hp → Prop} (k : to σ H fun o H1 => ti σ H1 fun i H2 => s o i v H2 fun H3 => R σ H3) : gSub to ti s v σ H R := k
theorem rd_setL {a : Int} {j : Nat} {R : Hp → Prop} (h : H p = some (.lst xs)) (e : ixN xs.length a = some j) (k : R (upd H p (.lst (xs.set j v)))) : rSetL (.ref p) (.int a) v H R := ⟨p, xs, a, j, rfl, rfl, h, e, k⟩
theorem rd_seq (k : t { D with nx := u D } σ H) : tSeq t u D σ H := k
theorem rd_ret (k : te σ H D.rt) : tRet te D σ H := k
theorem rd_drop (k : te σ H fun _ H1 => D.nx σ H1) : tDrop te D σ H := k
theorem rd_next (k : D.nx σ H) : tNext D σ H := k
theorem rd_if (k : c σ H fun b H1 => if b = true then t D σ H1 else u D σ H1) : tIfS c t u D σ H := k
theorem rd_test {R : Bool → Hp → Prop} (k : te σ H fun x H' => ∃ k, x = .bl k ∧ R k H') : tTest te σ H R := k
theorem rd_B {R : Bool → Hp → Prop} (k : te σ H fun x H' => ∃ k, x = .bl k ∧ R k H') : tB te σ H R := k
theorem rd_bl {b : Bool} {R : Bool → Hp → Prop} (k : R b H) : ∃ c, V.bl b = .bl c ∧ R c H := ⟨b, rfl, k⟩
theorem rd_and {c d : TT} {R : Bool → Hp → Prop} (k : c σ H fun b H1 => if b = true then d σ H1 R else R false H1) : tAnd c d σ H R := k
theorem rd_or {c d : TT} {R : Bool → Hp → Prop} (k : c σ H fun b H1 => if b = true then R true H1 else d σ H1 R) : tOr c d σ H R := k
theorem rd_not {R : Bool → Hp → Prop} (k : c σ H fun b H1 => R (!b) H1) : tNot c σ H R := k
theorem rd_ifE (k : c σ H fun b H1 => if b = true then ta σ H1 Q else tb σ H1 Q) : tIf c ta tb σ H Q := k
theorem rd_call {dvs : List V} (k : tt σ H fun vs H1 => sp (vs ++ dvs) H1 Q E) : tCall sp dvs E tt σ H Q := k
theorem rd_cb {r : List V → Hp → VK → Prop} (k : tt σ H fun vs H1 => r vs H1 Q) : tCB r tt σ H Q := k
theorem rd_forL {g : TG} {tb : TS} (hv : σ[i]? = some (some (.ref p))) (hS : SqL K H p xs) (Pv : Nat → St → Hp → Prop) (h0 : Pv 0 σ H) (hl : ∀ i σ H, i ≤ xs.length → Pv i σ H → SqL K H p xs)
    (hs : ∀ i x σ H, xs[i]? = some x → Pv i σ H → g x σ H fun σ2 H2 => tb { D with nx := Pv (i + 1), ct := Pv (i + 1), bk := D.nx } σ2 H2) (hd : ∀ σ H, Pv xs.length σ H → D.nx σ H) : tFor (iList K (tVar i)) g tb D σ H :=
  ⟨_, hv, p, rfl, ⟨_, hS⟩, for_list Pv h0 hl hs hd⟩
theorem rd_nx {X b c : St → Hp → Prop} {r : VK} (k : X σ H) : (Ends.mk X r b c).nx σ H := k
theorem rd_decY {c A B : Prop} [Decidable c] (h : c) (k : A) : if decide c = true then A else B := by
  rw [decide_eq_true h, if_pos rfl]; exact k
theorem rd_decF {c A B : Prop} [Decidable c] (h : ¬ c) (k : B) : if decide c = true then A else B := by
  rw [decide_eq_false h, if_neg Bool.false_ne_true]; exact k
theorem rd_yes {R : Bool → Hp → Prop} (k : R true H) : tYes σ H R := k
theorem rd_dec {c A B : Prop} [Decidable c] (h1 : c → A) (h2 : ¬ c → B) : if decide c = true then A else B := by
  by_cases h : c
  · rw [decide_eq_true h, if_pos rfl]; exact h1 h
  · rw [decide_eq_false h, if_neg Bool.false_ne_true]; exact h2 h
theorem rd_decN {c A B : Prop} [Decidable c] (h1 : ¬ c → A) (h2 : c → B) : if (!decide c) = true then A else B := by
  by_cases h : c
  · rw [decide_eq_true h]; exact iteF (h2 h)
  · rw [decide_eq_false h]; exact iteT (h1 h)
theorem rd_sz {A : Prop} {n : Nat} (h : n ≤ 1000) (k : A) : n ≤ sizeLine ∧ A := ⟨Nat.le_trans h (by decide), k⟩
end
/-! ### calls of built-ins, their readings by name -/
def rLen (K : PySem.W.Frag) : List V → Hp → VK → Prop := fun xs H Q => ∃ p ys, xs = [.ref p] ∧ (SqL K H p ys ∨ SqT K H p ys) ∧ Q (.int ys.length) H
theorem call_len {X : Cx} : CallR X (.builtin "len") (rLen X.K) := call_len_seq
def rTupOf (K : PySem.W.Frag) : List V → Hp → VK → Prop := fun xs H Q => ∃ p ys, xs = [.ref p] ∧ ((SqL K H p ys ∧ ∀ l, H l = none → Q (.ref l) (upd H l (.tup ys))) ∨ (SqT K H p ys ∧ Q (.ref p) H))
theorem call_tupOf {X : Cx} : CallR X (.type "tuple") (rTupOf X.K) := call_tuple_of
def rMax2 : List V → Hp → VK → Prop := fun xs H Q => ∃ i j, xs = [.int i, .int j] ∧ Q (.int (if j > i then j else i)) H
theorem call_max {X : Cx} (hc : X.calm = true) : CallR X (.builtin "max") rMax2 := call_max2 hc
def rMin2 : List V → Hp → VK → Prop := fun xs H Q => ∃ i j, xs = [.int i, .int j] ∧ Q (.int (if j < i then j else i)) H
theorem call_min {X : Cx} (hc : X.calm = true) : CallR X (.builtin "min") rMin2 := call_min2 hc
def rRepr (K : PySem.W.Frag) : List V → Hp → VK → Prop := fun xs H Q => ∃ (v : V) (d : PyData), xs = [v] ∧ Dp K H v d ∧ d.showable = true ∧ d.hasDict = false ∧ d.depth < 60 ∧ d.shown.length ≤ sizeLine ∧ Q (.str d.shown) H
theorem call_repr {X : Cx} (hg : X.A.guards = some []) (hu : X.A.units + 64 < cLine) : CallR X (.builtin "repr") (rRepr X.K) := call_reprD hg hu
def rIsX (K : PySem.W.Frag) : List V → Hp → VK → Prop := fun xs H Q => ∃ (a D dd : Addr) (fs : List (Str × V)) (c : V) (cv : Value) (b : Bool), xs = [.ref a, c] ∧ H a = some (ExV (.ref D) (some dd) a) ∧ H dd = some (.xd fs) ∧ ExcC K D ∧ (∀ u, RelV c u → u = cv) ∧ PySem.W.kitOne K (.ref D) cv = some b ∧ Q (.bl b) H
theorem call_isx {X : Cx} : CallR X (.builtin "isinstance") (rIsX X.K) := call_isX
section
variable {K : PySem.W.Frag} {H : Hp} {Q : VK} {p : Addr} {xs : List V} {v : V} {d : PyData}
theorem rd_lenL (h : SqL K H p xs) (k : Q (.int xs.length) H) : rLen K [.ref p] H Q := ⟨p, xs, rfl, .inl h, k⟩
theorem rd_lenT (h : SqT K H p xs) (k : Q (.int xs.length) H) : rLen K [.ref p] H Q := ⟨p, xs, rfl, .inr h, k⟩
theorem rd_tupOf (h : SqL K H p xs) (k : ∀ l, H l = none → Q (.ref l) (upd H l (.tup xs))) : rTupOf K [.ref p] H Q := ⟨p, xs, rfl, .inl ⟨h, k⟩⟩
theorem rd_max {a b : Int} (k : Q (.int (if b > a then b else a)) H) : rMax2 [.int a, .int b] H Q := ⟨a, b, rfl, k⟩
theorem rd_min {a b : Int} (k : Q (.int (if b < a then b else a)) H) : rMin2 [.int a, .int b] H Q := ⟨a, b, rfl, k⟩
theorem rd_repr (h : Dp K H v d) (h1 : d.showable = true) (h2 : d.hasDict = false) (h3 : d.depth < 60) (h4 : d.shown.length ≤ sizeLine) (k : Q (.str d.shown) H) : rRepr K [v] H Q := ⟨v, d, rfl, h, h1, h2, h3, h4, k⟩
end
/-! ### great powers -/
/-- ** by a small exponent, of at most forty million bits -/
def CPowW (i j : Int) : Prop := 0 ≤ j ∧ j ≤ 5 ∧ i.natAbs.log2 < 20000000
theorem CPowW.ok {i j : Int} (h : CPowW i j) : (Builtin.Int.intBits i : Int) * j ≤ 2 ^ 27 := by
  have b : Builtin.Int.intBits i ≤ i.natAbs.log2 + 1 := by
    unfold Builtin.Int.intBits
    split <;> omega
  obtain ⟨h0, h1, h2⟩ := h
  have h3 : (Builtin.Int.intBits i : Int) ≤ 20000000 := by omega
  have h4 : (Builtin.Int.intBits i : Int) * j ≤ 20000000 * 5 := Int.mul_le_mul h3 h1 h0 (by decide)
  have e : (2 : Int) ^ 27 = 134217728 := by decide
  omega
theorem op_powW {X : Cx} : OpR X (binaryOp .Pow) (rI CPowW fun i j => .int (i ^ j.toNat)) := opI fun _ _ _ _ _ _ _ hc q => PyProof.Rows.pow_int hc.1 hc.ok q
theorem CPowW.of {i j : Int} (h0 : 0 ≤ j) (h1 : j ≤ 5) (h2 : -(2 ^ 64) < i) (h3 : i < 2 ^ 64) : CPowW i j := by
  refine ⟨h0, h1, ?_⟩
  have e : i.natAbs < 2 ^ 64 := by omega
  have := PySem.Flt.log2_lt_of (k := 64) (by decide) e
  omega
theorem bits_lt {z : Int} : z.natAbs < 2 ^ (Builtin.Int.intBits z) := by
  unfold Builtin.Int.intBits
  split
  · rename_i h
    have e : z = 0 := by first | exact h | (simpa using h)
    subst e
    decide
  · exact Nat.lt_log2_self
theorem CPowW.add {x z j : Int} (h0 : 0 ≤ j) (h1 : j ≤ 5) (h2 : -(2 ^ 64) < x) (h3 : x < 2 ^ 64) (hz : Builtin.Int.intBits z ≤ 1048576) : CPowW (x + z) j := by
  refine ⟨h0, h1, ?_⟩
  have a1 : z.natAbs < 2 ^ 1048577 := Nat.lt_of_lt_of_le bits_lt (Nat.pow_le_pow_right (by decide) (by omega))
  have a2 : x.natAbs < 2 ^ 64 := by omega
  have a3 : (2 : Nat) ^ 64 ≤ 2 ^ 1048577 := Nat.pow_le_pow_right (by decide) (by decide)
  have a4 : (x + z).natAbs < 2 ^ 1048578 := by
    rw [Nat.pow_succ]
    generalize (2 : Nat) ^ 1048577 = B at *
    omega
  have := PySem.Flt.log2_lt_of (k := 1048578) (by decide) a4
  omega
/-! ### the well: a list of two numbers -/
def Well (H : Hp) (p : Addr) : Prop := ∃ a b : Int, H p = some (.lst [.int a, .int b]) ∧ 0 ≤ a ∧ 0 ≤ b ∧ b < 2147483648
/-- H' is H but at p -/
def But (p : Addr) (H H' : Hp) : Prop := ∀ c, c ≠ p → H' c = H c
theorem But.refl (p : Addr) (H : Hp) : But p H H := fun _ _ => rfl
theorem But.trans {p : Addr} {H H1 H2 : Hp} (a : But p H H1) (b : But p H1 H2) : But p H H2 := fun c h => (b c h).trans (a c h)
theorem But.upd {p : Addr} {H : Hp} {o : HO} : But p H (upd H p o) := fun _ h => upd_ne h
/-- a list or a tuple that is read -/
def Sq (K : PySem.W.Frag) (H : Hp) (q : Addr) (xs : List V) : Prop := SqL K H q xs ∨ SqT K H q xs
theorem Rd.but {p q : Addr} {H H' : Hp} {u : HO} (h : Rd H q u) (n : q ≠ p) (b : But p H H') : Rd H' q u := by
  rcases h with h | ⟨o, h⟩
  · exact .inl ((b q n).trans h)
  · exact .inr ⟨o, (b q n).trans h⟩
theorem SqL.but {K : PySem.W.Frag} {p q : Addr} {H H' : Hp} {xs : List V} (h : SqL K H q xs) (n : q ≠ p) (b : But p H H') : SqL K H' q xs := h.elim (fun h => .inl (Rd.but h n b)) .inr
theorem SqT.but {K : PySem.W.Frag} {p q : Addr} {H H' : Hp} {xs : List V} (h : SqT K H q xs) (n : q ≠ p) (b : But p H H') : SqT K H' q xs := h.elim (fun h => .inl (Rd.but h n b)) .inr
theorem Sq.but {K : PySem.W.Frag} {p q : Addr} {H H' : Hp} {xs : List V} (h : Sq K H q xs) (n : q ≠ p) (b : But p H H') : Sq K H' q xs := h.elim (fun h => .inl (SqL.but h n b)) fun h => .inr (SqT.but h n b)
theorem rd_ixQ {K : PySem.W.Frag} {p : Addr} {H : Hp} {xs : List V} {i : Int} {v : V} {Q : VK} (h : Sq K H p xs) (e : atI xs i = some v) (k : Q v H) : rIx K (.ref p) (.int i) H Q :=
  h.elim (fun h => .inl ⟨p, xs, i, v, rfl, rfl, h, e, k⟩) fun h => .inr (.inl ⟨p, xs, i, v, rfl, rfl, h, e, k⟩)
theorem rd_lenQ {K : PySem.W.Frag} {p : Addr} {H : Hp} {xs : List V} {Q : VK} (h : Sq K H p xs) (k : Q (.int xs.length) H) : rLen K [.ref p] H Q := ⟨p, xs, rfl, h, k⟩
/-- a divisor of at most some hundred figures -/
abbrev Dv (m : Int) : Prop := 0 < m ∧ m < 10 ^ 70
theorem Dv.w {i m : Int} (h : Dv m) : CDivW i m := by
  refine wide_div (b := 240) h.1 ?_ (by decide) (by decide)
  have h1 := h.1
  have h2 : m < (10 : Int) ^ 70 := h.2
  omega
theorem getInt {ns : List Int} {i : Nat} {y : V} (h : (ns.map V.int)[i]? = some y) : ∃ z, ns[i]? = some z ∧ y = V.int z := by
  rw [List.getElem?_map] at h
  cases e : ns[i]? with
  | none =>
    rw [e] at h
    cases h
  | some z =>
    rw [e] at h
    exact ⟨z, rfl, (Option.some.inj h).symm⟩
theorem atI_of {α : Type} {xs : List α} {i : Int} {v : α} (h0 : 0 ≤ i) (h : xs[i.toNat]? = some v) : atI xs i = some v := by
  have hl : i.toNat < xs.length := (List.getElem?_eq_some_iff.mp h).1
  unfold atI ixN
  rw [if_pos h0, if_pos (by omega), Option.bind_some]
  exact h
theorem atI_in {α : Type} {xs : List α} {i : Int} (h0 : 0 ≤ i) (h1 : i < xs.length) : ∃ v ∈ xs, atI xs i = some v := by
  have hl : i.toNat < xs.length := by omega
  exact ⟨xs[i.toNat], List.getElem_mem hl, atI_of h0 (List.getElem?_eq_getElem hl)⟩
/-! ### data in the heap -/
/-- all that was tracked is as it was, but at p -/
def Keep (p : Addr) (H H' : Hp) : Prop := ∀ c o, c ≠ p → H c = some o → H' c = some o
theorem Keep.refl (p : Addr) (H : Hp) : Keep p H H := fun _ _ _ e => e
theorem Keep.trans {p : Addr} {H H1 H2 : Hp} (a : Keep p H H1) (b : Keep p H1 H2) : Keep p H H2 := fun c o n e => b c o n (a c o n e)
theorem But.keep {p : Addr} {H H' : Hp} (b : But p H H') : Keep p H H' := fun c o n e => (b c n).trans e
theorem Same.keep {p : Addr} {H H' : Hp} (b : Same H H') : Keep p H H' := fun c o _ e => b c o e
theorem Keep.new {p a : Addr} {H : Hp} {o : HO} (h : H a = none) : Keep p H (upd H a o) := fun c u _ e => by rw [upd_ne (ne_of_none e h)]; exact e
/-- the heap without p -/
def hid (p : Addr) (H : Hp) : Hp := fun b => if b = p then none else H b
theorem hid_at {p : Addr} {H : Hp} {b : Addr} {o : HO} (h : hid p H b = some o) : b ≠ p ∧ H b = some o := by
  unfold hid at h
  split at h
  · cases h
  · rename_i n
    exact ⟨n, h⟩
theorem hid_of {p : Addr} {H : Hp} {b : Addr} {o : HO} (n : b ≠ p) (h : H b = some o) : hid p H b = some o := by
  unfold hid
  rw [if_neg n]
  exact h
theorem Keep.hid {p : Addr} {H H' : Hp} (k : Keep p H H') : Same (hid p H) (hid p H') := fun b o e => by
  obtain ⟨n, h⟩ := hid_at e
  exact hid_of n (k b o n h)
theorem hid_sub {p : Addr} {H : Hp} : Same (hid p H) H := fun b o e => (hid_at e).2
/-- what is new in B, seen from A -/
def nw (A B : Hp) : Hp := fun b => match A b with
  | some _ => none
  | none => B b
theorem nw_at {A B : Hp} {b : Addr} {o : HO} (h : nw A B b = some o) : A b = none ∧ B b = some o := by
  unfold nw at h
  cases e : A b with
  | some _ => rw [e] at h; cases h
  | none => rw [e] at h; exact ⟨rfl, h⟩
theorem nw_of {A B : Hp} {b : Addr} {o : HO} (h : A b = none) (h2 : B b = some o) : nw A B b = some o := by
  unfold nw
  rw [h]
  exact h2
theorem nw_same {A B A' B' : Hp} (h : ∀ b o, A b = none → B b = some o → A' b = none ∧ B' b = some o) : Same (nw A B) (nw A' B') := fun b o e => by
  obtain ⟨h1, h2⟩ := nw_at e
  obtain ⟨h3, h4⟩ := h b o h1 h2
  exact nw_of h3 h4
theorem nw_sub {A B : Hp} : Same (nw A B) B := fun b o e => (nw_at e).2
/-- what is tracked stays tracked -/
def Dom (A B : Hp) : Prop := ∀ b, B b = none → A b = none
theorem Keep.dom {p : Addr} {A B : Hp} (k : Keep p A B) (hp : B p ≠ none) : Dom A B := fun b h => by
  by_cases e : b = p
  · exact absurd (e ▸ h) hp
  · cases q : A b with
    | none => rfl
    | some o =>
      rw [k b o e q] at h
      cases h
theorem Well.some {H : Hp} {p : Addr} (w : Well H p) : H p ≠ none := by
  obtain ⟨a, b, e, _⟩ := w
  rw [e]
  exact fun z => nomatch z
theorem Well.upd {H : Hp} {p q : Addr} {o : HO} (w : Well H p) (h : H q = none) : Well (upd H q o) p := by
  obtain ⟨a, b, e, r⟩ := w
  exact ⟨a, b, by rw [upd_ne (ne_of_none e h)]; exact e, r⟩
theorem SqL.same {K : PySem.W.Frag} {q : Addr} {H H' : Hp} {xs : List V} (h : SqL K H q xs) (s : Same H H') : SqL K H' q xs := s.seq h
theorem SqT.same {K : PySem.W.Frag} {q : Addr} {H H' : Hp} {xs : List V} (h : SqT K H q xs) (s : Same H H') : SqT K H' q xs := by
  rcases h with (h | ⟨o, h⟩) | h
  · exact .inl (.inl (s _ _ h))
  · exact .inl (.inr ⟨o, s _ _ h⟩)
  · exact .inr h
mutual
theorem Dp.same {K : PySem.W.Frag} {H H' : Hp} (s : Same H H') : ∀ {v : V} {d : PyData}, Dp K H v d → Dp K H' v d
  | _, _, .non => .non
  | _, _, .bl b => .bl b
  | _, _, .int i => .int i
  | _, _, .str x => .str x
  | _, _, .lst h a => .lst (SqL.same h s) (DpAll.same s a)
  | _, _, .tup h a => .tup (SqT.same h s) (DpAll.same s a)
theorem DpAll.same {K : PySem.W.Frag} {H H' : Hp} (s : Same H H') : ∀ {vs : List V} {ds : List PyData}, DpAll K H vs ds → DpAll K H' vs ds
  | _, _, .nil => .nil
  | _, _, .cons a r => .cons (Dp.same s a) (DpAll.same s r)
end
theorem DpAll.app {K : PySem.W.Frag} {H : Hp} {v : V} {d : PyData} : ∀ {vs : List V} {ds : List PyData}, DpAll K H vs ds → Dp K H v d → DpAll K H (vs ++ [v]) (ds ++ [d])
  | _, _, .nil, h => .cons h .nil
  | _, _, .cons a r, h => .cons a (DpAll.app r h)
/-- data that may be shown, at most n deep -/
structure Good (n : Nat) (d : PyData) : Prop where
  sh : d.showable = true
  nd : d.hasDict = false
  dp : d.depth ≤ n
  ln : d.shown.length + 20 ≤ 120 * 2 ^ n
theorem Good.up {n : Nat} {d : PyData} (g : Good n d) : Good (n + 1) d := ⟨g.sh, g.nd, by have := g.dp; omega, by have := g.ln; rw [Nat.pow_succ]; omega⟩
theorem textFrom_le : ∀ (ts : List Str) (k : Nat) (acc : Str), (textFrom k acc ts).length ≤ acc.length + piled ts
  | [], k, acc => by show acc.length ≤ _; omega
  | t :: r, k, acc => by
    have h := textFrom_le r (k + 1) (acc ++ (if k > 0 then ", " else "" : String) ++ t)
    have e : (((if k > 0 then ", " else "" : String) : Str)).length ≤ 2 := by split <;> decide
    rw [strLen_append, strLen_append] at h
    rw [piled_cons]
    show (textFrom (k + 1) _ r).length ≤ _
    omega
theorem listText_le (ts : List Str) : (listText ts).length ≤ piled ts + 2 := by
  have h := textFrom_le ts 0 "["
  unfold listText
  rw [strLen_append]
  have e1 : ((("[" : String) : Str)).length = 1 := rfl
  have e2 : ((("]" : String) : Str)).length = 1 := rfl
  omega
theorem tupleText_le (ts : List Str) : (tupleText ts).length ≤ piled ts + 3 := by
  unfold tupleText
  rw [strLen_append, strLen_append]
  have e1 : ((("(" : String) : Str)).length = 1 := rfl
  have e3 : (((if ts.length == 1 then ",)" else ")" : String) : Str)).length ≤ 2 := by split <;> decide
  have e2 : (Str.join ", " ts).length ≤ piled ts := by
    by_cases h : ts = []
    · subst h; decide
    · have := join_length_add ts h
      omega
  omega
theorem int_shown {i : Int} {k : Nat} (hk : 0 < k) (h : i.natAbs < 10 ^ k) : (PyData.int i).shown.length ≤ k + 1 := by
  show (Str.ofString (toString i)).length ≤ _
  rw [ofString_length]
  exact int_text_length_le10 hk h
theorem int_showable {i : Int} (h : i.natAbs < 10 ^ 500) : (PyData.int i).showable = true := by
  have e : i.natAbs < 2 ^ 1900 := Nat.lt_trans h (by decide +kernel)
  have := PySem.Flt.log2_lt_of (k := 1900) (by decide) e
  exact decide_eq_true (by omega)
/-! ### kept refusals -/
/-- at a: a kept refusal of the class at C, its one field f is v -/
def ExAt (C : Addr) (f : Str) (H : Hp) (a : Addr) (v : V) : Prop := ∃ dd, H a = some (ExV (.ref C) (some dd) a) ∧ H dd = some (.xd [(f, v)])
theorem ExAt.same {C a : Addr} {f : Str} {H H' : Hp} {v : V} (h : ExAt C f H a v) (s : Same H H') : ExAt C f H' a v := by
  obtain ⟨dd, h1, h2⟩ := h
  exact ⟨dd, s _ _ h1, s _ _ h2⟩
theorem rd_forR {ta : TA} {g : TG} {tb : TS} {D : Ends} {σ : St} {H : Hp} (k : ta σ H fun vs H1 => ∃ j : Int, vs = [.int j] ∧ -(2 ^ 62) ≤ j ∧ j < 2 ^ 62 ∧ ∃ W : Nat → Nat → St → Hp → Prop, (∃ m, W 0 m σ H1) ∧ ∀ i m σ H, W i m σ H →
    ((Itr 0 j.toNat).stop i H ∧ D.nx σ H) ∨ ((Itr 0 j.toNat).go i H ∧ ∃ N : St → Hp → Prop, (∀ σ' H', N σ' H' → ∃ m', m' < m ∧ W (i + 1) m' σ' H') ∧ ∀ x H', (Itr 0 j.toNat).yld i H x H' → g x σ H' fun σ2 H2 => tb { D with nx := N, ct := N, bk := D.nx } σ2 H2)) : tFor (iRng1 ta) g tb D σ H := k
theorem rd_forI {K : PySem.W.Frag} {te : TE} {g : TG} {tb : TS} {D : Ends} {σ : St} {H : Hp} (k : te σ H fun x H1 => ∃ a, x = .ref a ∧ (∃ xs, SqL K H1 a xs) ∧ ∃ W : Nat → Nat → St → Hp → Prop, (∃ m, W 0 m σ H1) ∧ ∀ i m σ H, W i m σ H →
    ((Itl K a).stop i H ∧ D.nx σ H) ∨ ((Itl K a).go i H ∧ ∃ N : St → Hp → Prop, (∀ σ' H', N σ' H' → ∃ m', m' < m ∧ W (i + 1) m' σ' H') ∧ ∀ x H', (Itl K a).yld i H x H' → g x σ H' fun σ2 H2 => tb { D with nx := N, ct := N, bk := D.nx } σ2 H2)) : tFor (iList K te) g tb D σ H := k
theorem rd_par {i j : Nat} {ta : TA} {D : Ends} {σ : St} {H : Hp} (k : ta σ H fun vs H1 => ∃ v w, vs = [v, w] ∧ D.nx ((σ.set i (some v)).set j (some w)) H1) : tPar i j ta D σ H := k
theorem rd_gtup {K : PySem.W.Frag} {n : Nat} {t : TGs} {a : Addr} {xs : List V} {σ : St} {H : Hp} {R : St → Hp → Prop} (h : SqT K H a xs) (hl : xs.length = n) (k : t xs σ H R) : gTup K n t (.ref a) σ H R := ⟨a, xs, rfl, h, hl, k⟩
theorem rd_gcons {t : TG} {u : TGs} {v : V} {r : List V} {σ : St} {H : Hp} {R : St → Hp → Prop} (k : t v σ H fun σ' H' => u r σ' H' R) : gCons t u (v :: r) σ H R := ⟨v, r, rfl, k⟩
theorem rd_gnil {σ : St} {H : Hp} {R : St → Hp → Prop} (k : R σ H) : gNil [] σ H R := ⟨rfl, k⟩
theorem rd_neD {K : PySem.W.Frag} {x y : V} {d e : PyData} {H : Hp} {Q : VK} (h1 : Dp K H x d) (h2 : Dp K H y e) (s1 : SeqAt.shaped d = true) (s2 : SeqAt.shaped e = true) (k : Q (.bl (!PyData.eqv d e)) H) : rNeD K x y H Q := ⟨d, e, h1, h2, s1, s2, k⟩
theorem rd_cat {p q : Addr} {xs ys : List V} {H : Hp} {Q : VK} (h1 : H p = some (.lst xs)) (h2 : H q = some (.lst ys)) (hl : xs.length + ys.length ≤ 1000) (k : ∀ l, H l = none → Q (.ref l) (upd H l (.lst (xs ++ ys)))) : rCat (.ref p) (.ref q) H Q := ⟨p, q, xs, ys, rfl, rfl, h1, h2, Nat.le_trans hl (by decide), k⟩
theorem Same.new {a : Addr} {H : Hp} {o : HO} (h : H a = none) : Same H (upd H a o) := fun c u e => by rw [upd_ne (ne_of_none e h)]; exact e
theorem kept_end {C a d : Addr} {f : Str} {H : Hp} {v : V} (hd : H d = none) (ha : upd H d (.xd [(f, v)]) a = none) :
    ExAt C f (upd (upd H d (.xd [(f, v)])) a (ExV (.ref C) (some d) a)) a v ∧ Same H (upd (upd H d (.xd [(f, v)])) a (ExV (.ref C) (some d) a)) := by
  have nd : d ≠ a := ne_of_none upd_same ha
  refine ⟨⟨d, upd_same, by rw [upd_ne nd, upd_same]⟩, fun b o e => ?_⟩
  have n1 : b ≠ d := ne_of_none e hd
  have n2 : b ≠ a := ne_of_none ((upd_ne n1).trans e) ha
  rw [upd_ne n2, upd_ne n1]
  exact e
theorem rd_xv0 {K : PySem.W.Frag} {C a : Addr} {f : Str} {H : Hp} {v : V} {i : Nat} {σ : St} {Q : VK} (hv : σ[i]? = some (some (.ref a))) (h : ExAt C f H a v) (T : XfC K C) (hno : PySem.W.findIn K (.ref C) f = some none) (k : Q v H) : tXv K f (tVar i) σ H Q := by
  obtain ⟨dd, h1, h2⟩ := h
  exact ⟨_, hv, a, C, dd, _, v, rfl, h1, T, hno, h2, by simp [List.lookup], k⟩
theorem rd_isx {K : PySem.W.Frag} {C D a : Addr} {f : Str} {H : Hp} {v : V} {b : Bool} {Q : VK} (h : ExAt C f H a v) (T : ExcC K C) (e : PySem.W.kitOne K (.ref C) (.ref D) = some b) (k : Q (.bl b) H) : rIsX K [.ref a, .ref D] H Q := by
  obtain ⟨dd, h1, h2⟩ := h
  exact ⟨a, C, dd, _, .ref D, .ref D, b, rfl, h1, h2, T, fun u r => r, e, k⟩
theorem rd_isxT {K : PySem.W.Frag} {C a : Addr} {T : String} {f : Str} {H : Hp} {v : V} {b : Bool} {Q : VK} (h : ExAt C f H a v) (X : ExcC K C) (e : PySem.W.kitOne K (.ref C) (.type T) = some b) (k : Q (.bl b) H) : rIsX K [.ref a, .ty T] H Q := by
  obtain ⟨dd, h1, h2⟩ := h
  exact ⟨a, C, dd, _, .ty T, .type T, b, rfl, h1, h2, X, fun u r => r, e, k⟩
theorem rd_lcR {g : TG} {tt : TT} {te : TE} {ta : TA} {vs : List Nat} {σ : St} {H : Hp} {Q : VK} (k : ta σ H fun zs H1 => ∃ j : Int, zs = [.int j] ∧ -(2 ^ 62) ≤ j ∧ j < 2 ^ 62 ∧ ∀ D, H1 D = none → ∃ W : Nat → Nat → Hp → Prop, (∃ m, W 0 m (upd H1 D (.lst []))) ∧ ∀ i m H, W i m H →
    ((Itr 0 j.toNat).stop i H ∧ Q (.ref D) H) ∨ ((Itr 0 j.toNat).go i H ∧ ∃ Nx : Hp → Prop, (∀ H', Nx H' → ∃ m', m' < m ∧ W (i + 1) m' H') ∧ ∀ x H', (Itr 0 j.toNat).yld i H x H' → g x (wipe σ vs) H' fun σ2 H2 => wipe σ2 vs = wipe σ vs ∧ tt σ2 H2 fun b H3 =>
      if b = true then te σ2 H3 fun y H4 => ∃ acc, H4 D = some (.lst acc) ∧ acc.length < sizeLine ∧ Nx (upd H4 D (.lst (acc ++ [y]))) else Nx H3)) : tLc (iRng1 ta) g tt te vs σ H Q := k
theorem pow_n (n : Nat) : 1 ≤ 2 ^ n := Nat.pos_of_ne_zero (by intro h; have := Nat.pow_eq_zero.mp h; omega)
theorem good_int {n : Nat} {i : Int} (h : i.natAbs < 10 ^ 70) : Good n (.int i) := by
  refine ⟨int_showable (Nat.lt_trans h (by decide +kernel)), rfl, Nat.zero_le _, ?_⟩
  have h1 := int_shown (k := 70) (by decide) h
  have := pow_n n
  omega
theorem good_non {n : Nat} : Good n .none := ⟨rfl, rfl, Nat.zero_le _, by have e : (PyData.none).shown.length = 4 := rfl; have := pow_n n; omega⟩
theorem good_bl {n : Nat} {b : Bool} : Good n (.bool b) := ⟨rfl, rfl, Nat.zero_le _, by have e : (PyData.bool b).shown.length ≤ 5 := by cases b <;> decide
                                                                                        have := pow_n n; omega⟩
theorem good_str {n : Nat} {x : Str} (h : (PyData.str x).shown.length ≤ 100) : Good n (.str x) := ⟨rfl, rfl, Nat.zero_le _, by have := pow_n n; omega⟩
theorem good_all {n : Nat} : ∀ {ds : List PyData}, (∀ d ∈ ds, Good n d) → PyData.showableAll ds = true ∧ PyData.hasDictAll ds = false ∧ PyData.depthAll ds ≤ n ∧ piled (PyData.shownAll ds) + ds.length * 18 ≤ ds.length * (120 * 2 ^ n)
  | [], _ => ⟨rfl, rfl, Nat.zero_le _, Nat.le_of_eq (by simp [PyData.shownAll, piled])⟩
  | d :: ds, h => by
    obtain ⟨a1, a2, a3, a4⟩ := good_all fun e he => h e (List.mem_cons_of_mem _ he)
    have g := h d List.mem_cons_self
    refine ⟨?_, ?_, ?_, ?_⟩
    · show (d.showable && PyData.showableAll ds) = true
      rw [g.sh, a1]; rfl
    · show (d.hasDict || PyData.hasDictAll ds) = false
      rw [g.nd, a2]; rfl
    · exact Nat.max_le.mpr ⟨g.dp, a3⟩
    · show piled (d.shown :: PyData.shownAll ds) + (ds.length + 1) * 18 ≤ (ds.length + 1) * (120 * 2 ^ n)
      rw [piled_cons]
      have := g.ln
      rw [Nat.succ_mul, Nat.succ_mul]
      omega
theorem good_list {n : Nat} {ds : List PyData} (h : ∀ d ∈ ds, Good n d) (hl : ds.length ≤ 2) : Good (n + 1) (.list ds) := by
  obtain ⟨a1, a2, a3, a4⟩ := good_all h
  refine ⟨a1, a2, Nat.succ_le_succ a3, ?_⟩
  have e : (PyData.list ds).shown.length ≤ piled (PyData.shownAll ds) + 2 := listText_le _
  have := pow_n n
  rw [Nat.pow_succ]
  have q : ds.length = 0 ∨ ds.length = 1 ∨ ds.length = 2 := by omega
  rcases q with q | q | q <;> rw [q] at a4 <;> omega
theorem good_tup {n : Nat} {ds : List PyData} (h : ∀ d ∈ ds, Good n d) (hl : ds.length ≤ 2) : Good (n + 1) (.tuple ds) := by
  obtain ⟨a1, a2, a3, a4⟩ := good_all h
  refine ⟨a1, a2, Nat.succ_le_succ a3, ?_⟩
  have e : (PyData.tuple ds).shown.length ≤ piled (PyData.shownAll ds) + 3 := tupleText_le _
  have := pow_n n
  rw [Nat.pow_succ]
  have q : ds.length = 0 ∨ ds.length = 1 ∨ ds.length = 2 := by omega
  rcases q with q | q | q <;> rw [q] at a4 <;> omega
end Tug
namespace Tug
open PySem L2 PySem.Spec PyProof.Rows
/-! ### f(k = v, ..): keywords alone, told from the last to the first -/
def gR {α : Type} (n : Nat) (us ws : List α) : List α := if us.isEmpty && ws.length == n then ws.reverse else []
theorem gR_on {α : Type} {n : Nat} {ws : List α} (h : ws.length = n) : gR n [] ws = ws.reverse := if_pos (by simp [h])
theorem vals_app {xs ys : List V} {us ws : List Value} (a : Vals xs us) (b : Vals ys ws) : Vals (xs ++ ys) (us ++ ws) := by
  induction a with
  | nil => exact b
  | cons r _ ih => exact .cons r ih
theorem vals_rev {xs : List V} {us : List Value} (a : Vals xs us) : Vals xs.reverse us.reverse := by
  induction a with
  | nil => exact .nil
  | cons r _ ih =>
    rw [List.reverse_cons, List.reverse_cons]
    exact vals_app ih (.cons r .nil)
theorem gR_vals {n : Nat} {vs zs : List V} {us ws : List Value} (a : Vals vs us) (b : Vals zs ws) : Vals (gR n vs zs) (gR n us ws) := by
  have e1 : vs.isEmpty = us.isEmpty := by cases a <;> rfl
  have e2 := b.length
  unfold gR
  rw [e1, e2]
  split
  · exact vals_rev b
  · exact .nil
section
variable {K : PySem.W.Frag}
theorem Fun.kbR {x qual : Str} {st : Stmt} {f : Addr} {fd : FuncData} {ps ks : List Str} (F : Fun K x qual st f fd) (n : Nat) (hn : ps.length = n) (h0 : 0 < n) (hk : ks.length = n)
    (h : ∀ (kV doc pm : Value) (an : Option Addr) (cdv ct : Value) (ws : List Value), ws.length = n → bindArgs (PySem.W.fnOf x qual (defArgs st) (defBody st) (defScope st) .none kV doc pm an cdv ct) ⟨[], ks.zip ws⟩ = pure (ps.zip ws.reverse)) :
    KBinds K fd ps ks (gR n) (gR n) := by
  obtain ⟨oc, od, kV, doc, pm, an, cdv, ct, osl, rfl, lk, hcd⟩ := F.ex
  refine ⟨fun s us ws _ hl => ?_, gR_vals⟩
  cases us with
  | cons u us =>
    have e : gR n (u :: us) ws = [] := rfl
    rw [e, hn] at hl
    exact absurd hl (by show ¬ (0 = n); omega)
  | nil =>
    by_cases hw : ws.length = n
    · rw [gR_on hw]
      exact BindsTo.of_eq (h kV doc pm an cdv ct ws hw)
    · have e : gR n [] ws = [] := if_neg (by simp [hw])
      rw [e, hn] at hl
      exact absurd hl (by show ¬ (0 = n); omega)
end
def tCallK0 (sp : Sp) (gV : List V → List V → List V) (E : XK) (tk : TA) : TE := fun σ H Q => tk σ H fun zs H2 => sp (gV [] zs) H2 Q E
section
variable {X : Cx} {CX : CXT} {k : Nat} {f : Addr} {fd : FuncData} {ps ks : List Str} {sp : Sp} {E : XK} {x : Str} {p pos : Pos} {kws : List Keyword} {tk : TA} {g : List Value → List Value → List Value} {gV : List V → List V → List V}
theorem pe_callK0 (F : FnOk X.prog X.w X.K X.mg X.base CX k f fd ps sp) (hr : Room k X.A) (hg : Gl X x) (hm : X.mg x = some (.ref f)) (hk : PySem.W.keepIn X.K (.ref f) = true) (hb : KBinds X.K fd ps ks g gV) (hx : Passes CX X E)
    (hkw : PK X kws tk) (hall : (backToKw pos (keywordEach kws X.env)).all (·.1.isSome) = true := by rfl) (hks : (backToKw pos (keywordEach kws X.env)).filterMap (·.1) = ks := by rfl)
    (hdb : (x == ("__debug__" : Str)) = false := by decide)
    (hpl : ((backTo pos (starEach [] X.env)).any (·.1) || (backToKw pos (keywordEach kws X.env)).any (·.1.isNone)) = false := by rfl) :
    PE X (.Call (.Name x p) [] kws pos) (tCallK0 sp gV E tk) := by
  refine ⟨fun pins s σ H Q I h => ?_⟩
  refine wpAny_Call_Name_kw (ld_glob I hg hm ?_ hdb)
  refine PySem.W.callWith_KW0 (h₀ := X.base) I.ok.mod.kin hk hall ?_ hpl
  refine thn (hkw.run pos pins s σ H _ I h) fun ws s2 ⟨zs, H2, I2, rz, q2⟩ => ⟨I2.kIn, ?_⟩
  rw [hks]
  exact run_fnk (us := []) (vs := []) F hr hb hx I2 .nil rz q2
end
/-! ### what may be shown, by its depth and its length -/
structure Sh (D L : Nat) (d : PyData) : Prop where
  sh : d.showable = true
  nd : d.hasDict = false
  dp : d.depth ≤ D
  ln : d.shown.length ≤ L
theorem Sh.up {D L D' L' : Nat} {d : PyData} (h : Sh D L d) (a : D ≤ D') (b : L ≤ L') : Sh D' L' d := ⟨h.sh, h.nd, Nat.le_trans h.dp a, Nat.le_trans h.ln b⟩
theorem sh_int {k : Nat} {i : Int} (h0 : 0 < k) (hk : k ≤ 500) (h : i.natAbs < 10 ^ k) : Sh 0 (k + 1) (.int i) :=
  ⟨int_showable (Nat.lt_of_lt_of_le h (Nat.pow_le_pow_right (by decide) hk)), rfl, Nat.le_refl _, int_shown h0 h⟩
theorem sh_all {D L : Nat} : ∀ {ds : List PyData}, (∀ d ∈ ds, Sh D L d) → PyData.showableAll ds = true ∧ PyData.hasDictAll ds = false ∧ PyData.depthAll ds ≤ D ∧ piled (PyData.shownAll ds) ≤ ds.length * (L + 2)
  | [], _ => ⟨rfl, rfl, Nat.zero_le _, Nat.le_of_eq (by simp [PyData.shownAll, piled])⟩
  | d :: ds, h => by
    obtain ⟨a1, a2, a3, a4⟩ := sh_all fun e he => h e (List.mem_cons_of_mem _ he)
    have g := h d List.mem_cons_self
    refine ⟨?_, ?_, Nat.max_le.mpr ⟨g.dp, a3⟩, ?_⟩
    · show (d.showable && PyData.showableAll ds) = true
      rw [g.sh, a1]; rfl
    · show (d.hasDict || PyData.hasDictAll ds) = false
      rw [g.nd, a2]; rfl
    · show piled (d.shown :: PyData.shownAll ds) ≤ (ds.length + 1) * (L + 2)
      rw [piled_cons, Nat.succ_mul]
      have := g.ln
      omega
theorem sh_list {D L n : Nat} {ds : List PyData} (h : ∀ d ∈ ds, Sh D L d) (hl : ds.length ≤ n) : Sh (D + 1) (n * (L + 2) + 3) (.list ds) := by
  obtain ⟨a1, a2, a3, a4⟩ := sh_all h
  have e : (PyData.list ds).shown.length ≤ piled (PyData.shownAll ds) + 2 := listText_le _
  have := Nat.mul_le_mul_right (L + 2) hl
  exact ⟨a1, a2, Nat.succ_le_succ a3, by omega⟩
theorem sh_tup {D L n : Nat} {ds : List PyData} (h : ∀ d ∈ ds, Sh D L d) (hl : ds.length ≤ n) : Sh (D + 1) (n * (L + 2) + 3) (.tuple ds) := by
  obtain ⟨a1, a2, a3, a4⟩ := sh_all h
  have e : (PyData.tuple ds).shown.length ≤ piled (PyData.shownAll ds) + 3 := tupleText_le _
  have := Nat.mul_le_mul_right (L + 2) hl
  exact ⟨a1, a2, Nat.succ_le_succ a3, by omega⟩
theorem rd_show {K : PySem.W.Frag} {v : V} {d : PyData} {H : Hp} {Q : VK} {D L : Nat} (h : Dp K H v d) (s : Sh D L d) (hD : D < 60) (hL : L ≤ 16000000) (k : Q (.str d.shown) H) : rRepr K [v] H Q :=
  rd_repr h s.sh s.nd (Nat.lt_of_le_of_lt s.dp hD) (Nat.le_trans s.ln (Nat.le_trans hL (by decide))) k
/-! ### forms -/
abbrev Fm := Int × List (Int × Int)
def pd (q : Int × Int) : PyData := .tuple [.int q.1, .int q.2]
def fmd (f : Fm) : PyData := .tuple [.int f.1, .tuple (f.2.map pd)]
theorem dpAll_at {K : PySem.W.Frag} {H : Hp} : ∀ {vs : List V} {ds : List PyData}, DpAll K H vs ds → vs.length = ds.length ∧ ∀ (i : Nat) (x : V), vs[i]? = some x → ∃ d, ds[i]? = some d ∧ Dp K H x d
  | _, _, .nil => ⟨rfl, fun i x h => by cases h⟩
  | _, _, .cons a r => by
    obtain ⟨l, k⟩ := dpAll_at r
    refine ⟨by simp [l], fun i x h => ?_⟩
    cases i with
    | zero =>
      cases Option.some.inj h
      exact ⟨_, rfl, a⟩
    | succ i => exact k i x h
theorem dp_tup {K : PySem.W.Frag} {H : Hp} {v : V} {ds : List PyData} (h : Dp K H v (.tuple ds)) : ∃ a vs, v = .ref a ∧ SqT K H a vs ∧ DpAll K H vs ds := by
  cases h with
  | tup a b => exact ⟨_, _, rfl, a, b⟩
theorem dp_int {K : PySem.W.Frag} {H : Hp} {v : V} {i : Int} (h : Dp K H v (.int i)) : v = .int i := by
  cases h
  rfl
theorem dp_two {K : PySem.W.Frag} {H : Hp} {vs : List V} {d e : PyData} (h : DpAll K H vs [d, e]) : ∃ x y, vs = [x, y] ∧ Dp K H x d ∧ Dp K H y e := by
  cases h with
  | cons a r =>
    cases r with
    | cons b r =>
      cases r
      exact ⟨_, _, rfl, a, b⟩
theorem dp_pair {K : PySem.W.Frag} {H : Hp} {v : V} {q : Int × Int} (h : Dp K H v (pd q)) : ∃ a, v = .ref a ∧ SqT K H a [.int q.1, .int q.2] := by
  obtain ⟨a, vs, rfl, hs, hd⟩ := dp_tup h
  obtain ⟨x, y, rfl, hx, hy⟩ := dp_two hd
  rw [dp_int hx, dp_int hy] at hs
  exact ⟨a, rfl, hs⟩
theorem dp_form {K : PySem.W.Frag} {H : Hp} {v : V} {f : Fm} (h : Dp K H v (fmd f)) : ∃ a b vs, v = .ref a ∧ SqT K H a [.int f.1, .ref b] ∧ SqT K H b vs ∧ DpAll K H vs (f.2.map pd) := by
  obtain ⟨a, vs, rfl, hs, hd⟩ := dp_tup h
  obtain ⟨x, y, rfl, hx, hy⟩ := dp_two hd
  obtain ⟨b, ws, rfl, ht, he⟩ := dp_tup hy
  rw [dp_int hx] at hs
  exact ⟨a, b, ws, rfl, hs, ht, he⟩
/-- a setting's number, and the products of a form -/
def num (ns : List Int) (k : Int) : Int := (atI ns k).getD 0
def prods (ps : List (Int × Int)) (ns : List Int) : List Int := ps.map fun q => q.2 * num ns q.1
def wo (f : Fm) (ns : List Int) : Int := f.1 + (prods f.2 ns).sum
theorem num_at {ns : List Int} {k : Int} (h0 : 0 ≤ k) (h1 : k < ns.length) : atI (ns.map V.int) k = some (.int (num ns k)) ∧ num ns k ∈ ns := by
  obtain ⟨z, hz, hz2⟩ := atI_in (xs := ns) h0 h1
  have e : num ns k = z := by unfold num; rw [hz2]; rfl
  rw [e]
  refine ⟨?_, hz⟩
  unfold atI ixN at hz2 ⊢
  rw [List.length_map, if_pos h0, if_pos h1, Option.bind_some] at *
  rw [List.getElem?_map, hz2]
  rfl
/-- times and numbers that may be multiplied -/
abbrev Mb (n : Int) : Prop := n.natAbs < 2 ^ 3000
theorem mb_mul {a b : Int} (ha : Mb a) (hb : Mb b) : CMulW a b := wide_mul (a := 3000) (b := 3000) ha hb (by decide) (by decide) (by decide)
/-- all knobs of a form have a number -/
structure Fits (ps : List (Int × Int)) (ns : List Int) : Prop where
  at_ : ∀ q ∈ ps, 0 ≤ q.1 ∧ q.1 < (ns.length : Int) ∧ Mb q.2
  nm : ∀ n ∈ ns, Mb n
  len : ps.length ≤ 1000
/-- [much * numbers[knob] for knob, much in parts] -/
theorem lc_prods {K : PySem.W.Frag} {H1 : Hp} {D a n : Addr} {σ : L2.St} {i j l : Nat} {own : List Nat} {vs : List V} {ps : List (Int × Int)} {ns : List Int} {Qd : Hp → Prop} {rix : R2} (hD : H1 D = none) (hT : SqT K H1 a vs) (hp : DpAll K H1 vs (ps.map pd)) (hn : SqL K H1 n (ns.map V.int)) (hF : Fits ps ns)
    (hix : ∀ H k x Q, SqL K H n (ns.map V.int) → atI (ns.map V.int) k = some x → Q x H → rix (.ref n) (.int k) H Q)
    (hw : ∀ x y : Int, wipe (((wipe σ own).set i (some (.int x))).set j (some (.int y))) own = wipe σ own) (hi : ∀ x y : Int, (((wipe σ own).set i (some (.int x))).set j (some (.int y)))[i]? = some (some (.int x)))
    (hj : ∀ x y : Int, (((wipe σ own).set i (some (.int x))).set j (some (.int y)))[j]? = some (some (.int y))) (hl : ∀ x y : Int, (((wipe σ own).set i (some (.int x))).set j (some (.int y)))[l]? = some (some (.ref n)))
    (hd : ∀ H', H' D = some (.lst ((prods ps ns).map V.int)) → Same H1 H' → Qd H') :
    ∃ W : Nat → Nat → Hp → Prop, (∃ m, W 0 m (upd H1 D (.lst []))) ∧ ∀ m c H, W m c H →
      ((Itt K a).stop m H ∧ Qd H) ∨ ((Itt K a).go m H ∧ ∃ Nx : Hp → Prop, (∀ H', Nx H' → ∃ m', m' < c ∧ W (m + 1) m' H') ∧ ∀ x H', (Itt K a).yld m H x H' → gTup K 2 (gCons (gName i) (gCons (gName j) gNil)) x (wipe σ own) H' fun σ2 H2 => wipe σ2 own = wipe σ own ∧ tYes σ2 H2 fun b H3 =>
        if b = true then tOp (rI CMulW fun i j => .int (i * j)) (tVar j) (tOp rix (tVar l) (tVar i)) σ2 H3 fun y H4 => ∃ acc, H4 D = some (.lst acc) ∧ acc.length < sizeLine ∧ Nx (upd H4 D (.lst (acc ++ [y]))) else Nx H3) := by
  obtain ⟨len, at_⟩ := dpAll_at hp
  refine lc_tup (fun m H' => H' D = some (.lst ((prods (ps.take m) ns).map V.int)) ∧ Same H1 H') ⟨by rw [upd_same]; rfl, Same.new hD⟩ (fun m H' _ ⟨_, s⟩ => SqT.same hT s) ?_ ?_
  · rintro m x H hx ⟨e, s⟩
    obtain ⟨d, hd1, hd2⟩ := at_ m x hx
    rw [List.getElem?_map] at hd1
    cases hq : ps[m]? with
    | none => rw [hq] at hd1; cases hd1
    | some q =>
      rw [hq] at hd1
      obtain ⟨t, rfl, ht⟩ := dp_pair ((Option.some.inj hd1) ▸ hd2)
      have hm := List.mem_of_getElem? hq
      obtain ⟨f0, f1, f2⟩ := hF.at_ q hm
      obtain ⟨g1, g2⟩ := num_at f0 f1
      refine rd_gtup (SqT.same ht s) rfl (rd_gcons (rd_gname (rd_gcons (rd_gname (rd_gnil ⟨hw _ _, rd_yes ?_⟩)))))
      rw [if_pos rfl]
      refine rd_op (rd_var (hj _ _) (rd_op (rd_var (hl _ _) (rd_var (hi _ _) (hix H q.1 _ _ (SqL.same hn s) g1 (rd_I (mb_mul f2 (hF.nm _ g2)) ⟨_, e, ?_, ?_, ?_⟩))))))
      · rw [List.length_map]
        show (List.map _ (ps.take m)).length < sizeLine
        rw [List.length_map]
        exact Nat.lt_of_le_of_lt (Nat.le_trans (List.length_take_le' ..) hF.len) (by decide)
      · rw [upd_same, List.take_add_one, hq]
        show _ = some (HO.lst (List.map V.int (List.map _ (ps.take m ++ [q]))))
        rw [List.map_append, List.map_append]
        rfl
      · intro b o eb
        rw [upd_ne (ne_of_none eb hD)]
        exact s b o eb
  · rintro H ⟨e, s⟩
    have e1 : vs.length = ps.length := by rw [len, List.length_map]
    rw [e1, List.take_length] at e
    exact hd H e s
/-- the same over a list -/
theorem lc_prodsL {K : PySem.W.Frag} {H1 : Hp} {D a n : Addr} {σ : L2.St} {i j l : Nat} {own : List Nat} {vs : List V} {ps : List (Int × Int)} {ns : List Int} {Qd : Hp → Prop} {rix : R2} (hD : H1 D = none) (hT : SqL K H1 a vs) (hp : DpAll K H1 vs (ps.map pd)) (hn : SqL K H1 n (ns.map V.int)) (hF : Fits ps ns)
    (hix : ∀ H k x Q, SqL K H n (ns.map V.int) → atI (ns.map V.int) k = some x → Q x H → rix (.ref n) (.int k) H Q)
    (hw : ∀ x y : Int, wipe (((wipe σ own).set i (some (.int x))).set j (some (.int y))) own = wipe σ own) (hi : ∀ x y : Int, (((wipe σ own).set i (some (.int x))).set j (some (.int y)))[i]? = some (some (.int x)))
    (hj : ∀ x y : Int, (((wipe σ own).set i (some (.int x))).set j (some (.int y)))[j]? = some (some (.int y))) (hl : ∀ x y : Int, (((wipe σ own).set i (some (.int x))).set j (some (.int y)))[l]? = some (some (.ref n)))
    (hd : ∀ H', H' D = some (.lst ((prods ps ns).map V.int)) → Same H1 H' → Qd H') :
    ∃ W : Nat → Nat → Hp → Prop, (∃ m, W 0 m (upd H1 D (.lst []))) ∧ ∀ m c H, W m c H →
      ((Itl K a).stop m H ∧ Qd H) ∨ ((Itl K a).go m H ∧ ∃ Nx : Hp → Prop, (∀ H', Nx H' → ∃ m', m' < c ∧ W (m + 1) m' H') ∧ ∀ x H', (Itl K a).yld m H x H' → gTup K 2 (gCons (gName i) (gCons (gName j) gNil)) x (wipe σ own) H' fun σ2 H2 => wipe σ2 own = wipe σ own ∧ tYes σ2 H2 fun b H3 =>
        if b = true then tOp (rI CMulW fun i j => .int (i * j)) (tVar j) (tOp rix (tVar l) (tVar i)) σ2 H3 fun y H4 => ∃ acc, H4 D = some (.lst acc) ∧ acc.length < sizeLine ∧ Nx (upd H4 D (.lst (acc ++ [y]))) else Nx H3) := by
  obtain ⟨len, at_⟩ := dpAll_at hp
  refine lc_list (fun m H' => H' D = some (.lst ((prods (ps.take m) ns).map V.int)) ∧ Same H1 H') ⟨by rw [upd_same]; rfl, Same.new hD⟩ (fun m H' _ ⟨_, s⟩ => SqL.same hT s) ?_ ?_
  · rintro m x H hx ⟨e, s⟩
    obtain ⟨d, hd1, hd2⟩ := at_ m x hx
    rw [List.getElem?_map] at hd1
    cases hq : ps[m]? with
    | none => rw [hq] at hd1; cases hd1
    | some q =>
      rw [hq] at hd1
      obtain ⟨t, rfl, ht⟩ := dp_pair ((Option.some.inj hd1) ▸ hd2)
      have hm := List.mem_of_getElem? hq
      obtain ⟨f0, f1, f2⟩ := hF.at_ q hm
      obtain ⟨g1, g2⟩ := num_at f0 f1
      refine rd_gtup (SqT.same ht s) rfl (rd_gcons (rd_gname (rd_gcons (rd_gname (rd_gnil ⟨hw _ _, rd_yes ?_⟩)))))
      rw [if_pos rfl]
      refine rd_op (rd_var (hj _ _) (rd_op (rd_var (hl _ _) (rd_var (hi _ _) (hix H q.1 _ _ (SqL.same hn s) g1 (rd_I (mb_mul f2 (hF.nm _ g2)) ⟨_, e, ?_, ?_, ?_⟩))))))
      · rw [List.length_map]
        show (List.map _ (ps.take m)).length < sizeLine
        rw [List.length_map]
        exact Nat.lt_of_le_of_lt (Nat.le_trans (List.length_take_le' ..) hF.len) (by decide)
      · rw [upd_same, List.take_add_one, hq]
        show _ = some (HO.lst (List.map V.int (List.map _ (ps.take m ++ [q]))))
        rw [List.map_append, List.map_append]
        rfl
      · intro b o eb
        rw [upd_ne (ne_of_none eb hD)]
        exact s b o eb
  · rintro H ⟨e, s⟩
    have e1 : vs.length = ps.length := by rw [len, List.length_map]
    rw [e1, List.take_length] at e
    exact hd H e s
end Tug
namespace Tug
open PySem L2 PySem.Spec PyProof.Rows
/-! ### tuples that are known to have no dict of their own, and dict(..) of such a tuple of pairs -/
/-- at a: such a tuple -/
def Tz (H : Hp) (a : Addr) (xs : List V) : Prop := ∃ o : Obj, H a = some (.frz o (.tup xs)) ∧ o.dict = none
theorem Tz.sq {K : PySem.W.Frag} {H : Hp} {a : Addr} {xs : List V} (h : Tz H a xs) : SqT K H a xs := by
  obtain ⟨o, e, _⟩ := h
  exact .inl (.inr ⟨o, e⟩)
theorem Tz.same {H H' : Hp} {a : Addr} {xs : List V} (h : Tz H a xs) (s : Same H H') : Tz H' a xs := by
  obtain ⟨o, e, d⟩ := h
  exact ⟨o, s _ _ e, d⟩
def rTupZ (K : PySem.W.Frag) : List V → Hp → VK → Prop := fun xs H Q => ∃ p ys, xs = [.ref p] ∧ SqL K H p ys ∧ ∀ l o, H l = none → o.dict = none → Q (.ref l) (upd H l (.frz o (.tup ys)))
def rDictT (K : PySem.W.Frag) : List V → Hp → VK → Prop := fun xs H Q => ∃ (a : Addr) (ps : List Addr) (kvs : List (Key × V)), xs = [.ref a] ∧ Tz H a (ps.map V.ref) ∧ Paired (fun p kv => SqT K H p [kV kv.1, kv.2]) ps kvs ∧ ∀ p, H p = none → Q (.ref p) (upd H p (.dK (mergeK [] kvs)))
section
variable {X : Cx}
theorem call_tupZ : CallR X (.type "tuple") (rTupZ X.K) := by
  intro pins s σ H xs us Q I r h
  obtain ⟨p, ys, rfl, hq, q⟩ := h
  obtain ⟨u, rfl, rx⟩ := vals1 r
  cases rx
  obtain ⟨its, r', pl, hz⟩ := I.list hq
  have hlen := r'.length
  refine call_tuple_list pl.isList (fun h' kp => ?_) (by simp only [List.size_toArray] <;> omega)
  have I1 : Inv X pins σ H { s with heap := h' } := I.kept (t' := s.toks) kp
  have I2 : Inv X pins σ (upd H h'.objs.size (.frz { cls := .type "tuple", data := .seq its.toArray } (.tup ys))) { s with heap := h'.push { cls := .type "tuple", data := .seq its.toArray } } :=
    I1.laid (t' := s.toks) (fun b o e => Heap.get?_push_of_some _ e) (Nat.le_refl _) (show ObjOk X.prog X.w _ _ _ (.frz _ (.tup ys)) from ⟨Heap.get?_push_size _ rfl, hz, its, r', IsTup.new _ _⟩)
  exact ⟨.ref h'.objs.size, _, I2, rfl, q _ _ (I1.hok.fresh (Nat.le_refl _)) rfl⟩
theorem pairs_of2 {pins : List (Addr × Obj)} {σ : L2.St} {H : Hp} {s : Shared} (I : Inv X pins σ H s) : ∀ {ps : List Addr} {kvs : List (Key × V)}, Paired (fun p kv => SqT X.K H p [kV kv.1, kv.2]) ps kvs →
    ∃ (prs : List (Key × Value)) (vps : List (Value × Value)), KV kvs prs ∧ prs.length = ps.length ∧ vps.length = ps.length ∧ ∀ (j : Nat) (k v : Value), vps[j]? = some (k, v) → ∃ (b : Addr) (c : Key), ps[j]? = some b ∧ prs[j]? = some (c, v) ∧ IsTup s.heap b #[k, v] ∧ (mixKind X.prog X.w).is c k = true
  | _, _, .nil => ⟨[], [], .nil, rfl, rfl, fun j k v e => by simp at e⟩
  | _, _, .cons (a := p) (b := kv) h t => by
    obtain ⟨prs, vps, r, hl, hl2, hp⟩ := pairs_of2 I t
    obtain ⟨its, rv, ht, _⟩ := I.tuple h
    obtain ⟨u, y, ei, ru, ry⟩ := vals2 rv
    subst ei
    refine ⟨(kv.1, y) :: prs, (u, y) :: vps, .cons ⟨rfl, ry⟩ r, by rw [List.length_cons, List.length_cons, hl], by rw [List.length_cons, List.length_cons, hl2], fun j k v e => ?_⟩
    cases j with
    | zero =>
      have e' : (u, y) = (k, v) := Option.some.inj e
      cases e'
      exact ⟨p, kv.1, rfl, rfl, ht, kV_is (P := X.prog) (w := X.w) ru⟩
    | succ j =>
      obtain ⟨b, c, e1, e2, e3⟩ := hp j k v (by simpa using e)
      exact ⟨b, c, by simpa using e1, by simpa using e2, e3⟩
theorem call_dictT (hcalm : X.calm = true) : CallR X (.type "dict") (rDictT X.K) := by
  intro pins s σ H xs us Q I r q
  obtain ⟨a, ps, kvs, ex, ⟨o, e, hd⟩, hp, q⟩ := q
  subst ex
  obtain ⟨u, eu, rx⟩ := vals1 r
  subst eu
  cases rx
  obtain ⟨ho, hz, its, rv, o', ho', hc, n, hdat⟩ : s.heap.get? a = some o ∧ (ps.map V.ref).length ≤ sizeLine ∧ ∃ its : List Value, Vals (ps.map V.ref) its ∧ IsTup s.heap a its.toArray := I.hok a _ e
  have eo : o = o' := Option.some.inj (ho.symm.trans ho')
  subst eo
  have ei := refs_at rv
  subst ei
  rw [List.length_map] at hz
  obtain ⟨prs, vps, rel, hl, hl2, hpr⟩ := pairs_of2 I hp
  refine PySem.call_dict_pairs (knd := mixKind X.prog X.w) (kvs := prs) (PairArg.tuple a (ps.map Value.ref).toArray (fun j => ps.getD j 0) vps) (I.ok.hd hcalm) ⟨⟨o, n, ho, hc, hd, hdat⟩, by simp [hl2], fun j k v ej => ?_⟩ ⟨hl.trans hl2.symm, fun j k v ej => ?_⟩ (by rw [hl2]; exact hz) fun h' tk hd' kk => ?_
  · obtain ⟨b, c, e1, e2, e3, e4⟩ := hpr j k v ej
    have e5 : ps.getD j 0 = b := by rw [List.getD_eq_getElem?_getD, e1]; rfl
    refine ⟨by show (List.map Value.ref ps).toArray[j]? = some (Value.ref (ps.getD j 0)); rw [e5]; simp [e1], .inl ?_⟩
    show s.heap.IsTuple (ps.getD j 0) #[k, v]
    rw [e5]
    exact e3
  · obtain ⟨b, c, e1, e2, e3, e4⟩ := hpr j k v ej
    exact ⟨c, e2, e4⟩
  · have hm : (s.heap.objs.size == sysModules) = false := beq_eq_false_iff_ne.mpr (Nat.ne_of_gt I.big)
    have hlen : (mergeK [] kvs).length ≤ sizeLine := by
      refine Nat.le_trans (length_mergeK kvs []) ?_
      rw [List.length_nil, Nat.zero_add, rel.length, hl]
      exact hz
    exact ⟨.ref s.heap.objs.size, upd H s.heap.objs.size (.dK (mergeK [] kvs)), I.laid (t' := tk) (fun b ob eb => kk b ob (by simp) eb) (Nat.le_refl _) (show ObjOk X.prog X.w _ _ _ (.dK (mergeK [] kvs)) from ⟨hlen, hm, merged [] prs, KV.merge rel .nil, hd'⟩), rfl, q _ (I.hok.fresh (Nat.le_refl _))⟩
end
/-! ### the times of a form, as a dict has them -/
def kvp (q : Int × Int) : Key × V := (Sum.inl q.1, V.int q.2)
def tm (ps : List (Int × Int)) (k : Int) : Int := ((ps.find? fun q => decide (q.1 = k)).map (·.2)).getD 0
theorem dp_refs {K : PySem.W.Frag} {H : Hp} : ∀ {vs : List V} {ps : List (Int × Int)}, DpAll K H vs (ps.map pd) → ∃ as : List Addr, vs = as.map V.ref ∧ Paired (fun p (kv : Key × V) => SqT K H p [kV kv.1, kv.2]) as (ps.map kvp)
  | [], [], _ => ⟨[], rfl, .nil⟩
  | v :: vs, q :: ps, h => by
    cases h with
    | cons a r =>
      obtain ⟨t, rfl, ht⟩ := dp_pair a
      obtain ⟨as, rfl, hp⟩ := dp_refs r
      exact ⟨t :: as, rfl, .cons ht hp⟩
theorem putK_new {kvs : List (Key × V)} {k : Key} {v : V} (h : ∀ q ∈ kvs, q.1 ≠ k) : putK kvs k v = kvs ++ [(k, v)] := by
  unfold putK
  rw [if_neg]
  intro z
  obtain ⟨q, hq, e⟩ := List.any_eq_true.mp z
  exact h q hq (of_decide_eq_true e)
theorem merge_new : ∀ (more acc : List (Key × V)), (∀ q ∈ more, ∀ r ∈ acc, r.1 ≠ q.1) → more.Pairwise (fun a b => a.1 ≠ b.1) → mergeK acc more = acc ++ more
  | [], acc, _, _ => (List.append_nil acc).symm
  | q :: more, acc, h, hp => by
    have hq := List.pairwise_cons.mp hp
    show mergeK (putK acc q.1 q.2) more = _
    rw [putK_new (h q List.mem_cons_self), merge_new more _ (fun x hx r hr => ?_) hq.2, List.append_assoc]
    · rfl
    · rcases List.mem_append.mp hr with hr | hr
      · exact h x (List.mem_cons_of_mem _ hx) r hr
      · rw [List.mem_singleton.mp hr]; exact hq.1 x hx
theorem val_kvp (k : Int) : ∀ ps : List (Int × Int), valV (ps.map kvp) (Sum.inl k : Key) = (ps.find? fun q => decide (q.1 = k)).map fun q => V.int q.2
  | [] => rfl
  | q :: ps => by
    have ih := val_kvp k ps
    unfold valV at ih ⊢
    rw [List.map_cons, List.find?_cons, List.find?_cons]
    have e : decide ((kvp q).1 = (Sum.inl k : Key)) = decide (q.1 = k) := by
      by_cases h : q.1 = k
      · rw [decide_eq_true h, decide_eq_true]; show Sum.inl q.1 = Sum.inl k; rw [h]
      · rw [decide_eq_false h, decide_eq_false]
        intro z
        exact h (Sum.inl.inj z)
    rw [e]
    cases decide (q.1 = k) with
    | true => rfl
    | false => exact ih
/-- the keys differ -/
abbrev Uq (ps : List (Int × Int)) : Prop := ps.Pairwise fun a b => a.1 ≠ b.1
theorem merge_kvp {ps : List (Int × Int)} (h : Uq ps) : mergeK [] (ps.map kvp) = ps.map kvp := by
  rw [merge_new _ [] (fun _ _ r hr => (nomatch hr)) ?_, List.nil_append]
  rw [List.pairwise_map]
  exact h.imp fun h z => h (Sum.inl.inj z)
theorem getD_tm {ps : List (Int × Int)} {k : Int} : (valV (ps.map kvp) (Sum.inl k : Key)).getD (V.int 0) = V.int (tm ps k) := by
  rw [val_kvp]
  unfold tm
  cases ps.find? fun q => decide (q.1 = k) <;> rfl
theorem rd_dictT {K : PySem.W.Frag} {H : Hp} {Q : VK} {b : Addr} {vs : List V} {ps : List (Int × Int)} (hz : Tz H b vs) (hd : DpAll K H vs (ps.map pd)) (hu : Uq ps) (k : ∀ p, H p = none → Q (.ref p) (upd H p (.dK (ps.map kvp)))) : rDictT K [.ref b] H Q := by
  obtain ⟨as, rfl, hp⟩ := dp_refs hd
  refine ⟨b, as, _, rfl, hz, hp, fun p hp' => ?_⟩
  rw [merge_kvp hu]
  exact k p hp'
theorem rd_tupZ {K : PySem.W.Frag} {H : Hp} {Q : VK} {p : Addr} {ys : List V} (h : SqL K H p ys) (k : ∀ l o, H l = none → o.dict = none → Q (.ref l) (upd H l (.frz o (.tup ys)))) : rTupZ K [.ref p] H Q := ⟨p, ys, rfl, h, k⟩
/-- at v: a form, its parts a tuple without a dict of its own -/
def FmZ (K : PySem.W.Frag) (H : Hp) (v : V) (f : Fm) : Prop := ∃ a b vs, v = .ref a ∧ SqT K H a [.int f.1, .ref b] ∧ Tz H b vs ∧ DpAll K H vs (f.2.map pd)
theorem FmZ.dp {K : PySem.W.Frag} {H : Hp} {v : V} {f : Fm} (h : FmZ K H v f) : Dp K H v (fmd f) := by
  obtain ⟨a, b, vs, rfl, h1, h2, h3⟩ := h
  exact .tup h1 (.cons (.int _) (.cons (.tup h2.sq h3) .nil))
theorem FmZ.same {K : PySem.W.Frag} {H H' : Hp} {v : V} {f : Fm} (s : Same H H') (h : FmZ K H v f) : FmZ K H' v f := by
  obtain ⟨a, b, vs, rfl, h1, h2, h3⟩ := h
  exact ⟨a, b, vs, rfl, SqT.same h1 s, h2.same s, DpAll.same s h3⟩
theorem rd_dget2 {td ty tx : TE} {σ : L2.St} {H : Hp} {Q : VK} (k : td σ H fun x H1 => ∃ a, x = .ref a ∧ IsD H1 a ∧ ty σ H1 fun y H2 => tx σ H2 fun z H3 => ∃ o, DGet H3 a y o ∧ Q (o.getD z) H3) : tDGet2 td ty tx σ H Q := k
end Tug
namespace Tug
open PySem L2
local macro_rules | `(tactic| walk_at "rd") => `(tactic| (first
  | with_reducible refine rd_seq ?_
  | with_reducible refine rd_if ?_
  | with_reducible refine rd_asg ?_
  | with_reducible refine rd_ret ?_
  | with_reducible refine rd_drop ?_
  | with_reducible refine rd_next ?_
  | ((with_reducible refine' rd_var ?rde ?_); (case rde => rfl))
  | with_reducible refine rd_c ?_
  | with_reducible refine rd_op ?_
  | with_reducible refine rd_un ?_
  | with_reducible refine rd_neg ?_
  | with_reducible refine rd_I0 ?_
  | with_reducible refine rd_nil ?_
  | with_reducible refine rd_cons ?_
  | with_reducible refine rd_tup ?_
  | with_reducible refine rd_lst ?_
  | with_reducible refine rd_gname ?_
  | with_reducible refine rd_gsub ?_
  | with_reducible refine rd_test ?_
  | with_reducible refine rd_B ?_
  | ((with_reducible show ∃ k, V.bl _ = V.bl k ∧ _); refine ⟨_, rfl, ?_⟩)
  | with_reducible refine rd_and ?_
  | with_reducible refine rd_or ?_
  | with_reducible refine rd_not ?_
  | with_reducible refine rd_ifE ?_
  | with_reducible refine rd_call ?_
  | with_reducible refine rd_cb ?_
  | ((with_reducible refine' rd_eq ?rdc ?_); (case rdc => rfl))
  | ((with_reducible refine' rd_ne ?rdc ?_); (case rdc => rfl))
  | ((with_reducible refine' rd_ixL ?rda ?rdb ?_); (case rda => first | exact SqL.of (by assumption) | assumption); (case rdb => rfl))
  | ((with_reducible refine' rd_ixT ?rda ?rdb ?_); (case rda => first | exact SqT.of (by assumption) | assumption); (case rdb => rfl))
  | ((with_reducible refine' rd_setL ?rda ?rdb ?_); (case rda => assumption); (case rdb => rfl))
  | ((with_reducible refine' rd_lenL ?rda ?_); (case rda => first | exact SqL.of (by assumption) | assumption))
  | with_reducible refine rd_yes ?_
  | with_reducible refine rd_par ?_
  | with_reducible refine rd_gcons ?_
  | with_reducible refine rd_gnil ?_
  | ((with_reducible refine' rd_decY ?rdc ?_); (case rdc => decide))
  | ((with_reducible refine' rd_decF ?rdc ?_); (case rdc => decide))
  | with_reducible refine iteF ?_
  | with_reducible refine iteT ?_
  | with_reducible refine rd_max ?_
  | with_reducible refine rd_min ?_
  | ((with_reducible refine' rd_I ?rdc ?_); (case rdc => first | (show (0 : Int) < _; omega) | exact ⟨by decide, by decide⟩ | exact ⟨by decide, by decide, by decide⟩ | exact .inr ⟨by omega, by omega⟩ | exact .inl ⟨by omega, by omega⟩ | exact CPowW.of (by decide) (by decide) (by omega) (by omega) | fail "rdc"))
  | with_reducible refine rd_nx ?_
  | fail "rd"))
def top (i : Nat) : Stmt := PySem.Challenge.pw_tugline_k21_forms_along_a_knob.main.body.getD i (.Pass ⟨0, 0, 0, 0⟩)
abbrev sWell : Stmt := top 4
abbrev sDraw : Stmt := top 5
abbrev sPick : Stmt := top 6
def spDraw : Sp := fun vs H Q _ => ∃ (p : Addr) (m : Int), vs = [.ref p, .int m] ∧ Well H p ∧ Dv m ∧ ∀ (r : Int) (H' : Hp), 0 ≤ r → r < m → Well H' p → But p H H' → Q (.int r) H'
section
variable {P : Program} {w : World} {K : PySem.W.Frag} {mg : Str → Option Value} {base : Heap}
theorem scD : FnScope ["well", "many", "found"] ["well", "many"] (defScope sDraw) := ⟨rfl, rfl, rfl, by decide +kernel, rfl, by decide +kernel, by decide +kernel⟩
theorem ok_draw {f : Addr} {fd : FuncData} (F : Fun K "_law_draw" "_law_draw" sDraw f fd) : FnOk P w K mg base CX0 1 f fd ["well", "many"] spDraw := by
  refine F.ok scD (fun vs H Q E h => ?_) (fun cdv A outer s H vs Q E hr h => ?_)
  · obtain ⟨p, m, rfl, _⟩ := h
    rfl
  · obtain ⟨p, m, rfl, ⟨a, b, hp, ha, hb, hb2⟩, hm, k⟩ := h
    refine ⟨_, pss_cons (ps_if (pt_cmpR op_ge (pe_ix ix_list (pv 0) pe_int (fun _ _ => rfl)) (pv 1) (nomark _))
        (pss_cons (ps_set (i := 2) scD.nd rfl (Or.inl rfl) (pe_op op_mod (pe_ix ix_list (pv 0) pe_int (fun _ _ => rfl)) (pv 1)))
        (pss_cons (ps_asg (pe_op op_fdivW (pe_ix ix_list (pv 0) pe_int (fun _ _ => rfl)) (pv 1)) (pg_sub (pv 0) pe_int set_list))
        (pss_one (ps_ret (pv 2))))) pss_nil)
      (pss_cons (ps_asg (pe_op op_mod (pe_op op_add (pe_op op_mul (pe_ix ix_list (pv 0) pe_int (fun _ _ => rfl)) pe_int) pe_int) pe_int) (pg_sub (pv 0) pe_int set_list))
      (pss_one (ps_ret (pe_op op_mod (pe_op op_fdiv (pe_op op_mod (pe_op op_powW (pe_op op_mod (pe_op op_powW (pe_ix ix_list (pv 0) pe_int (fun _ _ => rfl)) pe_int) pe_int) pe_int) pe_int) pe_int) (pv 1))))), ?_⟩
    repeat walk_at "rd"
    refine rd_dec (fun hc => ?_) (fun hc => ?_)
    · have h0 := hm.1
      repeat walk_at "rd"
      refine rd_I hm.w ?_
      repeat walk_at "rd"
      refine k _ _ (Int.emod_nonneg _ (by omega)) (Int.emod_lt_of_pos _ h0) ⟨a / m, b, upd_same, Int.ediv_nonneg ha (by omega), hb, hb2⟩ But.upd
    · have h0 := hm.1
      repeat walk_at "rd"
      have e1 : H p = H p := rfl
      refine rd_ixL (SqL.of upd_same) rfl ?_
      repeat walk_at "rd"
      refine k _ _ (Int.emod_nonneg _ (by omega)) (Int.emod_lt_of_pos _ h0) ⟨a, _, upd_same, ha, Int.emod_nonneg _ (by decide), by omega⟩ But.upd
/-- the well of a script: a new list -/
def spWell (K : PySem.W.Frag) : Sp := fun vs H Q _ => ∃ (a : Addr) (ns : List Int) (k : Int), vs = [.ref a, .int k] ∧ SqL K H a (ns.map V.int) ∧ (∀ z ∈ ns, Builtin.Int.intBits z ≤ 1048576) ∧ 0 ≤ k ∧ k < 100 ∧ ∀ (p : Addr) (H' : Hp), H p = none → Well H' p → But p H H' → Q (.ref p) H'
theorem scW : FnScope ["script", "k", "seed", "cell", "own"] ["script", "k"] (defScope sWell) := ⟨rfl, rfl, rfl, by decide +kernel, rfl, by decide +kernel, by decide +kernel⟩
theorem ok_well {f : Addr} {fd : FuncData} (F : Fun K "_law_well" "_law_well" sWell f fd) (len : mg "len" = none) : FnOk P w K mg base CX0 1 f fd ["script", "k"] (spWell K) := by
  refine F.ok scW (fun vs H Q E h => ?_) (fun cdv A outer s H vs Q E hr h => ?_)
  · obtain ⟨a, ns, k, rfl, _⟩ := h
    rfl
  · obtain ⟨a, ns, k, rfl, hS, hbits, hk, hk2, kq⟩ := h
    refine ⟨_, pss_cons (ps_set (i := 2) scW.nd rfl (Or.inl rfl) (pe_op op_add pe_int (pv 1)))
      (pss_cons (ps_for PassesOwn.never rfl (pi_list (pv 0)) (pg_name (i := 3) scW.nd rfl (Or.inl rfl))
        (pss_one (ps_set (i := 2) scW.nd rfl (Or.inl rfl) (pe_op op_add (pe_op op_mod (pe_op op_powW (pe_op op_add (pe_op op_mul (pv 2) pe_int) (pv 3)) pe_int) pe_int) pe_int))))
      (pss_cons (ps_set (i := 4) scW.nd rfl (Or.inl rfl) pe_int)
      (pss_cons (ps_if (pw_and (pt_cmpR op_lt (pv 1) (pe_callB call_len (by rfl) len PySem.boot_len (pa_cons (pv 0) pa_nil)) (nomark _)) (pw_and1 (pt_cmpR op_ge (pe_ix ix_list (pv 0) (pv 1) (fun _ _ => rfl)) (pe_op op_pow pe_int pe_int) (nomark _)))).pt
          (pss_one (ps_set (i := 4) scW.nd rfl (Or.inl rfl) (pe_op op_sub (pe_ix ix_list (pv 0) (pv 1) (fun _ _ => rfl)) (pe_op op_pow pe_int pe_int)))) pss_nil)
      (pss_one (ps_ret (pe_lst (pa_cons (pv 4) (pa_cons (pv 2) pa_nil)))))))), ?_⟩
    repeat walk_at "rd"
    refine rd_forL (i := 0) (p := a) (xs := ns.map V.int) rfl hS (fun i σ H' => ∃ (sd : Int) (v : Option V), σ = [some (.ref a), some (.int k), some (.int sd), v, none] ∧ H' = H ∧ 0 ≤ sd ∧ sd < 2147483648)
      ⟨7 + k, none, rfl, rfl, by omega, by omega⟩ (fun i σ H' _ ⟨_, _, _, e, _⟩ => by rw [e]; exact hS) ?_ ?_
    · rintro i x σ H' hi ⟨sd, v, rfl, rfl, h0, h1⟩
      obtain ⟨z, hz, rfl⟩ := getInt hi
      have hb := hbits z (List.mem_of_getElem? hz)
      repeat walk_at "rd"
      refine rd_I (CPowW.add (by decide) (by decide) (by omega) (by omega) hb) ?_
      repeat walk_at "rd"
      exact ⟨_, _, rfl, rfl, by have := Int.emod_nonneg ((sd * 50021 + z) ^ (3 : Int).toNat) (show (2147483629 : Int) ≠ 0 by decide); omega, by have := Int.emod_lt_of_pos ((sd * 50021 + z) ^ (3 : Int).toNat) (show (0 : Int) < 2147483629 by decide); omega⟩
    · rintro σ H' ⟨sd, v, rfl, rfl, h0, h1⟩
      have hS' := hS
      have fin : ∀ own : Int, 0 ≤ own → ([V.int own, V.int sd].length ≤ sizeLine ∧ ∀ p, H' p = none → Q (.ref p) (upd H' p (.lst [V.int own, V.int sd]))) := fun own ho =>
        ⟨by show 2 ≤ sizeLine; decide, fun p hp => kq p _ hp ⟨own, sd, upd_same, ho, h0, h1⟩ But.upd⟩
      repeat walk_at "rd"
      refine rd_dec (fun hc => ?_) (fun _ => ?_)
      · rw [List.length_map] at hc
        obtain ⟨z, hz, hz2⟩ := atI_in (xs := ns) hk hc
        have hat : atI (ns.map V.int) k = some (V.int z) := by
          unfold atI ixN at hz2 ⊢
          rw [List.length_map, if_pos hk, if_pos hc, Option.bind_some] at *
          rw [List.getElem?_map, hz2]
          rfl
        repeat walk_at "rd"
        refine rd_ixL hS' hat ?_
        repeat walk_at "rd"
        refine rd_dec (fun hc2 => ?_) (fun _ => ?_)
        · repeat walk_at "rd"
          refine rd_ixL hS' hat ?_
          repeat walk_at "rd"
          have e : ((10 : Int) ^ (18 : Int).toNat) = 1000000000000000000 := by decide
          rw [e] at hc2 ⊢
          exact fin _ (by omega)
        · repeat walk_at "rd"
          exact fin 0 (Int.le_refl _)
      · repeat walk_at "rd"
        exact fin 0 (Int.le_refl _)
/-- one of some, by the well -/
def spPick (K : PySem.W.Frag) : Sp := fun vs H Q _ => ∃ (p q : Addr) (xs : List V), vs = [.ref p, .ref q] ∧ Well H p ∧ Sq K H q xs ∧ q ≠ p ∧ 0 < xs.length ∧ xs.length ≤ 1000 ∧ ∀ (v : V) (H' : Hp), v ∈ xs → Well H' p → But p H H' → Q v H'
theorem scP : FnScope ["well", "some"] ["well", "some"] (defScope sPick) := ⟨rfl, rfl, rfl, by decide +kernel, rfl, by decide +kernel, by decide +kernel⟩
theorem ok_pick {f fD : Addr} {fd fdD : FuncData} (F : Fun K "_law_pick" "_law_pick" sPick f fd) (FD : Fun K "_law_draw" "_law_draw" sDraw fD fdD) (bD : Binds K fdD ["well", "many"] []) (mD : mg "_law_draw" = some (.ref fD)) (len : mg "len" = none) : FnOk P w K mg base CX0 2 f fd ["well", "some"] (spPick K) := by
  have GD : FnOk P w K mg base CX0 1 fD fdD ["well", "many"] spDraw := ok_draw FD
  refine F.ok scP (fun vs H Q E h => ?_) (fun cdv A outer s H vs Q E hr h => ?_)
  · obtain ⟨p, q, xs, rfl, _⟩ := h
    rfl
  · obtain ⟨p, q, xs, rfl, hw, hq, hkeep, hl, hl2, k⟩ := h
    refine ⟨_, pss_one (ps_ret (pe_ix ix_seq (pv 1) (pe_call GD hr rfl mD FD.kp bD .nil pass0 (pa_cons (pv 0) (pa_cons (pe_callB call_len (by rfl) len PySem.boot_len (pa_cons (pv 1) pa_nil)) pa_nil))) (fun _ _ => rfl))), ?_⟩
    repeat walk_at "rd"
    refine rd_lenQ hq ?_
    repeat walk_at "rd"
    refine ⟨p, _, rfl, hw, ⟨by omega, by omega⟩, fun r H' h0 h1 hw' hb => ?_⟩
    obtain ⟨v, hv, ha⟩ := atI_in h0 h1
    exact rd_ixQ (hq.but hkeep hb) ha (k v H' hv hw' hb)
end
end Tug
namespace Tug
open PySem L2
local macro_rules | `(tactic| walk_at "rd") => `(tactic| (first
  | with_reducible refine rd_seq ?_
  | with_reducible refine rd_if ?_
  | with_reducible refine rd_asg ?_
  | with_reducible refine rd_ret ?_
  | with_reducible refine rd_drop ?_
  | with_reducible refine rd_next ?_
  | ((with_reducible refine' rd_var ?rde ?_); (case rde => rfl))
  | with_reducible refine rd_c ?_
  | with_reducible refine rd_op ?_
  | with_reducible refine rd_un ?_
  | with_reducible refine rd_neg ?_
  | with_reducible refine rd_I0 ?_
  | with_reducible refine rd_nil ?_
  | with_reducible refine rd_cons ?_
  | with_reducible refine rd_tup ?_
  | with_reducible refine rd_lst ?_
  | with_reducible refine rd_gname ?_
  | with_reducible refine rd_gsub ?_
  | with_reducible refine rd_test ?_
  | with_reducible refine rd_B ?_
  | ((with_reducible show ∃ k, V.bl _ = V.bl k ∧ _); refine ⟨_, rfl, ?_⟩)
  | with_reducible refine rd_and ?_
  | with_reducible refine rd_or ?_
  | with_reducible refine rd_not ?_
  | with_reducible refine rd_ifE ?_
  | with_reducible refine rd_call ?_
  | with_reducible refine rd_cb ?_
  | ((with_reducible refine' rd_eq ?rdc ?_); (case rdc => rfl))
  | ((with_reducible refine' rd_ne ?rdc ?_); (case rdc => rfl))
  | ((with_reducible refine' rd_ixL ?rda ?rdb ?_); (case rda => first | exact SqL.of (by assumption) | assumption); (case rdb => rfl))
  | ((with_reducible refine' rd_ixT ?rda ?rdb ?_); (case rda => first | exact SqT.of (by assumption) | assumption); (case rdb => rfl))
  | ((with_reducible refine' rd_setL ?rda ?rdb ?_); (case rda => assumption); (case rdb => rfl))
  | ((with_reducible refine' rd_lenL ?rda ?_); (case rda => first | exact SqL.of (by assumption) | assumption))
  | with_reducible refine rd_yes ?_
  | with_reducible refine rd_par ?_
  | with_reducible refine rd_gcons ?_
  | with_reducible refine rd_gnil ?_
  | ((with_reducible refine' rd_decY ?rdc ?_); (case rdc => decide))
  | ((with_reducible refine' rd_decF ?rdc ?_); (case rdc => decide))
  | with_reducible refine iteF ?_
  | with_reducible refine iteT ?_
  | with_reducible refine rd_max ?_
  | with_reducible refine rd_min ?_
  | ((with_reducible refine' rd_I ?rdc ?_); (case rdc => first | (show (0 : Int) < _; omega) | exact ⟨by decide, by decide⟩ | exact ⟨by decide, by decide, by decide⟩ | exact .inr ⟨by omega, by omega⟩ | exact .inl ⟨by omega, by omega⟩ | exact CPowW.of (by decide) (by decide) (by omega) (by omega) | fail "rdc"))
  | with_reducible refine rd_nx ?_
  | fail "rd"))
abbrev sNumber : Stmt := top 7
abbrev sForm : Stmt := top 8
/-- all that was tracked is as it was, but at p and at q -/
def Keep2 (p q : Addr) (H H' : Hp) : Prop := ∀ c o, c ≠ p → c ≠ q → H c = some o → H' c = some o
theorem Keep2.of {p q : Addr} {A B : Hp} (k : Keep p A B) : Keep2 p q A B := fun c o n _ e => k c o n e
theorem Keep2.trans {p q : Addr} {A B C : Hp} (a : Keep2 p q A B) (b : Keep2 p q B C) : Keep2 p q A C := fun c o n m e => b c o n m (a c o n m e)
theorem Keep2.upd {p q : Addr} {A B : Hp} {o : HO} (k : Keep2 p q A B) : Keep2 p q A (L2.upd B q o) := fun c u n m e => by rw [upd_ne m]; exact k c u n m e
theorem Keep2.new {p q a : Addr} {A B : Hp} {o : HO} (k : Keep2 p q A B) (h : B a = none) : Keep2 p q A (L2.upd B a o) := fun c u n m e => by rw [upd_ne (ne_of_none (k c u n m e) h)]; exact k c u n m e
theorem Keep2.keep {p D : Addr} {H H' : Hp} {o : HO} (hD : H D = none) (k : Keep2 p D (L2.upd H D o) H') : Keep p H H' := fun c u n e => by
  have m : c ≠ D := ne_of_none e hD
  exact k c u n m ((upd_ne m).trans e)
theorem Well.put {H : Hp} {p q : Addr} {o : HO} (w : Well H p) (n : q ≠ p) : Well (L2.upd H q o) p := by
  obtain ⟨a, b, e, r⟩ := w
  exact ⟨a, b, by rw [upd_ne (Ne.symm n)]; exact e, r⟩
/-- a number of at most so many figures -/
abbrev Big : Int := 10 ^ 59
def spNumber : Sp := fun vs H Q _ => ∃ p : Addr, vs = [.ref p] ∧ Well H p ∧ ∀ (n : Int) (H' : Hp), -(10 ^ 59) ≤ n → n ≤ 10 ^ 59 → Well H' p → Keep p H H' → Q (.int n) H'
section
variable {P : Program} {w : World} {K : PySem.W.Frag} {mg : Str → Option Value} {base : Heap}
theorem scNu : FnScope ["well", "great"] ["well"] (defScope sNumber) := ⟨rfl, rfl, rfl, by decide +kernel, rfl, by decide +kernel, by decide +kernel⟩
theorem ok_number {f fD fP : Addr} {fd fdD fdP : FuncData} (F : Fun K "_law_number" "_law_number" sNumber f fd)
    (GD : FnOk P w K mg base CX0 1 fD fdD ["well", "many"] spDraw) (bD : Binds K fdD ["well", "many"] []) (mD : mg "_law_draw" = some (.ref fD)) (kD : PySem.W.keepIn K (.ref fD) = true)
    (GP : FnOk P w K mg base CX0 2 fP fdP ["well", "some"] (spPick K)) (bP : Binds K fdP ["well", "some"] []) (mP : mg "_law_pick" = some (.ref fP)) (kP : PySem.W.keepIn K (.ref fP) = true) :
    FnOk P w K mg base CX0 3 f fd ["well"] spNumber := by
  refine F.ok scNu (fun vs H Q E h => ?_) (fun cdv A outer s H vs Q E hr h => ?_)
  · obtain ⟨p, rfl, _⟩ := h
    rfl
  · obtain ⟨p, rfl, hw, kq⟩ := h
    have hr1 : Room 1 _ := hr.mono (by omega)
    have hr2 : Room 2 _ := hr.mono (by omega)
    refine ⟨_, pss_cons (ps_set (i := 1) scNu.nd rfl (Or.inl rfl) (pe_call GP hr2 (by rfl) mP kP bP .nil pass0 (pa_cons (pv 0) (pa_cons (pe_lst (pa_cons pe_int (pa_cons pe_int (pa_cons pe_int (pa_cons (pe_op op_pow pe_int pe_int) pa_nil))))) pa_nil))))
      (pss_one (ps_ret (pe_call GP hr2 (by rfl) mP kP bP .nil pass0 (pa_cons (pv 0) (pa_cons (pe_lst (pa_cons pe_int (pa_cons pe_int (pa_cons (pe_op op_sub pe_int pe_int)
        (pa_cons (pe_op op_sub (pe_call GD hr1 (by rfl) mD kD bD .nil pass0 (pa_cons (pv 0) (pa_cons (pe_op op_add (pe_op op_mul pe_int (pv 1)) pe_int) pa_nil))) (pv 1))
        (pa_cons (pe_call GD hr1 (by rfl) mD kD bD .nil pass0 (pa_cons (pv 0) (pa_cons (pv 1) pa_nil))) pa_nil)))))) pa_nil))))), ?_⟩
    repeat walk_at "rd"
    refine ⟨by show 4 ≤ sizeLine; decide, fun q hq => ?_⟩
    repeat walk_at "rd"
    have nq : q ≠ p := fun z => hw.some (z ▸ hq)
    refine ⟨p, q, _, rfl, hw.upd hq, .inl (SqL.of upd_same), nq, by show 0 < 4; decide, by show 4 ≤ 1000; decide, fun v H1 hv w1 b1 => ?_⟩
    have k1 : Keep p H H1 := (Keep.new hq).trans b1.keep
    obtain ⟨g, rfl, g0, g1⟩ : ∃ g : Int, v = .int g ∧ 4 ≤ g ∧ g ≤ 10 ^ 59 := by
      simp only [List.mem_cons, List.not_mem_nil, or_false] at hv
      rcases hv with rfl | rfl | rfl | rfl
      · exact ⟨_, rfl, by decide, by decide +kernel⟩
      · exact ⟨_, rfl, by decide, by decide +kernel⟩
      · exact ⟨_, rfl, by decide, by decide +kernel⟩
      · exact ⟨_, rfl, by decide +kernel, by decide +kernel⟩
    have e59 : (10 : Int) ^ 70 = 100000000000 * 10 ^ 59 := by decide +kernel
    repeat walk_at "rd"
    refine ⟨p, _, rfl, w1, ⟨by omega, by omega⟩, fun r H2 r0 r1 w2 b2 => ?_⟩
    repeat walk_at "rd"
    refine ⟨p, _, rfl, w2, ⟨by omega, by omega⟩, fun r' H3 r2 r3 w3 b3 => ?_⟩
    repeat walk_at "rd"
    refine ⟨by show 5 ≤ sizeLine; decide, fun q2 hq2 => ?_⟩
    repeat walk_at "rd"
    have nq2 : q2 ≠ p := fun z => w3.some (z ▸ hq2)
    refine ⟨p, q2, _, rfl, w3.upd hq2, .inl (SqL.of upd_same), nq2, by show 0 < 5; decide, by show 5 ≤ 1000; decide, fun v H4 hv w4 b4 => ?_⟩
    have k4 : Keep p H H4 := (((k1.trans b2.keep).trans b3.keep).trans (Keep.new hq2)).trans b4.keep
    simp only [List.mem_cons, List.not_mem_nil, or_false] at hv
    have b0 : (0 : Int) < 10 ^ 59 := by decide +kernel
    rcases hv with rfl | rfl | rfl | rfl | rfl
    · exact kq _ H4 (by omega) (by omega) w4 k4
    · exact kq _ H4 (by omega) (by omega) w4 k4
    · exact kq _ H4 (by omega) (by omega) w4 k4
    · exact kq _ H4 (by omega) (by omega) w4 k4
    · exact kq _ H4 (by omega) (by omega) w4 k4
theorem rd_bmL {r : V → List V → Hp → VK → Prop} {i : Nat} {ta : TA} {σ : St} {H : Hp} {Q : VK} {p : Addr} {xs : List V} (hv : σ[i]? = some (some (.ref p))) (h : H p = some (.lst xs)) (k : ta σ H fun ys H2 => r (.ref p) ys H2 Q) : tBM K "list" r (tVar i) ta σ H Q := ⟨_, hv, .inl ⟨rfl, _, SqL.of h⟩, k⟩
theorem rd_append {H : Hp} {Q : VK} {p : Addr} {xs : List V} {y : V} (h : H p = some (.lst xs)) (hl : xs.length < 1000) (k : Q .non (upd H p (.lst (xs ++ [y])))) : rAppend (.ref p) [y] H Q := ⟨p, xs, y, rfl, rfl, h, Nat.lt_of_lt_of_le hl (by decide), k⟩
end
/-! ### forms -/
/-- numbers within sixty figures -/
abbrev Sm (n : Int) : Prop := -(10 ^ 59) ≤ n ∧ n ≤ 10 ^ 59
structure PsOk (m : Int) (ps : List (Int × Int)) : Prop where
  at_ : ∀ q ∈ ps, 0 ≤ q.1 ∧ q.1 < m ∧ q.2 ≠ 0 ∧ Sm q.2
  up : ps.Pairwise fun a b => a.1 < b.1
  len : (ps.length : Int) ≤ m
def spForm (K : PySem.W.Frag) : Sp := fun vs H Q _ => ∃ (p : Addr) (m : Int), vs = [.ref p, .int m] ∧ Well H p ∧ 0 ≤ m ∧ m ≤ 100 ∧
  ∀ (v : V) (f : Fm) (H' : Hp), FmZ K (nw H H') v f → Sm f.1 → PsOk m f.2 → Well H' p → Keep p H H' → Q v H'
theorem PsOk.nil : PsOk 0 [] := ⟨fun _ h => (nomatch h), .nil, Int.le_refl _⟩
theorem PsOk.up1 {m : Int} {ps : List (Int × Int)} (h : PsOk m ps) : PsOk (m + 1) ps := ⟨fun q hq => by have := h.at_ q hq; exact ⟨this.1, by omega, this.2.2⟩, h.up, by have := h.len; omega⟩
theorem PsOk.add {m : Int} {ps : List (Int × Int)} {n : Int} (h : PsOk m ps) (h0 : 0 ≤ m) (hn : n ≠ 0) (hs : Sm n) : PsOk (m + 1) (ps ++ [(m, n)]) := by
  refine ⟨fun q hq => ?_, List.pairwise_append.mpr ⟨h.up, List.pairwise_singleton _ _, fun a ha b hb => ?_⟩, ?_⟩
  · rcases List.mem_append.mp hq with hq | hq
    · have := h.at_ q hq; exact ⟨this.1, by omega, this.2.2⟩
    · rw [List.mem_singleton.mp hq]; exact ⟨h0, by show m < m + 1; omega, hn, hs⟩
  · rw [List.mem_singleton.mp hb]; exact (h.at_ a ha).2.1
  · have := h.len; rw [List.length_append]; show ((ps.length + 1 : Nat) : Int) ≤ m + 1; omega
section
variable {P : Program} {w : World} {K : PySem.W.Frag} {mg : Str → Option Value} {base : Heap}
theorem scFo : FnScope ["well", "many", "parts", "spot", "much"] ["well", "many"] (defScope sForm) := ⟨rfl, rfl, rfl, by decide +kernel, rfl, by decide +kernel, by decide +kernel⟩
theorem ok_form {f fD fN : Addr} {fd fdD fdN : FuncData} (F : Fun K "_law_form" "_law_form" sForm f fd)
    (GD : FnOk P w K mg base CX0 1 fD fdD ["well", "many"] spDraw) (bD : Binds K fdD ["well", "many"] []) (mD : mg "_law_draw" = some (.ref fD)) (kD : PySem.W.keepIn K (.ref fD) = true)
    (GN : FnOk P w K mg base CX0 3 fN fdN ["well"] spNumber) (bN : Binds K fdN ["well"] []) (mN : mg "_law_number" = some (.ref fN)) (kN : PySem.W.keepIn K (.ref fN) = true)
    (rng : mg "range" = none) (tup : mg "tuple" = none) : FnOk P w K mg base CX0 4 f fd ["well", "many"] (spForm K) := by
  refine F.ok scFo (fun vs H Q E h => ?_) (fun cdv A outer s H vs Q E hr h => ?_)
  · obtain ⟨p, m, rfl, _⟩ := h
    rfl
  · obtain ⟨p, m, rfl, hw, m0, m1, kq⟩ := h
    have hr1 : Room 1 _ := hr.mono (by omega)
    have hr3 : Room 3 _ := hr.mono (by omega)
    refine ⟨_, pss_cons (ps_set (i := 2) scFo.nd rfl (Or.inl rfl) (pe_lst pa_nil))
      (pss_cons (ps_for PassesOwn.never rfl (pi_range1 (by rfl) rng (pa_cons (pv 1) pa_nil)) (pg_name (i := 3) scFo.nd rfl (Or.inl rfl))
        (pss_cons (ps_set (i := 4) scFo.nd rfl (Or.inl rfl) (pe_call GN hr3 (by rfl) mN kN bN .nil pass0 (pa_cons (pv 0) pa_nil)))
        (pss_one (ps_if (pw_and (pt_cmpR op_ne (pv 4) pe_int (nomark _)) (pw_and1 (pt_cmpR op_eq (pe_call GD hr1 (by rfl) mD kD bD .nil pass0 (pa_cons (pv 0) (pa_cons pe_int pa_nil))) pe_int (nomark _)))).pt
          (pss_one (ps_expr (pe_bm PySem.F.plainAttrs_list PySem.F.slot_list_append PySem.F.type_list_append mt_append (pv 2) (pa_cons (pe_tup (pa_cons (pv 3) (pa_cons (pv 4) pa_nil))) pa_nil)))) pss_nil))))
      (pss_one (ps_ret (pe_tup (pa_cons (pe_call GN hr3 (by rfl) mN kN bN .nil pass0 (pa_cons (pv 0) pa_nil)) (pa_cons (pe_callTy call_tupZ (by rfl) tup (by decide +kernel) (pa_cons (pv 2) pa_nil)) pa_nil)))))), ?_⟩
    repeat walk_at "rd"
    refine ⟨by show 0 ≤ sizeLine; decide, fun D hD => ?_⟩
    repeat walk_at "rd"
    have nDp : D ≠ p := fun z => hw.some (z ▸ hD)
    refine rd_forR ?_
    repeat walk_at "rd"
    refine ⟨_, rfl, by omega, by omega, for_range (fun i σ H' => ∃ (o3 o4 : Option V) (vs : List V) (ps : List (Int × Int)), σ = [some (.ref p), some (.int m), some (.ref D), o3, o4] ∧ H' D = some (.lst vs) ∧ DpAll K (nw (upd H D (.lst [])) H') vs (ps.map pd) ∧ vs.length = ps.length ∧ PsOk i ps ∧ Well H' p ∧ Keep2 p D (upd H D (.lst [])) H')
      ⟨_, _, [], [], rfl, upd_same, .nil, rfl, .nil, hw.upd hD, fun _ _ _ _ e => e⟩ ?_ ?_⟩
    · rintro i σ H1 hi ⟨o3, o4, vs, ps, rfl, e1, e2, e3, e4, e5, e6⟩
      repeat walk_at "rd"
      refine ⟨p, rfl, e5, fun n H2 n0 n1 w2 k2 => ?_⟩
      have e1' : H2 D = some (.lst vs) := k2 D _ nDp e1
      have s2 : Same (nw (upd H D (.lst [])) H1) (nw (upd H D (.lst [])) H2) := nw_same fun b o h1 h2 => ⟨h1, k2 b o (fun z => (hw.upd hD (o := .lst [])).some (z ▸ h1)) h2⟩
      have e2' := DpAll.same s2 e2
      have e6' : Keep2 p D (upd H D (.lst [])) H2 := e6.trans (Keep2.of k2)
      repeat walk_at "rd"
      have go : PsOk ((i + 1 : Nat) : Int) ps := by have := e4.up1; exact_mod_cast this
      have nxt : ∀ o3 o4 : Option V, ∃ (o3' o4' : Option V) (vs : List V) (ps : List (Int × Int)), [some (V.ref p), some (V.int m), some (V.ref D), o3, o4] = [some (V.ref p), some (V.int m), some (V.ref D), o3', o4'] ∧ H2 D = some (.lst vs) ∧ DpAll K (nw (upd H D (.lst [])) H2) vs (ps.map pd) ∧ vs.length = ps.length ∧ PsOk ((i + 1 : Nat) : Int) ps ∧ Well H2 p ∧ Keep2 p D (upd H D (.lst [])) H2 :=
        fun o3 o4 => ⟨o3, o4, vs, ps, rfl, e1', e2', e3, go, w2, e6'⟩
      refine rd_decN (fun hn => ?_) (fun hn => ?_)
      · repeat walk_at "rd"
        refine ⟨p, 2, rfl, w2, ⟨by decide, by decide⟩, fun r H3 r0 r1 w3 b3 => ?_⟩
        have k3 := b3.keep
        have e1'' : H3 D = some (.lst vs) := k3 D _ nDp e1'
        have s3 : Same (nw (upd H D (.lst [])) H2) (nw (upd H D (.lst [])) H3) := nw_same fun b o h1 h2 => ⟨h1, k3 b o (fun z => (hw.upd hD (o := .lst [])).some (z ▸ h1)) h2⟩
        have e2'' := DpAll.same s3 e2'
        have e6'' : Keep2 p D (upd H D (.lst [])) H3 := e6'.trans (Keep2.of k3)
        repeat walk_at "rd"
        refine rd_dec (fun hc => ?_) (fun hc => ?_)
        · repeat walk_at "rd"
          refine rd_bmL rfl e1'' ?_
          repeat walk_at "rd"
          refine ⟨by show 2 ≤ sizeLine; decide, fun q hq => ?_⟩
          repeat walk_at "rd"
          have nqD : D ≠ q := ne_of_none e1'' hq
          have nqp : q ≠ p := fun z => w3.some (z ▸ hq)
          have e1q : (upd H3 q (.tup [.int (0 + (i : Int)), .int n])) D = some (.lst vs) := (upd_ne nqD).trans e1''
          have hlen := e4.len
          refine rd_append e1q (by omega) ?_
          repeat walk_at "rd"
          have old : ∀ b, H3 b = none → (upd H D (.lst [])) b = none := fun b hb => by
            by_cases eb : b = D
            · rw [eb, e1''] at hb; cases hb
            · by_cases ep : b = p
              · exact absurd (ep ▸ hb) w3.some
              · cases z : (upd H D (.lst [])) b with
                | none => rfl
                | some o => rw [e6'' b o ep eb z] at hb; cases hb
          refine ⟨_, _, vs ++ [.ref q], ps ++ [((i : Int), n)], rfl, upd_same, ?_, by simp [e3], by have := e4.add (by omega) (fun z => hn (by rw [z])) ⟨n0, n1⟩; exact_mod_cast this, (w3.upd hq).put nDp, (e6''.new hq).upd⟩
          rw [List.map_append]
          refine DpAll.app (DpAll.same (nw_same fun b o h1 h2 => ⟨h1, ?_⟩) e2'') (.tup (SqT.of (nw_of (old q hq) ((upd_ne (Ne.symm nqD)).trans upd_same))) ?_)
          · have m1 : b ≠ q := ne_of_none h2 hq
            have m2 : b ≠ D := fun z => by rw [z, upd_same] at h1; cases h1
            rw [upd_ne m2, upd_ne m1]
            exact h2
          · rw [Int.zero_add]
            exact .cons (.int _) (.cons (.int _) .nil)
        · repeat walk_at "rd"
          exact ⟨_, _, vs, ps, rfl, e1'', e2'', e3, go, w3, e6''⟩
      · repeat walk_at "rd"
        exact ⟨_, _, vs, ps, rfl, e1', e2', e3, go, w2, e6'⟩
    · rintro σ H1 ⟨o3, o4, vs, ps, rfl, e1, e2, e3, e4, e5, e6⟩
      repeat walk_at "rd"
      refine ⟨p, rfl, e5, fun n H2 n0 n1 w2 k2 => ?_⟩
      have e1' : H2 D = some (.lst vs) := k2 D _ nDp e1
      have s2 : Same (nw (upd H D (.lst [])) H1) (nw (upd H D (.lst [])) H2) := nw_same fun b o h1 h2 => ⟨h1, k2 b o (fun z => (hw.upd hD (o := .lst [])).some (z ▸ h1)) h2⟩
      have e2' := DpAll.same s2 e2
      have e6' : Keep2 p D (upd H D (.lst [])) H2 := e6.trans (Keep2.of k2)
      repeat walk_at "rd"
      refine rd_tupZ (SqL.of e1') (fun l oz hl ho => ?_)
      repeat walk_at "rd"
      refine ⟨by show 2 ≤ sizeLine; decide, fun q hq => ?_⟩
      have k0 : Keep p H H2 := Keep2.keep hD e6'
      have kl : Keep p H (upd H2 l (.frz oz (.tup vs))) := k0.trans (Keep.new hl)
      have kq' : Keep p H (upd (upd H2 l (.frz oz (.tup vs))) q (.tup [.int n, .ref l])) := kl.trans (Keep.new hq)
      have nlp : l ≠ p := fun z => w2.some (z ▸ hl)
      have nqp : q ≠ p := fun z => (w2.upd hl).some (z ▸ hq)
      have old : ∀ b, (upd H D (.lst [])) b = none → H b = none := fun b hb => by
        cases z : H b with
        | none => rfl
        | some o =>
          rw [upd_ne (ne_of_none z hD), z] at hb
          cases hb
      have nl : H l = none := by
        cases z : H l with
        | none => rfl
        | some u => rw [k0 l u nlp z] at hl; cases hl
      have nq : H q = none := by
        cases z : H q with
        | none => rfl
        | some u => rw [kl q u nqp z] at hq; cases hq
      have nlq : l ≠ q := ne_of_none upd_same hq
      have up2 : ∀ b o, H2 b = some o → (upd (upd H2 l (.frz oz (.tup vs))) q (.tup [.int n, .ref l])) b = some o := fun b o e => by
        have m1 := ne_of_none e hl
        have m2 : b ≠ q := ne_of_none ((upd_ne m1).trans e) hq
        rw [upd_ne m2, upd_ne m1]
        exact e
      refine kq (.ref q) (n, ps) _ ⟨q, l, vs, rfl, SqT.of (nw_of nq upd_same), ⟨oz, nw_of nl (by rw [upd_ne nlq, upd_same]), ho⟩, DpAll.same (nw_same fun b o h1 h2 => ⟨old b h1, up2 b o h2⟩) e2'⟩ ⟨n0, n1⟩ ?_ ((w2.upd hl).upd hq) kq'
      have e : ((m.toNat : Nat) : Int) = m := by omega
      rw [← e]
      exact e4
end
end Tug
namespace Tug
open PySem L2
theorem rd_callk {sp : Sp} {gV : List V → List V → List V} {E : XK} {tk : TA} {σ : St} {H : Hp} {Q : VK} (k : tk σ H fun zs H2 => sp (gV [] zs) H2 Q E) : tCallK0 sp gV E tk σ H Q := k
theorem rd_seqM {t u : TS} {D : Ends} {σ : St} {H : Hp} (Mid : St → Hp → Prop) (hu : ∀ σ' H', Mid σ' H' → u D σ' H') (k : (∀ σ' H', Mid σ' H' → u D σ' H') → t { D with nx := u D } σ H) : tSeq t u D σ H := k hu
theorem rd_neS {x : V} {H : Hp} {Q : VK} (h : scal x x = true) (k : Q (.bl false) H) : rNe x x H Q := ⟨h, by rw [decide_eq_true rfl]; exact k⟩
theorem rd_lcI {K : PySem.W.Frag} {tl : TE} {g : TG} {tt : TT} {te : TE} {vs : List Nat} {σ : St} {H : Hp} {Q : VK} (k : tl σ H fun x H1 => ∃ a, x = .ref a ∧ (∃ xs, SqL K H1 a xs) ∧ ∀ D, H1 D = none → ∃ W : Nat → Nat → Hp → Prop, (∃ m, W 0 m (upd H1 D (.lst []))) ∧ ∀ i m H, W i m H →
    ((Itl K a).stop i H ∧ Q (.ref D) H) ∨ ((Itl K a).go i H ∧ ∃ Nx : Hp → Prop, (∀ H', Nx H' → ∃ m', m' < m ∧ W (i + 1) m' H') ∧ ∀ x H', (Itl K a).yld i H x H' → g x (wipe σ vs) H' fun σ2 H2 => wipe σ2 vs = wipe σ vs ∧ tt σ2 H2 fun b H3 =>
      if b = true then te σ2 H3 fun y H4 => ∃ acc, H4 D = some (.lst acc) ∧ acc.length < sizeLine ∧ Nx (upd H4 D (.lst (acc ++ [y]))) else Nx H3)) : tLc (iList K tl) g tt te vs σ H Q := k
theorem rd_lcT {K : PySem.W.Frag} {tl : TE} {g : TG} {tt : TT} {te : TE} {vs : List Nat} {σ : St} {H : Hp} {Q : VK} (k : tl σ H fun x H1 => ∃ a, x = .ref a ∧ (∃ xs, SqT K H1 a xs) ∧ ∀ D, H1 D = none → ∃ W : Nat → Nat → Hp → Prop, (∃ m, W 0 m (upd H1 D (.lst []))) ∧ ∀ i m H, W i m H →
    ((Itt K a).stop i H ∧ Q (.ref D) H) ∨ ((Itt K a).go i H ∧ ∃ Nx : Hp → Prop, (∀ H', Nx H' → ∃ m', m' < m ∧ W (i + 1) m' H') ∧ ∀ x H', (Itt K a).yld i H x H' → g x (wipe σ vs) H' fun σ2 H2 => wipe σ2 vs = wipe σ vs ∧ tt σ2 H2 fun b H3 =>
      if b = true then te σ2 H3 fun y H4 => ∃ acc, H4 D = some (.lst acc) ∧ acc.length < sizeLine ∧ Nx (upd H4 D (.lst (acc ++ [y]))) else Nx H3)) : tLc (iTup K tl) g tt te vs σ H Q := k
theorem nw_keep {K : PySem.W.Frag} {p : Addr} {HB A B : Hp} (hp : HB p ≠ none) (k : Keep p A B) : Same (nw HB A) (nw HB B) := nw_same fun b o h1 h2 => ⟨h1, k b o (fun z => hp (z ▸ h1)) h2⟩
theorem sm_lt {n : Int} (h : Sm n) : n.natAbs < 10 ^ 60 := by
  have e : (10 : Nat) ^ 60 = 10 * 10 ^ 59 := by decide +kernel
  have e2 : ((10 : Int) ^ 59) = ((10 ^ 59 : Nat) : Int) := by decide +kernel
  obtain ⟨a, b⟩ := h
  rw [e2] at a b
  generalize (10 : Nat) ^ 59 = B at *
  omega
theorem sh_pd {m : Int} {ps : List (Int × Int)} (h : PsOk m ps) (hm : m ≤ 100) : ∀ q ∈ ps, Sh 1 (2 * (61 + 2) + 3) (pd q) := fun q hq => by
  obtain ⟨a, b, _, c⟩ := h.at_ q hq
  refine sh_tup (n := 2) (fun d hd => ?_) (Nat.le_refl 2)
  simp only [List.mem_cons, List.not_mem_nil, or_false] at hd
  rcases hd with rfl | rfl
  · exact sh_int (k := 60) (by decide) (by decide) (Nat.lt_of_le_of_lt (show q.1.natAbs ≤ 100 by omega) (by decide +kernel))
  · exact sh_int (k := 60) (by decide) (by decide) (sm_lt c)
theorem dp_ints {K : PySem.W.Frag} {H : Hp} : ∀ zs : List Int, DpAll K H (zs.map V.int) (zs.map .int)
  | [] => .nil
  | z :: zs => .cons (.int z) (dp_ints zs)
theorem fits_of {m : Int} {ps : List (Int × Int)} {zs : List Int} (h : PsOk m ps) (hm : m ≤ 30) (hl : m ≤ zs.length) (hz : ∀ z ∈ zs, Sm z) : Fits ps zs := by
  have b : ∀ z : Int, Sm z → Mb z := fun z hz => Nat.lt_trans (sm_lt hz) (by decide +kernel)
  exact ⟨fun q hq => by
    obtain ⟨x, y, _, c⟩ := h.at_ q hq
    exact ⟨x, by omega, b _ c⟩, fun z hz' => b z (hz z hz'), by have := h.len; omega⟩
theorem prods_le : ∀ (ps : List (Int × Int)) (zs : List Int), (∀ q ∈ ps, Sm q.2) → (∀ z ∈ zs, Sm z) → (prods ps zs).sum.natAbs ≤ ps.length * 10 ^ 118
  | [], _, _, _ => Nat.zero_le _
  | q :: ps, zs, h, hz => by
    have ih := prods_le ps zs (fun x hx => h x (List.mem_cons_of_mem _ hx)) hz
    have h1 : q.2.natAbs ≤ 10 ^ 59 := by
      have e2 : ((10 : Int) ^ 59) = ((10 ^ 59 : Nat) : Int) := by decide +kernel
      obtain ⟨a, b⟩ := h q List.mem_cons_self
      rw [e2] at a b
      generalize (10 : Nat) ^ 59 = B at *
      omega
    have h2 : (num zs q.1).natAbs ≤ 10 ^ 59 := by
      unfold num
      cases e : atI zs q.1 with
      | none => exact Nat.zero_le _
      | some z =>
        have hm : z ∈ zs := by
          unfold atI at e
          cases e1 : ixN zs.length q.1 with
          | none => rw [e1] at e; cases e
          | some j => rw [e1] at e; exact List.mem_of_getElem? e
        have e2 : ((10 : Int) ^ 59) = ((10 ^ 59 : Nat) : Int) := by decide +kernel
        obtain ⟨a, b⟩ := hz z hm
        rw [e2] at a b
        show z.natAbs ≤ _
        generalize (10 : Nat) ^ 59 = B at *
        omega
    have h3 : (q.2 * num zs q.1).natAbs ≤ 10 ^ 118 := by
      rw [Int.natAbs_mul]
      exact Nat.le_trans (Nat.mul_le_mul h1 h2) (by decide +kernel)
    show (q.2 * num zs q.1 + (prods ps zs).sum).natAbs ≤ (ps.length + 1) * 10 ^ 118
    have := Int.natAbs_add_le (q.2 * num zs q.1) (prods ps zs).sum
    rw [Nat.succ_mul]
    omega
theorem wo_le {f : Fm} {m : Int} {zs : List Int} (h0 : Sm f.1) (h : PsOk m f.2) (hm : m ≤ 30) (hz : ∀ z ∈ zs, Sm z) : (wo f zs).natAbs ≤ 10 ^ 125 := by
  have a := prods_le f.2 zs (fun q hq => (h.at_ q hq).2.2.2) hz
  have b : f.2.length ≤ 30 := by have := h.len; omega
  have c := sm_lt h0
  have d := Int.natAbs_add_le f.1 (prods f.2 zs).sum
  have e : f.2.length * 10 ^ 118 ≤ 30 * 10 ^ 118 := Nat.mul_le_mul_right _ b
  have e2 : (30 : Nat) * 10 ^ 118 + 10 ^ 60 ≤ 10 ^ 125 := by decide +kernel
  show (f.1 + (prods f.2 zs).sum).natAbs ≤ _
  omega
/-- a comprehension's scope as one within it sees it -/
def inCell (sc : Scope) : Scope := { sc with names := sc.names.map fun q => if q.2 == NameKind.free then (q.1, NameKind.cell) else q }
/-- a form that may be shown -/
theorem sh_fm {m : Int} {f : Fm} (h : PsOk m f.2) (hm : m ≤ 40) (hn : f.1.natAbs < 10 ^ 130) : Sh 3 12000 (fmd f) := by
  have s1 : Sh 2 (40 * ((2 * (61 + 2) + 3) + 2) + 3) (.tuple (f.2.map pd)) := sh_tup (fun d hd => by
    obtain ⟨q, hq, rfl⟩ := List.mem_map.mp hd
    exact sh_pd h (by omega) q hq) (by have := h.len; rw [List.length_map]; omega)
  refine (sh_tup (ds := [.int f.1, .tuple (f.2.map pd)]) (n := 2) (D := 2) (L := 40 * ((2 * (61 + 2) + 3) + 2) + 3) (fun d hd => ?_) (Nat.le_refl 2)).up (by decide) (by decide)
  simp only [List.mem_cons, List.not_mem_nil, or_false] at hd
  rcases hd with rfl | rfl
  · exact (sh_int (k := 130) (by decide) (by decide) hn).up (by decide) (by decide)
  · exact s1
end Tug
namespace Tug
open PySem L2
/-! ### what keeps all tuples -/
def TL : HO → Prop
  | .tup _ => True
  | .frz _ (.tup _) => True
  | _ => False
def KT (H H' : Hp) : Prop := ∀ c u, TL u → H c = some u → H' c = some u
theorem KT.refl (H : Hp) : KT H H := fun _ _ _ e => e
theorem KT.trans {A B C : Hp} (a : KT A B) (b : KT B C) : KT A C := fun c u t e => b c u t (a c u t e)
theorem Same.kt {A B : Hp} (s : Same A B) : KT A B := fun c u _ e => s c u e
theorem Keep.kt {p : Addr} {A B : Hp} (k : Keep p A B) (w : Well A p) : KT A B := fun c u t e => by
  by_cases h : c = p
  · obtain ⟨a, b, z, _⟩ := w
    rw [h, z] at e
    cases e
    exact absurd t id
  · exact k c u h e
theorem KT.lst {A : Hp} {D : Addr} {xs : List V} {o : HO} (h : A D = some (.lst xs)) : KT A (upd A D o) := fun c u t e => by
  have n : c ≠ D := fun z => by
    rw [z, h] at e
    cases e
    exact absurd t id
  rw [upd_ne n]
  exact e
theorem SqT.kt {K : PySem.W.Frag} {H H' : Hp} {a : Addr} {xs : List V} (h : SqT K H a xs) (k : KT H H') : SqT K H' a xs := by
  rcases h with (h | ⟨o, h⟩) | h
  · exact .inl (.inl (k _ _ trivial h))
  · exact .inl (.inr ⟨o, k _ _ trivial h⟩)
  · exact .inr h
theorem Tz.kt {H H' : Hp} {a : Addr} {xs : List V} (h : Tz H a xs) (k : KT H H') : Tz H' a xs := by
  obtain ⟨o, e, d⟩ := h
  exact ⟨o, k _ _ trivial e, d⟩
theorem pds_kt {K : PySem.W.Frag} {H H' : Hp} (k : KT H H') : ∀ {vs : List V} {ps : List (Int × Int)}, DpAll K H vs (ps.map pd) → DpAll K H' vs (ps.map pd)
  | [], [], _ => .nil
  | v :: vs, q :: ps, h => by
    cases h with
    | cons a r =>
      obtain ⟨t, rfl, ht⟩ := dp_pair a
      exact .cons (.tup (SqT.kt ht k) (.cons (.int _) (.cons (.int _) .nil))) (pds_kt k r)
theorem FmZ.kt {K : PySem.W.Frag} {H H' : Hp} {v : V} {f : Fm} (h : FmZ K H v f) (k : KT H H') : FmZ K H' v f := by
  obtain ⟨a, b, vs, rfl, h1, h2, h3⟩ := h
  exact ⟨a, b, vs, rfl, SqT.kt h1 k, h2.kt k, pds_kt k h3⟩
/-- two numbers -/
def two (a b : Int) : PyData := .tuple [.int a, .int b]
theorem dp_twoI {K : PySem.W.Frag} {H : Hp} {t : Addr} {a b : Int} (h : SqT K H t [.int a, .int b]) : Dp K H (.ref t) (two a b) := .tup h (.cons (.int _) (.cons (.int _) .nil))
theorem two_dp {K : PySem.W.Frag} {H : Hp} {t : Addr} {a b : Int} (h : Dp K H (.ref t) (two a b)) : SqT K H t [.int a, .int b] := by
  obtain ⟨u, e, hs⟩ := dp_pair (q := (a, b)) h
  cases e
  exact hs
theorem sh_two {a b : Int} (ha : a.natAbs < 10 ^ 130) (hb : b.natAbs < 10 ^ 130) : Sh 1 1000 (two a b) := by
  refine (sh_tup (ds := [.int a, .int b]) (n := 2) (D := 0) (L := 131) (fun d hd => ?_) (Nat.le_refl 2)).up (by decide) (by decide)
  simp only [List.mem_cons, List.not_mem_nil, or_false] at hd
  rcases hd with rfl | rfl
  · exact sh_int (k := 130) (by decide) (by decide) ha
  · exact sh_int (k := 130) (by decide) (by decide) hb
theorem two_ok (a b : Int) : SeqAt.shaped (two a b) = true ∧ PyData.eqv (two a b) (two a b) = true := by
  constructor
  · rfl
  · show PyData.eqv (.tuple [.int a, .int b]) (.tuple [.int a, .int b]) = true
    simp [PyData.eqv, PyData.eqvAll]
end Tug
namespace Tug
open PySem L2
local macro_rules | `(tactic| walk_at "rd") => `(tactic| (first
  | with_reducible refine rd_seq ?_
  | with_reducible refine rd_if ?_
  | with_reducible refine rd_asg ?_
  | with_reducible refine rd_ret ?_
  | with_reducible refine rd_drop ?_
  | with_reducible refine rd_next ?_
  | ((with_reducible refine' rd_var ?rde ?_); (case rde => rfl))
  | with_reducible refine rd_c ?_
  | with_reducible refine rd_op ?_
  | with_reducible refine rd_un ?_
  | with_reducible refine rd_neg ?_
  | with_reducible refine rd_I0 ?_
  | with_reducible refine rd_nil ?_
  | with_reducible refine rd_cons ?_
  | with_reducible refine rd_tup ?_
  | with_reducible refine rd_lst ?_
  | with_reducible refine rd_gname ?_
  | with_reducible refine rd_gsub ?_
  | with_reducible refine rd_test ?_
  | with_reducible refine rd_B ?_
  | ((with_reducible show ∃ k, V.bl _ = V.bl k ∧ _); refine ⟨_, rfl, ?_⟩)
  | with_reducible refine rd_and ?_
  | with_reducible refine rd_or ?_
  | with_reducible refine rd_not ?_
  | with_reducible refine rd_ifE ?_
  | with_reducible refine rd_call ?_
  | with_reducible refine rd_cb ?_
  | ((with_reducible refine' rd_eq ?rdc ?_); (case rdc => rfl))
  | ((with_reducible refine' rd_ne ?rdc ?_); (case rdc => rfl))
  | ((with_reducible refine' rd_ixL ?rda ?rdb ?_); (case rda => first | exact SqL.of (by assumption) | assumption); (case rdb => rfl))
  | ((with_reducible refine' rd_ixT ?rda ?rdb ?_); (case rda => first | exact SqT.of (by assumption) | assumption); (case rdb => rfl))
  | ((with_reducible refine' rd_setL ?rda ?rdb ?_); (case rda => assumption); (case rdb => rfl))
  | ((with_reducible refine' rd_lenL ?rda ?_); (case rda => first | exact SqL.of (by assumption) | assumption))
  | with_reducible refine rd_yes ?_
  | with_reducible refine rd_par ?_
  | with_reducible refine rd_gcons ?_
  | with_reducible refine rd_gnil ?_
  | ((with_reducible refine' rd_decY ?rdc ?_); (case rdc => decide))
  | ((with_reducible refine' rd_decF ?rdc ?_); (case rdc => decide))
  | with_reducible refine iteF ?_
  | with_reducible refine iteT ?_
  | with_reducible refine rd_max ?_
  | with_reducible refine rd_min ?_
  | ((with_reducible refine' rd_I ?rdc ?_); (case rdc => first | (show (0 : Int) < _; omega) | exact ⟨by decide, by decide⟩ | exact ⟨by decide, by decide, by decide⟩ | exact .inr ⟨by omega, by omega⟩ | exact .inl ⟨by omega, by omega⟩ | exact CPowW.of (by decide) (by decide) (by omega) (by omega) | fail "rdc"))
  | with_reducible refine rd_nx ?_
  | fail "rd"))
abbrev sWorth : Stmt := top 1
def spWorth (K : PySem.W.Frag) : Sp := fun vs H Q _ => ∃ (v : V) (f : Fm) (n : Addr) (ns : List Int), vs = [v, .ref n] ∧ Dp K H v (fmd f) ∧ SqL K H n (ns.map V.int) ∧ Fits f.2 ns ∧ ∀ H', Same H H' → Q (.int (wo f ns)) H'
theorem SqL.ix {K : PySem.W.Frag} {n : Addr} {ns : List Int} : ∀ (H : Hp) (k : Int) (x : V) (Q : VK), SqL K H n (ns.map V.int) → atI (ns.map V.int) k = some x → Q x H → rIx K (.ref n) (.int k) H Q := fun H k x Q h e q => rd_ixQ (.inl h) e q
section
variable {P : Program} {w : World} {K : PySem.W.Frag} {mg : Str → Option Value} {base : Heap}
theorem scWo : FnScope ["form", "setting", "knob", "many"] ["form", "setting"] (defScope sWorth) := ⟨rfl, rfl, rfl, by decide +kernel, rfl, by decide +kernel, by decide +kernel⟩
theorem rd_iTup {te : TE} {σ : St} {H : Hp} {R : It → Hp → Prop} {K : PySem.W.Frag} (k : te σ H fun x H1 => ∃ a, x = .ref a ∧ (∃ xs, SqT K H1 a xs) ∧ R (Itt K a) H1) : iTup K te σ H R := k
theorem rd_sum {K : PySem.W.Frag} {H : Hp} {Q : VK} {a : Addr} {ns : List Int} (h : H a = some (.lst (ns.map V.int))) (k : Q (.int ns.sum) H) : rSum K [.ref a] H Q := ⟨a, ns, rfl, SqL.of h, k⟩
theorem ok_worth {f : Addr} {fd : FuncData} (F : Fun K "worth" "worth" sWorth f fd) (sm : mg "sum" = none) : FnOk P w K mg base CX0 1 f fd ["form", "setting"] (spWorth K) := by
  refine F.ok scWo (fun vs H Q E h => ?_) (fun cdv A outer s H vs Q E hr h => ?_)
  · obtain ⟨v, f, n, ns, rfl, _⟩ := h
    rfl
  · obtain ⟨v, f, n, ns, rfl, hv, hn, hF, k⟩ := h
    obtain ⟨a, b, ws, rfl, ha, hb, hp⟩ := dp_form hv
    refine ⟨_, pss_one (ps_ret (pe_op op_add (pe_ix ix_seq (pv 0) pe_int (fun _ _ => rfl)) (pe_callB (cr_sum rfl) (by rfl) sm (by decide +kernel) (pa_cons
        (pe_lc (own := [("knob", 2), ("many", 3)]) (g := gTup K 2 (gCons (gName 2) (gCons (gName 3) gNil))) (tt := tYes) (te := tOp (rI CMulW fun i j => .int (i * j)) (tVar 3) (tOp (rIx K) (tVar 1) (tVar 2))) rfl scWo.nd (pi_tup (pe_ix ix_seq (pv 0) pe_int (fun _ _ => rfl))) (blkOk_by (N := ["form", "setting", "knob", "many"]) (sc := defScope sWorth) (by decide +kernel))
          (fun _ _ _ _ _ => pg_tup rfl (pgs_cons (pg_name (i := 2) scWo.nd rfl (Or.inl rfl)) (pgs_cons (pg_name (i := 3) scWo.nd rfl (Or.inl rfl)) pgs_nil))) (fun _ _ _ _ _ => pts_nil) (fun _ _ _ _ _ => pe_op op_mulW (pv 3) (pe_ix (r := rIx K) ix_seq (pv 1) (pv 2) (fun _ _ => rfl)))) pa_nil)))), ?_⟩
    repeat walk_at "rd"
    refine rd_ixQ (.inr ha) rfl ?_
    repeat walk_at "rd"
    refine rd_iTup ?_
    repeat walk_at "rd"
    refine rd_ixQ (.inr ha) rfl ?_
    refine ⟨b, rfl, ⟨_, hb⟩, fun D hD => lc_prods hD hb hp hn hF SqL.ix (fun _ _ => rfl) (fun _ _ => rfl) (fun _ _ => rfl) (fun _ _ => rfl) (fun H' e s => ?_)⟩
    repeat walk_at "rd"
    refine rd_sum e ?_
    repeat walk_at "rd"
    exact k H' s
end
end Tug
namespace Tug
open PySem L2
local macro_rules | `(tactic| walk_at "rd") => `(tactic| (first
  | with_reducible refine rd_seq ?_
  | with_reducible refine rd_if ?_
  | with_reducible refine rd_asg ?_
  | with_reducible refine rd_ret ?_
  | with_reducible refine rd_drop ?_
  | with_reducible refine rd_next ?_
  | ((with_reducible refine' rd_var ?rde ?_); (case rde => rfl))
  | with_reducible refine rd_c ?_
  | with_reducible refine rd_op ?_
  | with_reducible refine rd_un ?_
  | with_reducible refine rd_neg ?_
  | with_reducible refine rd_I0 ?_
  | with_reducible refine rd_nil ?_
  | with_reducible refine rd_cons ?_
  | with_reducible refine rd_tup ?_
  | with_reducible refine rd_lst ?_
  | with_reducible refine rd_gname ?_
  | with_reducible refine rd_gsub ?_
  | with_reducible refine rd_test ?_
  | with_reducible refine rd_B ?_
  | ((with_reducible show ∃ k, V.bl _ = V.bl k ∧ _); refine ⟨_, rfl, ?_⟩)
  | with_reducible refine rd_and ?_
  | with_reducible refine rd_or ?_
  | with_reducible refine rd_not ?_
  | with_reducible refine rd_ifE ?_
  | with_reducible refine rd_call ?_
  | with_reducible refine rd_cb ?_
  | ((with_reducible refine' rd_eq ?rdc ?_); (case rdc => rfl))
  | ((with_reducible refine' rd_ne ?rdc ?_); (case rdc => rfl))
  | ((with_reducible refine' rd_ixL ?rda ?rdb ?_); (case rda => first | exact SqL.of (by assumption) | assumption); (case rdb => rfl))
  | ((with_reducible refine' rd_ixT ?rda ?rdb ?_); (case rda => first | exact SqT.of (by assumption) | assumption); (case rdb => rfl))
  | ((with_reducible refine' rd_setL ?rda ?rdb ?_); (case rda => assumption); (case rdb => rfl))
  | ((with_reducible refine' rd_lenL ?rda ?_); (case rda => first | exact SqL.of (by assumption) | assumption))
  | with_reducible refine rd_yes ?_
  | with_reducible refine rd_par ?_
  | with_reducible refine rd_gcons ?_
  | with_reducible refine rd_gnil ?_
  | ((with_reducible refine' rd_decY ?rdc ?_); (case rdc => decide))
  | ((with_reducible refine' rd_decF ?rdc ?_); (case rdc => decide))
  | with_reducible refine iteF ?_
  | with_reducible refine iteT ?_
  | with_reducible refine rd_max ?_
  | with_reducible refine rd_min ?_
  | ((with_reducible refine' rd_I ?rdc ?_); (case rdc => first | (show (0 : Int) < _; omega) | exact ⟨by decide, by decide⟩ | exact ⟨by decide, by decide, by decide⟩ | exact .inr ⟨by omega, by omega⟩ | exact .inl ⟨by omega, by omega⟩ | exact CPowW.of (by decide) (by decide) (by omega) (by omega) | fail "rdc"))
  | with_reducible refine rd_nx ?_
  | fail "rd"))
abbrev sAlong : Stmt := top 2
def alo (f : Fm) (k : Int) (ns : List Int) : Int := f.1 + (prods (f.2.filter fun q => decide (q.1 ≠ k)) ns).sum
def spAlong (K : PySem.W.Frag) : Sp := fun vs H Q _ => ∃ (v : V) (f : Fm) (k : Int) (n : Addr) (ns : List Int), vs = [v, .int k, .ref n] ∧ FmZ K H v f ∧ SqL K H n (ns.map V.int) ∧ Fits f.2 ns ∧ Uq f.2 ∧
  ∀ (t : Addr) (H' : Hp), Same H H' → Dp K H' (.ref t) (.tuple [.int (alo f k ns), .int (tm f.2 k)]) → Q (.ref t) H'
theorem tm_app_in {ps : List (Int × Int)} {c : Int × Int} {k : Int} (h : ∀ q ∈ ps, q.1 ≠ k) (e : c.1 = k) : tm (ps ++ [c]) k = c.2 := by
  unfold tm
  rw [List.find?_append, List.find?_eq_none.mpr fun q hq => by simpa using h q hq, Option.none_or, List.find?_cons, decide_eq_true e]
  rfl
theorem tm_app_out {ps : List (Int × Int)} {c : Int × Int} {k : Int} (e : c.1 ≠ k) : tm (ps ++ [c]) k = tm ps k := by
  unfold tm
  rw [List.find?_append, List.find?_cons, decide_eq_false e]
  cases List.find? (fun q => decide (q.1 = k)) ps <;> rfl
theorem rd_forT {K : PySem.W.Frag} {te : TE} {g : TG} {tb : TS} {D : Ends} {σ : St} {H : Hp} (k : te σ H fun x H1 => ∃ a, x = .ref a ∧ (∃ xs, SqT K H1 a xs) ∧ ∃ W : Nat → Nat → St → Hp → Prop, (∃ m, W 0 m σ H1) ∧ ∀ i m σ H, W i m σ H →
    ((Itt K a).stop i H ∧ D.nx σ H) ∨ ((Itt K a).go i H ∧ ∃ N : St → Hp → Prop, (∀ σ' H', N σ' H' → ∃ m', m' < m ∧ W (i + 1) m' σ' H') ∧ ∀ x H', (Itt K a).yld i H x H' → g x σ H' fun σ2 H2 => tb { D with nx := N, ct := N, bk := D.nx } σ2 H2)) : tFor (iTup K te) g tb D σ H := k
section
variable {P : Program} {w : World} {K : PySem.W.Frag} {mg : Str → Option Value} {base : Heap}
abbrev nmA : List Str := ["form", "knob", "setting", "number", "parts", "slope", "other", "many"]
theorem scAl : FnScope nmA ["form", "knob", "setting"] (defScope sAlong) := ⟨rfl, rfl, rfl, by decide +kernel, rfl, by decide +kernel, by decide +kernel⟩
theorem ok_along {f : Addr} {fd : FuncData} (F : Fun K "along" "along" sAlong f fd) : FnOk P w K mg base CX0 2 f fd ["form", "knob", "setting"] (spAlong K) := by
  refine F.ok scAl (fun vs H Q E h => ?_) (fun cdv A outer s H vs Q E hr h => ?_)
  · obtain ⟨v, f, k, n, ns, rfl, _⟩ := h
    rfl
  · obtain ⟨v, f, k, n, ns, rfl, hv, hn, hF, hU, kq⟩ := h
    obtain ⟨a, b, ws, rfl, ha, hb, hp⟩ := hv
    refine ⟨_, pss_cons (ps_asg (pv 0) (pg_tup rfl (pgs_cons (pg_name (i := 3) scAl.nd rfl (Or.inl rfl)) (pgs_cons (pg_name (i := 4) scAl.nd rfl (Or.inl rfl)) pgs_nil))))
      (pss_cons (ps_set (i := 5) scAl.nd rfl (Or.inl rfl) pe_int)
      (pss_cons (ps_for PassesOwn.never rfl (pi_tup (pv 4)) (pg_tup rfl (pgs_cons (pg_name (i := 6) scAl.nd rfl (Or.inl rfl)) (pgs_cons (pg_name (i := 7) scAl.nd rfl (Or.inl rfl)) pgs_nil)))
        (pss_one (ps_if (pt_cmpR op_eq (pv 6) (pv 1) (nomark _)) (pss_one (ps_set (i := 5) scAl.nd rfl (Or.inl rfl) (pv 7)))
          (pss_one (ps_set (i := 3) scAl.nd rfl (Or.inl rfl) (pe_op op_add (pv 3) (pe_op op_mulW (pv 7) (pe_ix (r := rIx K) ix_seq (pv 2) (pv 6) (fun _ _ => rfl)))))))))
      (pss_one (ps_ret (pe_tup (pa_cons (pv 3) (pa_cons (pv 5) pa_nil))))))), ?_⟩
    repeat walk_at "rd"
    refine rd_gtup ha rfl ?_
    repeat walk_at "rd"
    refine rd_forT ?_
    repeat walk_at "rd"
    obtain ⟨len, at_⟩ := dpAll_at hp
    refine ⟨b, rfl, ⟨_, hb.sq⟩, for_tup (xs := ws) (fun m σ H' => ∃ o6 o7 : Option V, σ = [some (.ref a), some (.int k), some (.ref n), some (.int (f.1 + (prods ((f.2.take m).filter fun q => decide (q.1 ≠ k)) ns).sum)), some (.ref b), some (.int (tm (f.2.take m) k)), o6, o7] ∧ H' = H)
      ⟨_, _, by show _ = [_, _, _, some (V.int (f.1 + 0)), _, some (V.int 0), _, _]; rw [Int.add_zero]; rfl, rfl⟩ (fun m σ H' _ ⟨_, _, _, e⟩ => by subst e; exact hb.sq) ?_ ?_⟩
    · rintro m x σ H1 hx ⟨o6, o7, rfl, rfl⟩
      obtain ⟨d, hd1, hd2⟩ := at_ m x hx
      rw [List.getElem?_map] at hd1
      cases hq : f.2[m]? with
      | none => rw [hq] at hd1; cases hd1
      | some c =>
        rw [hq] at hd1
        obtain ⟨t, rfl, ht⟩ := dp_pair ((Option.some.inj hd1) ▸ hd2)
        have hm := List.mem_of_getElem? hq
        obtain ⟨f0, f1, f2⟩ := hF.at_ c hm
        obtain ⟨g1, g2⟩ := num_at f0 f1
        have tk : f.2.take (m + 1) = f.2.take m ++ [c] := by rw [List.take_add_one, hq]; rfl
        refine rd_gtup ht rfl ?_
        repeat walk_at "rd"
        refine rd_dec (fun hc => ?_) (fun hc => ?_)
        · have hc : c.1 = k := by injection hc
          have hne : ∀ q ∈ f.2.take m, q.1 ≠ k := fun q hq' e => by
            have h1 : Uq (f.2.take (m + 1)) := hU.sublist (List.take_sublist _ _)
            rw [tk] at h1
            exact (List.pairwise_append.mp h1).2.2 q hq' c List.mem_cons_self (e.trans hc.symm)
          repeat walk_at "rd"
          refine ⟨some (.int c.1), some (.int c.2), ?_, rfl⟩
          rw [tk, tm_app_in hne hc, List.filter_append, show List.filter (fun q : Int × Int => decide (q.1 ≠ k)) [c] = [] by rw [List.filter_cons, if_neg (by simpa using hc)]; rfl, List.append_nil]
          rfl
        · have hc : c.1 ≠ k := fun z => hc (by rw [z])
          repeat walk_at "rd"
          refine SqL.ix _ _ _ _ hn g1 ?_
          refine rd_I (mb_mul f2 (hF.nm _ g2)) ?_
          repeat walk_at "rd"
          refine ⟨some (.int c.1), some (.int c.2), ?_, rfl⟩
          rw [tk, tm_app_out hc, List.filter_append, show List.filter (fun q : Int × Int => decide (q.1 ≠ k)) [c] = [c] by rw [List.filter_cons, if_pos (by simpa using hc)]; rfl]
          unfold prods
          rw [List.map_append, List.sum_append, ← Int.add_assoc]
          show [_, _, _, some (V.int (_ + c.2 * num ns c.1)), _, _, _, _] = [_, _, _, some (V.int (_ + (c.2 * num ns c.1 + 0))), _, _, _, _]
          rw [Int.add_zero]
    · rintro σ H1 ⟨o6, o7, rfl, rfl⟩
      have e1 : ws.length = f.2.length := by rw [len, List.length_map]
      rw [e1, List.take_length]
      repeat walk_at "rd"
      refine ⟨by show 2 ≤ sizeLine; decide, fun t ht => ?_⟩
      exact kq t _ (Same.new ht) (.tup (SqT.of upd_same) (.cons (.int _) (.cons (.int _) .nil)))
end
end Tug
namespace Tug
open PySem L2
local macro_rules | `(tactic| walk_at "rd") => `(tactic| (first
  | with_reducible refine rd_seq ?_
  | with_reducible refine rd_if ?_
  | with_reducible refine rd_asg ?_
  | with_reducible refine rd_ret ?_
  | with_reducible refine rd_drop ?_
  | with_reducible refine rd_next ?_
  | ((with_reducible refine' rd_var ?rde ?_); (case rde => rfl))
  | with_reducible refine rd_c ?_
  | with_reducible refine rd_op ?_
  | with_reducible refine rd_un ?_
  | with_reducible refine rd_neg ?_
  | with_reducible refine rd_I0 ?_
  | with_reducible refine rd_nil ?_
  | with_reducible refine rd_cons ?_
  | with_reducible refine rd_tup ?_
  | with_reducible refine rd_lst ?_
  | with_reducible refine rd_gname ?_
  | with_reducible refine rd_gsub ?_
  | with_reducible refine rd_test ?_
  | with_reducible refine rd_B ?_
  | ((with_reducible show ∃ k, V.bl _ = V.bl k ∧ _); refine ⟨_, rfl, ?_⟩)
  | with_reducible refine rd_and ?_
  | with_reducible refine rd_or ?_
  | with_reducible refine rd_not ?_
  | with_reducible refine rd_ifE ?_
  | with_reducible refine rd_call ?_
  | with_reducible refine rd_cb ?_
  | ((with_reducible refine' rd_eq ?rdc ?_); (case rdc => rfl))
  | ((with_reducible refine' rd_ne ?rdc ?_); (case rdc => rfl))
  | ((with_reducible refine' rd_ixL ?rda ?rdb ?_); (case rda => first | exact SqL.of (by assumption) | assumption); (case rdb => rfl))
  | ((with_reducible refine' rd_ixT ?rda ?rdb ?_); (case rda => first | exact SqT.of (by assumption) | assumption); (case rdb => rfl))
  | ((with_reducible refine' rd_setL ?rda ?rdb ?_); (case rda => assumption); (case rdb => rfl))
  | ((with_reducible refine' rd_lenL ?rda ?_); (case rda => first | exact SqL.of (by assumption) | assumption))
  | with_reducible refine rd_yes ?_
  | with_reducible refine rd_par ?_
  | with_reducible refine rd_gcons ?_
  | with_reducible refine rd_gnil ?_
  | ((with_reducible refine' rd_decY ?rdc ?_); (case rdc => decide))
  | ((with_reducible refine' rd_decF ?rdc ?_); (case rdc => decide))
  | with_reducible refine iteF ?_
  | with_reducible refine iteT ?_
  | with_reducible refine rd_max ?_
  | with_reducible refine rd_min ?_
  | ((with_reducible refine' rd_I ?rdc ?_); (case rdc => first | (show (0 : Int) < _; omega) | exact ⟨by decide, by decide⟩ | exact ⟨by decide, by decide, by decide⟩ | exact .inr ⟨by omega, by omega⟩ | exact .inl ⟨by omega, by omega⟩ | exact CPowW.of (by decide) (by decide) (by omega) (by omega) | fail "rdc"))
  | with_reducible refine rd_nx ?_
  | fail "rd"))
abbrev sLaw : Stmt := top 9
def spLaw (K : PySem.W.Frag) : Sp := fun vs H Q _ => ∃ (a : Addr) (ns : List Int), vs = [.ref a] ∧ SqL K H a (ns.map V.int) ∧ (∀ z ∈ ns, Builtin.Int.intBits z ≤ 1048576) ∧ ∀ H', Q (.bl true) H'
theorem rd_sl {r : V → Option Int → Option Int → Hp → VK → Prop} {te : TE} {tl th : TO} {σ : St} {H : Hp} {Q : VK} (k : te σ H fun x H1 => tl σ H1 fun lo H2 => th σ H2 fun hi H3 => r x lo hi H3 Q) : tSl r te tl th σ H Q := k
theorem rd_slL {K : PySem.W.Frag} {D : Addr} {xs : List V} {lo hi : Option Int} {H : Hp} {Q : VK} (h : H D = some (.lst xs)) (k : ∀ p, H p = none → Q (.ref p) (upd H p (.lst (cutV xs lo hi)))) : rSlL K (.ref D) lo hi H Q := ⟨D, xs, rfl, SqL.of h, k⟩
theorem rd_noPart {σ : St} {H : Hp} {Q : Option Int → Hp → Prop} (k : Q none H) : tNoPart σ H Q := k
theorem rd_part {te : TE} {σ : St} {H : Hp} {Q : Option Int → Hp → Prop} (k : te σ H fun x H1 => ∃ i, x = .int i ∧ Q (some i) H1) : tPart te σ H Q := k
/-! ### numbers set anew -/
theorem num_mem {ns : List Int} {k : Int} (h0 : 0 ≤ k) (h1 : k < ns.length) : ns[k.toNat]? = some (num ns k) := by
  have hl : k.toNat < ns.length := by omega
  unfold num
  rw [atI_of h0 (List.getElem?_eq_getElem hl), List.getElem?_eq_getElem hl]
  rfl
theorem num_set {ns : List Int} {k s z : Int} (h0 : 0 ≤ k) (h1 : k < ns.length) (s0 : 0 ≤ s) : num (ns.set s.toNat z) k = if k = s then z else num ns k := by
  have e := num_mem (ns := ns.set s.toNat z) h0 (by rw [List.length_set]; exact h1)
  rw [List.getElem?_set] at e
  by_cases h : k = s
  · subst h
    rw [if_pos rfl, if_pos (by omega)] at e
    rw [if_pos rfl]
    exact (Option.some.inj e).symm
  · rw [if_neg (by omega), num_mem h0 h1] at e
    rw [if_neg h]
    exact (Option.some.inj e).symm
theorem tm_none {ps : List (Int × Int)} {s : Int} (h : ∀ q ∈ ps, q.1 ≠ s) : tm ps s = 0 := by
  unfold tm
  rw [List.find?_eq_none.mpr fun q hq => by simpa using h q hq]
  rfl
theorem filt_all {ps : List (Int × Int)} {s : Int} (h : ∀ q ∈ ps, q.1 ≠ s) : ps.filter (fun q => decide (q.1 ≠ s)) = ps := List.filter_eq_self.mpr fun q hq => decide_eq_true (h q hq)
theorem prods_same {ns : List Int} {s z : Int} (s0 : 0 ≤ s) : ∀ {ps : List (Int × Int)}, (∀ q ∈ ps, 0 ≤ q.1 ∧ q.1 < (ns.length : Int) ∧ q.1 ≠ s) → prods ps (ns.set s.toNat z) = prods ps ns := fun {ps} h => by
  unfold prods
  refine List.map_congr_left fun q hq => ?_
  obtain ⟨a, b, c⟩ := h q hq
  rw [num_set a b s0, if_neg c]
theorem prods_set {ns : List Int} {s z : Int} (s0 : 0 ≤ s) : ∀ {ps : List (Int × Int)}, Uq ps → (∀ q ∈ ps, 0 ≤ q.1 ∧ q.1 < (ns.length : Int)) → (prods ps (ns.set s.toNat z)).sum = (prods (ps.filter fun q => decide (q.1 ≠ s)) ns).sum + tm ps s * z
  | [], _, _ => by show (0 : Int) = 0 + 0 * z; omega
  | q :: ps, hu, h => by
    obtain ⟨hq, hu'⟩ := List.pairwise_cons.mp hu
    obtain ⟨a, b⟩ := h q List.mem_cons_self
    by_cases e : q.1 = s
    · have hne : ∀ r ∈ ps, r.1 ≠ s := fun r hr z => hq r hr (e.trans z.symm)
      have e1 : tm (q :: ps) s = q.2 := by unfold tm; rw [List.find?_cons, decide_eq_true e]; rfl
      have e2 : (q :: ps).filter (fun q => decide (q.1 ≠ s)) = ps := by rw [List.filter_cons, if_neg (by simpa using e), filt_all hne]
      rw [e1, e2]
      show q.2 * num (ns.set s.toNat z) q.1 + (prods ps (ns.set s.toNat z)).sum = _
      rw [num_set a b s0, if_pos e, prods_same s0 fun r hr => ⟨(h r (List.mem_cons_of_mem _ hr)).1, (h r (List.mem_cons_of_mem _ hr)).2, hne r hr⟩]
      omega
    · have ih := prods_set (z := z) s0 hu' fun r hr => h r (List.mem_cons_of_mem _ hr)
      have e1 : tm (q :: ps) s = tm ps s := by unfold tm; rw [List.find?_cons, decide_eq_false e]
      have e2 : (q :: ps).filter (fun q => decide (q.1 ≠ s)) = q :: ps.filter (fun q => decide (q.1 ≠ s)) := by rw [List.filter_cons, if_pos (by simpa using e)]
      rw [e1, e2]
      show q.2 * num (ns.set s.toNat z) q.1 + (prods ps (ns.set s.toNat z)).sum = q.2 * num ns q.1 + (prods (ps.filter fun q => decide (q.1 ≠ s)) ns).sum + tm ps s * z
      rw [num_set a b s0, if_neg e, ih]
      omega
theorem wo_set {f : Fm} {ns : List Int} {s z : Int} (s0 : 0 ≤ s) (hu : Uq f.2) (h : ∀ q ∈ f.2, 0 ≤ q.1 ∧ q.1 < (ns.length : Int)) : wo f (ns.set s.toNat z) = alo f s ns + tm f.2 s * z := by
  show f.1 + (prods f.2 (ns.set s.toNat z)).sum = f.1 + (prods (f.2.filter fun q => decide (q.1 ≠ s)) ns).sum + tm f.2 s * z
  rw [prods_set s0 hu h]
  omega
theorem cut_set {ns : List Int} {s : Int} {z : Int} (s0 : 0 ≤ s) (s1 : s < ns.length) : cutV (ns.map V.int) none (some s) ++ [V.int z] ++ cutV (ns.map V.int) (some (s + 1)) none = (ns.set s.toNat z).map V.int := by
  obtain ⟨k, rfl⟩ : ∃ k : Nat, s = k := ⟨s.toNat, by omega⟩
  have hk : k < ns.length := by omega
  unfold cutV
  rw [HT.sIx_none, HT.sIx_none, HT.sIx_nat, show ((k : Int) + 1) = ((k + 1 : Nat) : Int) by omega, HT.sIx_nat, List.length_map]
  rw [Nat.min_eq_left (by omega), Nat.min_eq_left (by omega), List.drop_zero, Nat.sub_zero, Int.toNat_natCast]
  have e : (List.drop (k + 1) (ns.map V.int)).take (ns.length - (k + 1)) = List.drop (k + 1) (ns.map V.int) := List.take_of_length_le (by rw [List.length_drop, List.length_map]; omega)
  rw [e, List.set_eq_take_append_cons_drop, if_pos hk, List.map_append, List.map_cons, List.map_take, List.map_drop]
  simp
theorem cutV_le (xs : List V) (lo hi : Option Int) : (cutV xs lo hi).length ≤ xs.length := by
  unfold cutV
  rw [List.length_take, List.length_drop]
  omega
theorem uq_of {m : Int} {ps : List (Int × Int)} (h : PsOk m ps) : Uq ps := h.up.imp fun h z => by omega
theorem tm_sm {m : Int} {ps : List (Int × Int)} (h : PsOk m ps) (s : Int) : Sm (tm ps s) := by
  unfold tm
  cases e : ps.find? fun q => decide (q.1 = s) with
  | none => exact ⟨by show -(10 ^ 59) ≤ (0 : Int); decide, by show (0 : Int) ≤ 10 ^ 59; decide⟩
  | some q => exact (h.at_ q (List.mem_of_find?_eq_some e)).2.2.2
theorem psok_filter {m : Int} {ps : List (Int × Int)} (h : PsOk m ps) (g : Int × Int → Bool) : PsOk m (ps.filter g) :=
  ⟨fun q hq => h.at_ q (List.mem_filter.mp hq).1, h.up.filter g, by have := List.length_filter_le g ps; have := h.len; omega⟩
/-- what the law calls -/
structure Gs (P : Program) (w : World) (K : PySem.W.Frag) (mg : Str → Option Value) (base : Heap) (fW fD fP fN fF fO fB : Addr) (dW dD dP dN dF dO dB : FuncData) : Prop where
  W : FnOk P w K mg base CX0 1 fW dW ["script", "k"] (spWell K)
  D : FnOk P w K mg base CX0 1 fD dD ["well", "many"] spDraw
  Pk : FnOk P w K mg base CX0 2 fP dP ["well", "some"] (spPick K)
  N : FnOk P w K mg base CX0 3 fN dN ["well"] spNumber
  F : FnOk P w K mg base CX0 4 fF dF ["well", "many"] (spForm K)
  O : FnOk P w K mg base CX0 1 fO dO ["form", "setting"] (spWorth K)
  B : FnOk P w K mg base CX0 2 fB dB ["form", "knob", "setting"] (spAlong K)
  bW : Binds K dW ["script", "k"] []
  bD : Binds K dD ["well", "many"] []
  bP : Binds K dP ["well", "some"] []
  bN : Binds K dN ["well"] []
  bF : Binds K dF ["well", "many"] []
  bO : Binds K dO ["form", "setting"] []
  bB : Binds K dB ["form", "knob", "setting"] []
  kbB : KBinds K dB ["form", "knob", "setting"] ["setting", "knob", "form"] (gR 3) (gR 3)
  mW : mg "_law_well" = some (.ref fW)
  mD : mg "_law_draw" = some (.ref fD)
  mP : mg "_law_pick" = some (.ref fP)
  mN : mg "_law_number" = some (.ref fN)
  mF : mg "_law_form" = some (.ref fF)
  mO : mg "worth" = some (.ref fO)
  mB : mg "along" = some (.ref fB)
  kW : PySem.W.keepIn K (.ref fW) = true
  kD : PySem.W.keepIn K (.ref fD) = true
  kP : PySem.W.keepIn K (.ref fP) = true
  kN : PySem.W.keepIn K (.ref fN) = true
  kF : PySem.W.keepIn K (.ref fF) = true
  kO : PySem.W.keepIn K (.ref fO) = true
  kB : PySem.W.keepIn K (.ref fB) = true
  rng : mg "range" = none
  rep : mg "repr" = none
  sm : mg "sum" = none
  dct : mg "dict" = none
section
variable {P : Program} {w : World} {K : PySem.W.Frag} {mg : Str → Option Value} {base : Heap} {fW fD fP fN fF fO fB : Addr} {dW dD dP dN dF dO dB : FuncData}
abbrev nmL : List Str := ["script", "well", "turn", "many", "shape", "numbers", "spot", "seen", "found", "much", "rest", "look", "number", "there", "one", "part"]
theorem scL : FnScope nmL ["script"] (defScope sLaw) := ⟨rfl, rfl, rfl, by decide +kernel, rfl, by decide +kernel, by decide +kernel⟩
theorem ok_law {f : Addr} {fd : FuncData} (F : Fun K "law" "law" sLaw f fd) (G : Gs P w K mg base fW fD fP fN fF fO fB dW dD dP dN dF dO dB) : FnG P w K mg base CX0 5 f fd ["script"] (spLaw K) := by
  refine F.okG scL (fun vs H Q E h => ?_) (fun cdv A outer s H vs Q E hgd hr h => ?_)
  · obtain ⟨a, ns, rfl, _⟩ := h
    rfl
  · obtain ⟨a, ns, rfl, hS, hbits, k⟩ := h
    have hr1 : Room 1 _ := hr.mono (by decide)
    have hr2 : Room 2 _ := hr.mono (by decide)
    have hr3 : Room 3 _ := hr.mono (by decide)
    have hr4 : Room 4 _ := hr.mono (by decide)
    have hu := hr.units
    refine ⟨_, pss_cons (ps_set (i := 1) scL.nd rfl (Or.inr rfl) (pe_call G.W hr1 (by rfl) G.mW G.kW G.bW .nil pass0 (pa_cons (pv 0) (pa_cons pe_int pa_nil))))
      (pss_cons (ps_for PassesOwn.never rfl (pi_range1 (by rfl) G.rng (pa_cons pe_int pa_nil)) (pg_name (i := 2) scL.nd rfl (Or.inl rfl))
        (pss_cons (ps_set (i := 3) scL.nd rfl (Or.inl rfl) (pe_op op_add pe_int (pe_call G.D hr1 (by rfl) G.mD G.kD G.bD .nil pass0 (pa_cons (pv 1) (pa_cons pe_int pa_nil)))))
        (pss_cons (ps_set (i := 4) scL.nd rfl (Or.inl rfl) (pe_call G.F hr4 (by rfl) G.mF G.kF G.bF .nil pass0 (pa_cons (pv 1) (pa_cons (pv 3) pa_nil))))
        (pss_cons (ps_set (i := 5) scL.nd rfl (Or.inr rfl) (pe_lc (own := [("spot", 6)]) (g := gName 6) (tt := tYes) rfl scL.nd (pi_range1 (by rfl) G.rng (pa_cons (pv 3) pa_nil)) (blkOk_by (N := nmL) (sc := defScope sLaw) (by decide +kernel))
          (fun _ _ _ _ _ => pg_name (i := 6) scL.nd rfl (Or.inl rfl)) (fun _ _ _ _ _ => pts_nil) (fun _ _ _ _ _ => pe_call G.N hr3 (by rfl) G.mN G.kN G.bN .nil pass0 (pa_cons (pv 1) pa_nil))))
        (pss_cons (ps_set (i := 6) scL.nd rfl (Or.inr rfl) (pe_call G.D hr1 (by rfl) G.mD G.kD G.bD .nil pass0 (pa_cons (pv 1) (pa_cons (pv 3) pa_nil))))
        (pss_cons (ps_set (i := 7) scL.nd rfl (Or.inl rfl) (pe_callB (call_repr hgd hu) (by rfl) G.rep (by decide +kernel) (pa_cons (pe_tup (pa_cons (pv 4) (pa_cons (pv 5) pa_nil))) pa_nil)))
        (pss_cons (ps_set (i := 8) scL.nd rfl (Or.inl rfl) (pe_call G.B hr2 (by rfl) G.mB G.kB G.bB .nil pass0 (pa_cons (pv 4) (pa_cons (pv 6) (pa_cons (pv 5) pa_nil)))))
        (pss_cons (ps_set (i := 9) scL.nd rfl (Or.inl rfl) (pe_dget2 (hu_of hr) (pe_callTy (call_dictT rfl) (by rfl) G.dct (by decide +kernel) (pa_cons (pe_ix ix_seq (pv 4) pe_int (fun _ _ => rfl)) pa_nil)) (pv 6) pe_int ⟨rfl, rfl, rfl, rfl⟩))
        (pss_cons (ps_setLc (i := 10) (own := [("one", 14), ("part", 15)]) (g := gTup K 2 (gCons (gName 14) (gCons (gName 15) gNil))) rfl scL.nd rfl rfl (sw_true rfl rfl rfl (by decide +kernel)) (pi_tup (pe_ix ix_seq (pv 4) pe_int (fun _ _ => rfl))) (blkOk_by (N := nmL) (sc := defScope sLaw) (by decide +kernel))
          (fun _ _ _ _ _ => pg_tup rfl (pgs_cons (pg_name (i := 14) scL.nd rfl (Or.inl rfl)) (pgs_cons (pg_name (i := 15) scL.nd rfl (Or.inl rfl)) pgs_nil)))
          (fun _ _ _ _ _ => pts_one (pt_cmpR op_ne (pv 14) (pv 6) (nomark _)))
          (fun _ _ _ _ _ => pe_tup (pa_cons (pv 14) (pa_cons (pv 15) pa_nil))))
        (pss_cons (ps_if (pt_cmpR op_ne (pe_callB (call_repr hgd hu) (by rfl) G.rep (by decide +kernel) (pa_cons (pv 8) pa_nil)) (pe_callB (call_repr hgd hu) (by rfl) G.rep (by decide +kernel) (pa_cons
            (pe_tup (pa_cons (pe_op op_add (pe_ix ix_seq (pv 4) pe_int (fun _ _ => rfl)) (pe_callB (cr_sum rfl) (by rfl) G.sm (by decide +kernel) (pa_cons
              (pe_lc (own := [("one", 14), ("part", 15)]) (g := gTup K 2 (gCons (gName 14) (gCons (gName 15) gNil))) (tt := tYes) (te := tOp (rI CMulW fun i j => .int (i * j)) (tVar 15) (tOp (rIx K) (tVar 5) (tVar 14))) rfl scL.nd (pi_list (pv 10)) (blkOk_by (N := nmL) (sc := defScope sLaw) (by decide +kernel))
                (fun _ _ _ _ _ => pg_tup rfl (pgs_cons (pg_name (i := 14) scL.nd rfl (Or.inl rfl)) (pgs_cons (pg_name (i := 15) scL.nd rfl (Or.inl rfl)) pgs_nil))) (fun _ _ _ _ _ => pts_nil) (fun _ _ _ _ _ => pe_op op_mulW (pv 15) (pe_ix (r := rIx K) ix_seq (pv 5) (pv 14) (fun _ _ => rfl)))) pa_nil))) (pa_cons (pv 9) pa_nil))) pa_nil)) (nomark _)) (pss_one (ps_ret pe_bl)) pss_nil)
        (pss_cons (ps_if (PW.pt (pw_or (pt_cmpR (op_neD hu) (pe_callK0 G.B hr2 (by rfl) G.mB G.kB G.kbB pass0 (pk_cons (pv 5) (pk_cons (pv 6) (pk_cons (pv 4) pk_nil)))) (pv 8) (nomark _))
            (pw_or1 (pt_cmpR op_ne (pe_callB (call_repr hgd hu) (by rfl) G.rep (by decide +kernel) (pa_cons (pe_tup (pa_cons (pv 4) (pa_cons (pv 5) pa_nil))) pa_nil)) (pv 7) (nomark _)))))
          (pss_one (ps_ret pe_bl)) pss_nil)
        (pss_one (ps_for PassesOwn.never rfl (pi_range1 (by rfl) G.rng (pa_cons pe_int pa_nil)) (pg_name (i := 11) scL.nd rfl (Or.inl rfl))
          (pss_cons (ps_set (i := 12) scL.nd rfl (Or.inl rfl) (pe_call G.N hr3 (by rfl) G.mN G.kN G.bN .nil pass0 (pa_cons (pv 1) pa_nil)))
          (pss_cons (ps_set (i := 13) scL.nd rfl (Or.inl rfl) (pe_op op_cat (pe_op op_cat (pe_slice sl_list (pv 5) po_none (po_some (pv 6))) (pe_lst (pa_cons (pv 12) pa_nil))) (pe_slice sl_list (pv 5) (po_some (pe_op op_add (pv 6) pe_int)) po_none)))
          (pss_one (ps_if (pt_cmpR op_ne (pe_call G.O hr1 (by rfl) G.mO G.kO G.bO .nil pass0 (pa_cons (pv 4) (pa_cons (pv 13) pa_nil))) (pe_op op_add (pe_ix ix_seq (pv 8) pe_int (fun _ _ => rfl)) (pe_op op_mulW (pe_ix ix_seq (pv 8) pe_int (fun _ _ => rfl)) (pv 12))) (nomark _)) (pss_one (ps_ret pe_bl)) pss_nil)))))))))))))))))
      (pss_one (ps_ret pe_bl))), ?_⟩
    repeat walk_at "rd"
    refine ⟨a, ns, 0, rfl, hS, hbits, by decide, by decide, fun p H0 hp w0 b0 => ?_⟩
    repeat walk_at "rd"
    refine rd_forR ?_
    repeat walk_at "rd"
    refine ⟨_, rfl, by decide, by decide, for_range (fun i σ H' => ∃ o2 o3 o4 o5 o6 o7 o8 o9 o10 o11 o12 o13 o14 o15 : Option V, σ = [some (.ref a), some (.ref p), o2, o3, o4, o5, o6, o7, o8, o9, o10, o11, o12, o13, o14, o15] ∧ Well H' p)
      ⟨_, _, _, _, _, _, _, _, _, _, _, _, _, _, rfl, w0⟩ ?_ ?_⟩
    · rintro iT σ H1 hi ⟨o2, o3, o4, o5, o6, o7, o8, o9, o10, o11, o12, o13, o14, o15, rfl, w1⟩
      repeat walk_at "rd"
      refine ⟨p, 8, rfl, w1, ⟨by decide, by decide⟩, fun r H2 r0 r1 w2 b2 => ?_⟩
      repeat walk_at "rd"
      refine ⟨p, 1 + r, rfl, w2, by omega, by omega, fun v f H3 d3 f0 f1 w3 k3 => ?_⟩
      have z3 : FmZ K H3 v f := d3.same nw_sub
      repeat walk_at "rd"
      refine rd_lcR ?_
      repeat walk_at "rd"
      refine ⟨_, rfl, by omega, by omega, fun D hD => lc_range (fun i H' => ∃ zs : List Int, H' D = some (.lst (zs.map V.int)) ∧ zs.length = i ∧ (∀ z ∈ zs, Sm z) ∧ Well H' p ∧ FmZ K H' v f) ⟨[], upd_same, rfl, fun _ h => (nomatch h), w3.upd hD, z3.same (Same.new hD)⟩ ?_ ?_⟩
      · rintro i H4 hi ⟨zs, e1, e2, e3, e4, e5⟩
        have nDp : D ≠ p := fun z => w3.some (z ▸ hD)
        repeat walk_at "rd"
        refine ⟨rfl, ?_⟩
        repeat walk_at "rd"
        refine ⟨p, rfl, e4, fun z H5 z0 z1 w5 k5 => ?_⟩
        have e1' := k5 D _ nDp e1
        refine ⟨_, e1', by rw [List.length_map, e2]; exact Nat.lt_of_lt_of_le (show i < 1000 by omega) (by decide), zs ++ [z], by rw [upd_same, List.map_append]; rfl, by simp [e2], fun x hx => ?_, w5.put nDp, (e5.kt (Keep.kt k5 e4)).kt (KT.lst e1')⟩
        rcases List.mem_append.mp hx with hx | hx
        · exact e3 x hx
        · rw [List.mem_singleton.mp hx]; exact ⟨z0, z1⟩
      · rintro H4 ⟨zs, e1, e2, e3, e4, e5⟩
        have nDp : D ≠ p := fun z => w3.some (z ▸ hD)
        have hzl : (zs.length : Int) = 1 + r := by omega
        have hfit : Fits f.2 zs := fits_of f1 (by omega) (by omega) e3
        have huq : Uq f.2 := uq_of f1
        repeat walk_at "rd"
        refine ⟨p, 1 + r, rfl, e4, ⟨by omega, by omega⟩, fun sp H5 s0 s1 w5 b5 => ?_⟩
        have n5 : H5 D = some (.lst (zs.map V.int)) := (b5 D nDp).trans e1
        have z5 : FmZ K H5 v f := e5.kt (Keep.kt b5.keep e4)
        repeat walk_at "rd"
        refine ⟨by show 2 ≤ sizeLine; decide, fun t1 ht1 => ?_⟩
        have s6 := Same.new (o := .tup [v, .ref D]) ht1
        generalize hH6 : upd H5 t1 (.tup [v, .ref D]) = H6 at *
        have shA : Sh 4 1000000 (.tuple [fmd f, .list (zs.map .int)]) := by
          refine (sh_tup (ds := [fmd f, .list (zs.map .int)]) (n := 2) (D := 3) (L := 12000) (fun d hd => ?_) (Nat.le_refl 2)).up (by decide) (by decide)
          simp only [List.mem_cons, List.not_mem_nil, or_false] at hd
          rcases hd with rfl | rfl
          · exact sh_fm f1 (by omega) (Nat.lt_of_lt_of_le (sm_lt f0) (by decide +kernel))
          · exact (sh_list (n := 40) (D := 0) (L := 61) (fun d hd => by
              obtain ⟨z, hz', rfl⟩ := List.mem_map.mp hd
              exact sh_int (k := 60) (by decide) (by decide) (sm_lt (e3 z hz'))) (by rw [List.length_map]; omega)).up (by decide) (by decide)
        have dpA : ∀ H' t, FmZ K H' v f → H' D = some (.lst (zs.map V.int)) → H' t = some (.tup [v, .ref D]) → Dp K H' (.ref t) (.tuple [fmd f, .list (zs.map .int)]) := fun H' t z n e =>
          .tup (SqT.of e) (.cons z.dp (.cons (.lst (SqL.of n) (dp_ints zs)) .nil))
        repeat walk_at "rd"
        refine rd_show (dpA H6 t1 (z5.same s6) (s6 _ _ n5) (by rw [← hH6]; exact upd_same)) shA (by decide) (by decide) ?_
        repeat walk_at "rd"
        refine ⟨v, f, sp, D, zs, rfl, z5.same s6, SqL.of (s6 _ _ n5), hfit, huq, fun t H7 s7 dp7 => ?_⟩
        have s57 : Same H5 H7 := s6.trans s7
        have z7 := z5.same s57
        have n7 := s57 _ _ n5
        have q7 : SqT K H7 t [.int (alo f sp zs), .int (tm f.2 sp)] := two_dp dp7
        obtain ⟨fa, fp, ws, rfl, ha, hpz, hpd⟩ := z7
        have z7 : FmZ K H7 (.ref fa) f := ⟨fa, fp, ws, rfl, ha, hpz, hpd⟩
        repeat walk_at "rd"
        refine rd_dget2 ?_
        repeat walk_at "rd"
        refine rd_ixQ (.inr ha) rfl ?_
        repeat walk_at "rd"
        refine rd_dictT hpz hpd huq fun q hq => ?_
        refine ⟨q, rfl, .inl ⟨_, .inl upd_same⟩, ?_⟩
        repeat walk_at "rd"
        refine ⟨_, DGet.k (k := Sum.inl sp) upd_same, ?_⟩
        rw [getD_tm]
        have s8 := Same.new (o := .dK (f.2.map kvp)) hq
        generalize hH8 : upd H7 q (.dK (f.2.map kvp)) = H8 at *
        have s58 : Same H5 H8 := s57.trans s8
        have ha8 := SqT.same ha s8
        have hp8 : SqT K H8 fp ws := SqT.same hpz.sq s8
        repeat walk_at "rd"
        refine rd_lcT ?_
        repeat walk_at "rd"
        refine rd_ixQ (.inr ha8) rfl ?_
        refine ⟨fp, rfl, ⟨_, hp8⟩, fun R hR => lc_tup (xs := ws) (fun m H' => ∃ us : List V, H' R = some (.lst us) ∧ DpAll K H' us (((f.2.take m).filter fun q => decide (q.1 ≠ sp)).map pd) ∧ Same H8 H') ⟨[], upd_same, .nil, Same.new hR⟩ (fun m H' _ ⟨_, _, _, s⟩ => SqT.same hp8 s) ?_ ?_⟩
        · rintro m x H9 hx ⟨us, u1, u2, s9⟩
          obtain ⟨len, at_⟩ := dpAll_at (DpAll.same s8 hpd)
          obtain ⟨d, hd1, hd2⟩ := at_ m x hx
          rw [List.getElem?_map] at hd1
          cases hq : f.2[m]? with
          | none => rw [hq] at hd1; cases hd1
          | some c =>
            rw [hq] at hd1
            obtain ⟨u, rfl, hu⟩ := dp_pair ((Option.some.inj hd1) ▸ hd2)
            have tk : ∀ b : Bool, decide (c.1 ≠ sp) = b → (f.2.take (m + 1)).filter (fun q => decide (q.1 ≠ sp)) = (f.2.take m).filter (fun q => decide (q.1 ≠ sp)) ++ if b = true then [c] else [] := fun b hb => by
              rw [List.take_add_one, hq, List.filter_append]
              show _ ++ List.filter _ [c] = _
              rw [List.filter_cons, hb]
              cases b <;> rfl
            refine rd_gtup (SqT.same hu s9) rfl ?_
            repeat walk_at "rd"
            refine ⟨rfl, ?_⟩
            repeat walk_at "rd"
            refine rd_decN (fun hc => ?_) (fun hc => ?_)
            · have hc' : c.1 ≠ sp := fun z => hc (by rw [z])
              repeat walk_at "rd"
              refine ⟨by show 2 ≤ sizeLine; decide, fun y hy => ?_⟩
              have sy := Same.new (o := .tup [.int c.1, .int c.2]) hy
              have nRy : R ≠ y := ne_of_none u1 hy
              have hul : us.length = ((f.2.take m).filter fun q => decide (q.1 ≠ sp)).length := by rw [(dpAll_at u2).1, List.length_map]
              refine ⟨us, sy _ _ u1, ?_, us ++ [.ref y], upd_same, ?_, fun b o e => ?_⟩
              · rw [hul]
                have h1 := List.length_filter_le (fun q : Int × Int => decide (q.1 ≠ sp)) (f.2.take m)
                have h2 : (f.2.take m).length ≤ f.2.length := by rw [List.length_take]; omega
                have h3 := f1.len
                exact Nat.lt_of_le_of_lt (show _ ≤ 1000 by omega) (by decide)
              · rw [tk true (decide_eq_true hc'), if_pos rfl, List.map_append]
                have kt : KT (upd H9 y (.tup [.int c.1, .int c.2])) (upd (upd H9 y (.tup [.int c.1, .int c.2])) R (.lst (us ++ [.ref y]))) := KT.lst (sy _ _ u1)
                exact DpAll.app (pds_kt kt (DpAll.same sy u2)) (.tup (SqT.kt (SqT.of upd_same) kt) (.cons (.int _) (.cons (.int _) .nil)))
              · rw [upd_ne (ne_of_none e hR)]
                exact sy _ _ (s9 b o e)
            · have hc' : c.1 = sp := by injection hc
              repeat walk_at "rd"
              refine ⟨us, u1, ?_, s9⟩
              rw [tk false (decide_eq_false (fun z => z hc')), if_neg Bool.false_ne_true, List.append_nil]
              exact u2
        · rintro H9 ⟨us, u1, u2, s9⟩
          have e6 : ws.length = f.2.length := by rw [(dpAll_at hpd).1, List.length_map]
          rw [e6, List.take_length] at u2
          have s59 : Same H5 H9 := s58.trans s9
          have shT : Sh 1 1000 (two (alo f sp zs) (tm f.2 sp)) := by
            refine sh_two ?_ (Nat.lt_of_lt_of_le (sm_lt (tm_sm f1 sp)) (by decide +kernel))
            have h1 := wo_le (f := (f.1, f.2.filter fun q => decide (q.1 ≠ sp))) (m := 1 + r) (zs := zs) f0 (psok_filter f1 _) (by omega) e3
            exact Nat.lt_of_le_of_lt h1 (by decide +kernel)
          have q9 : SqT K H9 t [.int (alo f sp zs), .int (tm f.2 sp)] := SqT.same q7 (s8.trans s9)
          repeat walk_at "rd"
          refine rd_show (dp_twoI q9) shT (by decide) (by decide) ?_
          repeat walk_at "rd"
          refine rd_ixQ (.inr (SqT.same ha8 s9)) rfl ?_
          repeat walk_at "rd"
          refine rd_lcI ?_
          repeat walk_at "rd"
          have hpf := psok_filter f1 (fun q => decide (q.1 ≠ sp))
          refine ⟨R, rfl, ⟨_, SqL.of u1⟩, fun J hJ => lc_prodsL hJ (SqL.of u1) u2 (SqL.of (s59 _ _ n5)) (fits_of hpf (by omega) (by omega) e3) SqL.ix (fun _ _ => rfl) (fun _ _ => rfl) (fun _ _ => rfl) (fun _ _ => rfl) (fun H10 e10 s10 => ?_)⟩
          repeat walk_at "rd"
          refine rd_sum e10 ?_
          repeat walk_at "rd"
          refine ⟨by show 2 ≤ sizeLine; decide, fun t2 ht2 => ?_⟩
          have s11 := Same.new (o := .tup [.int (f.1 + (prods (f.2.filter fun q => decide (q.1 ≠ sp)) zs).sum), .int (tm f.2 sp)]) ht2
          repeat walk_at "rd"
          refine rd_show (d := two (alo f sp zs) (tm f.2 sp)) (dp_twoI (SqT.of upd_same)) shT (by decide) (by decide) ?_
          generalize hH11 : upd H10 t2 (.tup [.int (f.1 + (prods (f.2.filter fun q => decide (q.1 ≠ sp)) zs).sum), .int (tm f.2 sp)]) = H11 at *
          have s511 : Same H5 H11 := (s59.trans s10).trans s11
          repeat walk_at "rd"
          refine iteNS rfl ?_
          repeat walk_at "rd"
          refine rd_callk ?_
          repeat walk_at "rd"
          refine ⟨.ref fa, f, sp, D, zs, rfl, z5.same s511, SqL.of (s511 _ _ n5), hfit, huq, fun t3 H12 s12 dp12 => ?_⟩
          have s512 : Same H5 H12 := s511.trans s12
          have q12 : SqT K H12 t [.int (alo f sp zs), .int (tm f.2 sp)] := SqT.same q9 ((s10.trans s11).trans s12)
          repeat walk_at "rd"
          obtain ⟨x1, x2⟩ := two_ok (alo f sp zs) (tm f.2 sp)
          refine rd_neD dp12 (dp_twoI q12) x1 x1 ?_
          rw [show PyData.eqv (.tuple [.int (alo f sp zs), .int (tm f.2 sp)]) (two (alo f sp zs) (tm f.2 sp)) = true from x2]
          repeat walk_at "rd"
          refine iteF ?_
          repeat walk_at "rd"
          refine ⟨by show 2 ≤ sizeLine; decide, fun t4 ht4 => ?_⟩
          have s13 := Same.new (o := .tup [.ref fa, .ref D]) ht4
          repeat walk_at "rd"
          refine rd_show (dpA _ t4 (z5.same (s512.trans s13)) (s13 _ _ (s512 _ _ n5)) upd_same) shA (by decide) (by decide) ?_
          generalize hH13 : upd H12 t4 (.tup [.ref fa, .ref D]) = H13 at *
          have s513 : Same H5 H13 := s512.trans s13
          have w13 : Well H13 p := by obtain ⟨x, y, z, u⟩ := w5; exact ⟨x, y, s513 _ _ z, u⟩
          repeat walk_at "rd"
          refine iteNS rfl ?_
          repeat walk_at "rd"
          refine rd_forR ?_
          repeat walk_at "rd"
          refine ⟨_, rfl, by decide, by decide, for_range (fun i σ H' => ∃ o7 o9 o10 o11 o12 o13 o14 o15 : Option V, σ = [some (.ref a), some (.ref p), some (.int (0 + (iT : Int))), some (.int (1 + r)), some (.ref fa), some (.ref D), some (.int sp), o7, some (.ref t), o9, o10, o11, o12, o13, o14, o15] ∧ Well H' p ∧ H' D = some (.lst (zs.map V.int)) ∧ FmZ K H' (.ref fa) f ∧ SqT K H' t [.int (alo f sp zs), .int (tm f.2 sp)])
            ⟨_, _, _, _, _, _, _, _, rfl, w13, s513 _ _ n5, z5.same s513, SqT.same q12 s13⟩ ?_ ?_⟩
          · rintro i σ H14 hi ⟨o7, o9, o10, o11, o12, o13, o14, o15, rfl, w14, n14, z14, q14⟩
            repeat walk_at "rd"
            refine ⟨p, rfl, w14, fun z H15 z0 z1 w15 k15 => ?_⟩
            have n15 := k15 D _ nDp n14
            have z15 := z14.kt (Keep.kt k15 w14)
            have q15 := SqT.kt q14 (Keep.kt k15 w14)
            repeat walk_at "rd"
            refine rd_sl ?_
            repeat walk_at "rd"
            refine rd_noPart (rd_part ?_)
            repeat walk_at "rd"
            refine ⟨_, rfl, rd_slL n15 fun q1 hq1 => ?_⟩
            have v1 := Same.new (o := .lst (cutV (zs.map V.int) none (some sp))) hq1
            repeat walk_at "rd"
            refine ⟨by show 1 ≤ sizeLine; decide, fun q2 hq2 => ?_⟩
            have v2 := Same.new (o := .lst [.int z]) hq2
            refine rd_cat (v2 _ _ upd_same) upd_same ?_ fun q3 hq3 => ?_
            · have := cutV_le (zs.map V.int) none (some sp)
              rw [List.length_map] at this
              show _ + 1 ≤ 1000
              omega
            have v3 := Same.new (o := .lst (cutV (zs.map V.int) none (some sp) ++ [V.int z])) hq3
            repeat walk_at "rd"
            refine rd_sl ?_
            repeat walk_at "rd"
            refine rd_part ?_
            repeat walk_at "rd"
            refine ⟨_, rfl, rd_noPart (rd_slL (v3 _ _ (v2 _ _ (v1 _ _ n15))) fun q4 hq4 => ?_)⟩
            have v4 := Same.new (o := .lst (cutV (zs.map V.int) (some (sp + 1)) none)) hq4
            refine rd_cat (v4 _ _ upd_same) upd_same ?_ fun q5 hq5 => ?_
            · have h1 := cutV_le (zs.map V.int) none (some sp)
              have h2 := cutV_le (zs.map V.int) (some (sp + 1)) none
              rw [List.length_map] at h1 h2
              rw [List.length_append]
              show _ + 1 + _ ≤ 1000
              omega
            rw [cut_set s0 (by omega)]
            have v5 := Same.new (o := .lst ((zs.set sp.toNat z).map V.int)) hq5
            generalize hH16 : upd _ q5 (.lst ((zs.set sp.toNat z).map V.int)) = H16 at *
            have v : Same H15 H16 := (((v1.trans v2).trans v3).trans v4).trans v5
            have e16 : H16 q5 = some (.lst ((zs.set sp.toNat z).map V.int)) := by rw [← hH16]; exact upd_same
            have hz' : ∀ x ∈ zs.set sp.toNat z, Sm x := fun x hx => by
              rcases List.mem_or_eq_of_mem_set hx with hx | hx
              · exact e3 x hx
              · rw [hx]; exact ⟨z0, z1⟩
            have hin : ∀ q ∈ f.2, 0 ≤ q.1 ∧ q.1 < (zs.length : Int) := fun q hq => by
              obtain ⟨x, y, _⟩ := f1.at_ q hq
              exact ⟨x, by omega⟩
            repeat walk_at "rd"
            refine ⟨.ref fa, f, q5, _, rfl, (z15.same v).dp, SqL.of e16, fits_of f1 (by omega) (by rw [List.length_set]; omega) hz', fun H17 s17 => ?_⟩
            have q17 := SqT.same q15 (v.trans s17)
            rw [wo_set s0 huq hin]
            repeat walk_at "rd"
            refine rd_ixQ (.inr q17) rfl ?_
            repeat walk_at "rd"
            refine rd_ixQ (.inr q17) rfl ?_
            repeat walk_at "rd"
            have mb : ∀ x : Int, Sm x → Mb x := fun x hx => Nat.lt_trans (sm_lt hx) (by decide +kernel)
            refine rd_I (mb_mul (mb _ (tm_sm f1 sp)) (mb _ ⟨z0, z1⟩)) ?_
            repeat walk_at "rd"
            refine iteNS rfl ?_
            repeat walk_at "rd"
            have w17 : Well H17 p := by obtain ⟨x, y, z, u⟩ := w15; exact ⟨x, y, s17 _ _ (v _ _ z), u⟩
            exact ⟨_, _, _, _, _, _, _, _, rfl, w17, s17 _ _ (v _ _ n15), z15.same (v.trans s17), q17⟩
          · rintro σ H14 ⟨o7, o9, o10, o11, o12, o13, o14, o15, rfl, w14, n14, z14, q14⟩
            repeat walk_at "rd"
            exact ⟨_, _, _, _, _, _, _, _, _, _, _, _, _, _, rfl, w14⟩
    · rintro σ H1 ⟨o2, o3, o4, o5, o6, o7, o8, o9, o10, o11, o12, o13, o14, o15, rfl, w1⟩
      repeat walk_at "rd"
      exact k _
end
end Tug
namespace Tug
open PySem L2
open PySem.W (Frag nsIn findIn typeIn keepIn subIn hasDictIn codeIn kitOne mroIn)
theorem all_mk {l : PySem.W.OpenLaw} {w : World} {K : Frag} {h : Heap} {mg : Str → Option Value} {fa f0 f1 f2 f3 f4 f5 f6 f7 : Addr} (X : K.In h) (G : h.Ns mainGlobals mg) (hfa : mg "law" = some (.ref fa))
    {od0 an0 od1 an1 od2 an2 od3 an3 od4 an4 od5 an5 od6 an6 od7 an7 : Option Addr} {sl0 sl1 sl2 sl3 sl4 sl5 sl6 sl7 : Array (Option Value)} {oc0 kV0 dc0 pm0 cd0 ct0 oc1 kV1 dc1 pm1 cd1 ct1 oc2 kV2 dc2 pm2 cd2 ct2 oc3 kV3 dc3 pm3 cd3 ct3 oc4 kV4 dc4 pm4 cd4 ct4 oc5 kV5 dc5 pm5 cd5 ct5 oc6 kV6 dc6 pm6 cd6 ct6 oc7 kV7 dc7 pm7 cd7 ct7 : Value}
    (a0 : nsIn K mainGlobals "_law_well" = some (some (.ref f0))) (l0 : K.lookup f0 = some ⟨oc0, od0, .func (PySem.W.fnOf "_law_well" "_law_well" (defArgs sWell) (defBody sWell) (defScope sWell) .none kV0 dc0 pm0 an0 cd0 ct0), sl0⟩) (c0 : codeIn K cd0 "_law_well" = true) (k0 : keepIn K (.ref f0) = true)
    (a1 : nsIn K mainGlobals "_law_draw" = some (some (.ref f1))) (l1 : K.lookup f1 = some ⟨oc1, od1, .func (PySem.W.fnOf "_law_draw" "_law_draw" (defArgs sDraw) (defBody sDraw) (defScope sDraw) .none kV1 dc1 pm1 an1 cd1 ct1), sl1⟩) (c1 : codeIn K cd1 "_law_draw" = true) (k1 : keepIn K (.ref f1) = true)
    (a2 : nsIn K mainGlobals "_law_pick" = some (some (.ref f2))) (l2 : K.lookup f2 = some ⟨oc2, od2, .func (PySem.W.fnOf "_law_pick" "_law_pick" (defArgs sPick) (defBody sPick) (defScope sPick) .none kV2 dc2 pm2 an2 cd2 ct2), sl2⟩) (c2 : codeIn K cd2 "_law_pick" = true) (k2 : keepIn K (.ref f2) = true)
    (a3 : nsIn K mainGlobals "_law_number" = some (some (.ref f3))) (l3 : K.lookup f3 = some ⟨oc3, od3, .func (PySem.W.fnOf "_law_number" "_law_number" (defArgs sNumber) (defBody sNumber) (defScope sNumber) .none kV3 dc3 pm3 an3 cd3 ct3), sl3⟩) (c3 : codeIn K cd3 "_law_number" = true) (k3 : keepIn K (.ref f3) = true)
    (a4 : nsIn K mainGlobals "_law_form" = some (some (.ref f4))) (l4 : K.lookup f4 = some ⟨oc4, od4, .func (PySem.W.fnOf "_law_form" "_law_form" (defArgs sForm) (defBody sForm) (defScope sForm) .none kV4 dc4 pm4 an4 cd4 ct4), sl4⟩) (c4 : codeIn K cd4 "_law_form" = true) (k4 : keepIn K (.ref f4) = true)
    (a5 : nsIn K mainGlobals "worth" = some (some (.ref f5))) (l5 : K.lookup f5 = some ⟨oc5, od5, .func (PySem.W.fnOf "worth" "worth" (defArgs sWorth) (defBody sWorth) (defScope sWorth) .none kV5 dc5 pm5 an5 cd5 ct5), sl5⟩) (c5 : codeIn K cd5 "worth" = true) (k5 : keepIn K (.ref f5) = true)
    (a6 : nsIn K mainGlobals "along" = some (some (.ref f6))) (l6 : K.lookup f6 = some ⟨oc6, od6, .func (PySem.W.fnOf "along" "along" (defArgs sAlong) (defBody sAlong) (defScope sAlong) .none kV6 dc6 pm6 an6 cd6 ct6), sl6⟩) (c6 : codeIn K cd6 "along" = true) (k6 : keepIn K (.ref f6) = true)
    (a7 : nsIn K mainGlobals "law" = some (some (.ref f7))) (l7 : K.lookup f7 = some ⟨oc7, od7, .func (PySem.W.fnOf "law" "law" (defArgs sLaw) (defBody sLaw) (defScope sLaw) .none kV7 dc7 pm7 an7 cd7 ct7), sl7⟩) (c7 : codeIn K cd7 "law" = true) (k7 : keepIn K (.ref f7) = true)
    (z_len : nsIn K mainGlobals "len" = some none)
    (z_range : nsIn K mainGlobals "range" = some none)
    (z_tuple : nsIn K mainGlobals "tuple" = some none)
    (z_sum : nsIn K mainGlobals "sum" = some none)
    (z_repr : nsIn K mainGlobals "repr" = some none)
    (z_dict : nsIn K mainGlobals "dict" = some none)
    : ∃ fd : FuncData, (∀ (s : Shared) (v : Value), BindsTo s fd ⟨[v], []⟩ [("script", v)]) ∧ ∀ base : Heap, K.In base → base.Ns mainGlobals mg → FnG l.prog w K mg base CX0 5 fa fd ["script"] (spLaw K) := by
  have e := hfa.symm.trans (PySem.W.mg_of X G a7)
  cases e
  have F0 := fun_mk (st := sWell) l0 c0 k0
  have F1 := fun_mk (st := sDraw) l1 c1 k1
  have F2 := fun_mk (st := sPick) l2 c2 k2
  have F3 := fun_mk (st := sNumber) l3 c3 k3
  have F4 := fun_mk (st := sForm) l4 c4 k4
  have F5 := fun_mk (st := sWorth) l5 c5 k5
  have F6 := fun_mk (st := sAlong) l6 c6 k6
  have F7 := fun_mk (st := sLaw) l7 c7 k7
  have b0 := F0.binds (ps := ["script", "k"]) fun _ _ _ _ _ _ us hl => match us, hl with | [_, _], _ => rfl
  have m0 := PySem.W.mg_of X G a0
  have b1 := F1.binds (ps := ["well", "many"]) fun _ _ _ _ _ _ us hl => match us, hl with | [_, _], _ => rfl
  have m1 := PySem.W.mg_of X G a1
  have b2 := F2.binds (ps := ["well", "some"]) fun _ _ _ _ _ _ us hl => match us, hl with | [_, _], _ => rfl
  have m2 := PySem.W.mg_of X G a2
  have b3 := F3.binds (ps := ["well"]) fun _ _ _ _ _ _ us hl => match us, hl with | [_], _ => rfl
  have m3 := PySem.W.mg_of X G a3
  have b4 := F4.binds (ps := ["well", "many"]) fun _ _ _ _ _ _ us hl => match us, hl with | [_, _], _ => rfl
  have m4 := PySem.W.mg_of X G a4
  have b5 := F5.binds (ps := ["form", "setting"]) fun _ _ _ _ _ _ us hl => match us, hl with | [_, _], _ => rfl
  have m5 := PySem.W.mg_of X G a5
  have b6 := F6.binds (ps := ["form", "knob", "setting"]) fun _ _ _ _ _ _ us hl => match us, hl with | [_, _, _], _ => rfl
  have m6 := PySem.W.mg_of X G a6
  have y_len := PySem.W.mg_none_of X G z_len
  have y_range := PySem.W.mg_none_of X G z_range
  have y_tuple := PySem.W.mg_none_of X G z_tuple
  have y_sum := PySem.W.mg_none_of X G z_sum
  have y_repr := PySem.W.mg_none_of X G z_repr
  have y_dict := PySem.W.mg_none_of X G z_dict
  refine ⟨PySem.W.fnOf "law" "law" (defArgs sLaw) (defBody sLaw) (defScope sLaw) .none kV7 dc7 pm7 an7 cd7 ct7, fun s v => .of_eq rfl, fun base _ _ => ?_⟩
  have GD : FnOk l.prog w K mg base CX0 1 f1 _ ["well", "many"] spDraw := ok_draw F1
  have GP : FnOk l.prog w K mg base CX0 2 f2 _ ["well", "some"] (spPick K) := ok_pick F2 F1 b1 m1 y_len
  have GN : FnOk l.prog w K mg base CX0 3 f3 _ ["well"] spNumber := ok_number F3 GD b1 m1 k1 GP b2 m2 k2
  have GF : FnOk l.prog w K mg base CX0 4 f4 _ ["well", "many"] (spForm K) := ok_form F4 GD b1 m1 k1 GN b3 m3 k3 y_range y_tuple
  have GO : FnOk l.prog w K mg base CX0 1 f5 _ ["form", "setting"] (spWorth K) := ok_worth F5 y_sum
  have GB : FnOk l.prog w K mg base CX0 2 f6 _ ["form", "knob", "setting"] (spAlong K) := ok_along F6
  have kb : KBinds K _ ["form", "knob", "setting"] ["setting", "knob", "form"] (gR 3) (gR 3) := Tug.Fun.kbR F6 3 rfl (by decide) rfl fun _ _ _ _ _ _ ws hl => match ws, hl with | [_, _, _], _ => rfl
  exact ok_law F7 ⟨ok_well F0 y_len, GD, GP, GN, GF, GO, GB, b0, b1, b2, b3, b4, b5, b6, kb, m0, m1, m2, m3, m4, m5, m6, k0, k1, k2, k3, k4, k5, k6, y_range, y_repr, y_sum, y_dict⟩
theorem walk {l : PySem.W.OpenLaw} {q : Program} {loose : List Str} {XP : (Str → Option Value) → Heap → Prop} {YP : World → Heap → Prop} {d : DefRec} {K : Params → Frag} (hn : l.most = some 63) (hdf : d.params.defaults = [])
    (hY : ∀ (w : World) (h : Heap), YP w h → (K w.params).In h)
    (F : ∀ (w : World) (mg : Str → Option Value) (fa : Addr) (h : Heap), (K w.params).In h → h.Ns mainGlobals mg → mg d.name = some (.ref fa) →
      ∃ fd : FuncData, (∀ (s : Shared) (u : Value), BindsTo s fd ⟨[u], []⟩ [("script", u)]) ∧ ∀ base : Heap, (K w.params).In base → base.Ns mainGlobals mg → FnG l.prog w (K w.params) mg base CX0 5 fa fd ["script"] (spLaw (K w.params))) :
    PySem.W.WalkO q loose XP YP l.row.toRowW d [] (fun f vs => PySem.call f vs) :=
  walk_G (n := 63) (k := 5) (x := "script") (sp := fun w => spLaw (K w.params)) hn (by decide) hdf ⟨rfl, by decide, by decide⟩ hY F fun _ _ a ns _ hb hS => ⟨a, ns, rfl, hS, hb, fun _ => rfl⟩
end Tug
open PySem PySem.W PyProof.Rows
set_option maxRecDepth 100000 in
set_option maxHeartbeats 0 in
theorem PySem.Challenge.cw_tugline_k21_forms_along_a_knob_holds : PySem.Challenge.rw_tugline_k21_forms_along_a_knob.Holds := by
  w_on; o_law; k_head; (case hw => w_witness2)
  k_fill
  refine Tug.walk (l := PySem.Challenge.rw_tugline_k21_forms_along_a_knob) rfl rfl (fun w h Y => PySem.W.kIn_of Y) ?F
  case F =>
    intro w mg fa h KX G hmg
    refine' Tug.all_mk KX G hmg ?a0 ?l0 ?c0 ?k0 ?a1 ?l1 ?c1 ?k1 ?a2 ?l2 ?c2 ?k2 ?a3 ?l3 ?c3 ?k3 ?a4 ?l4 ?c4 ?k4 ?a5 ?l5 ?c5 ?k5 ?a6 ?l6 ?c6 ?k6 ?a7 ?l7 ?c7 ?k7 ?z_len ?z_range ?z_tuple ?z_sum ?z_repr ?z_dict
    (case a0 => k_is)
    (case l0 => k_is)
    (case c0 => k_is)
    (case k0 => k_is)
    (case a1 => k_is)
    (case l1 => k_is)
    (case c1 => k_is)
    (case k1 => k_is)
    (case a2 => k_is)
    (case l2 => k_is)
    (case c2 => k_is)
    (case k2 => k_is)
    (case a3 => k_is)
    (case l3 => k_is)
    (case c3 => k_is)
    (case k3 => k_is)
    (case a4 => k_is)
    (case l4 => k_is)
    (case c4 => k_is)
    (case k4 => k_is)
    (case a5 => k_is)
    (case l5 => k_is)
    (case c5 => k_is)
    (case k5 => k_is)
    (case a6 => k_is)
    (case l6 => k_is)
    (case c6 => k_is)
    (case k6 => k_is)
    (case a7 => k_is)
    (case l7 => k_is)
    (case c7 => k_is)
    (case k7 => k_is)
    (case z_len => k_is)
    (case z_range => k_is)
    (case z_tuple => k_is)
    (case z_sum => k_is)
    (case z_repr => k_is)
    (case z_dict => k_is)
